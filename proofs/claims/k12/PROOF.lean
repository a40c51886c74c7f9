import PyProof.Rows.All
import Wide.All
import OpenK.AllK
import Wide.FinOn
import Lean
import PyProof.EqAt
import PyProof.EqKinds
import PyProof.TupleCall
import PySem.Challenge.RW_passersby_k12_numbers_as_texts
set_option Elab.async false
set_option linter.all false
set_option maxRecDepth 100000
namespace L2
open PySem PySem.Spec PyProof.Rows
abbrev Key:=Sum Int Str
def Uu_:Key→Value→Bool
 | .inl k,v=>Value.isInt k v
 | .inr x,v=>Value.isStrOf x v
def keyH (w:World):Key→Int
 | .inl k=>hashInt k
 | .inr x=>hashStr w x
theorem zB_:∀ {k:Key} {v:Value},Uu_ k v=true→(∃ i t,k=Sum.inl i∧v=Value.int i t)∨(∃ x t,k=Sum.inr x∧v=Value.str x t)
 | .inl i,v,h=>by
  obtain ⟨t,e⟩:=Value.isInt_shape (k:=i) (v:=v) h
  exact .inl ⟨i,t,rfl,e⟩
 | .inr x,v,h=>by
  obtain ⟨t,e⟩:=Value.isStrOf_shape (x:=x) (v:=v) h
  exact .inr ⟨x,t,rfl,e⟩
theorem Yp_ (i:Int) (t:Tok):Uu_ (.inl i) (.int i t)=true:=by simp [Uu_,Value.isInt]
theorem Yo_ (x:Str) (t:Tok):Uu_ (.inr x) (.str x t)=true:=by simp [Uu_,Value.isStrOf]
theorem Xi_ (a b:Int):decide ((Sum.inl a:Key)=Sum.inl b)=(a==b):=by
 by_cases e:a=b
 ·subst e;simp
 ·have h:¬ (Sum.inl a:Key)=Sum.inl b:=fun q=>e (Sum.inl.inj q)
  rw [decide_eq_false h]
  exact (beq_eq_false_iff_ne.mpr e).symm
theorem Xf_ (a b:Str):decide ((Sum.inr a:Key)=Sum.inr b)=decide (a=b):=by
 by_cases e:a=b
 ·subst e;simp
 ·have h:¬ (Sum.inr a:Key)=Sum.inr b:=fun q=>e (Sum.inr.inj q)
  rw [decide_eq_false h,decide_eq_false e]
theorem Xh_ (a:Int) (b:Str):decide ((Sum.inl a:Key)=Sum.inr b)=false:=decide_eq_false (fun q=>nomatch q)
theorem Xg_ (a:Str) (b:Int):decide ((Sum.inr a:Key)=Sum.inl b)=false:=decide_eq_false (fun q=>nomatch q)
def zw_ (prog:Program) (w:World):PySem.KeyKind prog w Key where
 is:=Uu_
 hash:=keyH w
 inj:=fun v a b ha hb=>by
  rcases zB_ ha with ⟨i,t,rfl,rfl⟩|⟨x,t,rfl,rfl⟩
  ·rcases zB_ hb with ⟨j,u,rfl,e⟩|⟨y,u,rfl,e⟩
   ·injection e with e1 _;rw [e1]
   ·exact nomatch e
  ·rcases zB_ hb with ⟨j,u,rfl,e⟩|⟨y,u,rfl,e⟩
   ·exact nomatch e
   ·injection e with e1 _;rw [e1]
 byValue:=fun k v h=>by
  rcases zB_ h with ⟨i,t,rfl,rfl⟩|⟨x,t,rfl,rfl⟩<;>rfl
 pyHash:=fun hv h=>by
  rcases zB_ hv with ⟨i,t,rfl,rfl⟩|⟨x,t,rfl,rfl⟩
  ·exact wpAny_pyHash_int h
  ·exact wpAny_pyHash_str h
 eqBool:=fun hu hv h=>by
  rcases zB_ hu with ⟨i,t,rfl,rfl⟩|⟨x,t,rfl,rfl⟩
  ·rcases zB_ hv with ⟨j,u,rfl,rfl⟩|⟨y,u,rfl,rfl⟩
   ·rw [Xi_] at h;exact wpAny_eqBool_int h
   ·rw [Xh_] at h;exact SeqAt.EqAt.int_str i t y u _ _ _ _ h
  ·rcases zB_ hv with ⟨j,u,rfl,rfl⟩|⟨y,u,rfl,rfl⟩
   ·rw [Xg_] at h;exact SeqAt.EqAt.str_int x t j u _ _ _ _ h
   ·rw [Xf_] at h;exact wpAny_eqBool_str h
 «strs»:=fun k x t v h=>by
  rcases zB_ h with ⟨i,u,rfl,e⟩|⟨y,u,rfl,e⟩
  ·exact nomatch e
  ·injection e with e1 _
   subst e1
   cases v<;>rfl
theorem Jf_ (prog:Program) (w:World) (i:Int) (t:Tok):(zw_ prog w).is (.inl i) (.int i t)=true:=Yp_ i t
theorem Je_ (prog:Program) (w:World) (x:Str) (t:Tok):(zw_ prog w).is (.inr x) (.str x t)=true:=Yo_ x t
end L2
namespace L2
open PySem PySem.Spec PyProof.Rows
inductive V where
 | non|bl (b:Bool)|int (i:Int)|str (x:Str)|byt (b:Array UInt8)|flt (b:UInt64)|ref (a:Addr)|ty (n:String)
 deriving DecidableEq
def RelV:V→Value→Prop
 | .non,u=>u=Value.none
 | .bl b,u=>u=Value.bool b
 | .int i,u=>∃ t,u=Value.int i t
 | .str x,u=>∃ t,u=Value.str x t
 | .byt b,u=>∃ t,u=Value.bytes b t
 | .flt b,u=>∃ t,u=Value.float b t
 | .ref a,u=>u=Value.ref a
 | .ty n,u=>u=Value.type n
abbrev Vals:List V→List Value→Prop:=Paired RelV
theorem Vals.length {xs:List V} {us:List Value} (r:Vals xs us):xs.length=us.length:=Paired.length r
theorem Vals.get:∀ {xs:List V} {us:List Value} {i:Nat} {x:V},Vals xs us→xs[i]? = some x→∃ u,us[i]? = some u∧RelV x u
 | _,_,_,_,.nil,e=>by simp at e
 | _,_,0,_,.cons r _,e=>by simp at e;subst e;exact ⟨_,rfl,r⟩
 | _,_,i+1,x,.cons _ t,e=>by
  obtain ⟨u,h1,h2⟩:=Vals.get (i:=i) (x:=x) t (by simpa using e)
  exact ⟨u,by simpa using h1,h2⟩
theorem Vals.set {x:V} {u:Value} (r:RelV x u):∀ {xs:List V} {us:List Value} (i:Nat),Vals xs us→Vals (xs.set i x) (us.set i u)
 | _,_,_,.nil=>.nil
 | _,_,0,.cons _ t=>.cons r t
 | _,_,i+1,.cons q t=>.cons q (Vals.set r i t)
theorem Vals.append:∀ {xs ys:List V} {us ws:List Value},Vals xs us→Vals ys ws→Vals (xs++ys) (us++ws)
 | _,_,_,_,.nil,s=>s
 | _,_,_,_,.cons r t,s=>.cons r (Vals.append t s)
theorem Vals.take:∀ {xs:List V} {us:List Value} (n:Nat),Vals xs us→Vals (xs.take n) (us.take n)
 | _,_,0,_=>.nil
 | _,_,_+1,.nil=>.nil
 | _,_,n+1,.cons r t=>.cons r (Vals.take n t)
theorem Vals.drop:∀ {xs:List V} {us:List Value} (n:Nat),Vals xs us→Vals (xs.drop n) (us.drop n)
 | _,_,0,r=>r
 | _,_,_+1,.nil=>.nil
 | _,_,n+1,.cons _ t=>Vals.drop n t
def RelO:Option V→Option Value→Prop
 | some v,some u=>RelV v u
 | none,none=>True
 | _,_=>False
def KV {κ:Type}:List (κ×V)→List (κ×Value)→Prop:=Paired fun (p:κ×V) (q:κ×Value)=>p.1=q.1∧RelV p.2 q.2
def kV:Key→V
 | .inl i=>.int i
 | .inr x=>.str x
inductive HO where
 | lst (xs:List V)
 | tup (xs:List V)
 | dK (kvs:List (Key×V))|dT (kvs:List (List Key×V))
 | set (S:Int→Bool) (n:Nat)
 | ins (C dx:Addr) (fs:List (Str×V))
 | own (x:Addr)
 | xd (fs:List (Str×V))
 | met (f x:Addr)
 | rng (lo hi:Int)
 | frz (o:Obj) (u:HO)
 | tbl (ps:Array Value)
 | ext (φ:Heap→Prop)
abbrev Hp:=Addr→Option HO
def upd (H:Hp) (a:Addr) (o:HO):Hp:=fun b=>if b=a then some o else H b
theorem zo_ {H:Hp} {a:Addr} {o:HO}:upd H a o a=some o:=by unfold upd;rw [if_pos rfl]
theorem zg_ {H:Hp} {a b:Addr} {o:HO} (h:b≠a):upd H a o b=H b:=by unfold upd;rw [if_neg h]
theorem zk_ {H:Hp} {a b:Addr} {o:HO} (h:H a=some o) (h':H b=none):a≠b:=by
 intro e;subst e;rw [h] at h';cases h'
section
variable (P:Program) (w:World)
def _root_.L2.TupN (h:Heap) (a:Addr):Prop:=∃ o,h.get? a=some o∧o.dict=none
theorem _root_.L2.TupN.new (h:Heap) (items:Array Value):TupN (h.push { cls:=.type "tuple",data:=.seq items }) h.objs.size:=⟨_,Heap.get?_push_size _ rfl,rfl⟩
def ObjOk (H:Hp) (h:Heap) (a:Addr):HO→Prop
 | .lst xs=>xs.length≤sizeLine∧∃ (its:List Value) (n:Nat),Vals xs its∧h.get? a=some { cls:=.type "list",data:=.seq its.toArray n }
 | .tup xs=>xs.length≤sizeLine∧∃ its:List Value,Vals xs its∧IsTup h a its.toArray∧TupN h a
 | .dK kvs=>kvs.length≤sizeLine∧(a==sysModules)=false∧∃ vs,KV kvs vs∧h.DictOf (zw_ P w) a vs
 | .dT kvs=>kvs.length≤sizeLine∧(a==sysModules)=false∧∃ xs:List (List Key×Addr×Value),
   Paired (fun (p:List Key×V) (q:List Key×Addr×Value)=>p.1=q.1∧H q.2.1=some (.tup (p.1.map kV))∧RelV p.2 q.2.2) kvs xs ∧
   ∃ o es ep,h.get? a=some o∧o.ExactDict∧o.data=.dict es ep∧es.toList=xs.map (entryOfKey (tupleKind (zw_ P w)))∧(xs.map (·.1)).Nodup
 | .set S n=>h.SetOf (intKind P w) a S n
 | .ins C dx fs=>H dx=some (.own a)∧fs.length≤1000∧dx≠a∧h.get? a=some (PySem.W.instObj C dx) ∧
   ∃ mA,h.Ns1 dx mA∧(∀ f,RelO (fs.lookup f) (mA f))∧PySem.Within mA (fs.map (·.1))
 | .own _=>∃ o,h.get? a=some o
 | .xd fs=>∃ mA,h.Ns1 a mA∧∀ f,RelO (fs.lookup f) (mA f)
 | .rng lo hi=>∃ t u v,h.get? a=some { cls:=.type "range",data:=.fields #[.int lo t,.int hi u,.int 1 v] }
 | .frz o u=>h.get? a=some o∧ObjOk H h a u
 | .tbl ps=>h.get? a=some { cls:=.none,data:=.fields ps }
 | .met f x=>h.get? a=some (PySem.W.methodObj (.ref f) (.ref x))
 | .ext φ=>φ h∧(∃ o,h.get? a=some o)∧∀ h1 h2:Heap,φ h1→(∀ o,h1.get? a=some o→h2.get? a=some o)→φ h2
def HOk (H:Hp) (h:Heap):Prop:=∀ a o,H a=some o→ObjOk P w H h a o
end
section
variable {P:Program} {w:World} {H H':Hp} {h h':Heap} {a:Addr} {o:HO}
theorem ObjOk.lt (x:ObjOk P w H h a o):a<h.objs.size:=by
 cases o with
 | lst xs=>obtain ⟨_,_,_,_,e⟩:=x;exact Heap.lt_size e
 | tup xs=>obtain ⟨_,_,_,p⟩:=x;exact p.1.lt
 | dK kvs=>obtain ⟨_,_,_,_,o,_,_,e,_⟩:=x;exact Heap.lt_size e
 | dT kvs=>obtain ⟨_,_,_,_,o,_,_,e,_⟩:=x;exact Heap.lt_size e
 | set S n=>obtain ⟨o,_,_,_,e,_⟩:=x;exact Heap.lt_size e
 | ins C dx fs=>obtain ⟨_,_,_,e,_⟩:=x;exact Heap.lt_size e
 | own y=>obtain ⟨_,e⟩:=x;exact Heap.lt_size e
 | xd fs=>obtain ⟨_,⟨_,_,_,e,_⟩,_⟩:=x;exact Heap.lt_size e
 | rng lo hi=>obtain ⟨_,_,_,e⟩:=x;exact Heap.lt_size e
 | frz ob u=>obtain ⟨e,_⟩:=x;exact Heap.lt_size e
 | tbl ps=>exact Heap.lt_size (show h.get? a=some _ from x)
 | met f y=>exact Heap.lt_size (show h.get? a=some _ from x)
 | ext φ=>obtain ⟨_,⟨_,e⟩,_⟩:=x;exact Heap.lt_size e
theorem Paired.mapP {α β:Type} {F G:α→β→Prop}:∀ {l₁:List α} {l₂:List β},Paired F l₁ l₂→(∀ a b,F a b→G a b)→Paired G l₁ l₂
 | _,_,.nil,_=>.nil
 | _,_,.cons r t,f=>.cons (f _ _ r) (Paired.mapP t f)
theorem ObjOk.stay (x:ObjOk P w H h a o) (k:∀ b u,(b=a∨H b=some (.own a))→h.get? b=some u→h'.get? b=some u)
  (ho:∀ b,H b=some (.own a)→H' b=some (.own a)) (ht:∀ b xs,H b=some (.tup xs)→H' b=some (.tup xs)):ObjOk P w H' h' a o:=by
 induction o with
 | lst xs=>obtain ⟨z,its,n,r,e⟩:=x;exact ⟨z,its,n,r,k _ _ (.inl rfl) e⟩
 | tup xs=>obtain ⟨z,its,r,⟨ob,e,c⟩,ob2,e2,c2⟩:=x;exact ⟨z,its,r,⟨ob,k _ _ (.inl rfl) e,c⟩,ob2,k _ _ (.inl rfl) e2,c2⟩
 | dK kvs=>obtain ⟨z,y,vs,r,ob,es,ep,e,c⟩:=x;exact ⟨z,y,vs,r,ob,es,ep,k _ _ (.inl rfl) e,c⟩
 | dT kvs =>
  obtain ⟨z,y,xs,r,ob,es,ep,e,c⟩:=x
  exact ⟨z,y,xs,Paired.mapP r fun p q z=>⟨z.1,ht _ _ z.2.1,z.2.2⟩,ob,es,ep,k _ _ (.inl rfl) e,c⟩
 | set S n=>obtain ⟨ob,es,ep,t,e,c⟩:=x;exact ⟨ob,es,ep,t,k _ _ (.inl rfl) e,c⟩
 | ins C dx fs =>
  obtain ⟨d,z,ne,e,mA,⟨od,es,ep,e2,c⟩,r⟩:=x
  exact ⟨ho _ d,z,ne,k _ _ (.inl rfl) e,mA,⟨od,es,ep,k _ _ (.inr d) e2,c⟩,r⟩
 | own y=>obtain ⟨ob,e⟩:=x;exact ⟨ob,k _ _ (.inl rfl) e⟩
 | xd fs=>obtain ⟨mA,⟨od,es,ep,e,c⟩,r⟩:=x;exact ⟨mA,⟨od,es,ep,k _ _ (.inl rfl) e,c⟩,r⟩
 | rng lo hi=>obtain ⟨t,u,v,e⟩:=x;exact ⟨t,u,v,k _ _ (.inl rfl) e⟩
 | frz ob u ih=>obtain ⟨e,q⟩:=x;exact ⟨k _ _ (.inl rfl) e,ih q⟩
 | tbl ps =>
  have e:h.get? a=some { cls:=.none,data:=.fields ps }:=x
  show h'.get? a=some { cls:=.none,data:=.fields ps }
  exact k a _ (.inl rfl) e
 | met f y =>
  have e:h.get? a=some (PySem.W.methodObj (.ref f) (.ref y)):=x
  show h'.get? a=some (PySem.W.methodObj (.ref f) (.ref y))
  exact k a _ (.inl rfl) e
 | ext φ=>obtain ⟨p,⟨o,e⟩,st⟩:=x;exact ⟨st _ _ p fun o q=>k _ _ (.inl rfl) q,⟨o,k _ _ (.inl rfl) e⟩,st⟩
theorem HOk.lt (x:HOk P w H h) (e:H a=some o):a<h.objs.size:=(x a o e).lt
theorem HOk.fresh (x:HOk P w H h) (e:h.objs.size≤a):H a=none:=by
 cases q:H a with
 | none=>rfl
 | some u=>exact absurd (Nat.lt_of_lt_of_le (x.lt q) e) (Nat.lt_irrefl _)
theorem HOk.kept (x:HOk P w H h) (k:∀ b u,h.get? b=some u→h'.get? b=some u):HOk P w H h':=fun a o e =>
 (x a o e).stay (fun b u _ q=>k b u q) (fun _ q=>q) fun _ _ q=>q
theorem HOk.laid (x:HOk P w H h) (k:∀ b u,h.get? b=some u→h'.get? b=some u) (hp:h.objs.size≤a) (new:ObjOk P w (upd H a o) h' a o):HOk P w (upd H a o) h':=fun b u e=>by
 have hn:=x.fresh hp
 by_cases hb:b=a
 ·subst hb;rw [zo_] at e;cases e;exact new
 ·rw [zg_ hb] at e
  exact (x b u e).stay (fun c v _ q=>k c v q) (fun c q=>by rw [zg_ (zk_ q hn)];exact q) fun c xs q=>by rw [zg_ (zk_ q hn)];exact q
end
def Rd (H:Hp) (a:Addr) (u:HO):Prop:=H a=some u∨∃ o,H a=some (.frz o u)
theorem Rd.ok {P:Program} {w:World} {H:Hp} {h:Heap} {a:Addr} {u:HO} (r:Rd H a u) (x:HOk P w H h):ObjOk P w H h a u:=by
 rcases r with r|⟨o,r⟩
 ·exact x a u r
 ·obtain ⟨_,q⟩:=x a _ r
  exact q
def Mut:Option HO→Prop
 | some (.lst _)=>True
 | some (.dK _)=>True
 | some (.dT _)=>True
 | some (.set _ _)=>True
 | some (.ins _ _ _)=>True
 | some (.ext _)=>True
 | _=>False
section
variable {P:Program} {w:World} {H:Hp} {h h':Heap} {x e:Addr} {o':HO}
theorem HOk.write (ok:HOk P w H h) (mu:Mut (H x)) (he:e=x∨H e=some (.own x)) (k:∀ b u,b≠e→h.get? b=some u→h'.get? b=some u) (heo:∃ u,h'.get? e=some u)
  (new:ObjOk P w (upd H x o') h' x o'):HOk P w (upd H x o') h':=fun b u q=>by
 have nown:∀ c y,H c=some (.own y)→c≠x:=fun c y r z=>by subst z;rw [r] at mu;exact mu
 have ntup:∀ c xs,H c=some (.tup xs)→c≠x:=fun c xs r z=>by subst z;rw [r] at mu;exact mu
 by_cases hb:b=x
 ·subst hb;rw [zo_] at q;cases q;exact new
 ·rw [zg_ hb] at q
  by_cases hbe:b=e
  ·have q':H b=some (.own x):=by
    rcases he with z|z
    ·exact absurd (hbe.trans z) hb
    ·rw [hbe];exact z
   rw [q] at q';cases q'
   obtain ⟨v,hv⟩:=heo
   exact ⟨v,by rw [hbe];exact hv⟩
  ·refine (ok b u q).stay (fun c v hc r=>k c v ?_ r) (fun c r=>by rw [zg_ (nown c b r)];exact r) fun c xs r=>by rw [zg_ (ntup c xs r)];exact r
   rcases hc with rfl|hc
   ·exact hbe
   ·rintro rfl
    rcases he with z|z
    ·exact nown c b hc z
    ·rw [hc] at z;cases z;exact hb rfl
end
structure Un (fs ex:List Addr) (H H':Hp) (h h':Heap):Prop where
 keep:∀ b o,h.get? b=some o→H b=none→b∉fs→b∉ex→h'.get? b=some o
 slot:∀ b o,h.get? b=some o→H b=none→b∈fs→b∉ex→∃ sl,h'.get? b=some { o with slots:=sl }
 free:∀ b o,h.get? b=some o→H b=none→b∉ex→H' b=none
 there:∀ b o,h.get? b=some o→b∉ex→∃ o',h'.get? b=some o'
 tups:∀ b xs,H b=some (.tup xs)→H' b=some (.tup xs)
 frzs:∀ b o u,H b=some (.frz o u)→H' b=some (.frz o u)
 tbls:∀ b ps,H b=some (.tbl ps)→∃ more,H' b=some (.tbl (ps++more))
section
variable {fs fs' ex ex':List Addr} {H H1 H2:Hp} {h h1 h2 h':Heap} {a x e:Addr} {o:HO}
theorem Un.any (u:Un fs ex H H1 h h1) {b:Addr} {ob:Obj} (q:h.get? b=some ob) (n:H b=none) (hx:b∉ex):∃ sl,h1.get? b=some { ob with slots:=sl }:=by
 by_cases hb:b∈fs
 ·exact u.slot b ob q n hb hx
 ·exact ⟨ob.slots,u.keep b ob q n hb hx⟩
theorem Un.kept (k:∀ b u,h.get? b=some u→h'.get? b=some u):Un fs ex H H h h' :=
 ⟨fun b ob q _ _ _=>k b ob q,fun b ob q _ _ _=>⟨ob.slots,k b ob q⟩,fun _ _ _ n _=>n,fun b ob q _=>⟨ob,k b ob q⟩,fun _ _ q=>q,fun _ _ _ q=>q,fun _ ps q=>⟨#[],by rw [q];simp⟩⟩
theorem Un.refl:Un fs ex H H h h:=Un.kept fun _ _ q=>q
theorem Un.laid (k:∀ b u,h.get? b=some u→h'.get? b=some u) (hp:h.objs.size≤a) (hn:H a=none):Un fs ex H (upd H a o) h h' where
 keep:=fun b u q _ _ _=>k b u q
 slot:=fun b u q _ _ _=>⟨u.slots,k b u q⟩
 free:=fun b u q n _=>by rw [zg_ (Nat.ne_of_lt (Nat.lt_of_lt_of_le (Heap.lt_size q) hp))];exact n
 there:=fun b u q _=>⟨u,k b u q⟩
 tups:=fun b xs q=>by rw [zg_ (zk_ q hn)];exact q
 frzs:=fun b u xs q=>by rw [zg_ (zk_ q hn)];exact q
 tbls:=fun b ps q=>⟨#[],by rw [zg_ (zk_ q hn),q];simp⟩
theorem Un.write (mu:Mut (H x)) (he:e=x∨H e=some (.own x)) (k:∀ b u,b≠e→h.get? b=some u→h'.get? b=some u) (heo:∃ u,h'.get? e=some u):Un fs ex H (upd H x o) h h':=by
 have hx:∀ b,H b=none→b≠x:=fun b n z=>by subst z;rw [n] at mu;exact mu
 have hb:∀ b,H b=none→b≠e:=fun b n z=>by
  subst z
  rcases he with r|r
  ·exact hx b n r
  ·rw [n] at r;cases r
 have hm:∀ b u,H b=some u→¬ Mut (some u)→b≠x:=fun b u q nm z=>by subst z;rw [q] at mu;exact nm mu
 refine ⟨fun b u q n _ _=>k b u (hb b n) q,fun b u q n _ _=>⟨u.slots,k b u (hb b n) q⟩,fun b u q n _=>by rw [zg_ (hx b n)];exact n,fun b u q _=>?_,
  fun b xs q=>by rw [zg_ (hm b _ q fun z=>z)];exact q,fun b u xs q=>by rw [zg_ (hm b _ q fun z=>z)];exact q,fun b ps q=>⟨#[],by rw [zg_ (hm b _ q fun z=>z),q];simp⟩⟩
 by_cases hbe:b=e
 ·subst hbe;exact heo
 ·exact ⟨u,k b u hbe q⟩
end
def trk (h:Heap) (H:Hp):List Addr:=(List.range h.objs.size).filter fun a=>(H a).isSome
def hidT (h:Heap) (H:Hp):Heap:=PySem.W.hideAll h (trk h H)
theorem Yt_ (h:Heap) (H:Hp):(hidT h H).objs.size=h.objs.size:=PySem.W.hideAll_size _ _
theorem Qz_ {h:Heap} {H:Hp} {b:Addr} {o:Obj} (e:h.get? b=some o) (n:H b=none):(hidT h H).get? b=some o :=
 PySem.W.hideAll_get _ e fun hm=>by
  have q:(H b).isSome=true:=(List.mem_filter.mp hm).2
  rw [n] at q;simp at q
theorem VP_ {h:Heap} {H:Hp} {b:Addr} {o:Obj} (e:(hidT h H).get? b=some o):h.get? b=some o∧H b=none:=by
 have e':h.get? b=some o:=PySem.W.of_hideAll (trk h H) e
 refine ⟨e',?_⟩
 cases q:H b with
 | none=>rfl
 | some x =>
  have hm:b∈trk h H:=List.mem_filter.mpr ⟨List.mem_range.mpr (Heap.lt_size e'),by simp [q]⟩
  have z:(hidT h H).get? b=none:=PySem.W.hideAll_none (trk h H) hm
  rw [z] at e;cases e
end L2
namespace L2
open PySem PySem.Spec PyProof.Rows
structure Mod (K:PySem.W.Frag) (mg:Str→Option Value) (base:Heap):Prop where
 kin:K.In base
 glob:base.Ns mainGlobals mg
 blt:∃ mb,base.Ns builtinsNs mb∧∀ x:Str,x ≠ "__name__" → mb x=bootBuiltins x
 nolimit:base.NoLimit
structure Cx where
 prog:Program
 w:World
 K:PySem.W.Frag
 mg:Str→Option Value
 base:Heap
 A:Around
 N:List Str
 s₀:Shared
 H₀:Hp
 env:Env
 outer:List Env
 stack:List Env
 ex:List Addr
 fn:Str→Bool
 calm:Bool
 pn:List (Addr×Obj)
 xe:Value→Shared→Prop
def frs (l:List Env):List Addr:=l.filterMap (·.frame)
abbrev Cx.fs (X:Cx):List Addr:=frs X.outer
def Vis (sc:Scope) (x:Str):Prop:=sc.names.lookup x=some .local∨sc.names.lookup x=some .cell∨sc.names.lookup x=some .free
def Loc (sc:Scope) (x:Str):Prop:=sc.names.lookup x=some .local∨sc.names.lookup x=some .cell
def Look (env:Env) (h:Heap) (m:Str→Option Value) (x:Str) (u:Value):Prop :=
 (env.kindOf x=some .local∧m x=some u)∨((env.kindOf x=some .cell∨env.kindOf x=some .free)∧∃ c,env.cells.lookup x=some c∧h.IsCell c (some u))
structure Cx.Ok (X:Cx):Prop where
 mod:Mod X.K X.mg X.base
 kind:X.env.scope.kind=.function
 glob:X.env.globals=mainGlobals
 blt:X.env.builtins=builtinsNs
 above:X.s₀.heap.objs.size≤X.env.locals
 inj:∀ x y c,X.env.cells.lookup x=some c→X.env.cells.lookup y=some c→x=y
 has:∀ x,(X.env.kindOf x=some .cell∨X.env.kindOf x=some .free)→∃ c,X.env.cells.lookup x=some c
 cab:∀ x c,X.fn x=true→X.env.cells.lookup x=some c→X.s₀.heap.objs.size≤c
 hd:X.calm=true→X.A.handled=none
 frames:X.A.frames=some X.stack
 stk:X.stack=X.outer∨(X.stack=X.env::X.outer∧X.env.frame=some X.env.locals)
 exf:∀ b∈X.ex,b≠X.env.locals∧∀ x c,X.env.cells.lookup x=some c→c≠b
 bs:∀ b o,X.base.get? b=some o→X.s₀.heap.get? b=some o∧X.H₀ b=none
 bsz:X.base.objs.size≤X.s₀.heap.objs.size
 noex:∀ b o,X.base.get? b=some o→b∉X.ex
 exfs:∀ b∈X.ex,b∉X.fs
 funs:X.s₀.heap.FunFrames X.base X.outer
 frf:∀ b∈X.fs,X.H₀ b=none
structure Inv (X:Cx) (pins:List (Addr×Obj)) (σ:List (Option V)) (H:Hp) (s:Shared):Prop where
 ok:X.Ok
 os:s.os=X.s₀.os
 bare:AllBare s.gens
 base:Un X.fs X.ex X.H₀ H X.s₀.heap s.heap
 loc:∃ m,s.heap.Ns X.env.locals m∧∀ (i:Nat) (x:Str) (v:V),X.N[i]? = some x→σ[i]? = some (some v)→Vis X.env.scope x→∃ u,RelV v u∧Look X.env s.heap m x u
 cell:∀ x c,X.env.cells.lookup x=some c→∃ v,s.heap.IsCell c v
 free:H X.env.locals=none
 freeC:∀ x c,X.env.cells.lookup x=some c→H c=none
 pin:∀ p∈X.pn++pins,s.heap.get? p.1=some p.2∧H p.1=none∧p.1≠X.env.locals∧p.1∉X.fs∧∀ v,p.2.data≠.cell v
 hok:HOk X.prog X.w H s.heap
 len:σ.length=X.N.length
section
variable {X:Cx} {pins:List (Addr×Obj)} {σ:List (Option V)} {H H':Hp} {s:Shared} {h':Heap}
theorem Cx.Ok.nofr (ok:X.Ok) {b:Addr} {o:Obj} (e:X.base.get? b=some o):b∉X.fs:=fun hb=>by
 have:=(ok.funs.mem hb).1
 rw [e] at this;cases this
theorem Inv.bs (I:Inv X pins σ H s):∀ b o,X.base.get? b=some o→s.heap.get? b=some o∧H b=none:=fun b o e =>
 ⟨I.base.keep b o (I.ok.bs b o e).1 (I.ok.bs b o e).2 (I.ok.nofr e) (I.ok.noex b o e),I.base.free b o (I.ok.bs b o e).1 (I.ok.bs b o e).2 (I.ok.noex b o e)⟩
theorem Inv.bk (I:Inv X pins σ H s):∀ b o,X.base.get? b=some o→s.heap.get? b=some o:=fun b o e=>(I.bs b o e).1
theorem Inv.mod (I:Inv X pins σ H s):Mod X.K X.mg X.base:=I.ok.mod
theorem Inv.kIn (I:Inv X pins σ H s):X.K.In s.heap:=I.ok.mod.kin.keeps I.bk
theorem Inv.lt (I:Inv X pins σ H s):X.env.locals<s.heap.objs.size:=let ⟨_,hn,_⟩:=I.loc;hn.lt
theorem Inv.sz (I:Inv X pins σ H s):X.s₀.heap.objs.size≤s.heap.objs.size:=Nat.le_trans I.ok.above (Nat.le_of_lt I.lt)
theorem Inv.nofs (I:Inv X pins σ H s) {a:Addr} (h:s.heap.objs.size≤a):a∉X.fs:=fun hb=>by
 obtain ⟨_,o,ho,_⟩:=I.ok.funs.mem hb
 exact absurd (Nat.lt_of_lt_of_le (Heap.lt_size ho) (Nat.le_trans I.sz h)) (Nat.lt_irrefl _)
theorem Inv.cne (I:Inv X pins σ H s):∀ x c,X.env.cells.lookup x=some c→c≠X.env.locals:=fun x c e z=>by
 obtain ⟨v,o,ho,hd⟩:=I.cell x c e
 obtain ⟨m,⟨o',es,ep,ho',hd',_⟩,_⟩:=I.loc
 rw [z,ho'] at ho;cases ho;rw [hd'] at hd;cases hd
theorem Inv.funs (I:Inv X pins σ H s):s.heap.FunFrames X.base X.outer:=by
 have all:∀ (l:List Env),(∀ b∈frs l,b∈X.fs)→X.s₀.heap.FunFrames X.base l→s.heap.FunFrames X.base l:=by
  intro l
  induction l with
  | nil=>intro _ _;trivial
  | cons env r ih =>
   intro hs hl
   obtain ⟨hk,⟨L,o,hf,hn,ho,hd⟩,hr⟩:=hl
   have hL:L∈X.fs:=hs L (by unfold frs;rw [List.filterMap_cons,hf];exact List.mem_cons_self)
   obtain ⟨sl,e⟩:=I.base.slot L o ho (I.ok.frf L hL) hL fun z=>I.ok.exfs L z hL
   exact ⟨hk,⟨L,_,hf,hn,e,hd⟩,ih (fun b hb=>hs b (by unfold frs;rw [List.filterMap_cons,hf];exact List.mem_cons_of_mem _ hb)) hr⟩
 exact all X.outer (fun _ hb=>hb) I.ok.funs
theorem Inv.stack (I:Inv X pins σ H s):s.heap.FunFrames X.base X.stack:=by
 rcases I.ok.stk with e|⟨e,hf⟩
 ·rw [e];exact I.funs
 ·rw [e]
  obtain ⟨m,hn,_⟩:=I.loc
  refine .cons (by rw [I.ok.kind];decide) hf hn ?_ I.funs
  exact Heap.get?_none_of_le (Nat.le_trans I.ok.bsz I.ok.above)
theorem Inv.stkSub (I:Inv X pins σ H s):∀ b∈frs X.stack,b∈X.env.locals::X.fs:=fun b hb=>by
 rcases I.ok.stk with e|⟨e,hf⟩
 ·rw [e] at hb;exact List.mem_cons_of_mem _ hb
 ·rw [e] at hb
  unfold frs at hb
  rw [List.filterMap_cons,hf] at hb
  exact hb
theorem Inv.stkFree (I:Inv X pins σ H s):∀ b∈frs X.stack,H b=none:=fun b hb=>by
 rcases List.mem_cons.mp (I.stkSub b hb) with e|hb
 ·rw [e];exact I.free
 ·obtain ⟨_,o,ho,_⟩:=I.ok.funs.mem hb
  exact I.base.free b o ho (I.ok.frf b hb) fun z=>I.ok.exfs b z hb
theorem Inv.step {g':Array GenState} {t':Nat} {d':Drawn} {ch:List Addr} (I:Inv X pins σ H s)
  (hch:∀ b∈ch,(b∈X.ex∨X.s₀.heap.objs.size≤b)∧b≠X.env.locals∧(∀ x c,X.env.cells.lookup x=some c→c≠b)∧∀ p∈X.pn++pins,p.1≠b)
  (keep:∀ b o,b≠X.env.locals→b∉X.fs→b∉ch→s.heap.get? b=some o→H b=none→h'.get? b=some o)
  (slot:∀ b o,b≠X.env.locals→b∈X.fs→b∉ch→s.heap.get? b=some o→H b=none→∃ sl,h'.get? b=some { o with slots:=sl }) (free:∀ b o,b∉ch→s.heap.get? b=some o→H b=none→H' b=none)
  (there:∀ b o,b∉ch→s.heap.get? b=some o→∃ o',h'.get? b=some o')
  (tups:∀ b xs,H b=some (.tup xs)→H' b=some (.tup xs)) (frzs:∀ b o u,H b=some (.frz o u)→H' b=some (.frz o u)) (tbls:∀ b ps,H b=some (.tbl ps)→∃ more,H' b=some (.tbl (ps++more)))
  (ns:∀ m,s.heap.Ns X.env.locals m→h'.Ns X.env.locals m) (hok:HOk X.prog X.w H' h') (hg:AllBare g') :
  Inv X pins σ H' { s with heap:=h',gens:=g',drawn:=d',toks:=t' }:=by
 have neL:∀ b o,X.s₀.heap.get? b=some o→b≠X.env.locals:=fun b o e=>Nat.ne_of_lt (Nat.lt_of_lt_of_le (Heap.lt_size e) I.ok.above)
 have neC:∀ b o,X.s₀.heap.get? b=some o→b∉X.ex→b∉ch:=fun b o e hx hb=>by
  rcases (hch b hb).1 with z|z
  ·exact hx z
  ·exact absurd (Nat.lt_of_lt_of_le (Heap.lt_size e) z) (Nat.lt_irrefl _)
 have cellK:∀ x c,X.env.cells.lookup x=some c→∀ v,s.heap.IsCell c v→h'.IsCell c v:=fun x c e v ⟨o,ho,hd⟩=>by
  have nch:c∉ch:=fun z=>(hch c z).2.2.1 x c e rfl
  by_cases hc:c∈X.fs
  ·obtain ⟨sl,q⟩:=slot c o (I.cne x c e) hc nch ho (I.freeC x c e)
   exact ⟨_,q,hd⟩
  ·exact ⟨o,keep c o (I.cne x c e) hc nch ho (I.freeC x c e),hd⟩
 refine ⟨I.ok,I.os,hg,⟨fun b o e n hb hx=>?_,fun b o e n hb hx=>?_,fun b o e n hx=>?_,fun b o e hx=>?_,fun b xs e=>tups b xs (I.base.tups b xs e),fun b o xs e=>frzs b o xs (I.base.frzs b o xs e),fun b ps e=>?_⟩,?_,fun x c e=>?_,?_,fun x c e=>?_,fun p hp=>?_,hok,I.len⟩
 ·exact keep b o (neL b o e) hb (neC b o e hx) (I.base.keep b o e n hb hx) (I.base.free b o e n hx)
 ·obtain ⟨sl,e1⟩:=I.base.slot b o e n hb hx
  obtain ⟨sl',e2⟩:=slot b _ (neL b o e) hb (neC b o e hx) e1 (I.base.free b o e n hx)
  exact ⟨sl',e2⟩
 ·obtain ⟨o',e1⟩:=I.base.there b o e hx
  exact free b o' (neC b o e hx) e1 (I.base.free b o e n hx)
 ·obtain ⟨o',e1⟩:=I.base.there b o e hx
  exact there b o' (neC b o e hx) e1
 ·obtain ⟨m1,e1⟩:=I.base.tbls b ps e
  obtain ⟨m2,e2⟩:=tbls b _ e1
  exact ⟨m1++m2,by rw [e2,Array.append_assoc]⟩
 ·obtain ⟨m,hn,hl⟩:=I.loc
  refine ⟨m,ns m hn,fun i x v e1 e2 e3=>?_⟩
  obtain ⟨u,r,l⟩:=hl i x v e1 e2 e3
  refine ⟨u,r,?_⟩
  rcases l with l|⟨k,c,e,z⟩
  ·exact .inl l
  ·exact .inr ⟨k,c,e,cellK x c e _ z⟩
 ·obtain ⟨v,z⟩:=I.cell x c e
  exact ⟨v,cellK x c e v z⟩
 ·obtain ⟨m,⟨o,_,_,ho,_⟩,_⟩:=I.loc
  exact free _ o (fun z=>(hch _ z).2.1 rfl) ho I.free
 ·obtain ⟨v,o,ho,hd⟩:=I.cell x c e
  exact free c o (fun z=>(hch c z).2.2.1 x c e rfl) ho (I.freeC x c e)
 ·obtain ⟨e,n,ne,nf,d⟩:=I.pin p hp
  have nch:p.1∉ch:=fun z=>(hch p.1 z).2.2.2 p hp rfl
  exact ⟨keep p.1 p.2 ne nf nch e n,free p.1 p.2 nch e n,ne,nf,d⟩
theorem Inv.un {t':Nat} (I:Inv X pins σ H s) (u:Un X.fs [] H H' s.heap h') (hok:HOk X.prog X.w H' h'):Inv X pins σ H' { s with heap:=h',toks:=t' }:=by
 obtain ⟨m,⟨o,es,ep,ho,r⟩,_⟩:=id I.loc
 obtain ⟨sl,hL⟩:=u.any ho I.free (by simp)
 exact I.step (g':=s.gens) (d':=s.drawn) (ch:=[]) (fun _ z=>nomatch z) (fun b o _ hb _ e n=>u.keep b o e n hb (by simp)) (fun b o _ hb _ e n=>u.slot b o e n hb (by simp)) (fun b o _ e n=>u.free b o e n (by simp)) (fun b o _ e=>u.there b o e (by simp)) u.tups u.frzs u.tbls (fun m' hm=>by
  obtain ⟨o',es',ep',ho',r'⟩:=hm
  rw [ho] at ho';cases ho'
  exact ⟨_,es',ep',hL,r'⟩) hok I.bare
theorem Inv.call {g':Array GenState} {t':Nat} {d':Drawn} {ch:List Addr} (I:Inv X pins σ H s) (u:Un (frs X.stack) ch H H' s.heap h') (hok:HOk X.prog X.w H' h') (hg:AllBare g')
  (hch:∀ b∈ch,(b∈X.ex∨X.s₀.heap.objs.size≤b)∧b≠X.env.locals∧(∀ x c,X.env.cells.lookup x=some c→c≠b)∧∀ p∈X.pn++pins,p.1≠b) :
  Inv X pins σ H' { s with heap:=h',gens:=g',drawn:=d',toks:=t' }:=by
 obtain ⟨m,⟨o,es,ep,ho,r⟩,_⟩:=id I.loc
 obtain ⟨sl,hL⟩:=u.any ho I.free fun z=>(hch _ z).2.1 rfl
 exact I.step (ch:=ch) hch (fun b o hL hb hc e n=>u.keep b o e n (fun z=>(List.mem_cons.mp (I.stkSub b z)).elim hL hb) hc) (fun b o _ _ hc e n=>u.any e n hc) (fun b o hc e n=>u.free b o e n hc) (fun b o hc e=>u.there b o e hc) u.tups u.frzs u.tbls (fun m' hm=>by
  obtain ⟨o',es',ep',ho',r'⟩:=hm
  rw [ho] at ho';cases ho'
  exact ⟨_,es',ep',hL,r'⟩) hok hg
theorem Inv.turned {t':Nat} {it:Addr} (I:Inv X pins σ H s) (k:∀ b o,b≠it→s.heap.get? b=some o→h'.get? b=some o) (hn:H it=none) (hL:it≠X.env.locals)
  (h1:it∈X.ex∨X.s₀.heap.objs.size≤it) (h2:∀ x c,X.env.cells.lookup x=some c→c≠it) (h3:∀ p∈X.pn++pins,p.1≠it):Inv X pins σ H { s with heap:=h',toks:=t' }:=by
 have nit:∀ b u,H b=some u→b≠it:=fun b u e z=>by rw [z,hn] at e;cases e
 refine I.step (g':=s.gens) (d':=s.drawn) (ch:=[it]) (fun b hb=>?_) (fun b o _ _ hc e _=>k b o (fun z=>hc (by simp [z])) e) (fun b o _ _ hc e _=>⟨o.slots,k b o (fun z=>hc (by simp [z])) e⟩) (fun _ _ _ _ n=>n)
  (fun b o hc e=>⟨o,k b o (fun z=>hc (by simp [z])) e⟩) (fun _ _ e=>e) (fun _ _ _ e=>e) (fun b ps e=>⟨#[],by rw [e];simp⟩) (fun m hm=>?_) (fun b u e=>?_) I.bare
 ·have e:b=it:=by simpa using hb
  subst e
  exact ⟨h1,hL,h2,h3⟩
 ·obtain ⟨o,es,ep,ho,r⟩:=hm
  exact ⟨o,es,ep,k _ o (Ne.symm hL) ho,r⟩
 ·refine (I.hok b u e).stay (fun c v hc q=>k c v ?_ q) (fun _ q=>q) fun _ _ q=>q
  rcases hc with z|z
  ·rw [z];exact nit b u e
  ·exact nit c _ z
theorem Inv.tok (I:Inv X pins σ H s) (t:Nat):Inv X pins σ H { s with toks:=t }:=I.un (h':=s.heap) (t':=t) Un.refl I.hok
theorem Inv.kept {t':Nat} (I:Inv X pins σ H s) (k:∀ b u,s.heap.get? b=some u→h'.get? b=some u):Inv X pins σ H { s with heap:=h',toks:=t' }:=I.un (Un.kept k) (I.hok.kept k)
theorem Inv.laid {a:Addr} {o:HO} {t':Nat} (I:Inv X pins σ H s) (k:∀ b u,s.heap.get? b=some u→h'.get? b=some u) (hp:s.heap.objs.size≤a) (new:ObjOk X.prog X.w (upd H a o) h' a o) :
  Inv X pins σ (upd H a o) { s with heap:=h',toks:=t' }:=I.un (Un.laid k hp (I.hok.fresh hp)) (I.hok.laid k hp new)
theorem Inv.write {x e:Addr} {o:HO} {t':Nat} (I:Inv X pins σ H s) (mu:Mut (H x)) (he:e=x∨H e=some (.own x)) (k:∀ b u,b≠e→s.heap.get? b=some u→h'.get? b=some u) (heo:∃ u,h'.get? e=some u)
  (new:ObjOk X.prog X.w (upd H x o) h' x o):Inv X pins σ (upd H x o) { s with heap:=h',toks:=t' }:=I.un (Un.write mu he k heo) (I.hok.write mu he k heo new)
theorem Inv.pins_of {pins':List (Addr×Obj)} (I:Inv X pins σ H s) (h:∀ p∈pins',s.heap.get? p.1=some p.2∧H p.1=none∧p.1≠X.env.locals∧p.1∉X.fs∧∀ v,p.2.data≠.cell v):Inv X pins' σ H s :=
 ⟨I.ok,I.os,I.bare,I.base,I.loc,I.cell,I.free,I.freeC,fun p hp=>(List.mem_append.mp hp).elim (fun z=>I.pin p (List.mem_append_left _ z)) (h p),I.hok,I.len⟩
theorem yW_ {N:List Str} (hN:N.Nodup) {i j:Nat} {x:Str} (a:N[i]? = some x) (b:N[j]? = some x):i=j:=by
 obtain ⟨h1,e1⟩:=List.getElem?_eq_some_iff.mp a
 obtain ⟨h2,e2⟩:=List.getElem?_eq_some_iff.mp b
 exact (List.getElem_inj hN).mp (e1.trans e2.symm)
theorem y8_ {M:Model} {A:Around} {E:Value→Shared→Prop} {i:Nat} {x:Str} {v:V} {u:Value} {Q:Unit→Shared→Prop} (I:Inv X pins σ H s) (hN:X.N.Nodup) (hi:X.N[i]? = some x) (hx:Loc X.env.scope x) (r:RelV v u)
  (h:∀ s',Inv X pins (σ.set i (some v)) H s'→(∃ a,Heap.SameBut a s.heap s'.heap∧(a=X.env.locals∨X.env.cells.lookup x=some a))→Q () s') (hf:X.fn x=true∨X.env.scope.names.lookup x=some .local:=by first|exact .inl rfl|exact .inr rfl|assumption):wpAny M A (storeName X.env x u) Q E s:=by
 obtain ⟨m,hn,hl⟩:=id I.loc
 have hcls:(X.env.scope.kind==.class||(X.env.scope.kind==.module&&X.env.locals != X.env.globals))=false:=by rw [I.ok.kind];rfl
 have hiσ:i<σ.length:=by rw [I.len];exact (List.getElem?_eq_some_iff.mp hi).1
 have cne:=I.cne
 have tracked:∀ {a:Addr} {h':Heap},(∃ o,s.heap.get? a=some o∧H a=none)→Heap.SameBut a s.heap h'→HOk X.prog X.w H h':=fun {a h'} ha hs b ob e=>by
  obtain ⟨_,_,hfree⟩:=ha
  refine (I.hok b ob e).stay (fun c w' hc q=>(hs.2 c ?_).trans q) (fun _ q=>q) fun _ _ q=>q
  rintro rfl
  rcases hc with rfl|hc
  ·rw [hfree] at e;cases e
  ·rw [hfree] at hc;cases hc
 rcases hx with hk|hk
 ·refine wpAny_storeName_local hk hn (fun h' hn' hs=>?_) hcls
  obtain ⟨oL,_,_,hoL,_⟩:=id hn
  refine h _ ⟨I.ok,I.os,I.bare,⟨fun b o e n hb hx=>?_,fun b o e n hb hx=>?_,I.base.free,fun b o e hx=>?_,I.base.tups,I.base.frzs,I.base.tbls⟩,⟨_,hn',fun j y v' e1 e2 e3=>?_⟩,fun y c e=>?_,I.free,I.freeC,fun p hp=>?_,tracked ⟨oL,hoL,I.free⟩ hs,by simpa using I.len⟩ ⟨_,hs,.inl rfl⟩
  ·exact (hs.2 b (Nat.ne_of_lt (Nat.lt_of_lt_of_le (Heap.lt_size e) I.ok.above))).trans (I.base.keep b o e n hb hx)
  ·obtain ⟨sl,e1⟩:=I.base.slot b o e n hb hx
   exact ⟨sl,(hs.2 b (Nat.ne_of_lt (Nat.lt_of_lt_of_le (Heap.lt_size e) I.ok.above))).trans e1⟩
  ·obtain ⟨o',e1⟩:=I.base.there b o e hx
   exact ⟨o',(hs.2 b (Nat.ne_of_lt (Nat.lt_of_lt_of_le (Heap.lt_size e) I.ok.above))).trans e1⟩
  ·by_cases hj:j=i
   ·subst hj
    rw [hi] at e1;cases e1
    rw [List.getElem?_set_self hiσ] at e2
    cases e2
    exact ⟨u,r,.inl ⟨hk,by simp⟩⟩
   ·rw [List.getElem?_set_ne (Ne.symm hj)] at e2
    obtain ⟨u',r',q⟩:=hl j y v' e1 e2 e3
    refine ⟨u',r',?_⟩
    rcases q with ⟨k,e⟩|⟨k,c,e,z⟩
    ·refine .inl ⟨k,?_⟩
     have:y≠x:=fun e=>hj (yW_ hN e1 (e▸hi))
     simp [this,e]
    ·exact .inr ⟨k,c,e,z.sameBut hs (cne y c e)⟩
  ·obtain ⟨w',z⟩:=I.cell y c e
   exact ⟨w',z.sameBut hs (cne y c e)⟩
  ·obtain ⟨e,n,ne,nf,d⟩:=I.pin p hp
   exact ⟨(hs.2 p.1 ne).trans e,n,ne,nf,d⟩
 ·have hfn:X.fn x=true:=by
   rcases hf with z|z
   ·exact z
   ·rw [z] at hk;cases hk
  obtain ⟨c,hc⟩:=I.ok.has x (.inl hk)
  obtain ⟨w',z⟩:=I.cell x c hc
  refine wpAny_storeName_cell I.ok.kind hk hc z (fun h' hc' hs=>?_)
  obtain ⟨oc,hoc,hocd⟩:=id z
  refine h { s with heap:=h' } ⟨I.ok,I.os,I.bare,⟨fun b o e n hb hx=>?_,fun b o e n hb hx=>?_,I.base.free,fun b o e hx=>?_,I.base.tups,I.base.frzs,I.base.tbls⟩,⟨m,hn.sameBut hs (Ne.symm (cne x c hc)),fun j y v' e1 e2 e3=>?_⟩,fun y c' e=>?_,I.free,I.freeC,fun p hp=>?_,tracked ⟨oc,hoc,I.freeC x c hc⟩ hs,by simpa using I.len⟩ ⟨c,hs,.inr hc⟩
  ·exact (hs.2 b (Nat.ne_of_lt (Nat.lt_of_lt_of_le (Heap.lt_size e) (I.ok.cab x c hfn hc)))).trans (I.base.keep b o e n hb hx)
  ·obtain ⟨sl,e1⟩:=I.base.slot b o e n hb hx
   exact ⟨sl,(hs.2 b (Nat.ne_of_lt (Nat.lt_of_lt_of_le (Heap.lt_size e) (I.ok.cab x c hfn hc)))).trans e1⟩
  ·obtain ⟨o',e1⟩:=I.base.there b o e hx
   exact ⟨o',(hs.2 b (Nat.ne_of_lt (Nat.lt_of_lt_of_le (Heap.lt_size e) (I.ok.cab x c hfn hc)))).trans e1⟩
  ·by_cases hj:j=i
   ·subst hj
    rw [hi] at e1;cases e1
    rw [List.getElem?_set_self hiσ] at e2
    cases e2
    exact ⟨u,r,.inr ⟨.inl hk,c,hc,hc'⟩⟩
   ·rw [List.getElem?_set_ne (Ne.symm hj)] at e2
    obtain ⟨u',r',q⟩:=hl j y v' e1 e2 e3
    refine ⟨u',r',?_⟩
    rcases q with q|⟨k,c',e,z'⟩
    ·exact .inl q
    ·refine .inr ⟨k,c',e,z'.sameBut hs ?_⟩
     rintro rfl
     exact hj (yW_ hN e1 (I.ok.inj _ _ _ e hc▸hi))
  ·by_cases hcc:c'=c
   ·subst hcc;exact ⟨_,hc'⟩
   ·obtain ⟨w2,z2⟩:=I.cell y c' e
    exact ⟨w2,z2.sameBut hs hcc⟩
  ·obtain ⟨e,n,ne,nf,d⟩:=I.pin p hp
   refine ⟨(hs.2 p.1 ?_).trans e,n,ne,nf,d⟩
   intro q
   rw [q,hoc] at e
   have q':oc=p.2:=Option.some.inj e
   exact d w' (by rw [←q'];exact hocd)
theorem uF_ {M:Model} {A:Around} {E:Value→Shared→Prop} {i:Nat} {x:Str} {v:V} {u:Value} {Q:Unit→Shared→Prop} (I:Inv X pins σ H s) (hN:X.N.Nodup) (hi:X.N[i]? = some x) (hx:Loc X.env.scope x) (r:RelV v u)
  (h:∀ s',Inv X pins (σ.set i (some v)) H s'→Q () s') (hf:X.fn x=true∨X.env.scope.names.lookup x=some .local:=by first|exact .inl rfl|exact .inr rfl|assumption):wpAny M A (storeName X.env x u) Q E s :=
 y8_ I hN hi hx r (fun s' I' _=>h s' I') hf
theorem Inv.call' {s':Shared} {ch:List Addr} (I:Inv X pins σ H s) (ho:s'.os=s.os) (u:Un (frs X.stack) ch H H' s.heap s'.heap) (hok:HOk X.prog X.w H' s'.heap) (hg:AllBare s'.gens)
  (hch:∀ b∈ch,(b∈X.ex∨X.s₀.heap.objs.size≤b)∧b≠X.env.locals∧(∀ x c,X.env.cells.lookup x=some c→c≠b)∧∀ p∈X.pn++pins,p.1≠b):Inv X pins σ H' s':=by
 obtain ⟨h',g',d',t',o'⟩:=s'
 have e:o'=s.os:=ho
 subst e
 exact I.call (g':=g') (t':=t') (d':=d') u hok hg hch
end
abbrev XK:=Value→Option Addr→Hp→Prop
abbrev St:=List (Option V)
abbrev VK:=V→Hp→Prop
abbrev TE:=St→Hp→VK→Prop
abbrev TT:=St→Hp→(Bool→Hp→Prop)→Prop
abbrev TA:=St→Hp→(List V→Hp→Prop)→Prop
structure Ends where
 nx:St→Hp→Prop
 rt:VK
 bk:St→Hp→Prop:=fun _ _=>False
 ct:St→Hp→Prop:=fun _ _=>False
abbrev TS:=Ends→St→Hp→Prop
def EP (X:Cx) (pins:List (Addr×Obj)) (σ:St) (Q:VK) (u:Value) (s':Shared):Prop:=∃ v H',Inv X pins σ H' s'∧RelV v u∧Q v H'
def TP (X:Cx) (pins:List (Addr×Obj)) (σ:St) (Q:Bool→Hp→Prop) (b:Bool) (s':Shared):Prop:=∃ H',Inv X pins σ H' s'∧Q b H'
def AP (X:Cx) (pins:List (Addr×Obj)) (σ:St) (Q:List V→Hp→Prop) (us:List Value) (s':Shared):Prop:=∃ vs H',Inv X pins σ H' s'∧Vals vs us∧Q vs H'
def SP (X:Cx) (pins:List (Addr×Obj)) (D:Ends) (f:Flow) (s':Shared):Prop :=
 match f with
 | .next=>∃ σ' H',Inv X pins σ' H' s'∧D.nx σ' H'
 | .brk=>∃ σ' H',Inv X pins σ' H' s'∧D.bk σ' H'
 | .cont=>∃ σ' H',Inv X pins σ' H' s'∧D.ct σ' H'
 | .ret u=>∃ v σ' H',Inv X pins σ' H' s'∧RelV v u∧D.rt v H'
def PE (X:Cx) (e:Expr) (t:TE):Prop :=
 ∀ (pins:List (Addr×Obj)) (s:Shared) (σ:St) (H:Hp) (Q:VK),Inv X pins σ H s→t σ H Q→wpAny (model X.prog X.w) X.A (eval e X.env) (EP X pins σ Q) X.xe s
def PT (X:Cx) (e:Expr) (t:TT):Prop :=
 ∀ (pins:List (Addr×Obj)) (s:Shared) (σ:St) (H:Hp) (Q:Bool→Hp→Prop),Inv X pins σ H s→t σ H Q→wpAny (model X.prog X.w) X.A (isTrue e X.env (eval e X.env)) (TP X pins σ Q) X.xe s
def PW (X:Cx) (e:Expr) (t:TT):Prop :=
 ∀ (whole:Sem Value) (pins:List (Addr×Obj)) (s:Shared) (σ:St) (H:Hp) (Q:Bool→Hp→Prop),Inv X pins σ H s→t σ H Q→wpAny (model X.prog X.w) X.A (isTrue e X.env whole) (TP X pins σ Q) X.xe s
def PA (X:Cx) (es:List Expr) (t:TA):Prop :=
 ∀ (pos:Pos) (pins:List (Addr×Obj)) (s:Shared) (σ:St) (H:Hp) (Q:List V→Hp→Prop),Inv X pins σ H s→t σ H Q→wpAny (model X.prog X.w) X.A (spliced (backTo pos (starEach es X.env))) (AP X pins σ Q) X.xe s
def PS (X:Cx) (st:Stmt) (t:TS):Prop :=
 ∀ (pins:List (Addr×Obj)) (s:Shared) (σ:St) (H:Hp) (D:Ends),Inv X pins σ H s→t D σ H→wpAny (model X.prog X.w) X.A (exec st X.env) (SP X pins D) X.xe s
def PSs (X:Cx) (st:List Stmt) (t:TS):Prop :=
 ∀ (pins:List (Addr×Obj)) (s:Shared) (σ:St) (H:Hp) (D:Ends),Inv X pins σ H s→t D σ H→wpAny (model X.prog X.w) X.A (execs st X.env) (SP X pins D) X.xe s
theorem thn {α:Type} {t:Sem α} {Q Q':α→Shared→Prop} {M:Model} {A:Around} {E:Value→Shared→Prop} {s:Shared} (h:wpAny M A t Q E s) (hQ:∀ a s,Q a s→Q' a s):wpAny M A t Q' E s:=wpAny_mono h hQ fun _ _ x=>x
end L2
namespace L2
open PySem PySem.Spec PyProof.Rows
section
variable {X:Cx}
theorem bin {a b:Expr} {ta tb:TE} (ha:PE X a ta) (hb:PE X b tb) {pins:List (Addr×Obj)} {s:Shared} {σ:St} {H:Hp} {R:V→V→Hp→Prop} (I:Inv X pins σ H s) (h:ta σ H fun x H1=>tb σ H1 fun y H2=>R x y H2)
  {α:Type} {Q:α→Shared→Prop} {f:Value→Value→Sem α}
  (hf:∀ v u s2 x y H2,Inv X pins σ H2 s2→RelV x v→RelV y u→R x y H2→wpAny (model X.prog X.w) X.A (f v u) Q X.xe s2) :
  wpAny (model X.prog X.w) X.A (eval a X.env) (fun v s₁=>wpAny (model X.prog X.w) X.A (eval b X.env) (fun u s₂=>wpAny (model X.prog X.w) X.A (f v u) Q X.xe s₂) X.xe s₁) X.xe s:=by
 refine thn (ha pins s σ H _ I h) fun v s1 ⟨x,H1,I1,r1,q1⟩=>?_
 refine thn (hb pins s1 σ H1 _ I1 q1) fun u s2 ⟨y,H2,I2,r2,q2⟩=>?_
 exact hf v u s2 x y H2 I2 r1 r2 q2
def tVar (i:Nat):TE:=fun σ H Q=>∃ v,σ[i]? = some (some v)∧Q v H
def tC (v:V):TE:=fun _ H Q=>Q v H
theorem jV_ {i:Nat} {x:Str} {pos:Pos} (hN:X.N[i]? = some x) (hv:Vis X.env.scope x) (hd:(x==("__debug__" : Str))=false:=by decide) (hcd:(x==("__classdict__" : Str))=false:=by decide):PE X (.Name x pos) (tVar i):=by
 intro pins s σ H Q I h
 obtain ⟨v,e,h⟩:=h
 obtain ⟨m,hn,hl⟩:=I.loc
 obtain ⟨u,r,l⟩:=hl i x v hN e hv
 have fin:EP X pins σ Q u s:=⟨v,H,I,r,h⟩
 rcases l with ⟨hk,hm⟩|⟨hk,c,hc,hcell⟩
 ·exact wpAny_Name (wpAny_loadName_local I.ok.kind hk hn hm fin) hd
 ·rcases hk with hk|hk
  ·exact wpAny_Name (wpAny_loadName_cell I.ok.kind hk hc hcell fin) hd
  ·exact wpAny_Name (wpAny_loadName_free I.ok.kind hk hc hcell fin hcd) hd
theorem WS_ {i j pos}:PE X (.Constant (.int i) j pos) (tC (.int i)):=fun _ _ _ H _ I h=>wpAny_Constant_int ⟨.int i,H,I.tok _,⟨_,rfl⟩,h⟩
theorem X3_ {b j pos}:PE X (.Constant (.bool b) j pos) (tC (.bl b)):=fun _ _ _ H _ I h=>Constant_bool ⟨.bl b,H,I,rfl,h⟩
theorem WP_ {j pos}:PE X (.Constant .none j pos) (tC .non):=fun _ _ _ H _ I h=>Constant_none ⟨.non,H,I,rfl,h⟩
theorem Q2_ {x j pos}:PE X (.Constant (.str x) j pos) (tC (.str x)):=fun _ _ _ H _ I h=>Calls.Constant_str ⟨.str x,H,I.tok _,⟨_,rfl⟩,h⟩
def Gl (X:Cx) (x:Str):Prop:=X.env.kindOf x=some .globalImplicit
theorem uY_ {E:Value→Shared→Prop} {pins:List (Addr×Obj)} {s:Shared} {σ:St} {H:Hp} {x:Str} {u:Value} {pos:Pos} {Q:Value→Shared→Prop} (I:Inv X pins σ H s) (hg:Gl X x) (hm:X.mg x=some u) (h:Q u s)
  (hd:(x==("__debug__" : Str))=false:=by decide):wpAny (model X.prog X.w) X.A (eval (.Name x pos) X.env) Q E s :=
 Calls.Name_function_global I.ok.kind hg (Calls.loadGlobal_global (by rw [I.ok.glob];exact I.mod.glob.keeps I.bk) hm h) hd
theorem Yl_ {E:Value→Shared→Prop} {pins:List (Addr×Obj)} {s:Shared} {σ:St} {H:Hp} {x:Str} {u:Value} {pos:Pos} {Q:Value→Shared→Prop} (I:Inv X pins σ H s) (hg:Gl X x) (hm:X.mg x=none) (hv:bootBuiltins x=some u) (h:Q u s)
  (hn:x ≠ "__name__":=by decide) (hd:(x==("__debug__" : Str))=false:=by decide):wpAny (model X.prog X.w) X.A (eval (.Name x pos) X.env) Q E s:=by
 obtain ⟨mb,h1,h2⟩:=I.mod.blt
 exact Calls.Name_function_global I.ok.kind hg (Calls.loadGlobal_builtin (by rw [I.ok.glob];exact I.mod.glob.keeps I.bk) hm (by rw [I.ok.blt];exact h1.keeps I.bk) ((h2 x hn).trans hv) h) hd
theorem VA_ {x:Str} {v:V} {u:Value} {pos:Pos} (hg:Gl X x) (hm:X.mg x=some u) (r:RelV v u) (hd:(x==("__debug__" : Str))=false:=by decide):PE X (.Name x pos) (tC v) :=
 fun _ _ _ H _ I h=>uY_ I hg hm ⟨v,H,I,r,h⟩ hd
variable {a b:Expr} {ta tb:TE} {pos:Pos}
variable {tA tB':TT} {rest:List Expr}
def tAnd (t u:TT):TT:=fun σ H Q=>t σ H fun c H1=>if c=true then u σ H1 Q else Q false H1
def tOr (t u:TT):TT:=fun σ H Q=>t σ H fun c H1=>if c=true then Q true H1 else u σ H1 Q
def tNot (t:TT):TT:=fun σ H Q=>t σ H fun c H1=>Q (!c) H1
theorem Vt_ (ha:PT X a tA):PW X (.BoolOp .And [a] pos) tA:=by
 intro wh pins s σ H Q I h
 refine isTrue_and (thn (ha pins s σ H Q I h) fun c s1 e=>?_)
 cases c with
 | true=>exact isTrue_and_nil e
 | false=>exact e
theorem WI_ (ha:PT X a tA):PW X (.BoolOp .Or [a] pos) tA:=by
 intro wh pins s σ H Q I h
 refine isTrue_or (thn (ha pins s σ H Q I h) fun c s1 e=>?_)
 cases c with
 | false=>exact isTrue_or_nil e
 | true=>exact e
theorem WJ_ (ha:PT X a tA) (hb:PW X (.BoolOp .And (b::rest) pos) tB'):PW X (.BoolOp .And (a::b::rest) pos) (tAnd tA tB'):=by
 intro wh pins s σ H Q I h
 refine isTrue_and (thn (ha pins s σ H _ I h) fun c s1 ⟨H1,I1,q1⟩=>?_)
 cases c with
 | true=>exact hb wh pins s1 σ H1 Q I1 q1
 | false=>exact ⟨H1,I1,q1⟩
theorem XZ_ (ha:PT X a tA) (hb:PW X (.BoolOp .Or (b::rest) pos) tB'):PW X (.BoolOp .Or (a::b::rest) pos) (tOr tA tB'):=by
 intro wh pins s σ H Q I h
 refine isTrue_or (thn (ha pins s σ H _ I h) fun c s1 ⟨H1,I1,q1⟩=>?_)
 cases c with
 | true=>exact ⟨H1,I1,q1⟩
 | false=>exact hb wh pins s1 σ H1 Q I1 q1
theorem WK_ (ha:PT X a tA):PT X (.UnaryOp .Not a pos) (tNot tA):=by
 intro pins s σ H Q I h
 exact isTrue_not (ha pins s σ H (fun c H1=>Q (!c) H1) I h)
def tIf (t:TT) (ta tb:TE):TE:=fun σ H Q=>t σ H fun c H1=>if c=true then ta σ H1 Q else tb σ H1 Q
theorem Qo_ {c:Expr} (hc:PT X c tA) (ha:PE X a ta) (hb:PE X b tb):PE X (.IfExp c a b pos) (tIf tA ta tb):=by
 intro pins s σ H Q I h
 refine wpAny_IfExp (thn (hc pins s σ H _ I h) fun d s1 ⟨H1,I1,q1⟩=>?_)
 cases d with
 | true=>exact ha pins s1 σ H1 Q I1 q1
 | false=>exact hb pins s1 σ H1 Q I1 q1
end
end L2
namespace L2
open PySem PySem.Spec PyProof.Rows
def SqL (K:PySem.W.Frag) (H:Hp) (a:Addr) (xs:List V):Prop :=
 Rd H a (.lst xs) ∨
  ∃ (o:Obj) (its:Array Value) (n:Nat),K.lookup a=some o∧o.cls=.type "list" ∧ o.dict=none∧o.data=.seq its n∧its.size≤sizeLine∧Vals xs its.toList
def SqT (K:PySem.W.Frag) (H:Hp) (a:Addr) (xs:List V):Prop :=
 Rd H a (.tup xs) ∨
  ∃ (o:Obj) (its:Array Value) (n:Nat),K.lookup a=some o∧o.cls=.type "tuple" ∧ o.data=.seq its n∧its.size≤sizeLine∧Vals xs its.toList
def absV:Value→Option V
 | .none=>some .non
 | .bool b=>some (.bl b)
 | .int i _=>some (.int i)
 | .str x _=>some (.str x)
 | .bytes b _=>some (.byt b)
 | .float b _=>some (.flt b)
 | .ref a=>some (.ref a)
 | .type n=>some (.ty n)
 | _=>none
theorem RelV.abs {x:V} {u:Value} (r:RelV x u):absV u=some x:=by
 cases x with
 | non=>cases r;rfl
 | bl _=>cases r;rfl
 | int _=>obtain ⟨t,rfl⟩:=r;rfl
 | str _=>obtain ⟨t,rfl⟩:=r;rfl
 | byt _=>obtain ⟨t,rfl⟩:=r;rfl
 | flt _=>obtain ⟨t,rfl⟩:=r;rfl
 | ref _=>cases r;rfl
 | ty _=>cases r;rfl
theorem RelV.inj {x y:V} {u:Value} (r:RelV x u) (q:RelV y u):x=y:=Option.some.inj (r.abs.symm.trans q.abs)
theorem Vals.inj:∀ {xs ys:List V} {us:List Value},Vals xs us→Vals ys us→xs=ys
 | _,_,_,.nil,.nil=>rfl
 | _,_,_,.cons r t,.cons r' t'=>by rw [r.inj r',Vals.inj t t']
section
variable {X:Cx} {pins:List (Addr×Obj)} {σ:St} {H:Hp} {s:Shared} {a:Addr} {xs ys:List V}
theorem SqT.of {K:PySem.W.Frag} (h:H a=some (.tup xs)):SqT K H a xs:=.inl (.inl h)
theorem Inv.list (I:Inv X pins σ H s) (h:SqL X.K H a xs):∃ its:List Value,Vals xs its∧PlainL s.heap a its.toArray∧xs.length≤sizeLine:=by
 rcases h with h|⟨o,its,n,hk,hc,hd,hs,hz,r⟩
 ·obtain ⟨z,its,n,r,e⟩:=h.ok I.hok
  exact ⟨its,r,⟨_,n,e,rfl,rfl,rfl⟩,z⟩
 ·refine ⟨its.toList,r,⟨o,n,I.kIn a o hk,hc,hd,by simpa using hs⟩,?_⟩
  have e:=r.length
  simp only [Array.length_toList] at e
  omega
theorem Inv.tuple (I:Inv X pins σ H s) (h:SqT X.K H a xs):∃ its:List Value,Vals xs its∧IsTup s.heap a its.toArray∧xs.length≤sizeLine:=by
 rcases h with h|⟨o,its,n,hk,hc,hs,hz,r⟩
 ·obtain ⟨z,its,r,p⟩:=h.ok I.hok
  exact ⟨its,r,p.1,z⟩
 ·refine ⟨its.toList,r,⟨o,I.kIn a o hk,hc,n,by simpa using hs⟩,?_⟩
  have e:=r.length
  simp only [Array.length_toList] at e
  omega
theorem Inv.list_inj (I:Inv X pins σ H s) (h:SqL X.K H a xs) (h':SqL X.K H a ys):xs=ys:=by
 obtain ⟨its,r,⟨o,n,e,_,_,d⟩,_⟩:=I.list h
 obtain ⟨its',r',⟨o',n',e',_,_,d'⟩,_⟩:=I.list h'
 rw [e] at e';cases e'
 rw [d] at d'
 injection d' with d1 _
 have:its=its':=by simpa using congrArg Array.toList d1
 subst this
 exact r.inj r'
theorem Inv.tuple_inj (I:Inv X pins σ H s) (h:SqT X.K H a xs) (h':SqT X.K H a ys):xs=ys:=by
 obtain ⟨its,r,⟨o,e,_,n,d⟩,_⟩:=I.tuple h
 obtain ⟨its',r',⟨o',e',_,n',d'⟩,_⟩:=I.tuple h'
 rw [e] at e';cases e'
 rw [d] at d'
 injection d' with d1 _
 have:its=its':=by simpa using congrArg Array.toList d1
 subst this
 exact r.inj r'
end
abbrev Cx.wish (X:Cx) (E:Value→Shared→Prop):Cx:={ X with xe:=E }
theorem Cx.Ok.wish {X:Cx} (ok:X.Ok) (E:Value→Shared→Prop):(X.wish E).Ok :=
 ⟨ok.mod,ok.kind,ok.glob,ok.blt,ok.above,ok.inj,ok.has,ok.cab,ok.hd,ok.frames,ok.stk,ok.exf,ok.bs,ok.bsz,ok.noex,ok.exfs,ok.funs,ok.frf⟩
theorem Cx.Ok.unwish {X:Cx} {E:Value→Shared→Prop} (ok:(X.wish E).Ok):X.Ok :=
 ⟨ok.mod,ok.kind,ok.glob,ok.blt,ok.above,ok.inj,ok.has,ok.cab,ok.hd,ok.frames,ok.stk,ok.exf,ok.bs,ok.bsz,ok.noex,ok.exfs,ok.funs,ok.frf⟩
section
variable {X:Cx} {pins:List (Addr×Obj)} {σ:St} {H:Hp} {s:Shared} {E:Value→Shared→Prop}
theorem Inv.wish (I:Inv X pins σ H s) (E:Value→Shared→Prop):Inv (X.wish E) pins σ H s:=⟨I.ok.wish E,I.os,I.bare,I.base,I.loc,I.cell,I.free,I.freeC,I.pin,I.hok,I.len⟩
theorem Inv.unwish (I:Inv (X.wish E) pins σ H s):Inv X pins σ H s:=⟨I.ok.unwish,I.os,I.bare,I.base,I.loc,I.cell,I.free,I.freeC,I.pin,I.hok,I.len⟩
end
section
variable {X:Cx} {st:Stmt} {rest:List Stmt} {t u:TS} {e:Expr} {te:TE} {pos:Pos}
def XM_:TS:=fun D σ H=>D.nx σ H
def tSeq (t u:TS):TS:=fun D σ H=>t { D with nx:=u D } σ H
theorem Z6_:PSs X [] XM_:=fun _ _ σ H _ I h=>wpAny_execs_nil ⟨σ,H,I,h⟩
theorem uG_ (h1:PS X st t) (h2:PSs X rest u):PSs X (st::rest) (tSeq t u):=by
 intro pins s σ H D I h
 refine wpAny_execs_cons (thn (h1 pins s σ H { D with nx:=u D } I h) fun f s1 q=>?_)
 cases f with
 | next =>
  obtain ⟨σ',H',I',q⟩:=q
  exact h2 pins s1 σ' H' D I' q
 | ret v=>exact q
 | brk=>exact q
 | cont=>exact q
theorem Vx_ (h1:PS X st t):PSs X [st] t:=by
 intro pins s σ H D I h
 refine wpAny_execs_cons (thn (h1 pins s σ H D I h) fun f s1 q=>?_)
 cases f with
 | next=>exact wpAny_execs_nil q
 | ret v=>exact q
 | brk=>exact q
 | cont=>exact q
def tRet (te:TE):TS:=fun D σ H=>te σ H D.rt
theorem QY_ (he:PE X e te):PS X (.Return (some e) pos) (tRet te):=by
 intro pins s σ H D I h
 exact wpAny_Return_some (thn (he pins s σ H _ I h) fun v s1 ⟨x,H1,I1,r1,q1⟩=>⟨x,σ,H1,I1,r1,q1⟩)
def tIfS (c:TT) (t u:TS):TS:=fun D σ H=>c σ H fun b H1=>if b=true then t D σ H1 else u D σ H1
theorem X2_ {c:Expr} {a b:List Stmt} {tc:TT} (hc:PT X c tc) (ha:PSs X a t) (hb:PSs X b u):PS X (.If c a b pos) (tIfS tc t u):=by
 intro pins s σ H D I h
 refine wpAny_If (thn (hc pins s σ H _ I h) fun d s1 ⟨H1,I1,q1⟩=>?_)
 cases d with
 | true=>exact ha pins s1 σ H1 D I1 q1
 | false=>exact hb pins s1 σ H1 D I1 q1
end
abbrev TG:=V→St→Hp→(St→Hp→Prop)→Prop
def PG (X:Cx) (target:Expr) (t:TG):Prop :=
 ∀ (pins:List (Addr×Obj)) (s:Shared) (σ:St) (H:Hp) (v:V) (u:Value) (Q:St→Hp→Prop),Inv X pins σ H s→RelV v u→t v σ H Q →
  wpAny (model X.prog X.w) X.A (assign target X.env u) (fun _ s'=>∃ σ' H',Inv X pins σ' H' s'∧Q σ' H') X.xe s
abbrev TSet:=V→V→V→Hp→(Hp→Prop)→Prop
def PSet (X:Cx) (t:TSet):Prop :=
 ∀ (pins:List (Addr×Obj)) (s:Shared) (σ:St) (H:Hp) (o i v:V) (ov iv u:Value) (Q:Hp→Prop),Inv X pins σ H s→RelV o ov→RelV i iv→RelV v u→t o i v H Q →
  wpAny (model X.prog X.w) X.A (setItem ov iv u) (fun _ s'=>∃ H',Inv X pins σ H' s'∧Q H') X.xe s
section
variable {X:Cx} {pos:Pos}
def Yx_ (i:Nat):TG:=fun v σ H Q=>Q (σ.set i (some v)) H
theorem Vz_ {i:Nat} {x:Str} (hN:X.N.Nodup) (hi:X.N[i]? = some x) (hx:Loc X.env.scope x) (hf:X.fn x=true∨X.env.scope.names.lookup x=some .local:=by first|exact .inl rfl|exact .inr rfl|assumption):PG X (.Name x pos) (Yx_ i):=by
 intro pins s σ H v u Q I r h
 exact wpAny_assign_Name (uF_ I hN hi hx r (fun s' I'=>⟨_,H,I',h⟩) hf)
def gSub (to ti:TE) (t:TSet):TG:=fun v σ H Q=>to σ H fun o H1=>ti σ H1 fun i H2=>t o i v H2 fun H3=>Q σ H3
theorem WN_ {o i:Expr} {to ti:TE} {t:TSet} (ho:PE X o to) (hi:PE X i ti) (hs:PSet X t)
  (ha:∀ v,assign (.Subscript o i pos) X.env v=(do
   let ov ←holding [v] (eval o X.env)
   let iv ←holding [v,ov] (eval i X.env)
   standAt pos
   holding [v,ov,iv] (setItem ov iv v)
   release [v,ov,iv] []):=by intro _;rfl):PG X (.Subscript o i pos) (gSub to ti t):=by
 intro pins s σ H v u Q I r h
 rw [ha]
 refine wpAny_bind (wpAny_holding (thn (ho pins s σ H _ I h) fun ov s1 ⟨x,H1,I1,r1,q1⟩=>?_))
 refine wpAny_bind (wpAny_holding (thn (hi pins s1 σ H1 _ I1 q1) fun iv s2 ⟨y,H2,I2,r2,q2⟩=>?_))
 refine wpAny_bind (wpAny_standAt (wpAny_bind (wpAny_holding (thn (hs pins s2 σ H2 x y v ov iv u _ I2 r1 r2 r q2) fun _ s3 ⟨H3,I3,q3⟩=>?_))))
 exact wpAny_release ⟨σ,H3,I3,q3⟩
def tAsg (te:TE) (g:TG):TS:=fun D σ H=>te σ H fun x H1=>g x σ H1 D.nx
theorem WM_ {tg e:Expr} {te:TE} {g:TG} (he:PE X e te) (hg:PG X tg g) (hs:swapsWithSole [tg] e pos.line X.env=pure false:=by rfl) (hw:swappedStores [tg] e X.env=pure none:=by rfl)
  (h1:(assignEach [tg] X.env).map (·.2)=[assign tg X.env]:=by rfl):PS X (.Assign [tg] e pos) (tAsg te g):=by
 intro pins s σ H D I h
 refine wpAny_Assign_stores (thn (he pins s σ H _ I h) fun v s1 ⟨x,H1,I1,r1,q1⟩=>?_) hs hw
 rw [h1]
 exact thn (hg pins s1 σ H1 x v _ I1 r1 q1) fun _ s2 q=>q
theorem UV_ {i:Nat} {x:Str} {e:Expr} {te:TE} {pos':Pos} (hN:X.N.Nodup) (hi:X.N[i]? = some x) (hx:Loc X.env.scope x) (he:PE X e te) (hs:swapsWith e (some (.Name x pos')) pos.line X.env=pure false:=by rfl) (hf:X.fn x=true∨X.env.scope.names.lookup x=some .local:=by first|exact .inl rfl|exact .inr rfl|assumption) :
  PS X (.Assign [.Name x pos'] e pos) (tAsg te (Yx_ i)):=by
 intro pins s σ H D I h
 refine wpAny_Assign_Name (thn (he pins s σ H _ I h) fun v s1 ⟨y,H1,I1,r1,q1⟩=>?_) hs
 exact uF_ I1 hN hi hx r1 (fun s2 I2=>⟨_,H1,I2,q1⟩) hf
end
structure It where
 go:Nat→Hp→Prop
 yld:Nat→Hp→V→Hp→Prop
 stop:Nat→Hp→Prop
def FpOk (X:Cx) (pins:List (Addr×Obj)) (H:Hp) (b:Addr):Prop :=
 H b=none∧b≠X.env.locals∧b∉X.fs∧(b∈X.ex∨X.s₀.heap.objs.size≤b)∧(∀ x c,X.env.cells.lookup x=some c→c≠b)∧∀ p∈X.pn++pins,p.1≠b
theorem Inv.fpOk {X:Cx} {pins:List (Addr×Obj)} {σ:St} {H H':Hp} {s:Shared} {b:Addr} (I:Inv X pins σ H s) (hb:s.heap.objs.size≤b) (hn:H' b=none):FpOk X pins H' b:=by
 refine ⟨hn,Nat.ne_of_gt (Nat.lt_of_lt_of_le I.lt hb),I.nofs hb,.inr (Nat.le_trans I.sz hb),fun x c e z=>?_,fun p hp z=>?_⟩
 ·obtain ⟨v,q⟩:=I.cell x c e
  exact absurd (Nat.lt_of_lt_of_le q.lt (by rw [z];exact hb)) (Nat.lt_irrefl _)
 ·exact absurd (Nat.lt_of_lt_of_le (Heap.lt_size (I.pin p hp).1) (by rw [z];exact hb)) (Nat.lt_irrefl _)
structure Turn (P:Program) (w:World) (K:PySem.W.Frag) (tg:Expr) (J:It) (fp:List Addr) (it:Addr) (tn:Nat→Heap→Prop):Prop where
 mem:it∈fp
 obj:∀ i h,tn i h→∀ b∈fp,∃ o,h.get? b=some o∧∀ v,o.data≠.cell v
 keep:∀ i h h',tn i h→(∀ b∈fp,∀ o,h.get? b=some o→h'.get? b=some o)→tn i h'
 item:∀ (X:Cx),X.prog=P→X.w=w→X.K=K→X.calm=true→∀ (i:Nat) (pins:List (Addr×Obj)) (s:Shared) (σ:St) (H:Hp) (E:Value→Shared→Prop),Inv X pins σ H s→(∀ b∈fp,FpOk X pins H b)→tn i s.heap→J.go i H →
  wpAny (model P w) X.A (pyNext (.ref it)) (fun r s1=>∃ u,r=some u ∧
   wpAny (model P w) X.A (letOwnedTupleGo tg (.ref it) u) (fun _ s2=>∃ x H',Inv X pins σ H' s2∧RelV x u∧J.yld i H x H'∧tn (i+1) s2.heap∧∀ b∈fp,H' b=none) E s1) E s
 done:∀ (X:Cx),X.prog=P→X.w=w→X.K=K→X.calm=true→∀ (i:Nat) (pins:List (Addr×Obj)) (s:Shared) (σ:St) (H:Hp) (E:Value→Shared→Prop),Inv X pins σ H s→(∀ b∈fp,FpOk X pins H b)→tn i s.heap→J.stop i H →
  wpAny (model P w) X.A (pyNext (.ref it)) (fun r s1=>r=none∧Inv X pins σ H s1) E s
 self:∀ (A:Around) (i:Nat) (s:Shared) (Q:Value→Shared→Prop) (E:Value→Shared→Prop),tn i s.heap→Q (.ref it) s→wpAny (model P w) A (pyIter (.ref it)) Q E s
abbrev TI:=St→Hp→(It→Hp→Prop)→Prop
def PIE (X:Cx) (pins:List (Addr×Obj)) (σ:St) (tg:Expr) (R:It→Hp→Prop) (itv:Value) (s2:Shared):Prop :=
 ∃ (it:Addr) (fp:List Addr) (tn:Nat→Heap→Prop) (J:It) (H':Hp),itv=.ref it∧Inv X pins σ H' s2∧Turn X.prog X.w X.K tg J fp it tn∧tn 0 s2.heap∧(∀ b∈fp,FpOk X pins H' b)∧R J H'
def PI (X:Cx) (tg iter:Expr) (wi:TI):Prop :=
 ∀ (pins:List (Addr×Obj)) (s:Shared) (σ:St) (H:Hp) (R:It→Hp→Prop),Inv X pins σ H s→wi σ H R →
  wpAny (model X.prog X.w) X.A (eval iter X.env) (fun v s1=>wpAny (model X.prog X.w) X.A (pyIter v) (PIE X pins σ tg R) X.xe s1) X.xe s
theorem QA_ {M:Model} {A:Around} {E:Value→Shared→Prop} {s:Shared} {tg:Expr} {it:Addr} {u:Value} {o:Obj} {n:String} {vs:Array Value} {Q:Unit→Shared→Prop} (ho:s.heap.get? it=some o) (hc:o.cls=.type n) (hd:o.data=.fields vs)
  (hn:["enumerate", "zip", "dict_itemiterator", "dict_reverseitemiterator", "odict_iterator", "itertools.zip_longest", "itertools.pairwise"].contains n=false) (hQ:Q () s):wpAny M A (letOwnedTupleGo tg (.ref it) u) Q E s:=by
 unfold letOwnedTupleGo
 cases tg<;>first
  | exact wpAny_pure hQ
  | (cases u<;>first
     | exact wpAny_pure hQ
     | (refine wpAny_bind (wpAny_load ho ?_)
        rw [hc,hd]
        show wpAny M A (if (["enumerate", "zip", "dict_itemiterator", "dict_reverseitemiterator", "odict_iterator", "itertools.zip_longest", "itertools.pairwise"].contains n&&vs[0]? == some (rawInt _))=true then _ else _) Q E s
        rw [if_neg (by intro h;rw [hn,Bool.false_and] at h;cases h)]
        exact wpAny_pure hQ))
def Itl (K:PySem.W.Frag) (a:Addr):It :=
 ⟨fun i H=>∃ xs x,SqL K H a xs∧xs[i]? = some x,fun i H x H'=>H'=H∧∀ xs,SqL K H a xs→xs[i]? = some x,fun i H=>∃ xs,SqL K H a xs∧xs.length≤i⟩
def Itt (K:PySem.W.Frag) (a:Addr):It :=
 ⟨fun i H=>∃ xs x,SqT K H a xs∧xs[i]? = some x,fun i H x H'=>H'=H∧∀ xs,SqT K H a xs→xs[i]? = some x,fun i H=>∃ xs,SqT K H a xs∧xs.length≤i⟩
def Itr (lo:Int) (n:Nat):It:=⟨fun i _=>i<n,fun i H x H'=>H'=H∧x=.int (lo+i),fun i _=>n≤i⟩
theorem UJ_ {P:Program} {w:World} {K:PySem.W.Frag} {tg:Expr} (a it:Addr):Turn P w K tg (Itl K a) [it] it (fun i h=>h.IsListIter it a i) where
 mem:=by simp
 obj:=fun i h st b hb=>by
  have e:b=it:=by simpa using hb
  subst e
  obtain ⟨o,e,c,d⟩:=st
  exact ⟨o,e,fun v z=>by rw [d] at z;cases z⟩
 keep:=fun i h h' st k=>st.at fun o e=>k it (by simp) o e
 item:=by
  intro X hP hw hK hc i pins s σ H E I hf st hg
  subst hP hw hK
  obtain ⟨xs,x,hq,hx⟩:=hg
  obtain ⟨its,rv,p,hz⟩:=I.list hq
  obtain ⟨u,hu,ru⟩:=rv.get hx
  obtain ⟨f0,f1,f2,f3,f4,f5⟩:=hf it (by simp)
  refine wpAny_pyNext_list_item st p.isList (x:=u) (by simpa using hu) fun h' st' sb=>?_
  have I1:Inv X pins σ H { s with heap:=h' }:=I.turned (t':=s.toks) (fun b o hb e=>(sb.2 b hb).trans e) f0 f1 f3 f4 f5
  obtain ⟨o,e,c,d⟩:=id st'
  exact ⟨u,rfl,QA_ (s:={ s with heap:=h' }) e c d (by decide) ⟨x,H,I1,ru,⟨rfl,fun ys hy=>by rw [I.list_inj hy hq];exact hx⟩,st',fun b hb=>(hf b hb).1⟩⟩
 done:=by
  intro X hP hw hK hc i pins s σ H E I hf st hg
  subst hP hw hK
  obtain ⟨xs,hq,hx⟩:=hg
  obtain ⟨its,rv,p,hz⟩:=I.list hq
  obtain ⟨f0,f1,f2,f3,f4,f5⟩:=hf it (by simp)
  have hl:=rv.length
  exact wpAny_pyNext_list_end (I.ok.hd hc) st p.isList (by simp;omega) fun h' eb=>⟨rfl,I.turned (t':=s.toks) (fun b o hb e=>eb b o hb e) f0 f1 f3 f4 f5⟩
 self:=fun _ _ _ _ _ st h=>wpAny_pyIter_listiter st h
theorem J9_ {P:Program} {w:World} {K:PySem.W.Frag} {tg:Expr} (a it:Addr):Turn P w K tg (Itt K a) [it] it (fun i h=>h.IsTupleIter it a i) where
 mem:=by simp
 obj:=fun i h st b hb=>by
  have e:b=it:=by simpa using hb
  subst e
  obtain ⟨o,e,c,d⟩:=st
  exact ⟨o,e,fun v z=>by rw [d] at z;cases z⟩
 keep:=fun i h h' st k=>st.at fun o e=>k it (by simp) o e
 item:=by
  intro X hP hw hK hc i pins s σ H E I hf st hg
  subst hP hw hK
  obtain ⟨xs,x,hq,hx⟩:=hg
  obtain ⟨its,rv,p,hz⟩:=I.tuple hq
  obtain ⟨u,hu,ru⟩:=rv.get hx
  obtain ⟨f0,f1,f2,f3,f4,f5⟩:=hf it (by simp)
  refine wpAny_pyNext_tuple_item st (show s.heap.IsTuple a its.toArray from p) (x:=u) (by simpa using hu) fun h' st' sb=>?_
  have I1:Inv X pins σ H { s with heap:=h' }:=I.turned (t':=s.toks) (fun b o hb e=>(sb.2 b hb).trans e) f0 f1 f3 f4 f5
  obtain ⟨o,e,c,d⟩:=id st'
  exact ⟨u,rfl,QA_ (s:={ s with heap:=h' }) e c d (by decide) ⟨x,H,I1,ru,⟨rfl,fun ys hy=>by rw [I.tuple_inj hy hq];exact hx⟩,st',fun b hb=>(hf b hb).1⟩⟩
 done:=by
  intro X hP hw hK hc i pins s σ H E I hf st hg
  subst hP hw hK
  obtain ⟨xs,hq,hx⟩:=hg
  obtain ⟨its,rv,p,hz⟩:=I.tuple hq
  obtain ⟨f0,f1,f2,f3,f4,f5⟩:=hf it (by simp)
  have hl:=rv.length
  exact wpAny_pyNext_tuple_end (I.ok.hd hc) st (show s.heap.IsTuple a its.toArray from p) (by simp;omega) fun h' eb=>⟨rfl,I.turned (t':=s.toks) (fun b o hb e=>eb b o hb e) f0 f1 f3 f4 f5⟩
 self:=fun _ _ _ _ _ st h=>wpAny_pyIter_tupleiter st h
theorem Ua_ {P:Program} {w:World} {K:PySem.W.Frag} {tg:Expr} (it:Addr) (lo:Int) (n:Nat):Turn P w K tg (Itr lo n) [it] it (fun i h=>IsRangeIter h it (lo+(i:Nat)*1) ((n:Int) - (i:Nat)) 1) where
 mem:=by simp
 obj:=fun i h st b hb=>by
  have e:b=it:=by simpa using hb
  subst e
  exact ⟨_,st,fun v z=>by
   have z':Data.fields _=Data.cell v:=z
   cases z'⟩
 keep:=fun i h h' st k=>k it (by simp) _ st
 item:=by
  intro X hP hw hK hc i pins s σ H E I hf st hg
  subst hP hw hK
  obtain ⟨f0,f1,f2,f3,f4,f5⟩:=hf it (by simp)
  have W:=Walks.range (prog:=X.prog) (w:=X.w) (I.ok.hd hc) it lo 1 n
  refine W.item i s _ _ hg st fun v h' tk hv st' kk=>?_
  obtain ⟨t,rfl⟩:=hv
  have I1:Inv X pins σ H { s with heap:=h',toks:=tk }:=I.turned (fun b o hb e=>kk b o (by simpa using hb) e) f0 f1 f3 f4 f5
  refine ⟨_,rfl,QA_ (s:={ s with heap:=h',toks:=tk }) (n := "range_iterator") st' rfl rfl (by decide) ⟨.int (lo+i),H,I1,⟨t,?_⟩,⟨rfl,rfl⟩,st',fun b hb=>(hf b hb).1⟩⟩
  rw [Int.mul_one]
 done:=by
  intro X hP hw hK hc i pins s σ H E I hf st hg
  subst hP hw hK
  obtain ⟨f0,f1,f2,f3,f4,f5⟩:=hf it (by simp)
  exact wpAny_pyNext_range_end (I.ok.hd hc) st (by have:n≤i:=hg;omega) fun h' eb=>⟨rfl,I.turned (t':=s.toks) (fun b o hb e=>eb b o hb e) f0 f1 f3 f4 f5⟩
 self:=fun _ _ _ _ _ st h=>wpAny_pyIter_rangeiter st h
end L2
namespace L2
open PySem PySem.Spec PyProof.Rows
section
variable {X:Cx} {tg:Expr}
theorem Qj_ {pins:List (Addr×Obj)} {σ:St} {H:Hp} {s:Shared} {R:It→Hp→Prop} {E:Value→Shared→Prop} {lo hi:Int} {t u v:Tok} {tk:Nat} (I:Inv X pins σ H s) (h1 : -(2^62)≤lo) (h2:lo<2^62) (h3 : -(2^62)≤hi) (h4:hi<2^62)
  (q:R (Itr lo (hi - lo).toNat) H):wpAny (model X.prog X.w) X.A (pyIter (.ref s.heap.objs.size)) (PIE X pins σ tg R) E { s with heap:=s.heap.push { cls:=.type "range",data:=.fields #[.int lo t,.int hi u,.int 1 v] },toks:=tk }:=by
 refine wpAny_pyIter_range (IsRange.new ..) (small_one h1 h2 h3 h4) ?_
 have I1:Inv X pins σ H { s with heap:=s.heap.push { cls:=.type "range",data:=.fields #[.int lo t,.int hi u,.int 1 v] },toks:=tk }:=I.kept fun b o e=>Heap.get?_push_of_some _ e
 refine ⟨(s.heap.push { cls:=.type "range",data:=.fields #[.int lo t,.int hi u,.int 1 v] }).objs.size,[(s.heap.push { cls:=.type "range",data:=.fields #[.int lo t,.int hi u,.int 1 v] }).objs.size],_,_,H,rfl,
  I1.kept (t':=tk) fun b o e=>Heap.get?_push_of_some _ e,Ua_ _ lo (hi - lo).toNat,?_,fun b hb=>?_,q⟩
 ·have e1:lo+((0:Nat):Int)*1=lo:=by simp
  have e2:(((hi - lo).toNat:Nat):Int) - ((0:Nat):Int)=Builtin.Range.rangeSize lo hi 1:=by rw [rangeSize_one];split<;>omega
  show IsRangeIter _ _ (lo+((0:Nat):Int)*1) ((((hi - lo).toNat:Nat):Int) - ((0:Nat):Int)) 1
  rw [e1,e2]
  exact Heap.get?_push_size _ rfl
 ·have e:b=(s.heap.push { cls:=.type "range",data:=.fields #[.int lo t,.int hi u,.int 1 v] }).objs.size:=by simpa using hb
  subst e
  exact I1.fpOk (Nat.le_refl _) (I1.hok.fresh (Nat.le_refl _))
def zag_ (ta:TA):TI:=fun σ H R=>ta σ H fun vs H1=>∃ j:Int,vs=[.int j] ∧ -(2^62)≤j∧j<2^62∧R (Itr 0 j.toNat) H1
theorem Zi_ {a:Expr} {ta:TA} {p pos:Pos} (hg:Gl X "range") (hm:X.mg "range" = none) (ha:PA X [a] ta) (hs:starEach [a] X.env=[(false,eval a X.env)]:=by rfl):PI X tg (.Call (.Name "range" p) [a] [] pos) (zag_ ta):=by
 intro pins s σ H R I h
 refine Call_ (Yl_ I hg hm boot_range (PyProof.Rows.callWith_type1 (thn (ha pos pins s σ H _ I h) fun us s1 ⟨vs,H1,I1,r1,q1⟩=>?_) hs rfl))
 obtain ⟨j,e,q1,q2,q⟩:=q1
 subst e
 cases r1 with
 | cons r rr =>
  cases rr
  obtain ⟨t,rfl⟩:=r
  exact call_range_1 (Qj_ I1 (by omega) (by omega) q1 q2 (by simpa using q))
def tFor (wi:TI) (g:TG) (tb:TS):TS:=fun D σ H=>wi σ H fun J H1=>∃ W:Nat→Nat→St→Hp→Prop,(∃ m,W 0 m σ H1)∧∀ i m σ H,W i m σ H →
 (J.stop i H∧D.nx σ H)∨(J.go i H∧∃ N:St→Hp→Prop,(∀ σ' H',N σ' H'→∃ m',m'<m∧W (i+1) m' σ' H')∧∀ x H',J.yld i H x H'→g x σ H' fun σ2 H2=>tb { D with nx:=N,ct:=N,bk:=D.nx } σ2 H2)
def Zg_ (fp:List Addr) (h:Heap):List (Addr×Obj):=fp.filterMap fun b=>(h.get? b).map fun o=>(b,o)
theorem jQ_ {fp:List Addr} {h:Heap} {b:Addr} {o:Obj} (hb:b∈fp) (e:h.get? b=some o):(b,o)∈Zg_ fp h:=List.mem_filterMap.mpr ⟨b,hb,by rw [e];rfl⟩
theorem Yd_ {fp:List Addr} {h:Heap} {p:Addr×Obj} (hp:p∈Zg_ fp h):p.1∈fp∧h.get? p.1=some p.2:=by
 obtain ⟨b,hb,e⟩:=List.mem_filterMap.mp hp
 cases q:h.get? b with
 | none=>rw [q] at e;cases e
 | some o =>
  rw [q] at e
  have e':(b,o)=p:=Option.some.inj e
  subst e'
  exact ⟨hb,q⟩
theorem Inv.pinned {pins:List (Addr×Obj)} {σ:St} {H:Hp} {s:Shared} {fp:List Addr} (I:Inv X pins σ H s) (hf:∀ b∈fp,FpOk X pins H b) (ho:∀ b∈fp,∃ o,s.heap.get? b=some o∧∀ v,o.data≠.cell v):Inv X (pins++Zg_ fp s.heap) σ H s :=
 I.pins_of fun p hp=>(List.mem_append.mp hp).elim (fun z=>I.pin p (List.mem_append_right _ z)) fun z=>by
  obtain ⟨hb,e⟩:=Yd_ z
  obtain ⟨f0,f1,f2,_⟩:=hf p.1 hb
  obtain ⟨o,e',d⟩:=ho p.1 hb
  rw [e] at e';cases e'
  exact ⟨e,f0,f1,f2,d⟩
theorem Inv.unpinned {pins pl:List (Addr×Obj)} {σ:St} {H:Hp} {s:Shared} (I:Inv X (pins++pl) σ H s):Inv X pins σ H s:=I.pins_of fun p hp=>I.pin p (List.mem_append_right _ (List.mem_append_left _ hp))
theorem WL_ {iter:Expr} {body:List Stmt} {wi:TI} {g:TG} {tb:TS} {pos:Pos} (hp:PassesOwn (model X.prog X.w) X.A X.env X.xe) (hc:X.calm=true) (hi:PI X tg iter wi) (hg:PG X tg g) (hb:PSs X body tb)
  (hs:∀ x,foldedSetIterable iter X.env x=pure x:=by intro _;rfl):PS X (.For tg iter body [] pos) (tFor wi g tb):=by
 intro pins s σ H D I h
 refine wpAny_For (thn (hi pins s σ H _ I h) fun v s1 h1=>thn h1 fun itv s2 h2=>?_) hs
 obtain ⟨it,fp,tn,J,H2,e,I2,T,st2,f2,W,⟨m0,w0⟩,turn⟩:=h2
 subst e
 have stat:∀ {H':Hp},(∀ b∈fp,H' b=none)→∀ b∈fp,FpOk X pins H' b:=fun hn b hb=>⟨hn b hb,(f2 b hb).2⟩
 refine codeAny_forLoop_any (fun n s'=>∃ i σ' H',Inv X pins σ' H' s'∧tn i s'.heap∧(∀ b∈fp,H' b=none)∧W i n σ' H') ?_ m0 ⟨0,σ,H2,I2,st2,fun b hb=>(f2 b hb).1,w0⟩
 rintro n s3 ⟨i,σ3,H3,I3,st3,fr3,w3⟩
 rcases turn i n σ3 H3 w3 with ⟨stop,qn⟩|⟨go,N,hN,step⟩
 ·refine wpAny_passesOwn hp (thn (T.done X rfl rfl rfl hc i pins s3 σ3 H3 X.xe I3 (stat fr3) st3 stop) fun r s4 ⟨hr,I4⟩=>?_)
  subst hr
  exact wpAny_execs_nil ⟨σ3,H3,I4,qn⟩
 ·refine wpAny_passesOwn hp (thn (T.item X rfl rfl rfl hc i pins s3 σ3 H3 X.xe I3 (stat fr3) st3 go) fun r s4 ⟨u,hr,h4⟩=>?_)
  subst hr
  refine wpAny_passesOwn hp (thn h4 fun _ s5 ⟨x,H5,I5,r5,y5,st5,fr5⟩=>?_)
  have I5':=I5.pinned (stat fr5) (T.obj _ _ st5)
  refine wpAny_passesOwn hp (thn (hg _ s5 σ3 H5 x u _ I5' r5 (step x H5 y5)) fun _ s6 ⟨σ6,H6,I6,q6⟩=>?_)
  refine wpAny_passesOwn hp (thn (hb _ s6 σ6 H6 _ I6 q6) fun f s7 q7=>?_)
  have again:∀ {σ7:St} {H7:Hp},Inv X (pins++Zg_ fp s5.heap) σ7 H7 s7→N σ7 H7→∃ m,m<n∧∃ i σ' H',Inv X pins σ' H' s7∧tn i s7.heap∧(∀ b∈fp,H' b=none)∧W i m σ' H':=fun {σ7 H7} I7 n7=>by
   obtain ⟨m',hm,w7⟩:=hN σ7 H7 n7
   refine ⟨m',hm,i+1,σ7,H7,I7.unpinned,T.keep _ _ _ st5 fun b hb o e=>(I7.pin (b,o) (List.mem_append_right _ (List.mem_append_right _ (jQ_ hb e)))).1,fun b hb=>?_,w7⟩
   obtain ⟨o,e,d⟩:=T.obj _ _ st5 b hb
   exact (I7.pin (b,o) (List.mem_append_right _ (List.mem_append_right _ (jQ_ hb e)))).2.1
  cases f with
  | next=>obtain ⟨σ7,H7,I7,n7⟩:=q7;exact again I7 n7
  | cont=>obtain ⟨σ7,H7,I7,n7⟩:=q7;exact again I7 n7
  | brk=>obtain ⟨σ7,H7,I7,q7⟩:=q7;exact ⟨σ7,H7,I7.unpinned,q7⟩
  | ret v=>obtain ⟨x7,σ7,H7,I7,r7,q7⟩:=q7;exact ⟨x7,σ7,H7,I7.unpinned,r7,q7⟩
end
end L2
namespace L2
open PySem PySem.Spec PyProof.Rows
abbrev R2:=V→V→Hp→VK→Prop
def OpR (X:Cx) (f:Value→Value→Sem Value) (r:R2):Prop :=
 ∀ (pins:List (Addr×Obj)) (s:Shared) (σ:St) (H:Hp) (x y:V) (v u:Value) (Q:VK),Inv X pins σ H s→RelV x v→RelV y u→r x y H Q →
  wpAny (model X.prog X.w) X.A (f v u) (EP X pins σ Q) X.xe s
def CallR (X:Cx) (f:Value) (r:List V→Hp→VK→Prop):Prop :=
 ∀ (pins:List (Addr×Obj)) (s:Shared) (σ:St) (H:Hp) (xs:List V) (us:List Value) (Q:VK),Inv X pins σ H s→Vals xs us→r xs H Q →
  wpAny (model X.prog X.w) X.A (call f us) (EP X pins σ Q) X.xe s
def TruR (X:Cx) (r:V→Hp→(Bool→Hp→Prop)→Prop):Prop :=
 ∀ (pins:List (Addr×Obj)) (s:Shared) (σ:St) (H:Hp) (x:V) (v:Value) (Q:Bool→Hp→Prop),Inv X pins σ H s→RelV x v→r x H Q →
  wpAny (model X.prog X.w) X.A (truthy v) (TP X pins σ Q) X.xe s
def tOp (r:R2) (ta tb:TE):TE:=fun σ H Q=>ta σ H fun x H1=>tb σ H1 fun y H2=>r x y H2 Q
def rI (C:Int→Int→Prop) (g:Int→Int→V):R2:=fun x y H Q=>∃ i j,x=.int i∧y=.int j∧C i j∧Q (g i j) H
def rI0 (g:Int→Int→V):R2:=fun x y H Q=>∃ i j,x=.int i∧y=.int j∧Q (g i j) H
section
variable {X:Cx} {a b c:Expr} {ta tb tc:TE} {pos:Pos}
theorem binT (ha:PE X a ta) (hb:PE X b tb) {pins:List (Addr×Obj)} {s:Shared} {σ:St} {H:Hp} {R:V→V→Hp→Prop} (I:Inv X pins σ H s)
  (h:ta σ H fun x H1=>tb σ H1 fun y H2=>R x y H2) {Q:Value→Shared→Prop} {f:Value→Value→Sem Value}
  (hf:∀ v u s2 x y H2,Inv X pins σ H2 s2→RelV x v→RelV y u→R x y H2→wpAny (model X.prog X.w) X.A (f v u) Q X.xe s2) :
  wpAny (model X.prog X.w) X.A (eval a X.env) (fun v s₁=>wpAny (model X.prog X.w) X.A (eval b X.env) (fun u s₂=>wpAny (model X.prog X.w) X.A (f v u) Q X.xe s₂) X.xe s₁) X.xe s:=by
 refine thn (ha pins s σ H _ I h) fun v s1 ⟨x,H1,I1,r1,q1⟩=>?_
 refine thn (hb pins s1 σ H1 _ I1 q1) fun u s2 ⟨y,H2,I2,r2,q2⟩=>?_
 exact hf v u s2 x y H2 I2 r1 r2 q2
theorem WO_ {op:Operator} {r:R2} (ho:OpR X (binaryOp op) r) (ha:PE X a ta) (hb:PE X b tb):PE X (.BinOp a op b pos) (tOp r ta tb):=by
 intro pins s σ H Q I h
 exact wpAny_BinOp (binT ha hb I h fun v u s2 x y H2 I2 rx ry q=>ho pins s2 σ H2 x y v u Q I2 rx ry q)
theorem opI {f:Value→Value→Sem Value} {C:Int→Int→Prop} {g:Int→Int→Int}
  (rule:∀ (i j:Int) (t u:Tok) (s:Shared) (Q:Value→Shared→Prop) (E:Value→Shared→Prop),C i j→Q (.int (g i j) s.toks) { s with toks:=s.toks+1 }→wpAny (model X.prog X.w) X.A (f (.int i t) (.int j u)) Q E s) :
  OpR X f (rI C fun i j=>.int (g i j)):=by
 intro pins s σ H x y v u Q I rx ry h
 obtain ⟨i,j,rfl,rfl,hc,q⟩:=h
 obtain ⟨t,rfl⟩:=rx
 obtain ⟨t',rfl⟩:=ry
 exact rule i j t t' s _ _ hc ⟨.int (g i j),H,I.tok _,⟨_,rfl⟩,q⟩
theorem opI0 {f:Value→Value→Sem Value} {g:Int→Int→Int}
  (rule:∀ (i j:Int) (t u:Tok) (s:Shared) (Q:Value→Shared→Prop) (E:Value→Shared→Prop),Q (.int (g i j) s.toks) { s with toks:=s.toks+1 }→wpAny (model X.prog X.w) X.A (f (.int i t) (.int j u)) Q E s) :
  OpR X f (rI0 fun i j=>.int (g i j)):=by
 intro pins s σ H x y v u Q I rx ry h
 obtain ⟨i,j,rfl,rfl,q⟩:=h
 obtain ⟨t,rfl⟩:=rx
 obtain ⟨t',rfl⟩:=ry
 exact rule i j t t' s _ _ ⟨.int (g i j),H,I.tok _,⟨_,rfl⟩,q⟩
theorem opB0 {f:Value→Value→Sem Value} {g:Int→Int→Bool}
  (rule:∀ (i j:Int) (t u:Tok) (s:Shared) (Q:Value→Shared→Prop) (E:Value→Shared→Prop),Q (.bool (g i j)) s→wpAny (model X.prog X.w) X.A (f (.int i t) (.int j u)) Q E s) :
  OpR X f (rI0 fun i j=>.bl (g i j)):=by
 intro pins s σ H x y v u Q I rx ry h
 obtain ⟨i,j,rfl,rfl,q⟩:=h
 obtain ⟨t,rfl⟩:=rx
 obtain ⟨t',rfl⟩:=ry
 exact rule i j t t' s _ _ ⟨.bl (g i j),H,I,rfl,q⟩
def CDiv (i j:Int):Prop:=0<j∧j<1073741824
def CPow (i j:Int):Prop:=0≤j∧j≤1000000∧i.natAbs<2^64
def CMul (i j:Int):Prop:=(-(2^64)<i∧i<2^64)∨(-(2^64)<j∧j<2^64)
theorem CMul.ok {i j:Int} (h:CMul i j):IntMulOk i j:=by
 rcases h with ⟨h1,h2⟩|⟨h1,h2⟩
 ·exact .of_left (intBits_le_64 h1 h2)
 ·exact .of_right (intBits_le_64 h1 h2)
theorem op_add:OpR X (binaryOp .Add) (rI0 fun i j=>.int (i+j)):=opI0 fun _ _ _ _ _ _ _ q=>add_int q
theorem op_mul:OpR X (binaryOp .Mult) (rI CMul fun i j=>.int (i*j)):=opI fun _ _ _ _ _ _ _ hc q=>mul_int q hc.ok
theorem U5_:OpR X (binaryOp .FloorDiv) (rI CDiv fun i j=>.int (i / j)):=opI fun i j _ _ _ _ _ hc q=>by
 have h1:(0:Int)<j:=hc.1
 have h2:j<1073741824:=hc.2
 exact floordiv_int (by omega) (by rw [Int.fdiv_eq_ediv_of_nonneg i (by omega)];exact q) (.inl (PyProof.noPylong_small (by omega)))
theorem uQ_:OpR X (binaryOp .Mod) (rI (fun _ j=>0<j) fun i j=>.int (i % j)):=opI fun i j _ _ _ _ _ hc q=>by
 have h1:(0:Int)<j:=hc
 exact mod_int' (by omega) (by rw [Int.fmod_eq_emod_of_nonneg i (by omega)];exact q)
theorem yA_:OpR X (binaryOp .Pow) (rI CPow fun i j=>.int (i^j.toNat)):=opI fun _ _ _ _ _ _ _ hc q=>pow_int_small hc.1 hc.2.1 hc.2.2 q
end
section
variable {X:Cx} {a b c:Expr} {ta tb tc:TE} {pos:Pos}
theorem YA_ {pins:List (Addr×Obj)} {σ:St} {H:Hp} {s:Shared} {Q:VK} {k k':Bool} (I:Inv X pins σ H s) (q:Q (.bl k) H) (e:k=k'):EP X pins σ Q (.bool k') s:=by
 subst e
 exact ⟨.bl k,H,I,rfl,q⟩
theorem X6_:OpR X (compareOp .LtE) (rI0 fun i j=>.bl (decide (i≤j))):=opB0 fun _ _ _ _ _ _ _ q=>le_int q
theorem Uk_:OpR X (compareOp .Gt) (rI0 fun i j=>.bl (decide (j<i))):=opB0 fun _ _ _ _ _ _ _ q=>gt_int q
theorem X7_:OpR X (compareOp .GtE) (rI0 fun i j=>.bl (decide (j≤i))):=opB0 fun _ _ _ _ _ _ _ q=>ge_int q
theorem U4_:OpR X (compareOp .In) (fun x y H Q=>∃ i j,x=.str i∧y=.str j∧Q (.bl (!(Builtin.Str.occurrences j i 0 j.length 1).isEmpty)) H):=by
 intro pins s σ H x y v u Q I rx ry h
 obtain ⟨i,j,rfl,rfl,q⟩:=h
 obtain ⟨t,rfl⟩:=rx
 obtain ⟨t',rfl⟩:=ry
 exact in_str (YA_ I q rfl)
theorem W3_:OpR X (compareOp .Is) (fun x y H Q=>y=.non∧Q (.bl (decide (x=.non))) H):=by
 intro pins s σ H x y v u Q I rx ry h
 obtain ⟨rfl,q⟩:=h
 cases ry
 refine is_none_gen (YA_ I q ?_)
 cases x<;>first
  | (cases rx;rfl)
  | (obtain ⟨t,rfl⟩:=rx;rfl)
theorem Zm_:OpR X (compareOp .NotIn) (fun x y H Q=>∃ i j,x=.str i∧y=.str j∧Q (.bl (!(!(Builtin.Str.occurrences j i 0 j.length 1).isEmpty))) H):=by
 intro pins s σ H x y v u Q I rx ry h
 obtain ⟨i,j,rfl,rfl,q⟩:=h
 obtain ⟨t,rfl⟩:=rx
 obtain ⟨t',rfl⟩:=ry
 exact notIn_str (YA_ I q rfl)
theorem OpR.or {f:Value→Value→Sem Value} {r r':R2} (h:OpR X f r) (h':OpR X f r'):OpR X f (fun x y H Q=>r x y H Q∨r' x y H Q):=by
 intro pins s σ H x y v u Q I rx ry q
 rcases q with q|q
 ·exact h pins s σ H x y v u Q I rx ry q
 ·exact h' pins s σ H x y v u Q I rx ry q
theorem VC_ {op:CmpOp} {r:R2} (ho:OpR X (compareOp op) r) (ha:PE X a ta) (hb:PE X b tb) (hm:behindInMarks op b=false):PE X (.Compare a [op] [b] pos) (tOp r ta tb):=by
 intro pins s σ H Q I h
 exact wpAny_Compare1 (binT ha hb I h fun v u s2 x y H2 I2 rx ry q=>ho pins s2 σ H2 x y v u Q I2 rx ry q) hm
def Wq_ (t:TE):TT:=fun σ H Q=>t σ H fun x H'=>∃ k,x=.bl k∧Q k H'
theorem Vw_ {op:CmpOp} {r:R2} (ho:OpR X (compareOp op) r) (ha:PE X a ta) (hb:PE X b tb) (hm:behindInMarks op b=false):PT X (.Compare a [op] [b] pos) (Wq_ (tOp r ta tb)):=by
 intro pins s σ H Q I h
 refine wpAny_isTrue_Compare1 (thn (ha pins s σ H _ I h) fun v s1 ⟨x,H1,I1,r1,q1⟩=>thn (hb pins s1 σ H1 _ I1 q1) fun u s2 ⟨y,H2,I2,r2,q2⟩ =>
  thn (ho pins s2 σ H2 x y v u _ I2 r1 r2 q2) fun c s3 ⟨z,H3,I3,r3,k,e,q3⟩=>?_) hm
 subst e
 cases r3
 exact wpAny_truthy_bool ⟨H3,I3,q3⟩
def QT_ (r r':R2) (ta tb tc:TE):TE:=fun σ H Q=>ta σ H fun x H1=>tb σ H1 fun y H2=>r x y H2 fun z H3=>∃ k,z=.bl k ∧
 (if k=true then tc σ H3 fun w' H4=>r' y w' H4 Q else Q (.bl false) H3)
theorem Qm_ {op op':CmpOp} {r r':R2} (ho:OpR X (compareOp op) r) (ho':OpR X (compareOp op') r') (ha:PE X a ta) (hb:PE X b tb) (hc:PE X c tc)
  (hm:lastMarks [op,op'] [b,c]=false:=by with_unfolding_all rfl):PT X (.Compare a [op,op'] [b,c] pos) (Wq_ (QT_ r r' ta tb tc)):=by
 intro pins s σ H Q I h
 refine isTrue_chain (thn (ha pins s σ H _ I h) fun v s1 ⟨x,H1,I1,r1,q1⟩=>test_link (thn (hb pins s1 σ H1 _ I1 q1) fun u s2 ⟨y,H2,I2,r2,q2⟩ =>
  thn (ho pins s2 σ H2 x y v u _ I2 r1 r2 q2) fun d s3 ⟨z,H3,I3,r3,k,e,q3⟩=>?_)) hm
 subst e
 cases r3
 refine wpAny_truthy_bool ?_
 cases k with
 | false =>
  obtain ⟨k',e',q'⟩:=q3
  cases e'
  exact ite_ff ⟨H3,I3,q'⟩
 | true =>
  refine ite_tt (test_last (thn (hc pins s3 σ H3 _ I3 q3) fun w' s4 ⟨z',H4,I4,r4,q4⟩=>thn (ho' pins s4 σ H4 y z' u w' _ I4 r2 r4 q4) fun d' s5 ⟨z2,H5,I5,r5,k2,e2,q5⟩=>?_))
  subst e2
  cases r5
  exact wpAny_truthy_bool ⟨H5,I5,q5⟩
def TruV (K:PySem.W.Frag) (x:V) (H:Hp) (k:Bool):Prop :=
 match x with
 | .non=>k=false
 | .bl b=>k=b
 | .int i=>k=(i != 0)
 | .str y=>y.length≤sizeLine∧k=((y.length:Int) != 0)
 | .byt y=>y.size≤sizeLine∧k=((y.size:Int) != 0)
 | .ref p=>(∃ xs,SqL K H p xs∧k = !xs.isEmpty)∨(∃ xs,SqT K H p xs∧k = !xs.isEmpty)∨∃ kvs,H p=some (.dK kvs)∧k = !kvs.isEmpty
 | _=>False
theorem Uv_ {κ:Type} {kvs:List (κ×V)} {vs:List (κ×Value)} (r:KV kvs vs):(!vs.isEmpty) = !kvs.isEmpty:=by
 cases r<;>rfl
theorem yF_ {xs:List V} {its:List Value} (r:Vals xs its):(!its.toArray.isEmpty) = !xs.isEmpty:=by
 cases r<;>simp
theorem uX_:(sizeLine:Nat)<2^63:=by rw [sizeLine_eq];decide
theorem Wp_:TruR X (fun x H Q=>∃ k,TruV X.K x H k∧Q k H):=by
 intro pins s σ H x v Q I rx h
 obtain ⟨k,e,q⟩:=h
 have hl:=uX_
 have hs:sizeLine=16777216:=sizeLine_eq
 cases x with
 | non =>
  cases rx
  have e':k=false:=e
  subst e'
  exact truthy_none ⟨H,I,q⟩
 | bl b =>
  cases rx
  have e':k=b:=e
  subst e'
  exact wpAny_truthy_bool ⟨H,I,q⟩
 | int i =>
  obtain ⟨t,rfl⟩:=rx
  have e':k=(i != 0):=e
  subst e'
  exact PySem.P.truthy_int ⟨H,I,q⟩
 | str y =>
  obtain ⟨t,rfl⟩:=rx
  obtain ⟨hy,e'⟩:y.length≤sizeLine∧k=((y.length:Int) != 0):=e
  subst e'
  exact PySem.P.truthy_str (by omega) ⟨H,I.tok _,q⟩
 | byt y =>
  obtain ⟨t,rfl⟩:=rx
  obtain ⟨hy,e'⟩:y.size≤sizeLine∧k=((y.size:Int) != 0):=e
  subst e'
  exact PySem.W.truthy_bytes (by omega) ⟨H,I.tok _,q⟩
 | ref p =>
  cases rx
  have e':(∃ xs,SqL X.K H p xs∧k = !xs.isEmpty)∨(∃ xs,SqT X.K H p xs∧k = !xs.isEmpty)∨∃ kvs,H p=some (.dK kvs)∧k = !kvs.isEmpty:=e
  rcases e' with ⟨xs,hx,e'⟩|⟨xs,hx,e'⟩|⟨kvs,hx,e'⟩
  ·subst e'
   obtain ⟨its,r,pl,hz⟩:=I.list hx
   have hlen:=r.length
   exact wpAny_truthy_list pl.isList (by simp only [List.size_toArray];omega) ⟨H,I.tok _,by rw [yF_ r];exact q⟩
  ·subst e'
   obtain ⟨its,r,pl,hz⟩:=I.tuple hx
   have hlen:=r.length
   exact truthy_tuple pl (by simp only [List.size_toArray];omega) ⟨H,I.tok _,by rw [yF_ r];exact q⟩
  ·subst e'
   obtain ⟨hz,hS,vs,r,m⟩:kvs.length≤sizeLine∧(p==sysModules)=false∧∃ vs,KV kvs vs∧s.heap.DictOf (zw_ X.prog X.w) p vs:=I.hok p _ hx
   have hlen:kvs.length=vs.length:=Paired.length r
   exact wpAny_truthy_dict hS m (by omega) ⟨H,I.tok _,by rw [Uv_ r];exact q⟩
 | _=>exact (show False from e).elim
theorem Ql_ (ha:PE X a ta) (he:∀ whole,isTrue a X.env whole=(do let v ←whole;standAt a.pos;holding [v] (truthy v))) :
  PT X a (fun σ H Q=>ta σ H fun x H'=>∃ k,TruV X.K x H' k∧Q k H'):=by
 intro pins s σ H Q I h
 exact isTrue_plain (thn (ha pins s σ H _ I h) fun v s1 ⟨x,H1,I1,r1,q1⟩=>Wp_ pins s1 σ H1 x v Q I1 r1 q1) (he _)
theorem Ul_:OpR X (binaryOp .Add) (fun x y H Q=>∃ i j,x=.str i∧y=.str j∧i.length+j.length≤sizeLine∧Q (.str (i++j)) H):=by
 intro pins s σ H x y v u Q I rx ry h
 obtain ⟨i,j,rfl,rfl,hz,q⟩:=h
 obtain ⟨t,rfl⟩:=rx
 obtain ⟨t',rfl⟩:=ry
 exact add_str (fun t' tk=>⟨.str (i++j),H,I.tok _,⟨_,rfl⟩,q⟩) hz
theorem vals1 {x:V} {us:List Value} (r:Vals [x] us):∃ u,us=[u]∧RelV x u:=by
 cases r with
 | cons r1 r2=>cases r2;exact ⟨_,rfl,r1⟩
theorem vals2 {x y:V} {us:List Value} (r:Vals [x,y] us):∃ u w',us=[u,w']∧RelV x u∧RelV y w':=by
 cases r with
 | cons r1 r2 =>
  cases r2 with
  | cons r3 r4=>cases r4;exact ⟨_,_,rfl,r1,r3⟩
theorem J0_:CallR X (.builtin "abs") (fun xs H Q=>∃ i,xs=[.int i]∧Q (.int (if i<0 then -i else i)) H):=by
 intro pins s σ H xs us Q I r h
 obtain ⟨i,rfl,q⟩:=h
 obtain ⟨u,rfl,t,rfl⟩:=vals1 r
 exact call_abs_int fun u tk=>⟨.int (if i<0 then -i else i),H,I.tok _,⟨_,rfl⟩,q⟩
theorem YR_ (hc:X.calm=true):CallR X (.builtin "max") (fun xs H Q=>∃ i j,xs=[.int i,.int j]∧Q (.int (if j>i then j else i)) H):=by
 intro pins s σ H xs us Q I r h
 obtain ⟨i,j,rfl,q⟩:=h
 obtain ⟨u,w',rfl,⟨t,rfl⟩,⟨t',rfl⟩⟩:=vals2 r
 refine max_two_ints (I.ok.hd hc) fun h' tk k=>⟨_,H,I.kept k,?_,q⟩
 by_cases hj:j>i
 ·rw [if_pos hj,if_pos hj];exact ⟨_,rfl⟩
 ·rw [if_neg hj,if_neg hj];exact ⟨_,rfl⟩
theorem YO_ (hc:X.calm=true):CallR X (.builtin "min") (fun xs H Q=>∃ i j,xs=[.int i,.int j]∧Q (.int (if j<i then j else i)) H):=by
 intro pins s σ H xs us Q I r h
 obtain ⟨i,j,rfl,q⟩:=h
 obtain ⟨u,w',rfl,⟨t,rfl⟩,⟨t',rfl⟩⟩:=vals2 r
 refine min_two_ints (I.ok.hd hc) fun h' tk k=>⟨_,H,I.kept k,?_,q⟩
 by_cases hj:j<i
 ·rw [if_pos hj,if_pos hj];exact ⟨_,rfl⟩
 ·rw [if_neg hj,if_neg hj];exact ⟨_,rfl⟩
theorem YS_:CallR X (.type "int") (fun xs H Q=>(∃ i,xs=[.int i]∧Q (.int i) H)∨∃ k,xs=[.bl k]∧Q (.int (if k then 1 else 0)) H):=by
 intro pins s σ H xs us Q I r h
 rcases h with ⟨i,rfl,q⟩|⟨k,rfl,q⟩
 ·obtain ⟨u,rfl,t,rfl⟩:=vals1 r
  exact call_int_int ⟨.int i,H,I,⟨_,rfl⟩,q⟩
 ·obtain ⟨u,rfl,r1⟩:=vals1 r
  cases r1
  exact call_int_bool ⟨.int (if k then 1 else 0),H,I.tok _,⟨_,rfl⟩,q⟩
theorem jL_:CallR X (.type "str") (fun xs H Q=>∃ i,xs=[.int i]∧i.natAbs.log2<1920∧Q (.str (toString i)) H):=by
 intro pins s σ H xs us Q I r h
 obtain ⟨i,rfl,hz,q⟩:=h
 obtain ⟨u,rfl,t,rfl⟩:=vals1 r
 exact PySem.P.str_of_int hz ⟨.str _,H,I.tok _,⟨_,rfl⟩,q⟩
end
end L2
namespace L2
open PySem PySem.Spec PyProof.Rows
theorem Yj_ {h:Heap} {dx:Addr} {mA:Str→Option Value} (n:h.Ns1 dx mA):∃ od,h.get? dx=some od∧∀ name,PySem.W.lookIn name od=some (mA name):=by
 obtain ⟨o,es,ep,ho,hd,hk,_,hm⟩:=n
 refine ⟨o,ho,fun name=>?_⟩
 have e:=hm name
 unfold nsFind findBy at e
 rw [←Array.find?_toList] at e
 unfold PySem.W.lookIn
 rw [hd]
 dsimp only
 split
 ·rename_i y q
  rw [q] at e
  exact congrArg some e
 ·rename_i q
  rw [q] at e
  have a:es.toList.any (·.refKey)=false:=by
   rw [List.any_eq_false]
   intro y hy
   obtain ⟨z,t,hkey⟩:=hk y (Array.mem_toList_iff.mp hy)
   simp [DictEntry.refKey,hkey]
  have a':¬ es.toList.any (·.refKey)=true:=by rw [a];exact Bool.false_ne_true
  rw [if_neg a']
  exact congrArg some e
def putF (f:Str) (v:V):List (Str×V)→List (Str×V)
 | []=>[(f,v)]
 | (g,x)::r=>if g=f then (g,v)::r else (g,x)::putF f v r
theorem uW_ (f g:Str) (v:V):∀ fs:List (Str×V),(putF f v fs).lookup g=if g=f then some v else fs.lookup g
 | []=>by
  show List.lookup g [(f,v)]=_
  by_cases h:g=f
  ·have hb:(g==f)=true:=beq_iff_eq.mpr h
   simp only [List.lookup,hb,if_pos h]
  ·have hb:(g==f)=false:=beq_eq_false_iff_ne.mpr h
   simp only [List.lookup,hb,if_neg h]
 | (k,x)::r=>by
  have ih:=uW_ f g v r
  rw [show putF f v ((k,x)::r)=(if k=f then (k,v)::r else (k,x)::putF f v r) from rfl]
  by_cases hk:k=f
  ·rw [if_pos hk]
   by_cases h:g=k
   ·have hb:(g==k)=true:=beq_iff_eq.mpr h
    simp only [List.lookup,hb,if_pos (h.trans hk)]
   ·have hb:(g==k)=false:=beq_eq_false_iff_ne.mpr h
    simp only [List.lookup,hb,if_neg (fun e:g=f=>h (e.trans hk.symm))]
  ·rw [if_neg hk]
   by_cases h:g=k
   ·have hb:(g==k)=true:=beq_iff_eq.mpr h
    simp only [List.lookup,hb,if_neg (fun e:g=f=>hk (h.symm.trans e))]
   ·have hb:(g==k)=false:=beq_eq_false_iff_ne.mpr h
    simp only [List.lookup,hb]
    exact ih
theorem uZ_ (f:Str) (v:V):∀ fs:List (Str×V),f∈(putF f v fs).map (·.1)∧∀ g,g∈fs.map (·.1)→g∈(putF f v fs).map (·.1)
 | []=>⟨by simp [putF],fun g h=>by simp at h⟩
 | (k,x)::r=>by
  obtain ⟨i1,i2⟩:=uZ_ f v r
  rw [show putF f v ((k,x)::r)=(if k=f then (k,v)::r else (k,x)::putF f v r) from rfl]
  by_cases hk:k=f
  ·rw [if_pos hk]
   subst hk
   exact ⟨by simp,fun g h=>by simpa using h⟩
  ·rw [if_neg hk]
   refine ⟨?_,fun g h=>?_⟩
   ·rw [List.map_cons]
    exact List.mem_cons_of_mem _ i1
   ·rw [List.map_cons] at h ⊢
    rcases List.mem_cons.mp h with e|e
    ·exact List.mem_cons.mpr (.inl e)
    ·exact List.mem_cons_of_mem _ (i2 g e)
theorem RelO.some_of {v:V} {o:Option Value} (r:RelO (some v) o):∃ u,o=some u∧RelV v u:=by
 cases o with
 | none=>exact (show False from r).elim
 | some u=>exact ⟨u,rfl,r⟩
theorem Yw_ {v:V} {u:Value} (r:RelV v u):PySem.W.handedIn u=true:=by
 cases v with
 | non=>cases (show u=Value.none from r);rfl
 | bl b=>cases (show u=Value.bool b from r);rfl
 | int i=>obtain ⟨t,e⟩:=(show ∃ t,u=Value.int i t from r);cases e;rfl
 | str x=>obtain ⟨t,e⟩:=(show ∃ t,u=Value.str x t from r);cases e;rfl
 | byt b=>obtain ⟨t,e⟩:=(show ∃ t,u=Value.bytes b t from r);cases e;rfl
 | flt b=>obtain ⟨t,e⟩:=(show ∃ t,u=Value.float b t from r);cases e;rfl
 | ref a=>cases (show u=Value.ref a from r);rfl
 | ty n=>cases (show u=Value.type n from r);rfl
def jX_ (K:PySem.W.Frag) (C:Addr) (f:Str):Prop:=PySem.W.findIn K (.ref C) f=some none
section
variable {X:Cx} {pins:List (Addr×Obj)} {σ:St} {H:Hp} {s:Shared} {a C dx:Addr} {fs:List (Str×V)} {f:Str} {v:V} {A:Around} {E:Value→Shared→Prop}
theorem Wc_ {prog:Program} {w:World} {env:Env} {e:Expr} {f:Str} {pos:Pos} {s:Shared} {Q:Value→Shared→Prop} (hb:attributeBase e f env (eval e env)=eval e env)
  (h:wpAny (model prog w) A (eval e env) (fun o s₁=>wpAny (model prog w) A (getAttr o f true) Q E s₁) E s):wpAny (model prog w) A (eval (.Attribute e f pos) env) Q E s :=
 Attribute_any_ h (by rw [arm_eval_Attribute,hb])
end
end L2
namespace L2
open PySem PySem.Spec PyProof.Rows
structure Room (k:Nat) (A:Around):Prop where
 hd:A.handled=none
 dp:A.depth+3*k+5<recursionLimit
 un:A.units+16*k+1200<cLine
 gd:A.guards=some []
theorem Room.mono {j k:Nat} {A:Around} (r:Room k A) (h:j≤k):Room j A:=⟨r.hd,by have:=r.dp;omega,by have:=r.un;omega,r.gd⟩
theorem Room.deeper {k:Nat} {A:Around} (r:Room (k+1) A) (env:Env):Room k (A.deeper env) :=
 ⟨r.hd,by have:=r.dp;show A.depth+1+3*k+5<_;omega,by have:=r.un;show A.units+3+16*k+1200<_;omega,r.gd⟩
theorem Ur_ {A:Around} {C:Addr} {us:List Value} {kw:List (Str×Value)}:(A.under (.builtin "type.__call__" ⟨.ref C::us,kw⟩)).depth=A.depth+1:=by
 first|rfl|simp [Around.under,Code.weight,Code.isCreation,Code.isGuard,Code.isCaller,Code.frames,Code.isFrame,guardIds]
theorem Uq_ {A:Around} {C:Addr} {us:List Value} {kw:List (Str×Value)}:(A.under (.builtin "type.__call__" ⟨.ref C::us,kw⟩)).units=A.units+1:=by
 first|rfl|simp [Around.under,Code.cUnits,Code.frames,Code.isFrame]
theorem Room.make {k:Nat} {A:Around} (r:Room (k+1) A) (C:Addr) (us:List Value) (kw:List (Str×Value)):Room k (A.under (.builtin "type.__call__" ⟨.ref C::us,kw⟩)) :=
 ⟨r.hd,by have:=r.dp;rw [Ur_];omega,by have:=r.un;rw [Uq_];omega,by first|exact r.gd|simpa [Around.under,Code.isGuard,guardIds] using r.gd⟩
theorem Room.depth {k:Nat} {A:Around} (r:Room k A):A.depth<recursionLimit:=by have:=r.dp;omega
def tNil:TA:=fun _ H Q=>Q [] H
def Qa_ (ta:TE) (tr:TA):TA:=fun σ H Q=>ta σ H fun x H1=>tr σ H1 fun xs H2=>Q (x::xs) H2
section
variable {X:Cx} {e:Expr} {es:List Expr} {te:TE} {t:TA} {pos:Pos}
theorem JJ_:PA X [] tNil:=fun _ _ _ _ H Q I h=>Calls.spliced_nil ⟨[],H,I,.nil,h⟩
theorem j0_ (ha:PE X e te) (hr:PA X es t) (hs:starEach (e::es) X.env=(false,eval e X.env)::starEach es X.env:=by rfl):PA X (e::es) (Qa_ te t):=by
 intro pos pins s σ H Q I h
 rw [hs]
 show wpAny _ _ (spliced ((false,eval e X.env)::backTo pos (starEach es X.env))) _ _ s
 refine Calls.spliced_cons (thn (ha pins s σ H _ I h) fun u s1 ⟨x,H1,I1,r1,q1⟩=>?_)
 exact thn (hr pos pins s1 σ H1 _ I1 q1) fun us s2 ⟨xs,H2,I2,r2,q2⟩=>⟨x::xs,H2,I2,.cons r1 r2,q2⟩
def tTup (t:TA):TE:=fun σ H Q=>t σ H fun xs H1=>xs.length≤sizeLine∧∀ p,H1 p=none→Q (.ref p) (upd H1 p (.tup xs))
def tLst (t:TA):TE:=fun σ H Q=>t σ H fun xs H1=>xs.length≤sizeLine∧∀ p,H1 p=none→Q (.ref p) (upd H1 p (.lst xs))
theorem Q1_ {x1} (h:PA X es t):PE X (.Tuple es x1 pos) (tTup t):=by
 intro pins s σ H Q I hq
 refine wpAny_Tuple_spliced (thn (h pos pins s σ H _ I hq) fun us s1 ⟨xs,H1,I1,r,z,q⟩=>⟨by rw [←r.length];exact z,?_⟩)
 have hf:H1 s1.heap.objs.size=none:=I1.hok.fresh (Nat.le_refl _)
 refine ⟨.ref s1.heap.objs.size,upd H1 s1.heap.objs.size (.tup xs),I1.laid (t':=s1.toks) (fun b u e=>Heap.get?_push_of_some _ e) (Nat.le_refl _) ?_,rfl,q _ hf⟩
 exact ⟨z,us,r,⟨_,Heap.get?_push_size _ rfl,rfl,_,rfl⟩,⟨_,Heap.get?_push_size _ rfl,rfl⟩⟩
theorem WQ_ (h:PA X es t):PE X (.List es pos) (tLst t):=by
 intro pins s σ H Q I hq
 refine wpAny_List_spliced (thn (h pos pins s σ H _ I hq) fun us s1 ⟨xs,H1,I1,r,z,q⟩=>⟨by rw [←r.length];exact z,?_⟩)
 have hf:H1 s1.heap.objs.size=none:=I1.hok.fresh (Nat.le_refl _)
 refine ⟨.ref s1.heap.objs.size,upd H1 s1.heap.objs.size (.lst xs),I1.laid (t':=s1.toks) (fun b u e=>Heap.get?_push_of_some _ e) (Nat.le_refl _) ?_,rfl,q _ hf⟩
 exact ⟨z,us,0,r,Heap.get?_push_size _ rfl⟩
end
abbrev Sp:=List V→Hp→VK→XK→Prop
abbrev CXT:=List Env→Hp→Shared→XK→Value→Shared→Prop
structure Env0 (P:Program) (w:World) (K:PySem.W.Frag) (mg:Str→Option Value) (base:Heap) (A:Around) (outer:List Env) (s:Shared) (H:Hp):Prop where
 frames:A.frames=some outer
 mod:Mod K mg base
 bs:∀ b o,base.get? b=some o→s.heap.get? b=some o∧H b=none
 bsz:base.objs.size≤s.heap.objs.size
 funs:s.heap.FunFrames base outer
 frf:∀ b∈frs outer,H b=none
 hok:HOk P w H s.heap
 bare:AllBare s.gens
def CE (outer:List Env) (P:Program) (w:World) (H:Hp) (s:Shared) (Q:VK) (u:Value) (s':Shared):Prop :=
 ∃ v H',s'.os=s.os∧AllBare s'.gens∧Un (frs outer) [] H H' s.heap s'.heap∧HOk P w H' s'.heap∧RelV v u∧Q v H'
def CR (CX:CXT) (outer:List Env) (P:Program) (w:World) (H:Hp) (s:Shared) (Q:VK) (E:XK) (r:Result) (s':Shared):Prop :=
 match r with
 | .ok (.ret u)=>CE outer P w H s Q u s'
 | .ok _=>False
 | .error e=>CX outer H s E e s'
structure FnOk (P:Program) (w:World) (K:PySem.W.Frag) (mg:Str→Option Value) (base:Heap) (CX:CXT) (k:Nat) (f:Addr) (fd:FuncData) (ps:List Str) (sp:Sp):Prop where
 len:∀ vs H Q E,sp vs H Q E→vs.length=ps.length
 run:∀ (A:Around) (outer:List Env) (s:Shared) (H:Hp) (args:Args) (us:List Value) (vs:List V) (Q:VK) (E:XK),Room k A→Env0 P w K mg base A outer s H→BindsTo s fd args (ps.zip us)→Vals vs us→sp vs H Q E →
  codeAny (model P w) A (.call (.ref f) args) (CR CX outer P w H s Q E) s
theorem Env0.make {P:Program} {w:World} {K:PySem.W.Frag} {mg:Str→Option Value} {base:Heap} {A:Around} {outer:List Env} {s:Shared} {H:Hp} (e:Env0 P w K mg base A outer s H) (C:Addr) (us:List Value) (kw:List (Str×Value)) :
  Env0 P w K mg base (A.under (.builtin "type.__call__" ⟨.ref C::us,kw⟩)) outer s H:=⟨by first|exact e.frames|(simpa [Around.under,Code.envs,Code.isFrame,pushEnvs] using e.frames),e.mod,e.bs,e.bsz,e.funs,e.frf,e.hok,e.bare⟩
section
variable {X:Cx} {pins:List (Addr×Obj)} {σ:St} {H:Hp} {s s':Shared}
theorem Inv.env0 (I:Inv X pins σ H s):Env0 X.prog X.w X.K X.mg X.base X.A X.stack s H :=
 ⟨I.ok.frames,I.ok.mod,I.bs,Nat.le_trans I.ok.bsz I.sz,I.stack,I.stkFree,I.hok,I.bare⟩
theorem Inv.after {Q:VK} {u:Value} (I:Inv X pins σ H s) (h:CE X.stack X.prog X.w H s Q u s'):EP X pins σ Q u s':=by
 obtain ⟨v,H',os,bare,un,hok,r,q⟩:=h
 obtain ⟨hh,g,d,t,os'⟩:=s'
 obtain rfl:os'=s.os:=os
 exact ⟨v,H',I.call (h':=hh) (g':=g) (d':=d) (t':=t) (ch:=[]) un hok bare (fun b z=>absurd z (by simp)),r,q⟩
end
def XN_ (sp:Sp) (dvs:List V) (E:XK) (t:TA):TE:=fun σ H Q=>t σ H fun vs H1=>sp (vs++dvs) H1 Q E
def Binds (K:PySem.W.Frag) (fd:FuncData) (ps:List Str) (ds:List Value):Prop :=
 ∀ (s:Shared) (us:List Value),K.In s.heap→(us++ds).length=ps.length→BindsTo s fd ⟨us,[]⟩ (ps.zip (us++ds))
theorem Binds.all {K:PySem.W.Frag} {fd:FuncData} {ps:List Str} (h:∀ us:List Value,us.length=ps.length→bindArgs fd ⟨us,[]⟩=pure (ps.zip us)):Binds K fd ps []:=fun s us _ hl=>by
 rw [List.append_nil] at hl ⊢
 exact .of_eq (h us hl)
def Y6_ (CX:CXT) (X:Cx) (E:XK):Prop:=∀ (pins:List (Addr×Obj)) (σ:St) (H:Hp) (s:Shared) (e:Value) (s':Shared),Inv X pins σ H s→CX X.stack H s E e s'→X.xe e s'
section
variable {X:Cx} {CX:CXT} {k:Nat} {f C:Addr} {fd:FuncData} {ps:List Str} {sp:Sp} {dvs:List V} {ds:List Value} {E:XK} {x m:Str} {p pos apos:Pos} {e o:Expr} {es:List Expr} {ta:TE} {t:TA}
theorem Wx_ {pins:List (Addr×Obj)} {σ:St} {H:Hp} {s:Shared} {Q:VK} {us:List Value} {vs:List V} (F:FnOk X.prog X.w X.K X.mg X.base CX k f fd ps sp) (hr:Room k X.A) (hb:Binds X.K fd ps ds) (hd:Vals dvs ds) (hx:Y6_ CX X E)
  (I:Inv X pins σ H s) (r:Vals vs us) (h:sp (vs++dvs) H Q E):wpAny (model X.prog X.w) X.A (call (.ref f) us) (EP X pins σ Q) X.xe s:=by
 have r2:Vals (vs++dvs) (us++ds):=r.append hd
 have hl:(us++ds).length=ps.length:=by rw [←r2.length];exact F.len _ _ _ _ h
 refine wpAny_call (codeAny_mono (F.run X.A X.stack s H ⟨us,[]⟩ (us++ds) (vs++dvs) Q E hr I.env0 (hb s us I.kIn hl) r2 h) fun r s' hq=>?_)
 cases r with
 | error e=>exact hx pins σ H s e s' I hq
 | ok fl =>
  cases fl with
  | ret u=>exact I.after hq
  | next=>exact False.elim hq
  | brk=>exact False.elim hq
  | cont=>exact False.elim hq
theorem Z7_ (F:FnOk X.prog X.w X.K X.mg X.base CX k f fd ps sp) (hr:Room k X.A) (hg:Gl X x) (hm:X.mg x=some (.ref f)) (hk:PySem.W.keepIn X.K (.ref f)=true) (hb:Binds X.K fd ps ds) (hd:Vals dvs ds) (hx:Y6_ CX X E)
  (ha:PA X (e::es) t) (hdb:(x==("__debug__" : Str))=false:=by decide) (he:starEach (e::es) X.env=(false,eval e X.env)::starEach es X.env:=by rfl) (hpl:(backTo pos (starEach es X.env)).any (·.1)=false:=by rfl) :
  PE X (.Call (.Name x p) (e::es) [] pos) (XN_ sp dvs E t):=by
 intro pins s σ H Q I h
 refine wpAny_Call_Name_kw (uY_ I hg hm ?_ hdb)
 refine PySem.W.callWith_K (h₀:=X.base) I.ok.mod.kin hk (thn (ha pos pins s σ H _ I h) fun us s1 ⟨vs,H1,I1,r,q⟩=>⟨I1.kIn,?_⟩) he hpl
 exact Wx_ F hr hb hd hx I1 r q
end
structure FnScope (N P:List Str) (sc:Scope):Prop where
 kind:sc.kind=.function
 co:sc.isCoroutine=false
 gen:sc.isGenerator=false
 nd:N.Nodup
 pre:N.take P.length=P
 par:∀ x∈P,sc.names.lookup x=some .local∨sc.names.lookup x=some .cell
 nofree:∀ y∈sc.names,y.2≠.free
theorem ZU_ {kindOf:Str→Option NameKind} {x:Str}:∀ {binds:List (Str×Value)} {m:Str→Option Value},(∀ v,(x,v)∉binds)→bindL kindOf binds m x=m x
 | [],_,_=>rfl
 | (n,v)::r,m,h=>by
  unfold bindL
  rw [ZU_ fun w hw=>h w (List.mem_cons_of_mem _ hw)]
  split
  ·have:x≠n:=by rintro rfl;exact h v List.mem_cons_self
   simp [this]
  ·rfl
theorem ZW_ {kindOf:Str→Option NameKind} {x:Str}:∀ {binds:List (Str×Value)} {m:Str→Option Value},(∀ v,(x,v)∉binds)→bindC kindOf binds m x=m x
 | [],_,_=>rfl
 | (n,v)::r,m,h=>by
  unfold bindC
  rw [ZW_ fun w hw=>h w (List.mem_cons_of_mem _ hw)]
  split
  ·rfl
  ·have:x≠n:=by rintro rfl;exact h v List.mem_cons_self
   simp [this]
theorem ZV_ {kindOf:Str→Option NameKind} {x:Str} {v:Value}:∀ {P:List Str} {vs:List Value} {i:Nat} {m:Str→Option Value},P.Nodup→P[i]? = some x→vs[i]? = some v→kindOf x=some .local →
  bindL kindOf (P.zip vs) m x=some v
 | [],_,_,_,_,h,_,_=>by simp at h
 | _::_,[],_,_,_,_,h,_=>by simp at h
 | p::P,w::vs,0,m,nd,h1,h2,hk=>by
  simp at h1 h2;subst h1;subst h2
  show bindL kindOf ((p,w)::P.zip vs) m p=_
  unfold bindL
  rw [ZU_ fun v hv=>(List.nodup_cons.mp nd).1 (List.of_mem_zip hv).1,if_pos hk]
  simp
 | p::P,w::vs,i+1,m,nd,h1,h2,hk=>by
  show bindL kindOf ((p,w)::P.zip vs) m x=_
  unfold bindL
  exact ZV_ (i:=i) (List.nodup_cons.mp nd).2 (by simpa using h1) (by simpa using h2) hk
theorem ZX_ {kindOf:Str→Option NameKind} {x:Str} {v:Value}:∀ {P:List Str} {vs:List Value} {i:Nat} {m:Str→Option Value},P.Nodup→P[i]? = some x→vs[i]? = some v→kindOf x≠some .local →
  bindC kindOf (P.zip vs) m x=some v
 | [],_,_,_,_,h,_,_=>by simp at h
 | _::_,[],_,_,_,_,h,_=>by simp at h
 | p::P,w::vs,0,m,nd,h1,h2,hk=>by
  simp at h1 h2;subst h1;subst h2
  show bindC kindOf ((p,w)::P.zip vs) m p=_
  unfold bindC
  rw [ZW_ fun v hv=>(List.nodup_cons.mp nd).1 (List.of_mem_zip hv).1,if_neg hk]
  simp
 | p::P,w::vs,i+1,m,nd,h1,h2,hk=>by
  show bindC kindOf ((p,w)::P.zip vs) m x=_
  unfold bindC
  exact ZX_ (i:=i) (List.nodup_cons.mp nd).2 (by simpa using h1) (by simpa using h2) hk
def start (N:List Str) (vs:List V):St:=vs.map some++List.replicate (N.length - vs.length) none
def cxOf (CX:CXT) (P:Program) (w:World) (K:PySem.W.Frag) (mg:Str→Option Value) (base:Heap) (N:List Str) (qual:Str) (scope:Scope) (f:Addr) (cd:Value) (A:Around) (outer:List Env) (s:Shared) (H:Hp) (E:XK):Cx where
 prog:=P
 w:=w
 K:=K
 mg:=mg
 base:=base
 A:=A.deeper (envOfC qual scope s.heap.objs.size f cd)
 N:=N
 s₀:=s
 H₀:=H
 env:=envOfC qual scope s.heap.objs.size f cd
 outer:=outer
 stack:=envOfC qual scope s.heap.objs.size f cd::outer
 ex:=[]
 calm:=true
 fn:=fun _=>true
 pn:=[]
 xe:=fun e s'=>wpAny (model P w) (A.deeper (envOfC qual scope s.heap.objs.size f cd)) (leaving (envOfC qual scope s.heap.objs.size f cd) e) (fun _ s''=>CX outer H s E e s'') (fun e' s''=>CX outer H s E e' s'') s'
theorem JZ_ {sc:Scope} {n:Nat} {x:Str} (h:sc.names.lookup x=some .cell):∃ c,(cellsFrom n sc.names []).lookup x=some c:=by
 have q:=PySem.W.cellsFrom_some sc.names n [] (.inl h)
 exact Option.isSome_iff_exists.mp q
theorem Ys_ {CX:CXT} {P:Program} {w:World} {K:PySem.W.Frag} {mg:Str→Option Value} {base:Heap} {N ps:List Str} {qual:Str} {scope:Scope} {f:Addr} {cd:Value} {A:Around} {outer:List Env} {s s1:Shared} {H:Hp} {E:XK} {us:List Value} {vs:List V}
  (S:FnScope N ps scope) (hd:A.handled=none) (e0:Env0 P w K mg base A outer s H) (hl:vs.length=ps.length) (r:Vals vs us)
  (x:InCallC s s.heap.objs.size (bindL (envOfC qual scope s.heap.objs.size f cd).kindOf (ps.zip us) fun _=>none) (cellsFrom (s.heap.objs.size+1) scope.names []) (bindC (envOfC qual scope s.heap.objs.size f cd).kindOf (ps.zip us) fun _=>none) s1) :
  Inv (cxOf CX P w K mg base N qual scope f cd A outer s H E) [] (start N vs) H s1:=by
 have hpl:ps.length≤N.length:=by have:=congrArg List.length S.pre;rw [List.length_take] at this;omega
 obtain ⟨h1,tk,rfl,hk⟩:=x.done
 have noA:∀ b:Addr,b∉(cxOf CX P w K mg base N qual scope f cd A outer s H E).ex:=fun b z=>absurd (show b∈([]:List Addr) from z) (by simp)
 refine ⟨⟨e0.mod,S.kind,rfl,rfl,Nat.le_refl _,fun y z c h1 h2=>?_,fun y hy=>?_,fun y c _ h=>?_,fun _=>hd,Around.frames_deeper e0.frames,.inr ⟨rfl,rfl⟩,fun b z=>absurd z (noA b),e0.bs,e0.bsz,fun b _ _=>noA b,fun b z=>absurd z (noA b),e0.funs,e0.frf⟩,
  rfl,e0.bare,Un.kept hk,⟨_,x.toInCall.ns,fun i y v h1 h2 h3=>?_⟩,fun y c h=>⟨_,x.cell y c h⟩,e0.hok.fresh (Nat.le_refl _),fun y c h=>?_,fun p hp=>absurd (show p∈([]:List (Addr×Obj)) from hp) (by simp),e0.hok.kept hk,?_⟩
 ·exact name_of_addr x.apart (PySem.mem_of_lookup h1) (PySem.mem_of_lookup h2)
 ·have hy:scope.names.lookup y=some .cell∨scope.names.lookup y=some .free:=hy
  rcases hy with hy|hy
  ·exact JZ_ hy
  ·exact absurd rfl (S.nofree _ (PySem.mem_of_lookup hy))
 ·exact Nat.le_of_lt (x.above y c (PySem.mem_of_lookup h))
 ·have hi:i<vs.length:=by
   unfold start at h2
   by_cases hi:i<vs.length
   ·exact hi
   ·rw [List.getElem?_append_right (by simpa using hi)] at h2
    rw [List.getElem?_replicate] at h2
    split at h2<;>cases h2
  have ha:vs[i]? = some v:=by
   unfold start at h2
   rw [List.getElem?_append_left (by simpa using hi),List.getElem?_map] at h2
   cases e:vs[i]? with
   | none=>rw [e] at h2;cases h2
   | some a=>rw [e] at h2;cases h2;rfl
  obtain ⟨u,hu,rv⟩:=r.get ha
  have hp:ps[i]? = some y:=by
   rw [←S.pre,List.getElem?_take_of_lt (by omega)];exact h1
  have ndP:ps.Nodup:=by rw [←S.pre];exact S.nd.sublist (List.take_sublist _ _)
  refine ⟨u,rv,?_⟩
  rcases S.par y (List.mem_of_getElem? hp) with k|k
  ·exact .inl ⟨k,ZV_ ndP hp hu k⟩
  ·obtain ⟨c,e⟩:=JZ_ (n:=s.heap.objs.size+1) k
   refine .inr ⟨.inl k,c,e,?_⟩
   have q:=x.cell y c e
   rw [ZX_ ndP hp hu (by show scope.names.lookup y≠_;rw [k];decide)] at q
   exact q
 ·exact e0.hok.fresh (Nat.le_of_lt (x.above y c (PySem.mem_of_lookup h)))
 ·unfold start
  show _=N.length
  rw [List.length_append,List.length_map,List.length_replicate]
  omega
theorem zah_ {CX:CXT} {P:Program} {w:World} {K:PySem.W.Frag} {mg:Str→Option Value} {base:Heap} {k:Nat} {f:Addr} {name qual:Str} {params:Arguments} {body:List Stmt} {scope:Scope} {dV kV doc pm cdv ct oc:Value} {an od:Option Addr}
  {osl:Array (Option Value)} {N ps:List Str} {sp:Sp} (lk:K.lookup f=some ⟨oc,od,.func (PySem.W.fnOf name qual params body scope dV kV doc pm an cdv ct),osl⟩) (hcd:PySem.W.codeIn K cdv qual=true) (S:FnScope N ps scope)
  (len:∀ vs H Q E,sp vs H Q E→vs.length=ps.length)
  (hbody:∀ (A:Around) (outer:List Env) (s:Shared) (H:Hp) (vs:List V) (Q:VK) (E:XK),Room k (A.deeper (envOfC qual scope s.heap.objs.size f cdv))→sp vs H Q E →
   ∃ t,PSs (cxOf CX P w K mg base N qual scope f cdv A outer s H E) body t∧t { nx:=fun _ H'=>Q .non H',rt:=Q } (start N vs) H) :
  FnOk P w K mg base CX (k+1) f (PySem.W.fnOf name qual params body scope dV kV doc pm an cdv ct) ps sp:=by
 refine ⟨len,fun A outer s H args us vs Q E hr e0 hb r hsp=>?_⟩
 have hl:=len _ _ _ _ hsp
 have KX:K.In s.heap:=e0.mod.kin.keeps fun b o e=>(e0.bs b o e).1
 have lim:s.heap.NoLimit:=e0.mod.nolimit.keeps fun b o e=>(e0.bs b o e).1
 have hkind:∀ y∈ps.zip us,scope.names.lookup y.1=some .local∨(scope.names.lookup y.1=some .cell∧((cellsFrom (s.heap.objs.size+1) scope.names []).lookup y.1).isSome=true):=fun ⟨n,v⟩ hy=>by
  rcases S.par n (List.of_mem_zip hy).1 with q|q
  ·exact .inl q
  ·exact .inr ⟨q,PySem.W.cellsFrom_some _ _ _ (.inl q)⟩
 refine codeAny_call_function hr.depth (KX _ _ lk) rfl S.co S.gen rfl (PySem.W.codeRec_of KX hcd) (hb _ _ _ _ ?_)
 refine wpAny_newFunctionEnv_cells S.kind hkind fun env he s1 x=>?_
 subst he
 refine ⟨lim.keeps x.toInCall.keep,codeAny_func ?_⟩
 obtain ⟨t,ht,hq⟩:=hbody A outer s H vs Q E (hr.deeper _) hsp
 have I:Inv (cxOf CX P w K mg base N qual scope f cdv A outer s H E) [] (start N vs) H s1:=Ys_ S hr.hd e0 hl r x
 refine wpAny_mono (ht [] s1 (start N vs) H _ I hq) (fun fl s' hs=>?_) fun e s' hs=>hs
 have fin:∀ {σ':St} {H':Hp} {v:V} {u:Value},Inv (cxOf CX P w K mg base N qual scope f cdv A outer s H E) [] σ' H' s'→RelV v u→Q v H'→CE outer P w H s Q u s' :=
  fun {σ' H' v u} J rv q=>⟨v,H',J.os,J.bare,J.base,J.hok,rv,q⟩
 cases fl with
 | ret u =>
  obtain ⟨v,σ',H',J,rv,q⟩:=hs
  exact fin J rv q
 | next =>
  obtain ⟨σ',H',J,q⟩:=hs
  exact fin (v:=V.non) (u:=Value.none) J rfl q
 | brk =>
  obtain ⟨_,_,_,q⟩:=hs
  exact False.elim q
 | cont =>
  obtain ⟨_,_,_,q⟩:=hs
  exact False.elim q
end L2
namespace L2
open PySem PySem.Spec PyProof.Rows
section
variable {X:Cx} {x:Str} {p pos:Pos} {e:Expr} {es:List Expr} {t:TA} {id T:String} {r:List V→Hp→VK→Prop}
def tCB (r:List V→Hp→VK→Prop) (t:TA):TE:=fun σ H Q=>t σ H fun vs H1=>r vs H1 Q
theorem JI_ (hc:CallR X (.builtin id) r) (hg:Gl X x) (hm:X.mg x=none) (hv:bootBuiltins x=some (.builtin id)) (ha:PA X (e::es) t) (hn:x ≠ "__name__":=by decide) (hdb:(x==("__debug__" : Str))=false:=by decide)
  (he:starEach (e::es) X.env=(false,eval e X.env)::starEach es X.env:=by rfl) (hpl:(backTo pos (starEach es X.env)).any (·.1)=false:=by rfl):PE X (.Call (.Name x p) (e::es) [] pos) (tCB r t):=by
 intro pins s σ H Q I h
 refine wpAny_Call_Name_kw (Yl_ I hg hm hv ?_ hn hdb)
 exact PyProof.Rows.callWith_builtin1 (thn (ha pos pins s σ H _ I h) fun us s1 ⟨vs,H1,I1,r1,q1⟩=>hc pins s1 σ H1 vs us Q I1 r1 q1) he hpl
theorem U0_ (hc:CallR X (.type T) r) (hg:Gl X x) (hm:X.mg x=none) (hv:bootBuiltins x=some (.type T)) (ha:PA X (e::es) t) (hn:x ≠ "__name__":=by decide) (hdb:(x==("__debug__" : Str))=false:=by decide)
  (he:starEach (e::es) X.env=(false,eval e X.env)::starEach es X.env:=by rfl) (hpl:(backTo pos (starEach es X.env)).any (·.1)=false:=by rfl):PE X (.Call (.Name x p) (e::es) [] pos) (tCB r t):=by
 intro pins s σ H Q I h
 refine wpAny_Call_Name_kw (Yl_ I hg hm hv ?_ hn hdb)
 exact PyProof.Rows.callWith_type1 (thn (ha pos pins s σ H _ I h) fun us s1 ⟨vs,H1,I1,r1,q1⟩=>hc pins s1 σ H1 vs us Q I1 r1 q1) he hpl
end
end L2
namespace HT
open PySem PyProof.Rows
theorem QC_ (A:Around) (s:Shared) (a:Int) (t:Tok) (c:Int) (u:Tok):∃ e,SeqAt.EqAt A s (.int a t) (.int c u) e∧(e=true↔a=c) :=
 ⟨(a==c),SeqAt.EqAt.int_int a t c u,by simp⟩
section
variable {prog:Program} {w:World} {A:Around} {E:Value→Shared→Prop} {s:Shared}
theorem cat_tup {t b:Addr} {vs ws:List Value} {Q:Value→Shared→Prop} (ht:IsTup s.heap t vs.toArray) (hb:IsTup s.heap b ws.toArray) (hv:vs≠[])
  (h1:ws=[]→Q (.ref t) s) (h2:ws≠[]→Q (.ref s.heap.objs.size) { s with heap:=s.heap.push { cls:=.type "tuple",data:=.seq (vs++ws).toArray } })
  (hsz:vs.length+ws.length≤sizeLine):wpAny (model prog w) A (binaryOp .Add (.ref t) (.ref b)) Q E s:=by
 obtain ⟨⟨cls,dd,data,sl⟩,ho,hc,n,hd⟩:=id ht
 obtain ⟨⟨cls2,dd2,data2,sl2⟩,ho2,hc2,n2,hd2⟩:=id hb
 simp only at hc hd hc2 hd2
 subst hc hd hc2 hd2
 have e:vs.toArray++ws.toArray=(vs++ws).toArray:=by simp
 by_cases hw:ws=[]
 ·exact concat_meets ⟨_,ho,rfl⟩ ⟨_,ho2,rfl⟩ noFill_tuple_add seq_tuple_add PySem.F.slot_tuple_add PySem.F.entry_tuple_add (PySem.F.args_tuple_add_2 _ _)
   (tuple_addW1 t b vs.toArray ws.toArray n n2 dd dd2 sl sl2 (by simpa using hv) (by simp [hw])) ⟨ho,ho2,h1 hw⟩
 ·refine concat_meets ⟨_,ho,rfl⟩ ⟨_,ho2,rfl⟩ noFill_tuple_add seq_tuple_add PySem.F.slot_tuple_add PySem.F.entry_tuple_add (PySem.F.args_tuple_add_2 _ _)
   (tuple_addW2 t b vs.toArray ws.toArray n n2 dd dd2 sl sl2 (by simpa using hv) (by simpa using hw) (by rw [List.size_toArray,List.size_toArray];exact hsz)) ⟨ho,ho2,?_⟩
  rw [e]
  exact h2 hw
def sIx (n d:Nat):Option Int→Nat
 | none=>d
 | some v=>if v<0 then (v+(n:Int)).toNat else min v.toNat n
theorem Ww_ (n d:Nat) (hd:d≤n) (o:Option Int):sIx n d o≤n:=by
 cases o with
 | none=>exact hd
 | some v =>
  show (if v<0 then (v+(n:Int)).toNat else min v.toNat n)≤n
  by_cases hv:v<0
  ·rw [if_pos hv];omega
  ·rw [if_neg hv];exact Nat.min_le_right _ _
theorem YL_ (v:Int) (n d:Nat):(if v<0 then max (v+(n:Int)) 0 else min v (n:Int))=((sIx n d (some v):Nat):Int):=by
 show (if v<0 then max (v+(n:Int)) 0 else min v (n:Int))=(((if v<0 then (v+(n:Int)).toNat else min v.toNat n):Nat):Int)
 by_cases hv:v<0
 ·simp only [if_pos hv];omega
 ·simp only [if_neg hv];omega
theorem UD_ (lo hi:Option Int) (n:Nat):Builtin.Slice.sliceAdjust lo hi 1 (n:Int)=(((sIx n 0 lo:Nat):Int),((sIx n n hi:Nat):Int)):=by
 have h1:¬ ((1:Int)<0):=by omega
 unfold Builtin.Slice.sliceAdjust
 simp only [h1,if_false]
 refine Prod.ext ?_ ?_
 ·cases lo with
  | none=>rfl
  | some v=>exact YL_ v n 0
 ·cases hi with
  | none=>rfl
  | some v=>exact YL_ v n n
theorem Ui_ (i j:Nat):Builtin.Slice.slicePlaces (i:Int) (j:Int) 1=j - i:=by
 unfold Builtin.Slice.slicePlaces
 have h1:(1:Int)>0:=by omega
 simp only [h1,if_true,Int.ediv_one]
 split<;>omega
theorem yu_ {v:Value} {o:Option Int} {Q:Option Int→Shared→Prop} (p:IsPart v o) (h:Q o s):wpAny (model prog w) A (Builtin.Slice.slicePartIndex v) Q E s:=by
 cases p with
 | none=>exact slicePart_none h
 | int i t=>exact slicePart_int h
theorem jx_ {sl:Addr} {vl vu:Value} {lo hi:Option Int} {n:Nat} {Q:Int×Int×Nat→Shared→Prop} (hs:s.heap.IsSliceOf sl vl vu .none) (pl:IsPart vl lo) (pu:IsPart vu hi)
  (h:Q (((sIx n 0 lo:Nat):Int),1,sIx n n hi - sIx n 0 lo) s):wpAny (model prog w) A (Builtin.Slice.sliceApplied (.ref sl) (pure (n:Int))) Q E s:=by
 obtain ⟨os,hos,hcs,hds⟩:=id hs
 unfold Builtin.Slice.sliceApplied Builtin.Slice.sliceFields
 refine wpAny_bind (wpAny_bind (wpAny_field hos hds (x:=vl) rfl (wpAny_bind (wpAny_field hos hds (x:=vu) rfl (wpAny_bind (wpAny_field hos hds (x:=.none) rfl (wpAny_pure ?_)))))))
 refine wpAny_bind (slicePart_none ?_)
 show wpAny _ _ (if ((1:Int)==0)=true then _ else _) _ _ s
 rw [if_neg (by decide)]
 refine wpAny_bind (yu_ pl (wpAny_bind (yu_ pu (wpAny_bind (wpAny_pure ?_)))))
 show wpAny _ _ (match Builtin.Slice.sliceAdjust lo hi 1 (n:Int) with|(lo,hi)=>pure (lo,(1:Int),Builtin.Slice.slicePlaces lo hi 1)) _ _ s
 rw [UD_ lo hi n]
 show wpAny _ _ (pure (((sIx n 0 lo:Nat):Int),(1:Int),Builtin.Slice.slicePlaces ((sIx n 0 lo:Nat):Int) ((sIx n n hi:Nat):Int) 1)) _ _ s
 rw [Ui_]
 exact wpAny_pure h
theorem Qn_ (xs:Array Value) (i k:Nat):((List.range k).filterMap fun (m:Nat)=>xs[((i:Int)+(m:Int)*1).toNat]?).toArray=((xs.toList.drop i).take k).toArray:=by
 have e:(fun (m:Nat)=>xs[((i:Int)+(m:Int)*1).toNat]?)=fun m=>xs[i+m]?:=by
  funext m
  have:((i:Int)+(m:Int)*1).toNat=i+m:=by omega
  rw [this]
 rw [e]
 have:=pick_run xs i k
 rw [List.filterMap_map] at this
 have e2:((fun x=>xs[x]?)∘fun x=>i+x)=fun m=>xs[i+m]?:=rfl
 rw [e2] at this
 rw [this]
theorem getItem_tuple_cut {t sl:Addr} {items:Array Value} {vl vu:Value} {lo hi:Option Int} {Q:Value→Shared→Prop} (ht:IsTup s.heap t items) (hs:s.heap.IsSliceOf sl vl vu .none) (pl:IsPart vl lo) (pu:IsPart vu hi)
  (hw:¬ (sIx items.size 0 lo=0∧sIx items.size items.size hi=items.size))
  (h:Q (.ref s.heap.objs.size) { s with heap:=s.heap.push { cls:=.type "tuple",data:=.seq ((items.toList.drop (sIx items.size 0 lo)).take (sIx items.size items.size hi - sIx items.size 0 lo)).toArray } })
  (hsz:items.size≤sizeLine):wpAny (model prog w) A (getItem (.ref t) (.ref sl)) Q E s:=by
 have htake:sizeOk (.seq ((items.toList.drop (sIx items.size 0 lo)).take (sIx items.size items.size hi - sIx items.size 0 lo)).toArray):=by
  show ((items.toList.drop (sIx items.size 0 lo)).take (sIx items.size items.size hi - sIx items.size 0 lo)).toArray.size≤sizeLine
  rw [List.size_toArray,List.length_take,List.length_drop,Array.length_toList]
  omega
 have hj:sIx items.size items.size hi≤items.size:=Ww_ _ _ (Nat.le_refl _) hi
 obtain ⟨os,hos,hcs,hds⟩:=id hs
 have hTs:s.TypeIs (.ref sl) "slice":=⟨os,hos,hcs⟩
 unfold getItem
 try with_reducible refine wpAny_holding ?_
 first|refine wpAny_bind (wpAny_pure ?_)|skip
 refine wpAny_bind (wpAny_sequenceKey ht.typeIs (by decide) ?_)
 refine wpAny_bind (wpAny_callSpecial?_slot (name:=Str.ofString "__getitem__") ht.typeIs PyProof.Rows.slot_tuple_getitem
  (wpAny_call_entry PyProof.Rows.slot_tuple_getitem ht.typeIs entry_tuple_getitem ?_ (args_tuple_getitem _ _)))
 show wpAny _ _ (Builtin.Tuple.tupleItemsOf (.ref t) >>= _) _ _ s
 refine wpAny_bind (tupleItemsOf_ ht ?_)
 refine wpAny_bind (wpAny_typeOf hTs ?_)
 rw [if_pos (by decide)]
 refine wpAny_bind (jx_ hs pl pu ?_)
 have hno:¬ ((((sIx items.size 0 lo:Nat):Int)==0&&(1:Int)==1&&(sIx items.size items.size hi - sIx items.size 0 lo)==items.size)=true):=by
  intro q
  rw [Bool.and_eq_true,Bool.and_eq_true] at q
  have q1:((sIx items.size 0 lo:Nat):Int)=0:=eq_of_beq q.1.1
  have q2:sIx items.size items.size hi - sIx items.size 0 lo=items.size:=eq_of_beq q.2
  exact hw ⟨by omega,by omega⟩
 show wpAny _ _ (if (((sIx items.size 0 lo:Nat):Int)==0&&(1:Int)==1&&(sIx items.size items.size hi - sIx items.size 0 lo)==items.size)=true then _ else _) _ _ s
 rw [if_neg hno,Qn_]
 first
  | exact wpAny_bind (m:=Builtin.Tuple.tupleExact _) (wpAny_newObj_type (wpAny_pure ⟨_,rfl,wpAny_pure h⟩) htake)
  | exact wpAny_bind (m:=Builtin.Tuple.tupleExact _) (wpAny_newObj_type (wpAny_bind (wpAny_pure (wpAny_pure ⟨_,rfl,wpAny_pure h⟩))) htake)
  | exact wpAny_bind (wpAny_bind (m:=Builtin.Tuple.tupleExact _) (wpAny_newObj_type (wpAny_pure (wpAny_pure ⟨_,rfl,wpAny_pure h⟩)) htake))
  | exact wpAny_bind (wpAny_bind (m:=Builtin.Tuple.tupleExact _) (wpAny_newObj_type (wpAny_pure ⟨_,rfl,wpAny_pure h⟩) htake))
end
end HT
namespace L2
open PySem PySem.Spec PyProof.Rows
abbrev TO:=St→Hp→(Option Int→Hp→Prop)→Prop
def PO (X:Cx) (e:Option Expr) (t:TO):Prop :=
 ∀ (pins:List (Addr×Obj)) (s:Shared) (σ:St) (H:Hp) (Q:Option Int→Hp→Prop),Inv X pins σ H s→t σ H Q →
  wpAny (model X.prog X.w) X.A (evalPart e X.env) (fun u s'=>∃ o H',Inv X pins σ H' s'∧IsPart u o∧Q o H') X.xe s
def Vl_:TO:=fun _ H Q=>Q none H
def XL_ (t:TE):TO:=fun σ H Q=>t σ H fun x H1=>∃ i,x=.int i∧Q (some i) H1
theorem intsAre_of {ns:List Int}:∀ {us:List Value},Vals (ns.map V.int) us→IntsAre us ns:=by
 induction ns with
 | nil=>intro us r;rw [List.map_nil] at r;cases r;exact .nil
 | cons n ns ih =>
  intro us r
  rw [List.map_cons] at r
  cases r with
  | cons r1 r2 =>
   obtain ⟨t,e⟩:=r1
   subst e
   exact .cons n t (ih r2)
section
variable {X:Cx} {e:Expr} {te:TE} {lo hi:Option Expr} {tl th:TO} {pos p2:Pos}
theorem UY_:PO X none Vl_:=by
 intro pins s σ H Q I h
 rw [evalPart_none]
 exact wpAny_pure ⟨none,H,I,.none,h⟩
theorem UX_ (h:PE X e te):PO X (some e) (XL_ te):=by
 intro pins s σ H Q I hw
 rw [evalPart_some]
 refine thn (h pins s σ H _ I hw) fun u s1 ⟨x,H1,I1,r1,q1⟩=>?_
 obtain ⟨i,rfl,q⟩:=q1
 obtain ⟨t,rfl⟩:=r1
 exact ⟨some i,H1,I1,.int i t,q⟩
def SlR (X:Cx) (r:V→Option Int→Option Int→Hp→VK→Prop):Prop :=
 ∀ (pins:List (Addr×Obj)) (s:Shared) (σ:St) (H:Hp) (x:V) (v vl vu:Value) (lo hi:Option Int) (sl:Addr) (Q:VK),Inv X pins σ H s→RelV x v→s.heap.IsSliceOf sl vl vu .none→IsPart vl lo→IsPart vu hi→r x lo hi H Q →
  ∃ T id,typeLookup (.type T) "__getitem__" = pure (some (.builtin id))∧s.TypeIs v T∧wpAny (model X.prog X.w) X.A (getItem v (.ref sl)) (EP X pins σ Q) X.xe s
theorem SlR.or {r r':V→Option Int→Option Int→Hp→VK→Prop} (h:SlR X r) (h':SlR X r'):SlR X (fun x lo hi H Q=>r x lo hi H Q∨r' x lo hi H Q):=by
 intro pins s σ H x v vl vu lo hi sl Q I rx hs pl pu q
 rcases q with q|q
 ·exact h pins s σ H x v vl vu lo hi sl Q I rx hs pl pu q
 ·exact h' pins s σ H x v vl vu lo hi sl Q I rx hs pl pu q
def tSl (r:V→Option Int→Option Int→Hp→VK→Prop) (te:TE) (tl th:TO):TE:=fun σ H Q=>te σ H fun x H1=>tl σ H1 fun l H2=>th σ H2 fun u H3=>r x l u H3 Q
theorem JH_ {r:V→Option Int→Option Int→Hp→VK→Prop} (hr:SlR X r) (he:PE X e te) (hl:PO X lo tl) (hu:PO X hi th):PE X (.Subscript e (.Slice lo hi none p2) pos) (tSl r te tl th):=by
 intro pins s σ H Q I h
 refine Subscript_ (thn (he pins s σ H _ I h) fun v s1 ⟨x,H1,I1,r1,q1⟩=>?_)
 refine wpAny_Slice (thn (hl pins s1 σ H1 _ I1 q1) fun vl s2 ⟨l,H2,I2,pl,q2⟩=>thn (hu pins s2 σ H2 _ I2 q2) fun vu s3 ⟨u,H3,I3,pu,q3⟩=>?_)
 rw [evalPart_none]
 refine wpAny_pure ?_
 have I4:Inv X pins σ H3 { s3 with heap:=s3.heap.push { cls:=.type "slice",data:=.fields #[vl,vu,.none] } }:=I3.kept (t':=s3.toks) fun b ob q=>Heap.get?_push_of_some _ q
 obtain ⟨T,id,hT,ht,hg⟩:=hr pins { s3 with heap:=s3.heap.push { cls:=.type "slice",data:=.fields #[vl,vu,.none] } } σ H3 x v vl vu l u s3.heap.objs.size Q I4 r1 (Heap.IsSliceOf.new ..) pl pu q3
 show wpAny (model X.prog X.w) X.A (subscriptTail e (.Slice lo hi none p2) v (.ref s3.heap.objs.size)) (EP X pins σ Q) X.xe { s3 with heap:=s3.heap.push { cls:=.type "slice",data:=.fields #[vl,vu,.none] } }
 exact tail_any (ops:=[.ref s3.heap.objs.size,v]) ht hT hg (by with_unfolding_all rfl)
def cutV (xs:List V) (lo hi:Option Int):List V:=(xs.drop (HT.sIx xs.length 0 lo)).take (HT.sIx xs.length xs.length hi - HT.sIx xs.length 0 lo)
theorem u8_ (xs:List V) (lo hi:Option Int):(cutV xs lo hi).length≤xs.length:=by
 unfold cutV
 rw [List.length_take,List.length_drop]
 omega
def rSlT (K:PySem.W.Frag):V→Option Int→Option Int→Hp→VK→Prop:=fun x lo hi H Q=>∃ a xs,x=.ref a∧SqT K H a xs ∧
 ¬ (HT.sIx xs.length 0 lo=0∧HT.sIx xs.length xs.length hi=xs.length)∧∀ p,H p=none→Q (.ref p) (upd H p (.tup (cutV xs lo hi)))
theorem sl_tup:SlR X (rSlT X.K):=by
 intro pins s σ H x v vl vu lo hi sl Q I rx hs pl pu h
 obtain ⟨a,xs,rfl,hx,hw,q⟩:=h
 cases rx
 obtain ⟨its,r,ht,hz⟩:=I.tuple hx
 have hlen:its.toArray.size=xs.length:=by rw [List.size_toArray];exact r.length.symm
 refine ⟨"tuple",_,PyProof.Rows.slot_tuple_getitem.lookup,ht.typeIs,?_⟩
 refine HT.getItem_tuple_cut ht hs pl pu (by rw [hlen];exact hw) ?_ (by rw [hlen];exact hz)
 rw [hlen]
 refine ⟨.ref s.heap.objs.size,_,I.laid (t':=s.toks) (o:=.tup (cutV xs lo hi)) (fun b ob q=>Heap.get?_push_of_some _ q) (Nat.le_refl _) ?_,rfl,q _ (I.hok.fresh (Nat.le_refl _))⟩
 exact ⟨Nat.le_trans (u8_ xs lo hi) hz,_,(r.drop (HT.sIx xs.length 0 lo)).take (HT.sIx xs.length xs.length hi - HT.sIx xs.length 0 lo),IsTup.new _ _,TupN.new _ _⟩
def XY_ (K:PySem.W.Frag):R2:=fun x y H Q=>∃ a b xs ys,x=.ref a∧y=.ref b∧SqT K H a xs∧SqT K H b ys∧xs≠[]∧xs.length+ys.length≤sizeLine ∧
 (ys=[]→Q (.ref a) H)∧(ys≠[]→∀ p,H p=none→Q (.ref p) (upd H p (.tup (xs++ys))))
theorem Vals.nil_iff {xs:List V} {us:List Value} (r:Vals xs us):us=[]↔xs=[]:=by
 cases r with
 | nil=>simp
 | cons _ _=>simp
theorem VK_:OpR X (binaryOp .Add) (XY_ X.K):=by
 intro pins s σ H x y v u Q I rx ry h
 obtain ⟨a,b,xs,ys,rfl,rfl,ha,hb,hx,hz,q1,q2⟩:=h
 cases rx
 cases ry
 obtain ⟨its,r1,p1,_⟩:=I.tuple ha
 obtain ⟨its2,r2,p2,_⟩:=I.tuple hb
 refine HT.cat_tup p1 p2 (fun z=>hx (r1.nil_iff.mp z)) (fun z=>⟨.ref a,H,I,rfl,q1 (r2.nil_iff.mp z)⟩) (fun z=>?_) (by rw [←r1.length,←r2.length];exact hz)
 refine ⟨.ref s.heap.objs.size,_,I.laid (t':=s.toks) (o:=.tup (xs++ys)) (fun b ob q=>Heap.get?_push_of_some _ q) (Nat.le_refl _) ?_,rfl,q2 (fun w=>z (r2.nil_iff.mpr w)) _ (I.hok.fresh (Nat.le_refl _))⟩
 exact ⟨by rw [List.length_append];exact hz,_,r1.append r2,IsTup.new _ _,TupN.new _ _⟩
end
end L2
namespace L2
open PySem PySem.Spec PyProof.Rows
def ixN (n:Nat) (i:Int):Option Nat:=if 0≤i then (if i<n then some i.toNat else none) else if -(n:Int)≤i then some (i+n).toNat else none
def atI {α:Type} (xs:List α) (i:Int):Option α:=(ixN xs.length i).bind fun j=>xs[j]?
theorem Yr_ {n:Nat} {i:Int} {j:Nat} (h:ixN n i=some j):seqIndex? i n=some j∧j<n ∧ -(n:Int)≤i∧i<n:=by
 unfold ixN at h
 by_cases h0:0≤i
 ·rw [if_pos h0] at h
  by_cases h1:i<n
  ·rw [if_pos h1] at h
   have e:i.toNat=j:=Option.some.inj h
   exact ⟨by rw [seqIndex_of h0 h1,e],by omega,by omega,h1⟩
  ·rw [if_neg h1] at h;cases h
 ·rw [if_neg h0] at h
  by_cases h1 : -(n:Int)≤i
  ·rw [if_pos h1] at h
   have e:(i+n).toNat=j:=Option.some.inj h
   exact ⟨by rw [seqIndex_neg (by omega) h1,e],by omega,h1,by omega⟩
  ·rw [if_neg h1] at h;cases h
theorem Js_ {α:Type} {xs:List α} {i:Int} {v:α} (h:atI xs i=some v):∃ j,seqIndex? i xs.length=some j∧xs[j]? = some v∧j<xs.length ∧ -(xs.length:Int)≤i∧i<xs.length:=by
 unfold atI at h
 cases e:ixN xs.length i with
 | none=>rw [e] at h;cases h
 | some j =>
  rw [e] at h
  obtain ⟨h1,h2,h3,h4⟩:=Yr_ e
  exact ⟨j,h1,h,h2,h3,h4⟩
def Jv_ (b:Expr):Prop:=∀ o i,subscripted b false o i=operate [o,i] (getItem o i)
def IxR (X:Cx) (r:R2):Prop :=
 ∀ (value slice:Expr) (pins:List (Addr×Obj)) (s:Shared) (σ:St) (H:Hp) (x y:V) (v u:Value) (Q:VK),Inv X pins σ H s→RelV x v→RelV y u→r x y H Q →
  subscripted slice false v u=operate [v,u] (getItem v u)→wpAny (model X.prog X.w) X.A (subscriptTail value slice v u) (EP X pins σ Q) X.xe s
def MtR (X:Cx) (id:String) (r:V→List V→Hp→VK→Prop):Prop :=
 ∀ (pins:List (Addr×Obj)) (s:Shared) (σ:St) (H:Hp) (x:V) (xs:List V) (v:Value) (us:List Value) (Q:VK),Inv X pins σ H s→RelV x v→Vals xs us→r x xs H Q →
  wpAny (model X.prog X.w) X.A (call (.builtin id) (v::us)) (EP X pins σ Q) X.xe s
section
variable {X:Cx} {a b:Expr} {ta tb:TE} {pos:Pos}
theorem IxR.or {r r':R2} (h:IxR X r) (h':IxR X r'):IxR X (fun x y H Q=>r x y H Q∨r' x y H Q):=by
 intro value slice pins s σ H x y v u Q I rx ry q hs
 rcases q with q|q
 ·exact h value slice pins s σ H x y v u Q I rx ry q hs
 ·exact h' value slice pins s σ H x y v u Q I rx ry q hs
theorem WR_ {r:R2} (hr:IxR X r) (ha:PE X a ta) (hb:PE X b tb) (hs:Jv_ b):PE X (.Subscript a b pos) (tOp r ta tb):=by
 intro pins s σ H Q I h
 exact Subscript_ (binT ha hb I h fun v u s2 x y H2 I2 rx ry q=>hr a b pins s2 σ H2 x y v u Q I2 rx ry q (hs _ _))
def rIxL (K:PySem.W.Frag):R2:=fun x y H Q=>∃ p xs i v,x=.ref p∧y=.int i∧SqL K H p xs∧atI xs i=some v∧Q v H
def rIxT (K:PySem.W.Frag):R2:=fun x y H Q=>∃ p xs i v,x=.ref p∧y=.int i∧SqT K H p xs∧atI xs i=some v∧Q v H
def rIxS:R2:=fun x y H Q=>∃ z i c,x=.str z∧y=.int i∧z.length≤sizeLine∧atI z.cps.toList i=some c∧Q (.str ⟨#[c]⟩) H
theorem ix_list:IxR X (rIxL X.K):=by
 intro value slice pins s σ H x y v u Q I rx ry h hs
 obtain ⟨p,xs,i,z,rfl,rfl,hq,he,q⟩:=h
 cases rx
 obtain ⟨t,rfl⟩:=ry
 obtain ⟨its,r,pl,hz⟩:=I.list hq
 obtain ⟨j,h1,h2,h3,h4,h5⟩:=Js_ he
 obtain ⟨w,ew,rw'⟩:=r.get h2
 have hl:=r.length
 have hn:=uX_
 have fin:EP X pins σ Q w s:=⟨z,H,I,rw',q⟩
 by_cases h0:0≤i
 ·have hj:i.toNat=j:=by
   rw [seqIndex_of h0 h5] at h1
   exact Option.some.inj h1
  exact item_listR pl.isList h0 (by omega) (by rw [hj];simpa using ew) fin hs
 ·have hj:(i+(its.toArray.size:Int)).toNat=j:=by
   rw [seqIndex_neg (by omega) h4] at h1
   rw [List.size_toArray,←hl]
   exact Option.some.inj h1
  exact subscriptTail_builtinR (x:=w) pl.isList.typeIs slot_list_getitem.lookup
   (wpAny_getItem_list_neg (Q:=fun r s'=>r=w∧EP X pins σ Q r s') pl.isList (by omega) (by rw [List.size_toArray]<;>omega) (by omega) (by rw [hj];simpa using ew) ⟨rfl,fin⟩) hs
theorem ix_tup:IxR X (rIxT X.K):=by
 intro value slice pins s σ H x y v u Q I rx ry h hs
 obtain ⟨p,xs,i,z,rfl,rfl,hq,he,q⟩:=h
 cases rx
 obtain ⟨t,rfl⟩:=ry
 obtain ⟨its,r,pl,hz⟩:=I.tuple hq
 obtain ⟨j,h1,h2,h3,h4,h5⟩:=Js_ he
 obtain ⟨w,ew,rw'⟩:=r.get h2
 have hl:=r.length
 have hn:=uX_
 have fin:EP X pins σ Q w s:=⟨z,H,I,rw',q⟩
 exact subscriptTail_builtinR (x:=w) pl.typeIs slot_tuple_getitem.lookup
  (getItem_tuple (j:=j) (Q:=fun r s'=>r=w∧EP X pins σ Q r s') pl (by omega) (by omega) (by rw [List.size_toArray,←hl];exact h1) (by simpa using ew) ⟨rfl,fin⟩) hs
theorem Xl_:IxR X rIxS:=by
 intro value slice pins s σ H x y v u Q I rx ry h hs
 obtain ⟨z,i,c,rfl,rfl,hz,he,q⟩:=h
 obtain ⟨t,rfl⟩:=rx
 obtain ⟨t',rfl⟩:=ry
 obtain ⟨j,h1,h2,h3,h4,h5⟩:=Js_ he
 have hl:z.cps.toList.length=z.length:=by simp [Str.length]
 rw [hl] at h1 h4 h5
 have hn:=uX_
 exact tail_any (typeIs_str s z t) slot_str_getitem.lookup (getItem_str (c:=c) (by
  have e1:decide (i < -(2^63:Int))=false:=decide_eq_false (by omega)
  have e2:decide (i≥2^63)=false:=decide_eq_false (by omega)
  rw [e1,e2,Bool.or_false]) (by rw [h1];simpa using h2) ⟨.str ⟨#[c]⟩,H,I.tok _,⟨_,rfl⟩,q⟩) hs
def rIx (K:PySem.W.Frag):R2:=fun x y H Q=>rIxL K x y H Q∨rIxT K x y H Q∨rIxS x y H Q
theorem Xm_:IxR X (rIx X.K):=ix_list.or (ix_tup.or Xl_)
theorem Up_ (its:List Value) (n j:Nat) (u:Value):Obj.mapSeq (·.setIfInBounds j u) { cls:=.type "list",data:=.seq its.toArray n }={ cls:=.type "list",data:=.seq (its.set j u).toArray n }:=by
 simp [Obj.mapSeq]
theorem Inv.lst {pins:List (Addr×Obj)} {σ:St} {H:Hp} {s:Shared} {p:Addr} {xs:List V} (I:Inv X pins σ H s) (h:H p=some (.lst xs)) :
  ∃ (its:List Value) (n:Nat),Vals xs its∧s.heap.get? p=some { cls:=.type "list",data:=.seq its.toArray n }∧xs.length≤sizeLine:=by
 obtain ⟨z,its,n,r,e⟩:=I.hok p _ h
 exact ⟨its,n,r,e,z⟩
theorem Inv.lstUpd {pins:List (Addr×Obj)} {σ:St} {H:Hp} {s:Shared} {p:Addr} {xs ys:List V} {its its':List Value} {n n':Nat} {f:Obj→Obj} (I:Inv X pins σ H s) (h:H p=some (.lst xs))
  (ho:s.heap.get? p=some { cls:=.type "list",data:=.seq its.toArray n }) (hf:f { cls:=.type "list",data:=.seq its.toArray n }={ cls:=.type "list",data:=.seq its'.toArray n' }) (r:Vals ys its') (hz:ys.length≤sizeLine) (t:Nat) :
  Inv X pins σ (upd H p (.lst ys)) { s with heap:=s.heap.update p f,toks:=t }:=by
 have e:(s.heap.update p f).get? p=some { cls:=.type "list",data:=.seq its'.toArray n' }:=by
  rw [Heap.get?_update_self f ho (by rw [hf]<;>rfl),hf]
 refine I.write (x:=p) (e:=p) (by rw [h];trivial) (.inl rfl) (fun b u hb q=>(Heap.get?_update_other _ _ (Ne.symm hb)).trans q) ⟨_,e⟩ ?_
 exact ⟨hz,its',n',r,e⟩
def XX_:V→V→V→Hp→(Hp→Prop)→Prop:=fun o i v H Q=>∃ p xs k j,o=.ref p∧i=.int k∧H p=some (.lst xs)∧ixN xs.length k=some j∧Q (upd H p (.lst (xs.set j v)))
theorem set_list:PSet X XX_:=by
 intro pins s σ H o i v ov iv u Q I ro ri rv h
 obtain ⟨p,xs,k,j,rfl,rfl,hp,hj,q⟩:=h
 cases ro
 obtain ⟨t,rfl⟩:=ri
 obtain ⟨its,n,r,ho,hz⟩:=I.lst hp
 obtain ⟨h1,h2,h3,h4⟩:=Yr_ hj
 have hl:=r.length
 have hn:=uX_
 have I':Inv X pins σ (upd H p (.lst (xs.set j v))) { s with heap:=s.heap.update p (Obj.mapSeq (·.setIfInBounds j u)) } :=
  I.lstUpd hp ho (Up_ its n j u) (r.set rv j) (by rw [List.length_set];exact hz) s.toks
 by_cases h0:0≤k
 ·have hk:k.toNat=j:=by
   rw [seqIndex_of h0 h4] at h1
   exact Option.some.inj h1
  exact PySem.W.ki_setAt ho h0 (by omega) (by rw [List.size_toArray,←hl];exact h4) (by rw [hk];exact ⟨_,I',q⟩)
 ·have hk:(k+(its.toArray.size:Int)).toNat=j:=by
   rw [seqIndex_neg (by omega) h3] at h1
   rw [List.size_toArray,←hl]
   exact Option.some.inj h1
  exact PySem.W.ki_setBack ho (by omega) (by rw [List.size_toArray,←hl];exact h3) (by omega) (by rw [hk];exact ⟨_,I',q⟩)
theorem y9_ (lo hi:Option Int) (n:Nat):(sliceBounds lo hi none n).1=((HT.sIx n 0 lo:Nat):Int)∧(sliceBounds lo hi none n).2.1=((HT.sIx n n hi:Nat):Int)∧(sliceBounds lo hi none n).2.2=1:=by
 refine ⟨?_,?_,rfl⟩
 ·cases lo with
  | none=>simp [sliceBounds,HT.sIx]
  | some i =>
   simp only [sliceBounds,HT.sIx,Option.getD_none,show (1:Int)>0 by decide,if_true]
   by_cases h:i<0
   ·simp only [h,if_true]<;>omega
   ·simp only [h,if_false]<;>omega
 ·cases hi with
  | none=>simp [sliceBounds,HT.sIx]
  | some i =>
   simp only [sliceBounds,HT.sIx,Option.getD_none,show (1:Int)>0 by decide,if_true]
   by_cases h:i<0
   ·simp only [h,if_true]<;>omega
   ·simp only [h,if_false]<;>omega
theorem yQ_ (its:List Value) (lo hi:Option Int):slicePick its.toArray lo hi none=((its.drop (HT.sIx its.length 0 lo)).take (HT.sIx its.length its.length hi - HT.sIx its.length 0 lo)).toArray:=by
 obtain ⟨h1,h2,h3⟩:=y9_ lo hi its.toArray.size
 unfold slicePick
 rw [h1,h2,h3]
 simp only [sliceRange_one,pick_run,List.size_toArray]<;>rfl
def rSlL (K:PySem.W.Frag):V→Option Int→Option Int→Hp→VK→Prop:=fun x lo hi H Q=>∃ a xs,x=.ref a∧SqL K H a xs∧∀ p,H p=none→Q (.ref p) (upd H p (.lst (cutV xs lo hi)))
theorem Vn_:SlR X (rSlL X.K):=by
 intro pins s σ H x v vl vu lo hi sl Q I rx hs pl pu h
 obtain ⟨a,xs,rfl,hx,q⟩:=h
 cases rx
 obtain ⟨its,r,ht,hz⟩:=I.list hx
 have hlen:=r.length
 refine ⟨"list",_,slot_list_getitem.lookup,ht.isList.typeIs,?_⟩
 refine wpAny_getItem_list_slice ht.isList hs pl pu .none (by simp) ?_ (by rw [List.size_toArray]<;>omega)
 rw [yQ_,←hlen]
 refine ⟨.ref s.heap.objs.size,_,I.laid (t':=s.toks) (o:=.lst (cutV xs lo hi)) (fun b ob q=>Heap.get?_push_of_some _ q) (Nat.le_refl _) ?_,rfl,q _ (I.hok.fresh (Nat.le_refl _))⟩
 exact ⟨Nat.le_trans (u8_ xs lo hi) hz,_,0,(r.drop (HT.sIx xs.length 0 lo)).take (HT.sIx xs.length xs.length hi - HT.sIx xs.length 0 lo),Heap.get?_push_size _ rfl⟩
theorem ZT_:CallR X (.builtin "len") (fun xs H Q=>∃ p ys,xs=[.ref p]∧(SqL X.K H p ys∨SqT X.K H p ys)∧Q (.int ys.length) H):=by
 intro pins s σ H xs us Q I r h
 obtain ⟨p,ys,rfl,hq,q⟩:=h
 obtain ⟨u,rfl,rx⟩:=vals1 r
 cases rx
 have hn:=uX_
 rcases hq with hq|hq
 ·obtain ⟨its,r',pl,hz⟩:=I.list hq
  have hlen:=r'.length
  exact Calls.call_len_list pl.isList (by simp only [List.size_toArray]<;>omega) ⟨.int ys.length,H,I.tok _,⟨s.toks+1,by rw [List.size_toArray,hlen]⟩,q⟩
 ·obtain ⟨its,r',pl,hz⟩:=I.tuple hq
  have hlen:=r'.length
  exact len_tuple pl (by simp only [List.size_toArray]<;>omega) ⟨.int ys.length,H,I.tok _,⟨s.toks+1,by rw [List.size_toArray,hlen]⟩,q⟩
theorem ZS_:CallR X (.builtin "len") (fun xs H Q=>∃ z,xs=[.str z]∧z.length≤sizeLine∧Q (.int z.length) H):=by
 intro pins s σ H xs us Q I r h
 obtain ⟨z,rfl,hz,q⟩:=h
 obtain ⟨u,rfl,t,rfl⟩:=vals1 r
 have hn:=uX_
 exact len_str (by omega) ⟨.int z.length,H,I.tok _,⟨_,rfl⟩,q⟩
theorem CallR.or {f:Value} {r r':List V→Hp→VK→Prop} (h:CallR X f r) (h':CallR X f r'):CallR X f (fun xs H Q=>r xs H Q∨r' xs H Q):=by
 intro pins s σ H xs us Q I rs q
 rcases q with q|q
 ·exact h pins s σ H xs us Q I rs q
 ·exact h' pins s σ H xs us Q I rs q
theorem jt_:CallR X (.type "tuple") (fun xs H Q=>∃ p ys,xs=[.ref p]∧((SqL X.K H p ys∧∀ l,H l=none→Q (.ref l) (upd H l (.tup ys)))∨(SqT X.K H p ys∧Q (.ref p) H))):=by
 intro pins s σ H xs us Q I r h
 obtain ⟨p,ys,rfl,h⟩:=h
 obtain ⟨u,rfl,rx⟩:=vals1 r
 cases rx
 rcases h with ⟨hq,q⟩|⟨hq,q⟩
 ·obtain ⟨its,r',pl,hz⟩:=I.list hq
  have hlen:=r'.length
  refine call_tuple_list pl.isList (fun h' kp=>?_) (by simp only [List.size_toArray]<;>omega)
  have I1:Inv X pins σ H { s with heap:=h' }:=I.kept (t':=s.toks) kp
  have I2:Inv X pins σ (upd H h'.objs.size (.tup ys)) { s with heap:=h'.push { cls:=.type "tuple",data:=.seq its.toArray } } :=
   I1.laid (t':=s.toks) (fun b o e=>Heap.get?_push_of_some _ e) (Nat.le_refl _) (show ObjOk X.prog X.w _ _ _ (.tup ys) from ⟨hz,its,r',IsTup.new _ _,TupN.new _ _⟩)
  exact ⟨.ref h'.objs.size,_,I2,rfl,q _ (I1.hok.fresh (Nat.le_refl _))⟩
 ·obtain ⟨its,r',pl,hz⟩:=I.tuple hq
  exact call_tuple_same pl ⟨.ref p,H,I,rfl,q⟩
def tyV (K:PySem.W.Frag) (T:String) (x:V) (H:Hp):Prop:=match x with
 | .str _=>T = "str"
 | .int _=>T = "int"
 | .ref p=>(T = "list" ∧ ∃ xs,SqL K H p xs)∨(T = "tuple" ∧ ∃ o,K.lookup p=some o∧o.cls=.type "tuple" ∧ o.dict=none) ∨
   (T = "dict" ∧ ((∃ kvs,H p=some (.dK kvs))∨∃ kvs,H p=some (.dT kvs)))∨(T = "set" ∧ ∃ S n,H p=some (.set S n))
 | _=>False
theorem Wo_ {pins:List (Addr×Obj)} {σ:St} {H:Hp} {s:Shared} {T:String} {x:V} {v:Value} (I:Inv X pins σ H s) (r:RelV x v) (ty:tyV X.K T x H) :
  s.TypeIs v T∧∀ a,v=.ref a→∃ ob,s.heap.get? a=some ob∧ob.dict=none:=by
 cases x with
 | str z =>
  obtain ⟨t,rfl⟩:=r
  cases (show T = "str" from ty)
  exact ⟨typeIs_str s z t,fun _ e=>nomatch e⟩
 | int i =>
  obtain ⟨t,rfl⟩:=r
  cases (show T = "int" from ty)
  exact ⟨typeIs_int s i t,fun _ e=>nomatch e⟩
 | ref p =>
  cases r
  rcases ty with ⟨rfl,xs,hq⟩|⟨rfl,o,hk,hc,hd⟩|⟨rfl,hk⟩|⟨rfl,S,n,hk⟩
  ·obtain ⟨its,_,pl,_⟩:=I.list hq
   refine ⟨pl.isList.typeIs,fun a e=>?_⟩
   cases e
   obtain ⟨o,n,e,c,hd,_⟩:=pl
   exact ⟨o,e,hd⟩
  ·refine ⟨⟨o,I.kIn p o hk,hc⟩,fun a e=>?_⟩
   cases e
   exact ⟨o,I.kIn _ o hk,hd⟩
  ·have z:∃ o,s.heap.get? p=some o∧o.ExactDict:=by
    rcases hk with ⟨kvs,hk⟩|⟨kvs,hk⟩
    ·obtain ⟨_,_,_,_,o,_,_,e,ex,_⟩:=I.hok p _ hk
     exact ⟨o,e,ex⟩
    ·obtain ⟨_,_,_,_,o,_,_,e,ex,_⟩:=I.hok p _ hk
     exact ⟨o,e,ex⟩
   obtain ⟨o,e,ex⟩:=z
   refine ⟨⟨o,e,ex.1⟩,fun a e2=>?_⟩
   cases e2
   exact ⟨o,e,ex.2.1⟩
  ·obtain ⟨o,_,_,_,e,ex,_⟩:=I.hok p _ hk
   refine ⟨⟨o,e,ex.1⟩,fun a e2=>?_⟩
   cases e2
   exact ⟨o,e,ex.2.1⟩
 | _=>exact False.elim ty
variable {o e:Expr} {es:List Expr} {to:TE} {t:TA} {name:Str} {apos cpos:Pos} {T id:String} {r:V→List V→Hp→VK→Prop}
end
end L2
namespace L2
open PySem PySem.Spec PyProof.Rows
theorem Vals.one:∀ {x:V} {us:List Value},Vals [x] us→∃ u,us=[u]∧RelV x u
 | _,_,.cons r .nil=>⟨_,rfl,r⟩
end L2
namespace Att
open PySem PySem.W PySem.Calls PyProof.Rows
theorem u3_ {P:Params} {h:Heap}:∀ (ns:List Int) (vs:List Value),WellAll P h vs (ns.map WData.int)→IntsAre vs ns:=by
 intro ns
 induction ns with
 | nil =>
  intro vs w
  rw [List.map_nil] at w
  cases w
  exact .nil
 | cons n ns ih =>
  intro vs w
  rw [List.map_cons] at w
  cases w with
  | cons a b =>
   cases a
   exact .cons _ _ (ih _ b)
theorem UP_ {l:OpenLaw} {n:Nat} (hn:l.most=some n) {P:Params} {h:Heap} {args:List WData} {vals:List Value}
  (hpre:l.row.toRowW.claim.pre args=true) (hwl:WellAll P h vals args) :
  ∃ a vs ns,vals=[Value.ref a]∧args=[WData.list (ns.map WData.int)]∧h.get? a=some { cls:=.type "list",data:=.seq vs.toArray }∧IntsAre vs ns∧ns.length≤n:=by
 have hsh:WShape.hasAll [] args [.list .int]=true:=(pre_splitW hpre).1
 have hc:l.pre.holds [] { args:=args }=true:=(pre_splitW hpre).2
 obtain ⟨d,r,rfl,h1,h2⟩:=hasAllW_cons hsh
 obtain rfl:=hasAllW_nil h2
 obtain ⟨xs,rfl,h3⟩:=hasW_list h1
 obtain ⟨ns,rfl⟩:=items_int h3
 have hlen:ns.length≤n:=by
  unfold OpenLaw.pre at hc
  have h4:(WTm.not (.lt (.lit (.int (n:Int))) (.len (.arg 0)))).holds [] { args:=[.list (ns.map .int)] }=true:=by
   have h4:=(holds_andW hc).1
   rw [hn] at h4
   exact h4
  have h5:=condW_of h4 (w_not (w_lt w_lit (w_len_list (w_arg rfl))))
  rw [List.length_map] at h5
  refine Nat.le_of_not_lt fun q=>?_
  have q':(n:Int)<((ns.length:Nat):Int):=by omega
  first
   | (rw [decide_eq_true q'] at h5;exact absurd h5 (by decide))
   | (simp at h5;omega)
 cases hwl with
 | cons w1 w2 =>
  cases w2
  cases w1 with
  | list ho hall=>exact ⟨_,_,ns,rfl,rfl,ho,u3_ ns _ hall,hlen⟩
theorem UW_ (l:OpenLaw) (args:List WData):l.row.toRowW.claim.post args (.bool true) args=true :=
 postW_of (r:=l.row.toRowW) (X:=(true==true))
  (show WShape.has [] (.bool true) .bool=true by first|rfl|decide|simp [WShape.has,WShape.arms,WShape.armsAll])
  (show (WTm.eq .res (.lit (.bool true))).value [] { args:=args,res:=some (.bool true),after:=args }=some (.bool (true==true)) from w_eq_bool (w_res rfl) w_lit) rfl
theorem attach_call {l:OpenLaw} {n:Nat} {q:Program} {loose:List Str} {XP:(Str→Option Value)→Heap→Prop} {YP:World→Heap→Prop} {d:DefRec}
  (hn:l.most=some n) (hdf:d.params.defaults=[])
  (call:∀ (w:World) (s₀ s₁:Shared) (mg mb:Str→Option Value) (fa:Addr) (o:Obj) (pm cd doc:Value) (a:Addr) (vs:List Value) (ns:List Int),
   Ground q loose [] XP w s₀ mg mb s₁.heap→YP w s₁.heap →
   s₁.heap.get? fa=some o→o.data=.func (docDef d.name d.params d.body d.scope pm cd doc)→s₁.heap.CodeRec cd d.name→mg d.name=some (.ref fa) →
   s₁.heap.get? a=some { cls:=.type "list",data:=.seq vs.toArray }→IntsAre vs ns→ns.length≤n→s₁.gens = #[] →
   codeAny (model l.prog w) callerA (.call (.ref fa) ⟨[.ref a],[]⟩) (fun r s'=>r=.ok (.ret (.bool true))∧OldK s₁.heap s'.heap∧s'.os=s₁.os∧AllBare s'.gens) s₁) :
  WalkO q loose XP YP l.row.toRowW d [] (fun f vs=>PySem.call f vs):=by
 intro w s₀ s₁ mg mb G Y fa o pm cd doc dV kV ho hd hcd hD hmg hg args vals as hpre hlay hrd hwl hlo
 obtain rfl:dV=.none:=Dflts.none hD hdf
 obtain rfl:kV=.none:=Dflts.noKw hD
 obtain ⟨a,vs,ns,rfl,rfl,hobj,hints,hlen⟩:=UP_ hn hpre hwl
 refine enter_call (codeAny_mono (call w s₀ s₁ mg mb fa o pm cd doc a vs ns G Y ho (fd_plain hd) hcd hmg hobj hints hlen hg) fun r s' hq=>?_)
 obtain ⟨rfl,h2,h3,h4⟩:=hq
 exact ⟨.inl ⟨.bool true,.bool true,[],rfl,fun _=>rfl,.bool true,UW_ l _,fun _=>⟨List.Pairwise.nil,fun _ hm=>(nomatch hm)⟩⟩,h2,h3,h4⟩
end Att
namespace L2
open PySem PySem.Spec PyProof.Rows
theorem y6_:∀ {vs:List Value} {ns:List Int},IntsAre vs ns→Vals (ns.map V.int) vs
 | _,_,.nil=>.nil
 | _,_,.cons n t h=>.cons ⟨t,rfl⟩ (y6_ h)
def Only (H:Hp):Prop:=∀ b,H b=none∨∃ o xs,H b=some (.frz o (.lst xs))
theorem Qt_ {P:Program} {w:World} {K:PySem.W.Frag} {mg mb:Str→Option Value} {CX:CXT} {k:Nat} {fa a:Addr} {fd:FuncData} {x:Str} {sp:Sp} {s₁:Shared} {vs:List Value} {ns:List Int}
  (KX:K.In s₁.heap) (hns:s₁.heap.Ns mainGlobals mg) (hb:s₁.heap.Ns builtinsNs mb) (hbb:∀ x:Str,x ≠ "__name__" → mb x=bootBuiltins x) (hlim:s₁.heap.NoLimit) (hg:s₁.gens = #[])
  (ha:s₁.heap.get? a=some { cls:=.type "list",data:=.seq vs.toArray }) (hi:IntsAre vs ns) (hl:ns.length≤sizeLine) (hr:Room k callerA)
  (F:∀ base:Heap,K.In base→base.Ns mainGlobals mg→FnOk P w K mg base CX k fa fd [x] sp) (hbind:∀ (s:Shared) (u:Value),BindsTo s fd ⟨[u],[]⟩ [(x,u)])
  (hsp:∀ H:Hp,Only H→SqL K H a (ns.map V.int)→sp [.ref a] H (fun v _=>v=.bl true) fun _ _ _=>False)
  (hCX:∀ H e s',CX [] H s₁ (fun _ _ _=>False) e s'→False) :
  codeAny (model P w) callerA (.call (.ref fa) ⟨[.ref a],[]⟩) (fun r s'=>r=.ok (.ret (.bool true))∧OldK s₁.heap s'.heap∧s'.os=s₁.os∧AllBare s'.gens) s₁:=by
 have rv:=y6_ hi
 have lenV:=hi.length
 have core:∀ H:Hp,Only H→SqL K H a (ns.map V.int)→HOk P w H s₁.heap→(∀ b,H b≠none→b=a)→(H a≠none→K.lookup a=none) →
   codeAny (model P w) callerA (.call (.ref fa) ⟨[.ref a],[]⟩) (fun r s'=>r=.ok (.ret (.bool true))∧OldK s₁.heap s'.heap∧s'.os=s₁.os∧AllBare s'.gens) s₁:=by
  intro H hO hS hok hA hK
  have base_of:∀ {b:Addr} {o:Obj},s₁.heap.get? b=some o→H b=none→(hidT s₁.heap H).get? b=some o:=fun e n=>Qz_ e n
  have noA:∀ {b:Addr} {o:Obj} {es:Array DictEntry} {ep:Nat},s₁.heap.get? b=some o→o.data=.dict es ep→H b=none:=fun {b o es ep} e d=>by
   cases q:H b with
   | none=>rfl
   | some u =>
    have e':b=a:=hA b (by rw [q];simp)
    subst e'
    rw [ha] at e;cases e
    have d':Data.seq vs.toArray _=Data.dict es ep:=d
    cases d'
  have nsK:∀ {b:Addr} {m:Str→Option Value},s₁.heap.Ns b m→(hidT s₁.heap H).Ns b m:=fun {b m} ⟨o,es,ep,e,d,r⟩=>⟨o,es,ep,base_of e (noA e d),d,r⟩
  have hKb:K.In (hidT s₁.heap H):=fun b o e=>base_of (KX b o e) (by
   cases q:H b with
   | none=>rfl
   | some u =>
    have e':b=a:=hA b (by rw [q];simp)
    subst e'
    rw [hK (by rw [q];simp)] at e;cases e)
  have hM:Mod K mg (hidT s₁.heap H):=⟨hKb,nsK hns,⟨mb,nsK hb,hbb⟩,let ⟨mc,h1,h2⟩:=hlim;⟨mc,nsK h1,h2⟩⟩
  have e0:Env0 P w K mg (hidT s₁.heap H) callerA [] s₁ H:=⟨rfl,hM,fun b o e=>VP_ e,Nat.le_of_eq (Yt_ _ _),trivial,fun b hb=>absurd (show b∈([]:List Addr) from hb) (by simp),hok,.of_eq hg⟩
  refine codeAny_mono ((F _ hKb (nsK hns)).run callerA [] s₁ H ⟨[.ref a],[]⟩ [.ref a] [.ref a] _ _ hr e0 (hbind s₁ (.ref a)) (.cons rfl .nil) (hsp H hO hS)) fun r s' h=>?_
  cases r with
  | error e=>exact (hCX H e s' h).elim
  | ok fl =>
   cases fl with
   | next=>exact False.elim h
   | brk=>exact False.elim h
   | cont=>exact False.elim h
   | ret u =>
    obtain ⟨v,H',os,bare,un,hok',r',q⟩:=h
    have q':v=.bl true:=q
    subst q'
    obtain rfl:u=Value.bool true:=r'
    refine ⟨rfl,OldK.of_keep fun b o e=>?_,os,bare⟩
    cases q:H b with
    | none=>exact un.keep b o e q (by intro z;exact absurd (show b∈([]:List Addr) from z) (by simp)) (by simp)
    | some u =>
     rcases hO b with z|⟨ob,xs,z⟩
     ·rw [q] at z;cases z
     ·have z2:=un.frzs b ob _ z
      obtain ⟨e1,_⟩:=hok b _ z
      obtain ⟨e2,_⟩:=hok' b _ z2
      rw [e] at e1;cases e1
      exact e2
 cases hk:K.lookup a with
 | some o =>
  have e:=KX a o hk
  rw [ha] at e
  cases e
  refine core (fun _=>none) (fun _=>.inl rfl) (.inr ⟨_,vs.toArray,_,hk,rfl,rfl,rfl,by rw [List.size_toArray,lenV];exact hl,by simpa using rv⟩) (fun b u z=>by have z':(none:Option HO)=some u:=z;cases z') (fun b z=>absurd rfl z) fun z=>absurd rfl z
 | none =>
  refine core (fun b=>if b=a then some (.frz { cls:=.type "list",data:=.seq vs.toArray } (.lst (ns.map V.int))) else none) (fun b=>?_) (.inl (.inr ⟨{ cls:=.type "list",data:=.seq vs.toArray },if_pos rfl⟩)) (fun b u z=>?_) (fun b z=>?_) fun _=>hk
  ·by_cases hb:b=a
   ·exact .inr ⟨_,_,if_pos hb⟩
   ·exact .inl (if_neg hb)
  ·by_cases hb:b=a
   ·have z':=(if_pos hb).symm.trans z
    cases z'
    subst hb
    exact ⟨ha,by rw [List.length_map];exact hl,vs,_,rv,ha⟩
   ·have z':=(if_neg hb).symm.trans z
    cases z'
  ·by_cases hb:b=a
   ·exact hb
   ·exact absurd (if_neg hb) z
end L2
namespace L2
open PySem PySem.Spec PyProof.Rows
theorem walk_of {l:PySem.W.OpenLaw} {n k:Nat} {q:Program} {loose:List Str} {XP:(Str→Option Value)→Heap→Prop} {YP:World→Heap→Prop} {d:DefRec} {K:Params→PySem.W.Frag} {CX:World→CXT} {sp:World→Sp} {x:Str}
  (hn:l.most=some n) (hn2:n≤sizeLine) (hdf:d.params.defaults=[]) (hr:Room k callerA)
  (hY:∀ (w:World) (h:Heap),YP w h→(K w.params).In h)
  (F:∀ (w:World) (mg:Str→Option Value) (fa:Addr) (h:Heap),(K w.params).In h→h.Ns mainGlobals mg→mg d.name=some (.ref fa) →
   ∃ fd:FuncData,(∀ (s:Shared) (u:Value),BindsTo s fd ⟨[u],[]⟩ [(x,u)]) ∧
    ∀ base:Heap,(K w.params).In base→base.Ns mainGlobals mg→FnOk l.prog w (K w.params) mg base (CX w) k fa fd [x] (sp w))
  (hsp:∀ (w:World) (H:Hp) (a:Addr) (ns:List Int),ns.length≤n→Only H→SqL (K w.params) H a (ns.map V.int)→sp w [.ref a] H (fun v _=>v=.bl true) fun _ _ _=>False)
  (hCX:∀ (w:World) (H:Hp) (s:Shared) (e:Value) (s':Shared),CX w [] H s (fun _ _ _=>False) e s'→False) :
  PySem.W.WalkO q loose XP YP l.row.toRowW d [] (fun f vs=>PySem.call f vs):=by
 refine Att.attach_call hn hdf fun w s₀ s₁ mg mb fa o pm cd doc a vs ns G Y ho hd hcd hmg hobj hints hlen hg=>?_
 have KX:=hY w _ Y
 obtain ⟨fd,hb,hF⟩:=F w mg fa _ KX G.T.g hmg
 exact Qt_ KX G.T.g G.T.b G.T.builtins G.T.nolimit hg hobj hints (Nat.le_trans hlen hn2) hr hF hb (fun H hO hS=>hsp w H a ns hlen hO hS) fun H e s'=>hCX w H s₁ e s'
end L2
namespace L2
open PySem PySem.Spec PyProof.Rows
def zG_ (s:Stmt):Arguments:=match s with
 | .FunctionDef _ a _ _ _ _ _ _ _ _=>a
 | _=>{ posonlyargs:=[],args:=[],vararg:=none,kwonlyargs:=[],kw_defaults:=[],kwarg:=none,defaults:=[] }
def zx_ (s:Stmt):List Stmt:=match s with
 | .FunctionDef _ _ b _ _ _ _ _ _ _=>b
 | _=>[]
def zb_ (s:Stmt):Scope:=match s with
 | .FunctionDef _ _ _ _ _ _ sc _ _ _=>sc
 | _=>{ kind:=.function,names:=[],isGenerator:=false,isCoroutine:=false }
structure Fun (K:PySem.W.Frag) (x qual:Str) (st:Stmt) (f:Addr) (fd:FuncData):Prop where
 ex:∃ (oc:Value) (od:Option Addr) (kV doc pm:Value) (an:Option Addr) (cdv ct:Value) (osl:Array (Option Value)),
  fd=PySem.W.fnOf x qual (zG_ st) (zx_ st) (zb_ st) .none kV doc pm an cdv ct∧K.lookup f=some ⟨oc,od,.func fd,osl⟩∧PySem.W.codeIn K cdv qual=true
 kp:PySem.W.keepIn K (.ref f)=true
section
variable {P:Program} {w:World} {K:PySem.W.Frag} {mg:Str→Option Value} {base:Heap}
theorem Fun.binds {x qual:Str} {st:Stmt} {f:Addr} {fd:FuncData} {ps:List Str} (F:Fun K x qual st f fd)
  (h:∀ (kV doc pm:Value) (an:Option Addr) (cdv ct:Value) (us:List Value),us.length=ps.length→bindArgs (PySem.W.fnOf x qual (zG_ st) (zx_ st) (zb_ st) .none kV doc pm an cdv ct) ⟨us,[]⟩=pure (ps.zip us)):Binds K fd ps []:=by
 obtain ⟨oc,od,kV,doc,pm,an,cdv,ct,osl,rfl,lk,hcd⟩:=F.ex
 exact .all (h kV doc pm an cdv ct)
theorem jB_ {x qual:Str} {st:Stmt} {f:Addr} {oc:Value} {od an:Option Addr} {osl:Array (Option Value)} {kV doc pm cdv ct:Value} (l:K.lookup f=some ⟨oc,od,.func (PySem.W.fnOf x qual (zG_ st) (zx_ st) (zb_ st) .none kV doc pm an cdv ct),osl⟩)
  (c:PySem.W.codeIn K cdv qual=true) (k:PySem.W.keepIn K (.ref f)=true):Fun K x qual st f (PySem.W.fnOf x qual (zG_ st) (zx_ st) (zb_ st) .none kV doc pm an cdv ct):=⟨⟨oc,od,kV,doc,pm,an,cdv,ct,osl,rfl,l,c⟩,k⟩
end
theorem iteF {A B:Prop} (h:B):if false=true then A else B:=by
 rw [if_neg Bool.false_ne_true]
 exact h
theorem iteT {A B:Prop} (h:A):if true=true then A else B:=by
 rw [if_pos rfl]
 exact h
def Same (H H':Hp):Prop:=∀ b o,H b=some o→H' b=some o
theorem Same.refl (H:Hp):Same H H:=fun _ _ h=>h
theorem Same.trans {H H1 H2:Hp} (a:Same H H1) (b:Same H1 H2):Same H H2:=fun c o h=>b c o (a c o h)
theorem Same.free {H H':Hp} (e:Same H H') {l:Addr} (h:H' l=Option.none):H l=Option.none:=by
 cases q:H l with
 | none=>rfl
 | some o =>
  rw [e l o q] at h
  cases h
theorem Same.seq {K:PySem.W.Frag} {H H':Hp} {a:Addr} {xs:List V} (e:Same H H') (h:SqL K H a xs):SqL K H' a xs:=by
 rcases h with (h|⟨o,h⟩)|h
 ·exact .inl (.inl (e _ _ h))
 ·exact .inl (.inr ⟨o,e _ _ h⟩)
 ·exact .inr h
end L2
set_option Elab.async false
set_option linter.all false
set_option maxRecDepth 100000
namespace L2
open PySem PySem.Spec PyProof.Rows
def zm_ (X:Cx) (N':List Str) (scope:Scope) (cl:List (Str×Addr)) (s₂:Shared) (H₂:Hp) (fp:List Addr) (C:Addr):Cx :=
 { X with N:=N',s₀:=s₂,H₀:=H₂,env:=compEnvC scope cl C X.env,outer:=X.stack,ex:=fp,fn:=fun _=>false,pn:=[],xe:=fun _ _=>False }
def lobj (ys:List Value) (k:Nat):Obj:={ cls:=.type "list",data:=.seq ys.toArray k }
section
variable {prog:Program} {w:World} {A:Around} {R:Result→Shared→Prop} {s:Shared}
theorem jU_ {elt target iter:Expr} {ifs:List Expr} {scope:Scope} {pos:Pos} {it acc:Value} {env:Env} (I:Nat→Shared→Prop)
  (turn:∀ n s,I n s→wpAny (model prog w) A (pyNext it) (fun r s₁=>match r with
   | none=>R (.ok .next) s₁
   | some v=>wpAny (model prog w) A (letOwnedTupleGo target it v) (fun _ s₁'=>wpAny (model prog w) A (assign target env v) (fun _ s₂ =>
     wpAny (model prog w) A (forIn ifs true fun c r=>if r=true then do let ok ←isTrue c env (eval c env);pure (ForInStep.yield ok) else pure (ForInStep.yield r)) (fun ok s₃ =>
      if ok=true then wpAny (model prog w) A (eval elt env) (fun x s₄ =>
       wpAny (model prog w) A (call (.builtin "list.append") [acc,x]) (fun _ s₅=>∃ m,m<n∧I m s₅) (fun _ _=>False) s₄) (fun _ _=>False) s₃
      else ∃ m,m<n∧I m s₃) (fun _ _=>False) s₂) (fun _ _=>False) s₁') (fun _ _=>False) s₁) (fun _ _=>False) s)
  (n:Nat) (h:I n s) :
  codeAny (model prog w) A (.compLoop (.ListComp elt [⟨target,iter,ifs,0⟩] scope pos) 0 it acc env) R s:=by
 refine codeAny_loop rfl I (fun n s hI=>?_) n h
 show wpAny _ A ((compTurn (.ListComp elt [⟨target,iter,ifs,0⟩] scope pos) 0 it acc env).onRaise (fun x=>do noteFrame x env;theTreesLotGoes x)) _ _ s
 refine wpAny_noted ?_
 rw [compTurn_list]
 refine wpAny_bind (wpAny_standAt (wpAny_bind (wpAny_mono (turn n s hI) (fun r s₁ h₁=>?_) fun _ _ h'=>h'.elim)))
 cases r with
 | none=>exact wpAny_pure h₁
 | some v =>
  refine wpAny_bind (wpAny_mono h₁ (fun _ s₁' h₁'=>?_) fun _ _ h'=>h'.elim)
  refine wpAny_bind (wpAny_mono h₁' (fun _ s₂ h₂=>wpAny_bind (wpAny_mono h₂ (fun ok s₃ h₃=>?_) fun _ _ h'=>h'.elim)) fun _ _ h'=>h'.elim)
  cases ok with
  | false=>exact wpAny_pure ⟨rfl,h₃⟩
  | true =>
   exact wpAny_bind (wpAny_bind (wpAny_mono h₃ (fun x s₄ h₄=>wpAny_bind (wpAny_mono h₄ (fun _ s₅ h₅=>wpAny_pure (wpAny_pure ⟨rfl,h₅⟩)) fun _ _ h'=>h'.elim)) fun _ _ h'=>h'.elim))
end
def PTs (X:Cx) (ifs:List Expr) (t:TT):Prop :=
 ∀ (pins:List (Addr×Obj)) (s:Shared) (σ:St) (H:Hp) (Q:Bool→Hp→Prop),Inv X pins σ H s→t σ H Q →
  wpAny (model X.prog X.w) X.A (forIn ifs true fun c r=>if r=true then do let ok ←isTrue c X.env (eval c X.env);pure (ForInStep.yield ok) else pure (ForInStep.yield r)) (TP X pins σ Q) X.xe s
theorem Vv_ {X:Cx}:PTs X [] (fun _ H Q=>Q true H):=fun _ _ _ H _ I h=>wpAny_tests_nil ⟨H,I,h⟩
theorem Vu_ {X:Cx} {c:Expr} {t:TT} (h:PT X c t):PTs X [c] t:=fun pins s σ H Q I q=>wpAny_tests_one (h pins s σ H Q I q)
theorem jh_ {env:Env}:∀ {names:List (Str×NameKind)} {x:Str},
  (names.map fun (n,k)=>if (k==NameKind.free&&env.scope.kind==.function&&env.kindOf n==some .cell) then (n,NameKind.cell) else (n,k)).lookup x
   = (names.lookup x).map fun k=>if (k==NameKind.free&&env.scope.kind==.function&&env.kindOf x==some .cell) then NameKind.cell else k
 | [],_=>rfl
 | (n,k)::r,x=>by
  have ih:=@jh_ env r x
  show List.lookup x ((if (k==NameKind.free&&env.scope.kind==.function&&env.kindOf n==some .cell)=true then (n,NameKind.cell) else (n,k))::_)=_
  cases hx:x==n with
  | true =>
   have e:x=n:=by simpa using hx
   subst e
   by_cases hc:(k==NameKind.free&&env.scope.kind==.function&&env.kindOf x==some .cell)=true
   ·rw [if_pos hc];simp only [List.lookup_cons,hx,Option.map_some,if_pos hc]
   ·rw [if_neg hc];simp only [List.lookup_cons,hx,Option.map_some,if_neg hc]
  | false =>
   by_cases hc:(k==NameKind.free&&env.scope.kind==.function&&env.kindOf n==some .cell)=true
   ·rw [if_pos hc];simp only [List.lookup_cons,hx];exact ih
   ·rw [if_neg hc];simp only [List.lookup_cons,hx];exact ih
theorem uq_ {env:Env}:∀ (names:List (Str×NameKind)) (acc:List (Str×Addr)),(∀ x∈names,x.2=.free→∃ c,env.cells.lookup x.1=some c) →
  (∀ x c,acc.lookup x=some c→env.cells.lookup x=some c) →
  ∃ cl,(forIn names acc fun (x:Str×NameKind) (cs:List (Str×Addr))=>(if (x.2==NameKind.free)=true then (do let c ←cellOf env x.1;pure (ForInStep.yield ((x.1,c)::cs))) else pure (ForInStep.yield cs):Sem (ForInStep (List (Str×Addr)))))=pure cl ∧
   (∀ x c,cl.lookup x=some c→env.cells.lookup x=some c)∧(∀ x,(acc.lookup x).isSome→(cl.lookup x).isSome)∧∀ x∈names,x.2=.free→(cl.lookup x.1).isSome
 | [],acc,_,ha=>⟨acc,rfl,ha,fun _ h=>h,fun _ h=>nomatch h⟩
 | (n,k)::r,acc,hn,ha=>by
  cases hk:(k==NameKind.free) with
  | true =>
   obtain ⟨c,hc⟩:=hn (n,k) List.mem_cons_self (by simpa using hk)
   have ha':∀ x d,((n,c)::acc).lookup x=some d→env.cells.lookup x=some d:=fun x d e=>by
    rw [List.lookup_cons] at e
    cases q:x==n with
    | true =>
     rw [q] at e
     have:x=n:=by simpa using q
     subst this
     exact hc.trans e
    | false=>rw [q] at e;exact ha x d e
   obtain ⟨cl,e,h1,h2,h3⟩:=uq_ r ((n,c)::acc) (fun x hx=>hn x (List.mem_cons_of_mem _ hx)) ha'
   have grow:∀ x,(acc.lookup x).isSome→(((n,c)::acc).lookup x).isSome:=fun x hx=>by
    rw [List.lookup_cons]
    cases q:x==n with
    | true=>rfl
    | false=>exact hx
   refine ⟨cl,?_,h1,fun x hx=>h2 x (grow x hx),fun x hx hf=>?_⟩
   ·rw [List.forIn_cons]
    have q:cellOf env n=pure c:=by
     unfold cellOf
     rw [hc]
    simp only [hk,if_true,q]
    exact e
   ·rcases List.mem_cons.mp hx with rfl|hx
    ·exact h2 _ (by simp [List.lookup_cons])
    ·exact h3 x hx hf
  | false =>
   obtain ⟨cl,e,h1,h2,h3⟩:=uq_ r acc (fun x hx=>hn x (List.mem_cons_of_mem _ hx)) ha
   refine ⟨cl,?_,h1,h2,fun x hx hf=>?_⟩
   ·rw [List.forIn_cons]
    simp only [hk,Bool.false_eq_true,if_false]
    exact e
   ·rcases List.mem_cons.mp hx with rfl|hx
    ·exfalso;have:k=.free:=hf;subst this;simp at hk
    ·exact h3 x hx hf
theorem yJ_ {env:Env} {scope:Scope} (h:∀ x∈scope.names,x.2=.free→∃ c,env.cells.lookup x.1=some c) :
  ∃ cl,closureFor scope env=pure cl∧(∀ x c,cl.lookup x=some c→env.cells.lookup x=some c)∧∀ x∈scope.names,x.2=.free→(cl.lookup x.1).isSome:=by
 obtain ⟨cl,e,h1,_,h3⟩:=uq_ (env:=env) scope.names [] h (fun x c e=>by simp at e)
 refine ⟨cl,?_,h1,h3⟩
 unfold closureFor
 have q:(forIn scope.names [] fun (x:Str×NameKind) (cs:List (Str×Addr))=>(match x with|(name,kind)=>if (kind==NameKind.free)=true then (do let c ←cellOf env name;pure (ForInStep.yield ((name,c)::cs))) else pure (ForInStep.yield cs):Sem (ForInStep (List (Str×Addr)))))=pure cl:=e
 first
  | (simp only [];rw [q];rfl)
  | (show (do let cs ←_;pure cs)=_;rw [q];rfl)
  | (rw [show (forIn scope.names [] _)=pure cl from q];rfl)
structure CompOk (X:Cx) (N':List Str) (k:Nat) (scope:Scope):Prop where
 kind:scope.kind=.function
 len:N'.length=X.N.length+k
 nocell:∀ y∈scope.names,y.2≠.cell
 names:∀ y∈scope.names,y.2=.local→scope.names.lookup y.1=some .local
 outer:∀ (i:Nat) x,i<X.N.length→N'[i]? = some x→(scope.names.lookup x).isSome→(scope.names.lookup x=some .free∨scope.names.lookup x=some .local∨scope.names.lookup x=some .cell)→X.N[i]? = some x∧scope.names.lookup x=some .free
 free:∀ y∈scope.names,y.2=.free→X.env.kindOf y.1=some .cell∨X.env.kindOf y.1=some .free
end L2
set_option Elab.async false
set_option linter.all false
set_option maxRecDepth 100000
namespace L2
open PySem PySem.Spec PyProof.Rows
def Qb_ (wi:TI) (k:Nat) (g:TG) (tc:TT) (te:TE):TE:=fun σ H Q=>wi σ H fun J H1=>∃ W:Nat→Nat→List V→St→Hp→Prop,(∃ m,W 0 m [] (σ++List.replicate k none) H1) ∧
 ∀ i m vs σ' H',W i m vs σ' H'→vs.length≤sizeLine ∧
  ((J.stop i H'∧∀ p,H' p=none→Q (.ref p) (upd H' p (.lst vs))) ∨
   (J.go i H'∧∀ x H2,J.yld i H' x H2→g x σ' H2 fun σ3 H3=>tc σ3 H3 fun b H4=>if b=true then te σ3 H4 fun y H5=>∃ m',m'<m∧W (i+1) m' (vs++[y]) σ3 H5 else ∃ m',m'<m∧W (i+1) m' vs σ3 H4))
section
variable {X:Cx} {pins:List (Addr×Obj)} {σ:St} {H2:Hp} {s2:Shared}
theorem HOk.track {P:Program} {w:World} {H:Hp} {h:Heap} {D:Addr} {vs:List V} {ys:List Value} {k:Nat} (x:HOk P w H h) (hn:H D=none) (hl:vs.length≤sizeLine) (r:Vals vs ys) (e:h.get? D=some (lobj ys k)) :
  HOk P w (upd H D (.lst vs)) h:=fun b u q=>by
 by_cases hb:b=D
 ·subst hb
  rw [zo_] at q
  cases q
  exact ⟨hl,ys,k,r,e⟩
 ·rw [zg_ hb] at q
  exact (x b u q).stay (fun _ _ _ z=>z) (fun c z=>by rw [zg_ (zk_ z hn)];exact z) fun c xs z=>by rw [zg_ (zk_ z hn)];exact z
theorem ZK_ {elt tg iter:Expr} {ifs:List Expr} {scope:Scope} {pos:Pos} {N':List Str} {k:Nat} {cl:List (Str×Addr)} {J:It} {fp:List Addr} {it:Addr} {tn:Nat→Heap→Prop} {g:TG} {tc:TT} {te:TE} {E:Value→Shared→Prop}
  {RR:Value→Addr→Result→Shared→Prop} {Q:VK}
  (hc:X.calm=true) (S:CompOk X N' k scope) (hcl:∀ x c,cl.lookup x=some c→X.env.cells.lookup x=some c) (hcf:∀ x∈scope.names,x.2=.free→(cl.lookup x.1).isSome)
  (I:Inv X pins σ H2 s2) (T:Turn X.prog X.w X.K tg J fp it tn) (st:tn 0 s2.heap) (ff:∀ b∈fp,FpOk X pins H2 b)
  (hg:∀ C,PG (zm_ X N' scope cl s2 H2 fp C) tg g) (ht:∀ C,PTs (zm_ X N' scope cl s2 H2 fp C) ifs tc) (he:∀ C,PE (zm_ X N' scope cl s2 H2 fp C) elt te)
  (rd:∃ W:Nat→Nat→List V→St→Hp→Prop,(∃ m,W 0 m [] (σ++List.replicate k none) H2) ∧
   ∀ i m vs σ' H',W i m vs σ' H'→vs.length≤sizeLine ∧
    ((J.stop i H'∧∀ p,H' p=none→Q (.ref p) (upd H' p (.lst vs))) ∨
     (J.go i H'∧∀ x H2,J.yld i H' x H2→g x σ' H2 fun σ3 H3=>tc σ3 H3 fun b H4=>if b=true then te σ3 H4 fun y H5=>∃ m',m'<m∧W (i+1) m' (vs++[y]) σ3 H5 else ∃ m',m'<m∧W (i+1) m' vs σ3 H4)))
  (hRR:∀ D C s' H',Inv X pins σ H' s'→(∃ m,s'.heap.Ns C m)→FpOk X pins H' C→Q (.ref D) H'→RR (.ref D) C (.ok .next) s') :
  wpAny (model X.prog X.w) X.A (newList []) (fun acc s₃=>wpAny (model X.prog X.w) X.A (newFunctionEnv scope X.env.globals cl [] X.env.qual none .none (some X.env)) (fun cenv s₄ =>
   codeAny (model X.prog X.w) X.A (.compStart (.ListComp elt [⟨tg,iter,ifs,0⟩] scope pos) 0 (.ref it) acc { cenv with scope:=relabel scope X.env }) (RR acc cenv.locals) s₄) E s₃) E s2:=by
 obtain ⟨W,⟨m0,w0⟩,turn⟩:=rd
 refine wpAny_newObj_type (wpAny_newFunctionEnv S.nocell (by intro y hy;simp at hy) (fun h₁ hns₁ hsb₁=>?_) S.kind)
 dsimp only at hns₁ hsb₁ ⊢
 generalize hH2:s2.heap.push { cls:=.type "list",dict:=none,data:=.seq ([]:List Value).toArray }=G2 at hns₁ hsb₁ ⊢
 have hCs:G2.objs.size=s2.heap.objs.size+1:=by rw [←hH2,Heap.size_push]
 have hDC:s2.heap.objs.size≠G2.objs.size:=by rw [hCs];exact Nat.ne_of_lt (Nat.lt_succ_self _)
 have hCle:s2.heap.objs.size≤G2.objs.size:=by rw [hCs];exact Nat.le_succ _
 have below:∀ b,b<s2.heap.objs.size→b≠G2.objs.size∧b≠s2.heap.objs.size:=fun b hb=>⟨by rw [hCs];exact Nat.ne_of_lt (Nat.lt_succ_of_lt hb),Nat.ne_of_lt hb⟩
 have old:∀ b o,s2.heap.get? b=some o→h₁.get? b=some o:=fun b o e=>hsb₁.extBut b o (below b (Heap.lt_size e)).1 (Heap.get?_push_of_some _ (hH2▸Heap.get?_push_of_some _ e))
 have hacc:h₁.get? s2.heap.objs.size=some (lobj [] 0):=hsb₁.extBut _ _ hDC (Heap.get?_push_of_some _ (hH2▸Heap.get?_push_size _ rfl))
 generalize hDe:s2.heap.objs.size=D at *
 generalize hCe:G2.objs.size=C at *
 have fpD:FpOk X pins H2 D:=I.fpOk (by rw [hDe];exact Nat.le_refl _) (I.hok.fresh (by rw [hDe];exact Nat.le_refl _))
 have fpC:∀ H',H' C=none→FpOk X pins H' C:=fun H' hn=>I.fpOk (by rw [hDe];exact hCle) hn
 have hfpD:∀ b∈fp,b<D:=fun b hb=>by
  obtain ⟨o,e,_⟩:=T.obj _ _ st b hb
  rw [←hDe];exact Heap.lt_size e
 have nofr:∀ b,D≤b→b∉frs X.stack:=fun b hb hm=>by
  rcases List.mem_cons.mp (I.stkSub b hm) with e|hm
  ·have:=I.lt;rw [hDe] at this;rw [e] at hb;exact absurd (Nat.lt_of_lt_of_le this hb) (Nat.lt_irrefl _)
  ·exact I.nofs (by rw [hDe];exact hb) hm
 let X':=zm_ X N' scope cl s2 H2 fp C
 have cellLt:∀ x c,cl.lookup x=some c→c<D:=fun x c e=>by
  obtain ⟨v,z⟩:=I.cell x c (hcl x c e)
  rw [←hDe];exact z.lt
 have ok':X'.Ok:=by
  refine ⟨I.ok.mod,S.kind,I.ok.glob,I.ok.blt,?_,fun x y c e1 e2=>I.ok.inj x y c (hcl _ _ e1) (hcl _ _ e2),fun x hx=>?_,fun x c hf _=>(nomatch hf),I.ok.hd,I.ok.frames,.inl rfl,fun b hb=>⟨?_,fun x c e z=>?_⟩,I.bs,?_,fun b o e hb=>?_,fun b hb hm=>?_,I.stack,I.stkFree⟩
  ·show s2.heap.objs.size≤C
   rw [hDe];exact hCle
  ·have hx':(relabel scope X.env).names.lookup x=some .cell∨(relabel scope X.env).names.lookup x=some .free:=hx
   have e:=jh_ (env:=X.env) (names:=scope.names) (x:=x)
   have e':(relabel scope X.env).names.lookup x=(scope.names.lookup x).map fun k=>if (k==NameKind.free&&X.env.scope.kind==.function&&X.env.kindOf x==some .cell) then NameKind.cell else k:=e
   rw [e'] at hx'
   cases q:scope.names.lookup x with
   | none=>rw [q] at hx';rcases hx' with z|z<;>cases z
   | some kd =>
    have hmem:=PySem.mem_of_lookup q
    rw [q] at hx'
    have hkd:kd=.free:=by
     by_cases hz:kd=.free
     ·exact hz
     ·exfalso
      have hb:(kd==NameKind.free)=false:=by simpa using hz
      simp only [hb,Bool.false_and,Bool.false_eq_true,if_false,Option.map_some] at hx'
      rcases hx' with z|z
      ·exact S.nocell _ hmem (Option.some.inj z)
      ·exact hz (Option.some.inj z)
    exact Option.isSome_iff_exists.mp (hcf _ hmem hkd)
  ·exact Nat.ne_of_lt (Nat.lt_of_lt_of_le (hfpD b hb) hCle)
  ·exact (ff b hb).2.2.2.2.1 x c (hcl x c e) z
  ·exact Nat.le_trans I.ok.bsz I.sz
  ·obtain ⟨_,_,_,hx,_⟩:=ff b hb
   rcases hx with hx|hx
   ·exact I.ok.noex b o e hx
   ·exact absurd (Nat.lt_of_lt_of_le (Heap.lt_size (I.ok.bs b o e).1) hx) (Nat.lt_irrefl _)
  ·obtain ⟨_,hl,hfs,_⟩:=ff b hb
   rcases List.mem_cons.mp (I.stkSub b hm) with e|hm
   ·exact hl e
   ·exact hfs hm
 have lenσ:(σ++List.replicate k none).length=N'.length:=by rw [List.length_append,List.length_replicate,I.len,S.len]
 have I0:Inv X' [(D,lobj [] 0)] (σ++List.replicate k none) H2 { s2 with heap:=h₁,toks:=s2.toks+([]:List (Str×Value)).length }:=by
  refine ⟨ok',rfl,I.bare,Un.kept old,⟨_,hns₁,fun i x v e1 e2 e3=>?_⟩,fun x c e=>?_,I.hok.fresh (by rw [hDe];exact hCle),fun x c e=>I.freeC x c (hcl x c e),fun p hp=>?_,I.hok.kept old,lenσ⟩
  ·have hi:i<σ.length:=by
    by_cases hi:i<σ.length
    ·exact hi
    ·rw [List.getElem?_append_right (Nat.not_lt.mp hi),List.getElem?_replicate] at e2
     split at e2<;>cases e2
   rw [List.getElem?_append_left hi] at e2
   have e':(relabel scope X.env).names.lookup x=(scope.names.lookup x).map fun k=>if (k==NameKind.free&&X.env.scope.kind==.function&&X.env.kindOf x==some .cell) then NameKind.cell else k:=jh_ (env:=X.env) (names:=scope.names) (x:=x)
   have hsome:∃ kd,scope.names.lookup x=some kd∧(kd=.free∨kd=.local∨kd=.cell):=by
    have e3':(relabel scope X.env).names.lookup x=some .local∨(relabel scope X.env).names.lookup x=some .cell∨(relabel scope X.env).names.lookup x=some .free:=e3
    rw [e'] at e3'
    cases q:scope.names.lookup x with
    | none=>rw [q] at e3';rcases e3' with z|z|z<;>cases z
    | some kd =>
     refine ⟨kd,rfl,?_⟩
     rw [q] at e3'
     by_cases hz:kd=.free
     ·exact .inl hz
     ·have hb:(kd==NameKind.free)=false:=by simpa using hz
      simp only [hb,Bool.false_and,Bool.false_eq_true,if_false,Option.map_some,Option.some.injEq] at e3'
      rcases e3' with z|z|z
      ·exact .inr (.inl z)
      ·exact .inr (.inr z)
      ·exact .inl z
   obtain ⟨kd,hk1,hk2⟩:=hsome
   obtain ⟨hN,hfree⟩:=S.outer i x (by rw [←I.len];exact hi) e1 (by rw [hk1];rfl) (by rcases hk2 with z|z|z<;>subst z<;>simp [hk1])
   have hmem:=PySem.mem_of_lookup hfree
   have hko:=S.free _ hmem rfl
   have hkx:X.env.kindOf x=some .cell∨X.env.kindOf x=some .free:=hko
   obtain ⟨m,hn,hl⟩:=I.loc
   obtain ⟨u,r,lk⟩:=hl i x v hN e2 (by rcases hkx with z|z;exact .inr (.inl z);exact .inr (.inr z))
   refine ⟨u,r,.inr ⟨?_,?_⟩⟩
   ·show (relabel scope X.env).names.lookup x=some .cell∨(relabel scope X.env).names.lookup x=some .free
    rw [e',hfree,Option.map_some]
    split
    ·exact .inl rfl
    ·exact .inr rfl
   ·rcases lk with ⟨kl,_⟩|⟨_,c,ec,hcell⟩
    ·rcases hkx with z|z<;>(rw [z] at kl;cases kl)
    ·obtain ⟨c',ec'⟩:=Option.isSome_iff_exists.mp (hcf _ hmem rfl)
     have q:=hcl _ _ ec'
     rw [ec] at q
     cases q
     exact ⟨c,ec',hcell.keeps old⟩
  ·obtain ⟨v,z⟩:=I.cell x c (hcl x c e)
   exact ⟨v,z.keeps old⟩
  ·have hp':p∈([]:List (Addr×Obj))++[(D,lobj [] 0)]:=hp
   have ep:p=(D,lobj [] 0):=by simpa using hp'
   subst ep
   exact ⟨hacc,fpD.1,hDC,nofr D (Nat.le_refl _),fun v z=>nomatch z⟩
 have stat:∀ {H':Hp} {o:Obj},(∀ b∈fp,H' b=none)→∀ b∈fp,FpOk X' [(D,o)] H' b:=fun {H' o} hn b hb=>by
  refine ⟨hn b hb,Nat.ne_of_lt (Nat.lt_of_lt_of_le (hfpD b hb) hCle),ok'.exfs b hb,.inl hb,fun x c e z=>(ff b hb).2.2.2.2.1 x c (hcl x c e) z,fun p hp=>?_⟩
  have hp':p∈([]:List (Addr×Obj))++[(D,o)]:=hp
  have ep:p=(D,o):=by simpa using hp'
  subst ep
  exact Nat.ne_of_gt (hfpD b hb)
 have loop:∀ s₃:Shared,s₃={ s2 with heap:=h₁,toks:=s2.toks+([]:List (Str×Value)).length } →
   codeAny (model X.prog X.w) X.A (.compLoop (.ListComp elt [⟨tg,iter,ifs,0⟩] scope pos) 0 (.ref it) (.ref D) (compEnvC scope cl C X.env)) (RR (.ref D) C) s₃:=by
  rintro s₃ rfl
  refine jU_ (fun n s'=>∃ i vs ys kk σ' H',Inv X' [(D,lobj ys kk)] σ' H' s'∧tn i s'.heap∧(∀ b∈fp,H' b=none)∧Vals vs ys∧W i n vs σ' H') ?_ m0
   ⟨0,[],[],0,_,H2,I0,T.keep _ _ _ st fun b _ o e=>old b o e,fun b hb=>(ff b hb).1,.nil,w0⟩
  rintro n s3 ⟨i,vs,ys,kk,σ3,H3,I3,st3,fr3,rv,w3⟩
  obtain ⟨hvl,hcase⟩:=turn i n vs σ3 H3 w3
  have pinD:∀ {o:Obj} {σ' H' s'},Inv X' [(D,o)] σ' H' s'→s'.heap.get? D=some o∧H' D=none:=fun J=>⟨(J.pin _ (List.mem_append_right _ List.mem_cons_self)).1,(J.pin _ (List.mem_append_right _ List.mem_cons_self)).2.1⟩
  rcases hcase with ⟨stop,qn⟩|⟨go,step⟩
  ·refine thn (T.done X' rfl rfl rfl hc i _ s3 σ3 H3 (fun _ _=>False) I3 (stat fr3) st3 stop) fun r s4 ⟨hr,I4⟩=>?_
   subst hr
   obtain ⟨gD,nD⟩:=pinD I4
   obtain ⟨m',hm',_⟩:=I4.loc
   have hC4:H3 C=none:=I4.free
   have u0:Un (frs X.stack) fp H2 H3 s2.heap s4.heap:=I4.base
   have neD:∀ b o,s2.heap.get? b=some o→b≠D:=fun b o e=>by rw [←hDe];exact Nat.ne_of_lt (Heap.lt_size e)
   have u1:Un (frs X.stack) fp H2 (upd H3 D (.lst vs)) s2.heap s4.heap :=
    ⟨u0.keep,u0.slot,fun b o e n hx=>by rw [zg_ (neD b o e)];exact u0.free b o e n hx,u0.there,
     fun b xs e=>by have q:=u0.tups b xs e;rw [zg_ (zk_ q nD)];exact q,
     fun b o u e=>by have q:=u0.frzs b o u e;rw [zg_ (zk_ q nD)];exact q,
     fun b ps e=>by obtain ⟨more,q⟩:=u0.tbls b ps e;exact ⟨more,by rw [zg_ (zk_ q nD)];exact q⟩⟩
   have I5:Inv X pins σ (upd H3 D (.lst vs)) s4:=I.call' I4.os u1 (I4.hok.track nD hvl rv gD) I4.bare fun b hb=>⟨(ff b hb).2.2.2.1,(ff b hb).2.1,(ff b hb).2.2.2.2.1,(ff b hb).2.2.2.2.2⟩
   exact hRR D C s4 _ I5 ⟨m',hm'⟩ (fpC _ (by rw [zg_ (Ne.symm hDC)];exact hC4)) (qn D nD)
  ·refine thn (T.item X' rfl rfl rfl hc i _ s3 σ3 H3 (fun _ _=>False) I3 (stat fr3) st3 go) fun r s4 ⟨u,hr,h4⟩=>?_
   subst hr
   refine thn h4 fun _ s5 ⟨x,H5,I5,r5,y5,st5,fr5⟩=>?_
   have I5':=I5.pinned (stat fr5) (T.obj _ _ st5)
   refine thn (hg C _ s5 σ3 H5 x u _ I5' r5 (step x H5 y5)) fun _ s6 ⟨σ6,H6,I6,q6⟩=>?_
   refine thn (ht C _ s6 σ6 H6 _ I6 q6) fun ok s7 ⟨H7,I7,q7⟩=>?_
   have unpin:∀ {σ' H' s'},Inv X' ([(D,lobj ys kk)]++Zg_ fp s5.heap) σ' H' s'→Inv X' [(D,lobj ys kk)] σ' H' s'∧tn (i+1) s'.heap∧∀ b∈fp,H' b=none:=fun {σ' H' s'} J =>
    ⟨J.unpinned,T.keep _ _ _ st5 fun b hb o e=>(J.pin (b,o) (List.mem_append_right _ (List.mem_append_right _ (jQ_ hb e)))).1,fun b hb=>by
     obtain ⟨o,e,d⟩:=T.obj _ _ st5 b hb
     exact (J.pin (b,o) (List.mem_append_right _ (List.mem_append_right _ (jQ_ hb e)))).2.1⟩
   cases ok with
   | false =>
    rw [if_neg Bool.false_ne_true]
    rw [if_neg Bool.false_ne_true] at q7
    obtain ⟨m',hm',w7⟩:=q7
    obtain ⟨J1,J2,J3⟩:=unpin I7
    exact ⟨m',hm',i+1,vs,ys,kk,σ6,H7,J1,J2,J3,rv,w7⟩
   | true =>
    rw [if_pos rfl]
    rw [if_pos rfl] at q7
    refine thn (he C _ s7 σ6 H7 _ I7 q7) fun uy s8 ⟨y,H8,I8,r8,m',hm',w8⟩=>?_
    obtain ⟨J1,J2,J3⟩:=unpin I8
    obtain ⟨gD,nD⟩:=pinD J1
    refine append_at (hsz:=by show ys.toArray.size≤sizeLine;rw [List.size_toArray,←rv.length];exact hvl) gD fun h9 hs9 hD9=>?_
    have J1':Inv X' [] σ6 H8 s8:=J1.pins_of fun p hp=>nomatch hp
    have J9:Inv X' [] σ6 H8 { s8 with heap:=h9 }:=J1'.turned (t':=s8.toks) (it:=D) (fun b o hb e=>hs9.extBut b o hb e) nD hDC (.inr (by show s2.heap.objs.size≤D;rw [hDe];exact Nat.le_refl _)) (fun x c e=>Nat.ne_of_lt (cellLt x c e)) fun p hp=>nomatch hp
    have eo:({ cls:=.type "list",data:=.seq (ys.toArray.push uy) (kk+1) }:Obj)=lobj (ys++[uy]) (kk+1):=by
     unfold lobj
     rw [List.push_toArray]
    refine ⟨m',hm',i+1,vs++[y],ys++[uy],kk+1,σ6,H8,J9.pins_of fun p hp=>?_,T.keep _ _ _ J2 fun b hb o e=>hs9.extBut b o (Nat.ne_of_lt (hfpD b hb)) e,J3,rv.append (.cons r8 .nil),w8⟩
    have ep:p=(D,lobj (ys++[uy]) (kk+1)):=by simpa using hp
    subst ep
    exact ⟨by show h9.get? D=_;rw [hD9,eo],nD,hDC,nofr D (Nat.le_refl _),fun v z=>nomatch z⟩
 exact codeAny_compStart_list (loop _ rfl) (T.self _ 0 _ _ _ (T.keep _ _ _ st fun b _ o e=>old b o e) (loop _ rfl))
end
section
variable {X:Cx}
theorem VB_ {elt tg iter:Expr} {ifs:List Expr} {scope:Scope} {pos:Pos} {N':List Str} {k:Nat} {wi:TI} {g:TG} {tc:TT} {te:TE}
  (hc:X.calm=true) (S:CompOk X N' k scope) (hcells:∀ x∈scope.names,x.2=.free→∃ c,X.env.cells.lookup x.1=some c) (hi:PI X tg iter wi)
  (hg:∀ cl s H fp C,PG (zm_ X N' scope cl s H fp C) tg g) (ht:∀ cl s H fp C,PTs (zm_ X N' scope cl s H fp C) ifs tc) (he:∀ cl s H fp C,PE (zm_ X N' scope cl s H fp C) elt te)
  (hs:∀ x,foldedSetIterable iter X.env x=pure x:=by intro _;rfl) :
  PE X (.ListComp elt [⟨tg,iter,ifs,0⟩] scope pos) (Qb_ wi k g tc te):=by
 intro pins s σ H Q I h
 obtain ⟨cl,hclos,h1,h2⟩:=yJ_ (env:=X.env) (scope:=scope) hcells
 rw [eval_ListComp]
 refine wpAny_comprehension_free (use:=none) rfl hs hclos S.kind S.names (thn (hi pins s σ H _ I h) fun xv s1 h1'=>thn h1' fun itv s2 h2'=>?_)
 obtain ⟨it,fp,tn,J,H2,e,I2,T,st2,f2,rd⟩:=h2'
 subst e
 refine ZK_ hc S h1 h2 I2 T st2 f2 (fun C=>hg _ _ _ _ C) (fun C=>ht _ _ _ _ C) (fun C=>he _ _ _ _ C) rd fun D C s' H' I' ⟨m,hm⟩ fC q=>?_
 refine ⟨m,hm,fun h' hs'=>⟨.ref D,H',?_,rfl,q⟩⟩
 exact I'.turned (t':=s'.toks) (it:=C) (fun b o hb e=>hs'.extBut b o hb e) fC.1 fC.2.1 fC.2.2.2.1 fC.2.2.2.2.1 fC.2.2.2.2.2
theorem um_ {elt tg iter:Expr} {ifs:List Expr} {scope:Scope} {pos pos' spos:Pos} {N':List Str} {k i:Nat} {y:Str} {wi:TI} {g:TG} {tc:TT} {te:TE}
  (hN:X.N.Nodup) (hy:X.N[i]? = some y) (hly:Loc X.env.scope y) (hfn:X.fn y=true∨X.env.scope.names.lookup y=some .local)
  (hc:X.calm=true) (S:CompOk X N' k scope) (hcells:∀ x∈scope.names,x.2=.free→∃ c,X.env.cells.lookup x.1=some c) (hi:PI X tg iter wi)
  (hg:∀ cl s H fp C,PG (zm_ X N' scope cl s H fp C) tg g) (ht:∀ cl s H fp C,PTs (zm_ X N' scope cl s H fp C) ifs tc) (he:∀ cl s H fp C,PE (zm_ X N' scope cl s H fp C) elt te)
  (hsw:swapsWith (.ListComp elt [⟨tg,iter,ifs,0⟩] scope pos) (some (.Name y pos')) spos.line X.env=pure true)
  (hs:∀ x,foldedSetIterable iter X.env x=pure x:=by intro _;rfl) :
  PS X (.Assign [.Name y pos'] (.ListComp elt [⟨tg,iter,ifs,0⟩] scope pos) spos) (tAsg (Qb_ wi k g tc te) (Yx_ i)):=by
 intro pins s σ H D₀ I h
 obtain ⟨cl,hclos,h1,h2⟩:=yJ_ (env:=X.env) (scope:=scope) hcells
 rw [exec_Assign_Name_used _ _ _ _ hsw]
 refine wpAny_bind (wpAny_standAt (wpAny_bind ?_))
 show wpAny _ X.A (do let _ ←comprehension (.ListComp elt [⟨tg,iter,ifs,0⟩] scope pos) scope X.env _ (newList []) false (eval iter X.env) (some (assign (.Name y pos') X.env))) _ _ s
 refine wpAny_bind (wpAny_mono (wpAny_comprehension_free (use:=some (assign (.Name y pos') X.env)) (Q:=fun _ s'=>SP X pins D₀ .next s') rfl hs hclos S.kind S.names
  (thn (hi pins s σ H _ I h) fun xv s1 h1'=>thn h1' fun itv s2 h2'=>?_)) (fun _ s' hq=>wpAny_pure (wpAny_pure hq)) fun _ _ e=>e)
 obtain ⟨it,fp,tn,J,H2,e,I2,T,st2,f2,rd⟩:=h2'
 subst e
 refine ZK_ (Q:=fun x H1=>Yx_ i x σ H1 D₀.nx) hc S h1 h2 I2 T st2 f2 (fun C=>hg _ _ _ _ C) (fun C=>ht _ _ _ _ C) (fun C=>he _ _ _ _ C) rd fun D C s' H' I' ⟨m,hm⟩ fC q=>?_
 show wpAny _ X.A (assign (.Name y pos') X.env (.ref D)) _ _ _
 refine wpAny_assign_Name (y8_ I' hN hy hly (show RelV (.ref D) (.ref D) from rfl) (fun s'' I'' ⟨a,hsb,ha⟩=>?_) hfn)
 have hCa:C≠a:=by
  rcases ha with rfl|ha
  ·exact fC.2.1
  ·exact fun z=>fC.2.2.2.2.1 y a ha z.symm
 refine ⟨m,hm.sameBut hsb hCa,fun h' hs'=>⟨_,H',?_,q⟩⟩
 exact I''.turned (t':=s''.toks) (it:=C) (fun b o hb e=>hs'.extBut b o hb e) fC.1 fC.2.1 fC.2.2.2.1 fC.2.2.2.2.1 fC.2.2.2.2.2
end
end L2
set_option Elab.async false
set_option linter.all false
set_option maxRecDepth 100000
namespace L2
open PySem PySem.Spec PyProof.Rows
section
variable {κ:Type} [DecidableEq κ]
def valV (kvs:List (κ×V)) (k:κ):Option V:=(kvs.find? fun kv=>decide (kv.1=k)).map (·.2)
theorem JA_ {p:κ×V} {r:List (κ×V)} {k:κ} (e:p.1=k):valV (p::r) k=some p.2:=by simp [valV,List.find?_cons,e]
theorem JB_ {p:κ×V} {r:List (κ×V)} {k:κ} (e:¬ p.1=k):valV (p::r) k=valV r k:=by simp [valV,List.find?_cons,e]
theorem RelO.isSome_eq {o:Option V} {u:Option Value} (r:RelO o u):o.isSome=u.isSome:=by
 cases o with
 | none=>cases u with
  | none=>rfl
  | some _=>exact (show False from r).elim
 | some _=>cases u with
  | none=>exact (show False from r).elim
  | some _=>rfl
theorem RelO.getD {o:Option V} {u:Option Value} {d:V} {d':Value} (r:RelO o u) (rd:RelV d d'):RelV (o.getD d) (u.getD d'):=by
 cases o with
 | none=>cases u with
  | none=>exact rd
  | some _=>exact (show False from r).elim
 | some _=>cases u with
  | none=>exact (show False from r).elim
  | some _=>exact r
theorem KV.val {kvs:List (κ×V)} {vs:List (κ×Value)} (r:KV kvs vs) (k:κ):RelO (valV kvs k) (valueAt vs k):=by
 unfold KV at r
 induction r with
 | nil=>exact True.intro
 | @cons p q ps qs h t ih =>
  obtain ⟨h1,h2⟩:=h
  by_cases e:p.1=k
  ·have e':q.1=k:=h1.symm.trans e
   have b:valueAt (q::qs) k=some q.2:=by simp [valueAt,List.find?_cons,e']
   rw [JA_ e,b];exact h2
  ·have e':¬ q.1=k:=fun z=>e (h1.trans z)
   have b:valueAt (q::qs) k=valueAt qs k:=by simp [valueAt,List.find?_cons,e']
   rw [JB_ e,b];exact ih
end
theorem Zy_ {P:Program} {w:World} {k:Key} {u:Value} (r:RelV (kV k) u):(zw_ P w).is k u=true:=by
 cases k with
 | inl i=>obtain ⟨t,e⟩:=(show ∃ t,u=Value.int i t from r);subst e;exact Jf_ P w i t
 | inr x=>obtain ⟨t,e⟩:=(show ∃ t,u=Value.str x t from r);subst e;exact Je_ P w x t
theorem ZA_ {P:Program} {w:World}:∀ {ks:List Key} {us:List Value},Vals (ks.map kV) us→ItemsAre (zw_ P w) ks us
 | [],_,r=>by rw [List.map_nil] at r;cases r;exact .nil
 | k::ks,_,r=>by
  rw [List.map_cons] at r
  cases r with
  | cons h t=>exact .cons (Zy_ h) (ZA_ t)
abbrev KT (H:Hp):List (List Key×V)→List (List Key×Addr×Value)→Prop:=Paired fun p q=>p.1=q.1∧H q.2.1=some (.tup (p.1.map kV))∧RelV p.2 q.2.2
theorem KT.val {H:Hp} {kvs:List (List Key×V)} {xs:List (List Key×Addr×Value)} (r:KT H kvs xs) (k:List Key):RelO (valV kvs k) ((atKey xs k).map (·.2)):=by
 induction r with
 | nil=>exact True.intro
 | @cons p q ps qs h t ih =>
  obtain ⟨h1,_,h2⟩:=h
  by_cases e:p.1=k
  ·have e':q.1=k:=h1.symm.trans e
   have b:atKey (q::qs) k=some q.2:=by simp [atKey,List.find?_cons,e']
   rw [JA_ e,b];exact h2
  ·have e':¬ q.1=k:=fun z=>e (h1.trans z)
   have b:atKey (q::qs) k=atKey qs k:=by simp [atKey,List.find?_cons,e']
   rw [JB_ e,b];exact ih
section
variable {P:Program} {w:World} {H:Hp} {h:Heap} {a:Addr}
theorem WA_ {u:HO} (ok:HOk P w H h) (e:Rd H a u):ObjOk P w H h a u:=e.ok ok
theorem Jn_ {kvs:List (Key×V)} (ok:HOk P w H h) (e:Rd H a (.dK kvs)):kvs.length≤sizeLine∧(a==sysModules)=false∧∃ vs,KV kvs vs∧h.DictOf (zw_ P w) a vs :=
 show ObjOk P w H h a (.dK kvs) from WA_ ok e
theorem Xy_ {kvs:List (Key×V)} (ok:HOk P w H h) (e:H a=some (.dK kvs)):kvs.length≤sizeLine∧(a==sysModules)=false∧∃ vs,KV kvs vs∧h.DictOf (zw_ P w) a vs:=Jn_ ok (.inl e)
theorem uw_ {ks:List Key} (ok:HOk P w H h) (e:H a=some (.tup (ks.map kV))):(tupleKind (zw_ P w)).is h ks a:=by
 obtain ⟨_,its,r,⟨o,h1,h2,n,h3⟩,_⟩:=(show ObjOk P w H h a (.tup (ks.map kV)) from ok a _ e)
 exact ⟨o,its.toArray,n,h1,h2,h3,by simpa using ZA_ r⟩
theorem Jm_ {kvs:List (List Key×V)} (ok:HOk P w H h) (e:Rd H a (.dT kvs)):kvs.length≤sizeLine∧(a==sysModules)=false ∧
  ∃ xs,KT H kvs xs∧h.DictOfH (tupleKind (zw_ P w)) a xs:=by
 obtain ⟨z,y,xs,r,o,es,ep,h1,h2,h3,h4,h5⟩:=(show ObjOk P w H h a (.dT kvs) from WA_ ok e)
 refine ⟨z,y,xs,r,o,es,ep,h1,h2,h3,h4,fun x hx=>?_,h5⟩
 have all:∀ {l:List (List Key×V)} {m:List (List Key×Addr×Value)},KT H l m→∀ x∈m,(tupleKind (zw_ P w)).is h x.1 x.2.1:=by
  intro l m q
  induction q with
  | nil=>intro x hx;exact nomatch hx
  | @cons p q ps qs hq t ih =>
   intro x hx
   rcases List.mem_cons.mp hx with e|hx
   ·subst e
    exact uw_ ok (by rw [←hq.1];exact hq.2.1)
   ·exact ih x hx
 exact all r x hx
theorem Xx_ {kvs:List (List Key×V)} (ok:HOk P w H h) (e:H a=some (.dT kvs)):kvs.length≤sizeLine∧(a==sysModules)=false ∧
  ∃ xs,KT H kvs xs∧h.DictOfH (tupleKind (zw_ P w)) a xs:=Jm_ ok (.inl e)
end
def DGet (H:Hp) (a:Addr) (y:V) (r:Option V):Prop :=
 (∃ kvs k,Rd H a (.dK kvs)∧y=kV k∧r=valV kvs k)∨∃ kvs k b,Rd H a (.dT kvs)∧y=.ref b∧H b=some (.tup (k.map kV))∧r=valV kvs k
theorem DGet.k {H:Hp} {a:Addr} {kvs:List (Key×V)} {k:Key} (e:H a=some (.dK kvs)):DGet H a (kV k) (valV kvs k):=.inl ⟨kvs,k,.inl e,rfl,rfl⟩
theorem DGet.t {H:Hp} {a b:Addr} {kvs:List (List Key×V)} {k:List Key} (e:H a=some (.dT kvs)) (eb:H b=some (.tup (k.map kV))):DGet H a (.ref b) (valV kvs k):=.inr ⟨kvs,k,b,.inl e,rfl,eb,rfl⟩
section
variable {X:Cx} {pins:List (Addr×Obj)} {σ:St} {H:Hp} {s:Shared} {a:Addr} {y v:V} {u r:Value} {o:Option V} {A:Around} {E:Value→Shared→Prop}
theorem YG_ {Q:Value→Shared→Prop} (hu:A.units+1<cLine) (I:Inv X pins σ H s) (g:DGet H a y (some v)) (ry:RelV y u) (h:∀ w' s',Inv X pins σ H s'→RelV v w'→Q w' s') :
  wpAny (model X.prog X.w) A (getItem (.ref a) u) Q E s:=by
 rcases g with ⟨kvs,k,e,ey,l⟩|⟨kvs,k,b,e,ey,eb,l⟩
 ·subst ey
  obtain ⟨z,hd,vs,rel,dd⟩:=Jn_ I.hok e
  obtain ⟨w',hw,rw'⟩:=RelO.some_of (v:=v) (o:=valueAt vs k) (by rw [l];exact rel.val k)
  exact wpAny_getItem_of (Zy_ ry) dd.mapOf hw (h w' _ (I.tok _) rw')
 ·subst ey
  cases (show u=Value.ref b from ry)
  obtain ⟨z,hd,xs,rel,dd⟩:=Jm_ I.hok e
  obtain ⟨w',hw,rw'⟩:=RelO.some_of (v:=v) (o:=(atKey xs k).map (·.2)) (by rw [l];exact rel.val k)
  obtain ⟨p,hp,hp2⟩:=Option.map_eq_some_iff.mp hw
  refine wpAny_getItem_heap (tupleKind_room_in1 hu) (uw_ I.hok eb) dd hp ?_
  rw [hp2]
  exact h w' _ (I.tok _) rw'
theorem d_in {Q:Value→Shared→Prop} (hu:A.units+1<cLine) (I:Inv X pins σ H s) (g:DGet H a y o) (ry:RelV y u) (h:∀ s',Inv X pins σ H s'→Q (.bool o.isSome) s') :
  wpAny (model X.prog X.w) A (compareOp .In u (.ref a)) Q E s:=by
 rcases g with ⟨kvs,k,e,ey,l⟩|⟨kvs,k,b,e,ey,eb,l⟩
 ·subst ey
  obtain ⟨z,hd,vs,rel,dd⟩:=Jn_ I.hok e
  refine wpAny_in_of (Zy_ ry) hd dd.mapOf ?_
  rw [←(rel.val k).isSome_eq,←l]
  exact h _ (I.tok _)
 ·subst ey
  cases (show u=Value.ref b from ry)
  obtain ⟨z,hd,xs,rel,dd⟩:=Jm_ I.hok e
  refine wpAny_in_heap (tupleKind_room_in1 hu) (uw_ I.hok eb) hd dd ?_
  have q:=(rel.val k).isSome_eq
  rw [Option.isSome_map] at q
  rw [←q,←l]
  exact h _ (I.tok _)
theorem V8_ {Q:Value→Shared→Prop} (hu:A.units+1<cLine) (I:Inv X pins σ H s) (g:DGet H a y o) (ry:RelV y u) (h:∀ s',Inv X pins σ H s'→Q (.bool (!o.isSome)) s') :
  wpAny (model X.prog X.w) A (compareOp .NotIn u (.ref a)) Q E s:=by
 rcases g with ⟨kvs,k,e,ey,l⟩|⟨kvs,k,b,e,ey,eb,l⟩
 ·subst ey
  obtain ⟨z,hd,vs,rel,dd⟩:=Jn_ I.hok e
  refine wpAny_notIn_of (Zy_ ry) hd dd.mapOf ?_
  rw [←(rel.val k).isSome_eq,←l]
  exact h _ (I.tok _)
 ·subst ey
  cases (show u=Value.ref b from ry)
  obtain ⟨z,hd,xs,rel,dd⟩:=Jm_ I.hok e
  refine wpAny_notIn_heap (tupleKind_room_in1 hu) (uw_ I.hok eb) hd dd ?_
  have q:=(rel.val k).isSome_eq
  rw [Option.isSome_map] at q
  rw [←q,←l]
  exact h _ (I.tok _)
end
theorem Jo_ {X:Cx} {pins:List (Addr×Obj)} {σ:St} {H:Hp} {s:Shared} {a:Addr} {y:V} {o:Option V} (I:Inv X pins σ H s) (g:DGet H a y o):s.TypeIs (.ref a) "dict":=by
 rcases g with ⟨kvs,k,e,_,_⟩|⟨kvs,k,b,e,_,_,_⟩
 ·obtain ⟨_,_,vs,_,dd⟩:=Jn_ I.hok e
  exact dd.typeIs
 ·obtain ⟨_,_,xs,_,dd⟩:=Jm_ I.hok e
  exact dd.typeIs
structure M2 (X:Cx) (o:Expr) (m:Str) (apos:Pos) (e f:Expr) (cpos:Pos):Prop where
 base:attributeBase o m X.env (eval o X.env)=eval o X.env
 few:((backTo cpos (starEach [e,f] X.env)).all (fun x=>!x.1)&&(backToKw cpos (keywordEach [] X.env)).all (fun x=>x.1.isSome)
  && decide (([e,f]:List Expr).length+([]:List Keyword).length+(if ([]:List Keyword).isEmpty then 0 else 1)<30))=true
 line:(apos.endLine==cpos.line)=true
 trees:backTo cpos (starEach [e,f] X.env)=[(false,eval e X.env),(false,eval f X.env)]
def IsD (H:Hp) (a:Addr):Prop:=(∃ kvs,Rd H a (.dK kvs))∨∃ kvs,Rd H a (.dT kvs)
theorem Xo_ {X:Cx} {pins:List (Addr×Obj)} {σ:St} {H:Hp} {s:Shared} {a:Addr} (I:Inv X pins σ H s) (d:IsD H a) :
  s.TypeIs (.ref a) "dict" ∧ (∀ b,Value.ref a=.ref b→∃ ob,s.heap.get? b=some ob∧ob.dict=none)∧(a==sysModules)=false:=by
 rcases d with ⟨kvs,e⟩|⟨kvs,e⟩
 ·obtain ⟨_,hd,vs,_,dd⟩:=Jn_ I.hok e
  refine ⟨dd.typeIs,fun b q=>?_,hd⟩
  cases q
  obtain ⟨ob,_,_,h1,h2,_⟩:=dd
  exact ⟨ob,h1,h2.2.1⟩
 ·obtain ⟨_,hd,xs,_,dd⟩:=Jm_ I.hok e
  refine ⟨dd.typeIs,fun b q=>?_,hd⟩
  cases q
  obtain ⟨ob,_,_,h1,h2,_⟩:=dd
  exact ⟨ob,h1,h2.2.1⟩
section
variable {X:Cx} {pins:List (Addr×Obj)} {σ:St} {H:Hp} {s:Shared} {a:Addr} {y d:V} {u r:Value} {o:Option V} {A:Around} {E:Value→Shared→Prop}
theorem Xz_ {Q:Value→Shared→Prop} (hu:A.units+1<cLine) (I:Inv X pins σ H s) (g:DGet H a y o) (ry:RelV y u) (rd:RelV d r) (h:∀ w' s',Inv X pins σ H s'→RelV (o.getD d) w'→Q w' s') :
  wpAny (model X.prog X.w) A (call (.builtin "dict.get") [.ref a,u,r]) Q E s:=by
 rcases g with ⟨kvs,k,e,ey,l⟩|⟨kvs,k,b,e,ey,eb,l⟩
 ·subst ey
  obtain ⟨z,hd,vs,rel,dd⟩:=Jn_ I.hok e
  refine call_meetsIn PySem.F.slot_dict_get dd.typeIs PySem.F.entry_dict_get (PySem.F.args_dict_get_3 _ _ _) (meets_dict_get_default (zw_ X.prog X.w) a (Zy_ ry) hd r) ⟨_,dd.mapOf,h _ _ (I.tok _) ?_⟩
  rw [l]
  exact (rel.val k).getD rd
 ·subst ey
  cases (show u=Value.ref b from ry)
  obtain ⟨z,hd,xs,rel,dd⟩:=Jm_ I.hok e
  refine call_meetsIn PySem.F.slot_dict_get dd.typeIs PySem.F.entry_dict_get (PySem.F.args_dict_get_3 _ _ _) (meetsH_dict_get_default (tupleKind (zw_ X.prog X.w)) a b hd r) ⟨tupleKind_room_in1 hu,k,xs,uw_ I.hok eb,dd,h _ _ (I.tok _) ?_⟩
  rw [l]
  exact (rel.val k).getD rd
end
end L2
set_option Elab.async false
set_option linter.all false
set_option maxRecDepth 100000
namespace L3
open PySem PySem.Spec PyProof.Rows L2
abbrev D:=PyData
abbrev Fg:=PySem.W.Frag
def keyD:Key→D
 | .inl i=>.int i
 | .inr x=>.str x
def keyT (k:List Key):D:=.tuple (k.map keyD)
mutual
inductive Rep (K:Fg) (F:Hp):V→D→Prop
 | non:Rep K F .non .none
 | bl (b):Rep K F (.bl b) (.bool b)
 | int (i):Rep K F (.int i) (.int i)
 | str (x):Rep K F (.str x) (.str x)
 | tup {a vs ds}:F a=some (.tup vs)→RepL K F vs ds→Rep K F (.ref a) (.tuple ds)
 | lst {a vs ds}:SqL K F a vs→RepL K F vs ds→Rep K F (.ref a) (.list ds)
 | dct {a kvs es}:F a=some (.dT kvs)→es.map (·.1)=kvs.map (fun p=>keyT p.1)→RepL K F (kvs.map (·.2)) (es.map (·.2))→Rep K F (.ref a) (.dict es)
 | dck {a kvs es}:F a=some (.dK kvs)→es.map (·.1)=kvs.map (fun p=>keyD p.1)→RepL K F (kvs.map (·.2)) (es.map (·.2))→Rep K F (.ref a) (.dict es)
inductive RepL (K:Fg) (F:Hp):List V→List D→Prop
 | nil:RepL K F [] []
 | cons {v d vs ds}:Rep K F v d→RepL K F vs ds→RepL K F (v::vs) (d::ds)
end
theorem jO_ {K:Fg} {F F':Hp} {a:Addr} {xs:List V} (e:Same F F') (h:SqT K F a xs):SqT K F' a xs:=by
 rcases h with (h|⟨o,h⟩)|h
 ·exact .inl (.inl (e _ _ h))
 ·exact .inl (.inr ⟨o,e _ _ h⟩)
 ·exact .inr h
mutual
theorem Rep.mono {K:Fg} {F F':Hp} (e:Same F F'):∀ {v d},Rep K F v d→Rep K F' v d
 | _,_,.non=>.non
 | _,_,.bl b=>.bl b
 | _,_,.int b=>.int b
 | _,_,.str b=>.str b
 | _,_,.tup h r=>.tup (e _ _ h) (RepL.mono e r)
 | _,_,.lst h r=>.lst (e.seq h) (RepL.mono e r)
 | _,_,.dct h k r=>.dct (e _ _ h) k (RepL.mono e r)
 | _,_,.dck h k r=>.dck (e _ _ h) k (RepL.mono e r)
theorem RepL.mono {K:Fg} {F F':Hp} (e:Same F F'):∀ {vs ds},RepL K F vs ds→RepL K F' vs ds
 | _,_,.nil=>.nil
 | _,_,.cons h r=>.cons (Rep.mono e h) (RepL.mono e r)
end
theorem RepL.length {K:Fg} {F:Hp}:∀ {vs ds},RepL K F vs ds→vs.length=ds.length
 | _,_,.nil=>rfl
 | _,_,.cons _ r=>by simp [RepL.length r]
theorem RepL.get {K:Fg} {F:Hp}:∀ {vs ds} {i:Nat} {d:D},RepL K F vs ds→ds[i]? = some d→∃ v,vs[i]? = some v∧Rep K F v d
 | _,_,_,_,.nil,e=>by simp at e
 | _,_,0,_,.cons h _,e=>by simp at e;subst e;exact ⟨_,rfl,h⟩
 | _,_,i+1,d,.cons _ r,e=>by
  obtain ⟨v,h1,h2⟩:=RepL.get (i:=i) (d:=d) r (by simpa using e)
  exact ⟨v,by simpa using h1,h2⟩
theorem RepL.append {K:Fg} {F:Hp}:∀ {vs ds us es},RepL K F vs ds→RepL K F us es→RepL K F (vs++us) (ds++es)
 | _,_,_,_,.nil,s=>s
 | _,_,_,_,.cons h r,s=>.cons h (RepL.append r s)
theorem RepL.take {K:Fg} {F:Hp}:∀ {vs ds} (n:Nat),RepL K F vs ds→RepL K F (vs.take n) (ds.take n)
 | _,_,0,_=>.nil
 | _,_,_+1,.nil=>.nil
 | _,_,n+1,.cons h r=>.cons h (RepL.take n r)
theorem RepL.drop {K:Fg} {F:Hp}:∀ {vs ds} (n:Nat),RepL K F vs ds→RepL K F (vs.drop n) (ds.drop n)
 | _,_,0,r=>r
 | _,_,_+1,.nil=>.nil
 | _,_,n+1,.cons _ r=>RepL.drop n r
theorem RepL.set {K:Fg} {F:Hp} {v:V} {d:D} (h:Rep K F v d):∀ {vs ds} (i:Nat),RepL K F vs ds→RepL K F (vs.set i v) (ds.set i d)
 | _,_,_,.nil=>.nil
 | _,_,0,.cons _ r=>.cons h r
 | _,_,i+1,.cons q r=>.cons q (RepL.set h i r)
theorem RepL.ints {K:Fg} {F:Hp}:∀ (ns:List Int),RepL K F (ns.map V.int) (ns.map PyData.int)
 | []=>.nil
 | n::r=>.cons (.int n) (RepL.ints r)
theorem UR_ {h:Heap}:∀ {k:Key} {u:Value},RelV (kV k) u→∃ as,Reads h u (keyD k) as
 | .inl i,u,r=>by obtain ⟨t,rfl⟩:=(show ∃ t,u=Value.int i t from r);exact ⟨_,.int i t⟩
 | .inr i,u,r=>by obtain ⟨t,rfl⟩:=(show ∃ t,u=Value.str i t from r);exact ⟨_,.str i t⟩
theorem yx_ {h:Heap}:∀ {k:List Key} {us:List Value},Vals (k.map kV) us→∃ as,ReadsAll h us (k.map keyD) as
 | [],_,r=>by rw [List.map_nil] at r;cases r;exact ⟨_,.nil⟩
 | k::ks,_,r=>by
  rw [List.map_cons] at r
  cases r with
  | cons a b =>
   obtain ⟨as,ha⟩:=UR_ a
   obtain ⟨bs,hb⟩:=yx_ b
   exact ⟨_,.cons ha hb⟩
theorem Ug_ {P:Program} {w:World} {h:Heap} {k:Key} {u:Value} (r:(zw_ P w).is k u=true):∃ as,Reads h u (keyD k) as:=by
 rcases zB_ (k:=k) (v:=u) r with ⟨i,t,rfl,rfl⟩|⟨i,t,rfl,rfl⟩
 ·exact ⟨_,.int i t⟩
 ·exact ⟨_,.str i t⟩
theorem Z8_ {P:Program} {w:World} {h:Heap}:∀ {es:List DictEntry} {vs:List (Key×Value)},Pairs (zw_ P w) es vs→(∃ as,ReadsAll h (es.map (·.key)) (vs.map fun p=>keyD p.1) as)∧es.map (·.val)=vs.map (·.2):=by
 intro es vs r
 induction r with
 | nil=>exact ⟨⟨_,.nil⟩,rfl⟩
 | cons a b _ ih =>
  obtain ⟨⟨bs,hb⟩,e⟩:=ih
  obtain ⟨as,ha⟩:=Ug_ (h:=h) a
  exact ⟨⟨_,.cons ha hb⟩,by rw [List.map_cons,List.map_cons,b,e]⟩
theorem Qu_ {X:Cx} {pins:List (Addr×Obj)} {σ:L2.St} {H:Hp} {s:Shared} (I:Inv X pins σ H s) {knd}:∀ {kvs:List (List Key×V)} {xs:List (List Key×Addr×Value)},KT H kvs xs →
  (∃ as,ReadsAll s.heap ((xs.map (entryOfKey (prog:=X.prog) (w:=X.w) knd)).map (·.key)) (kvs.map fun p=>keyT p.1) as)∧Vals (kvs.map (·.2)) ((xs.map (entryOfKey (prog:=X.prog) (w:=X.w) knd)).map (·.val)):=by
 intro kvs xs r
 induction r with
 | nil=>exact ⟨⟨_,.nil⟩,.nil⟩
 | @cons p q ps qs h t ih =>
  obtain ⟨⟨bs,hb⟩,e⟩:=ih
  obtain ⟨h1,h2,h3⟩:=h
  obtain ⟨its,rv,⟨o,e1,e2,n',e3⟩,hz⟩:=I.tuple (SqT.of h2)
  obtain ⟨as,ra⟩:=yx_ (h:=s.heap) rv
  exact ⟨⟨_,.cons (.tuple e1 e2 e3 (by simpa using ra)) hb⟩,.cons h3 e⟩
theorem VT_ {κ:Type} {kvs:List (κ×V)} {vs:List (κ×Value)} (r:KV kvs vs):Vals (kvs.map (·.2)) (vs.map (·.2))∧kvs.map (·.1)=vs.map (·.1):=by
 unfold KV at r
 induction r with
 | nil=>exact ⟨.nil,rfl⟩
 | cons h t ih=>exact ⟨.cons h.2 ih.1,by rw [List.map_cons,List.map_cons,h.1,ih.2]⟩
section
variable {X:Cx} {pins:List (Addr×Obj)} {σ:L2.St} {H:Hp} {s:Shared}
mutual
theorem QV_ (I:Inv X pins σ H s):∀ {v d},Rep X.K H v d→∀ {u},RelV v u→∃ as,Reads s.heap u d as
 | _,_,.non,_,r=>by cases r;exact ⟨_,.none⟩
 | _,_,.bl b,_,r=>by cases r;exact ⟨_,.bool b⟩
 | _,_,.int i,_,r=>by obtain ⟨t,rfl⟩:=r;exact ⟨_,.int i t⟩
 | _,_,.str x,_,r=>by obtain ⟨t,rfl⟩:=r;exact ⟨_,.str x t⟩
 | _,_,.tup hq rl,_,r=>by
  cases r
  obtain ⟨its,rv,⟨o,e1,e2,n',e3⟩,hz⟩:=I.tuple (SqT.of hq)
  obtain ⟨as,ra⟩:=yy_ I rl rv
  exact ⟨_,.tuple e1 e2 e3 (by simpa using ra)⟩
 | _,_,.lst hq rl,_,r=>by
  cases r
  obtain ⟨its,rv,⟨o,n',e1,e2,e3,e4⟩,hz⟩:=I.list hq
  obtain ⟨as,ra⟩:=yy_ I rl rv
  exact ⟨_,.list e1 e2 e4 (by simpa using ra)⟩
 | _,_,.dct hq hk rl,_,r=>by
  cases r
  obtain ⟨z,y,xs,kt,o,es,ep,h1,h2,h3,h4,_⟩:=Xx_ I.hok hq
  obtain ⟨⟨as,ra⟩,vl⟩:=Qu_ I (knd:=tupleKind (zw_ X.prog X.w)) kt
  obtain ⟨bs,rb⟩:=yy_ I rl vl
  exact ⟨_,.dict h1 h2.1 h3 (by rw [h4,hk];exact ra) (by rw [h4];exact rb)⟩
 | _,_,.dck hq hk rl,_,r=>by
  cases r
  obtain ⟨z,y,vs,kv,o,es,ep,h1,h2,h3,h4,h5,_⟩:=Xy_ I.hok hq
  obtain ⟨vl,ek⟩:=VT_ kv
  obtain ⟨⟨as,ra⟩,ev⟩:=Z8_ (h:=s.heap) h5
  obtain ⟨bs,rb⟩:=yy_ I rl vl
  refine ⟨_,.dict h1 h2.1 h3 (as:=as) (bs:=bs) ?_ (by rw [ev];exact rb)⟩
  rw [hk]
  have e:=congrArg (List.map keyD) ek
  rw [List.map_map,List.map_map] at e
  exact e▸ra
theorem yy_ (I:Inv X pins σ H s):∀ {vs ds},RepL X.K H vs ds→∀ {us},Vals vs us→∃ as,ReadsAll s.heap us ds as
 | _,_,.nil,_,r=>by cases r;exact ⟨_,.nil⟩
 | _,_,.cons h t,_,r=>by
  cases r with
  | cons r rr =>
   obtain ⟨as,ra⟩:=QV_ I h r
   obtain ⟨bs,rb⟩:=yy_ I t rr
   exact ⟨_,.cons ra rb⟩
end
end
theorem z5_ {X:Cx} {pins:List (Addr×Obj)} {σ:L2.St} {H:Hp} {s:Shared} (I:Inv X pins σ H s) :
  (∀ {v d},Rep X.K H v d→∀ {u},RelV v u→∃ as,Reads s.heap u d as)∧(∀ {vs ds},RepL X.K H vs ds→∀ {us},Vals vs us→∃ as,ReadsAll s.heap us ds as) :=
 ⟨fun {v d} h {u} r=>QV_ I h r,fun {vs ds} h {us} r=>yy_ I h r⟩
inductive OC where
 | l (ds:List D)
 | t (es:List (D×D))
 | k (es:List (D×D))
inductive AV where
 | fz (d:D)
 | ol (c:OC)
 | op (c:OC)
abbrev En:=List (Option AV)
inductive RV where
 | fz (d:D)
 | fr (c:OC)
 | bor (i:Nat)
structure Gh where
 P:Nat→Option Addr
 O:Hp
 B:Hp
def Held (K:Fg) (F H:Hp) (a:Addr):OC→Prop
 | .l ds=>∃ vs,H a=some (.lst vs)∧RepL K F vs ds
 | .t es=>∃ kvs,H a=some (.dT kvs)∧es.map (·.1)=kvs.map (fun p=>keyT p.1)∧RepL K F (kvs.map (·.2)) (es.map (·.2))
 | .k es=>∃ kvs,H a=some (.dK kvs)∧es.map (·.1)=kvs.map (fun p=>keyD p.1)∧RepL K F (kvs.map (·.2)) (es.map (·.2))
structure OwnAt (K:Fg) (G:Gh) (F H:Hp) (a:Addr) (c:OC):Prop where
 nf:F a=none
 no:G.O a=none
 he:Held K F H a c
def own (ρ:En) (i:Nat) (c:OC):Prop:=ρ[i]? = some (some (.ol c))∨ρ[i]? = some (some (.op c))
structure StOk (K:Fg) (G:Gh) (F:Hp) (σ:L2.St) (H:Hp) (ρ:En):Prop where
 fh:Same F H
 oh:Same G.O H
 fo:∀ b o,G.O b=some o→F b=none∧∀ vs,o≠.tup vs
 ln:σ.length=ρ.length
 fz:∀ (i:Nat) (d:D),ρ[i]? = some (some (AV.fz d))→∃ v,σ[i]? = some (some v)∧Rep K F v d
 ow:∀ (i:Nat) (c:OC),own ρ i c→∃ a:Addr,σ[i]? = some (some (V.ref a))∧OwnAt K G F H a c
 dj:∀ (i j:Nat) (c e:OC) (a:Addr),own ρ i c→own ρ j e→σ[i]? = some (some (V.ref a))→σ[j]? = some (some (V.ref a))→i=j
 pp:∀ (i:Nat) (a:Addr),G.P i=some a→σ[i]? = some (some (V.ref a))∧∃ c,ρ[i]? = some (some (AV.op c))
 pq:∀ (i:Nat) (c:OC),ρ[i]? = some (some (AV.op c))→∃ a,G.P i=some a
 fb:Same G.B F
def RVR (K:Fg) (G:Gh) (F:Hp) (σ:L2.St) (H:Hp) (ρ:En) (v:V):RV→Prop
 | .fz d=>Rep K F v d
 | .fr c=>∃ a,v=.ref a∧OwnAt K G F H a c∧∀ (i:Nat) (e:OC),own ρ i e→σ[i]? ≠ some (some (V.ref a))
 | .bor i=>∃ c,own ρ i c∧σ[i]? = some (some v)
theorem Held.mono {K:Fg} {F F' H:Hp} {a:Addr} {c:OC} (e:Same F F') (h:Held K F H a c):Held K F' H a c:=by
 cases c with
 | l ds=>obtain ⟨vs,h1,h2⟩:=h;exact ⟨vs,h1,h2.mono e⟩
 | t es=>obtain ⟨vs,h1,h2,h3⟩:=h;exact ⟨vs,h1,h2,h3.mono e⟩
 | k es=>obtain ⟨vs,h1,h2,h3⟩:=h;exact ⟨vs,h1,h2,h3.mono e⟩
theorem Held.some {K:Fg} {F H:Hp} {a:Addr} {c:OC} (h:Held K F H a c):∃ o,H a=some o:=by
 cases c with
 | l ds=>obtain ⟨vs,h1,h2⟩:=h;exact ⟨_,h1⟩
 | t es=>obtain ⟨vs,h1,h2⟩:=h;exact ⟨_,h1⟩
 | k es=>obtain ⟨vs,h1,h2⟩:=h;exact ⟨_,h1⟩
theorem Held.at {K:Fg} {F H H':Hp} {a:Addr} {c:OC} (h:Held K F H a c) (e:H' a=H a):Held K F H' a c:=by
 cases c with
 | l ds=>obtain ⟨vs,h1,h2⟩:=h;exact ⟨vs,e.trans h1,h2⟩
 | t es=>obtain ⟨vs,h1,h2⟩:=h;exact ⟨vs,e.trans h1,h2⟩
 | k es=>obtain ⟨vs,h1,h2⟩:=h;exact ⟨vs,e.trans h1,h2⟩
theorem jP_ {F:Hp} {p:Addr} {o:HO} (h:F p=none):Same F (upd F p o):=fun b u e=>by
 rw [zg_ (zk_ e h)]
 exact e
theorem j7_ {F H:Hp} {p:Addr} {o:HO} (s:Same F H) (h:F p=none):Same F (upd H p o):=fun b u e=>by
 rw [zg_ (zk_ e h)]
 exact s b u e
section
variable {K:Fg} {G:Gh} {F H:Hp} {σ:L2.St} {ρ:En}
theorem StOk.lay (S:StOk K G F σ H ρ) {p:Addr} {o:HO} (hp:H p=none):StOk K G F σ (upd H p o) ρ:=by
 have fp:F p=none:=S.fh.free hp
 have op:G.O p=none:=S.oh.free hp
 refine ⟨j7_ S.fh fp,j7_ S.oh op,S.fo,S.ln,S.fz,fun i c h=>?_,S.dj,S.pp,S.pq,S.fb⟩
 obtain ⟨a,e,oa⟩:=S.ow i c h
 refine ⟨a,e,oa.nf,oa.no,oa.he.at ?_⟩
 obtain ⟨u,hu⟩:=oa.he.some
 exact zg_ (zk_ hu hp)
theorem StOk.fresh_ne (S:StOk K G F σ H ρ) {p:Addr} (hp:H p=none):∀ (i:Nat) (e:OC),own ρ i e→σ[i]? ≠ some (some (V.ref p)):=fun i e h q=>by
 obtain ⟨a,e1,oa⟩:=S.ow i e h
 rw [e1] at q
 injection q with q;injection q with q;injection q with q
 subst q
 obtain ⟨u,hu⟩:=oa.he.some
 rw [hp] at hu;cases hu
theorem StOk.freeze (S:StOk K G F σ H ρ) {a:Addr} {o:HO} (ha:H a=some o) (fa:F a=none) (oa:G.O a=none) (ne:∀ (i:Nat) (e:OC),own ρ i e→σ[i]? ≠ some (some (V.ref a))):StOk K G (upd F a o) σ H ρ:=by
 have sm:Same F (upd F a o):=jP_ fa
 refine ⟨fun b u e=>?_,S.oh,fun b u e=>?_,S.ln,fun i d h=>?_,fun i c h=>?_,S.dj,S.pp,S.pq,S.fb.trans sm⟩
 ·by_cases hb:b=a
  ·subst hb;rw [zo_] at e;cases e;exact ha
  ·rw [zg_ hb] at e;exact S.fh b u e
 ·rw [zg_ (zk_ e oa)];exact S.fo b u e
 ·obtain ⟨v,e,r⟩:=S.fz i d h;exact ⟨v,e,r.mono sm⟩
 ·obtain ⟨b,e,ob⟩:=S.ow i c h
  refine ⟨b,e,?_,ob.no,ob.he.mono sm⟩
  rw [zg_ (fun z=>ne i c h (by rw [e,z]))]
  exact ob.nf
theorem StOk.newTup (S:StOk K G F σ H ρ) {p:Addr} {vs:List V} {ds:List D} (hp:H p=none) (r:RepL K F vs ds) :
  Same F (upd F p (.tup vs))∧StOk K G (upd F p (.tup vs)) σ (upd H p (.tup vs)) ρ∧Rep K (upd F p (.tup vs)) (.ref p) (.tuple ds):=by
 have fp:F p=none:=S.fh.free hp
 refine ⟨jP_ fp,(S.lay hp).freeze zo_ fp (S.oh.free hp) (S.fresh_ne hp),?_⟩
 exact .tup zo_ (r.mono (jP_ fp))
theorem StOk.newLst (S:StOk K G F σ H ρ) {p:Addr} {vs:List V} {ds:List D} (hp:H p=none) (r:RepL K F vs ds) :
  StOk K G F σ (upd H p (.lst vs)) ρ∧RVR K G F σ (upd H p (.lst vs)) ρ (.ref p) (.fr (.l ds)) :=
 ⟨S.lay hp,p,rfl,⟨S.fh.free hp,S.oh.free hp,vs,zo_,r⟩,S.fresh_ne hp⟩
theorem StOk.settle (S:StOk K G F σ H ρ) {v:V} {ds:List D} (r:RVR K G F σ H ρ v (.fr (.l ds))) :
  ∃ F',Same F F'∧StOk K G F' σ H ρ∧Rep K F' v (.list ds):=by
 obtain ⟨a,rfl,oa,ne⟩:=r
 obtain ⟨vs,h1,h2⟩:=oa.he
 exact ⟨upd F a (.lst vs),jP_ oa.nf,S.freeze h1 oa.nf oa.no ne,.lst (.inl (.inl zo_)) (h2.mono (jP_ oa.nf))⟩
theorem u4_ {α:Type} (l:List α) (i:Nat) (x y:α) (h:l[i]? = some y):(l.set i x)[i]? = some x:=by
 rw [List.getElem?_set_self (List.getElem?_eq_some_iff.mp h).1]
def OC.d:OC→D
 | .l ds=>.list ds
 | .t es=>.dict es
 | .k es=>.dict es
theorem Yu_ {a:Addr} {c:OC} (h:Held K F H a c):∃ o,H a=some o∧∀ F',Same F F'→F' a=some o→Rep K F' (.ref a) c.d:=by
 cases c with
 | l ds=>obtain ⟨vs,h1,h2⟩:=h;exact ⟨_,h1,fun F' s e=>.lst (.inl (.inl e)) (h2.mono s)⟩
 | t es=>obtain ⟨vs,h1,h2,h3⟩:=h;exact ⟨_,h1,fun F' s e=>.dct e h2 (h3.mono s)⟩
 | k es=>obtain ⟨vs,h1,h2,h3⟩:=h;exact ⟨_,h1,fun F' s e=>.dck e h2 (h3.mono s)⟩
theorem StOk.settleC (S:StOk K G F σ H ρ) {i:Nat} {oc:OC} (hi:ρ[i]? = some (some (.ol oc))) {v:V} (hv:σ[i]? = some (some v)) :
  ∃ F',Same F F'∧StOk K G F' σ H (ρ.set i (some (.fz oc.d)))∧Rep K F' v oc.d:=by
 obtain ⟨a,e,oa⟩:=S.ow i _ (.inl hi)
 rw [hv] at e
 injection e with e;injection e with e
 subst e
 obtain ⟨vo,h1,hrep⟩:=Yu_ oa.he
 have sm:Same F (upd F a vo):=jP_ oa.nf
 have rp:Rep K (upd F a vo) (.ref a) oc.d:=hrep _ sm zo_
 have ne:∀ j,j≠i→(ρ.set i (some (.fz oc.d)))[j]? = ρ[j]?:=fun j hj=>List.getElem?_set_ne (Ne.symm hj)
 have at_i:(ρ.set i (some (.fz oc.d)))[i]? = some (some (.fz oc.d)):=u4_ _ _ _ _ hi
 have ownj:∀ j c,own (ρ.set i (some (.fz oc.d))) j c→j≠i∧own ρ j c:=fun j c h=>by
  have hj:j≠i:=by
   rintro rfl
   rcases h with h|h<;>(rw [at_i] at h;cases h)
  refine ⟨hj,?_⟩
  rcases h with h|h
  ·exact .inl (by rw [←ne j hj];exact h)
  ·exact .inr (by rw [←ne j hj];exact h)
 refine ⟨upd F a vo,sm,⟨fun b u e=>?_,S.oh,fun b u e=>?_,by simpa using S.ln,fun j d h=>?_,fun j c h=>?_,fun j k c e b h1 h2=>S.dj j k c e b (ownj j c h1).2 (ownj k e h2).2,fun j b h=>?_,fun j c h=>?_,S.fb.trans sm⟩,rp⟩
 ·by_cases hb:b=a
  ·subst hb;rw [zo_] at e;cases e;exact h1
  ·rw [zg_ hb] at e;exact S.fh b u e
 ·rw [zg_ (zk_ e oa.no)];exact S.fo b u e
 ·by_cases hj:j=i
  ·subst hj
   rw [at_i] at h
   cases h
   exact ⟨_,hv,rp⟩
  ·rw [ne j hj] at h
   obtain ⟨w,e,r⟩:=S.fz j d h
   exact ⟨w,e,r.mono sm⟩
 ·obtain ⟨hj,h'⟩:=ownj j c h
  obtain ⟨b,e,ob⟩:=S.ow j c h'
  refine ⟨b,e,?_,ob.no,ob.he.mono sm⟩
  rw [zg_ (fun z=>hj (S.dj j i _ _ a h' (.inl hi) (by rw [e,z]) hv))]
  exact ob.nf
 ·obtain ⟨q,c,q'⟩:=S.pp j b h
  refine ⟨q,c,?_⟩
  have hj:j≠i:=by rintro rfl;rw [hi] at q';cases q'
  rw [ne j hj];exact q'
 ·have hj:j≠i:=by rintro rfl;rw [at_i] at h;cases h
  rw [ne j hj] at h
  exact S.pq j c h
theorem StOk.store (S:StOk K G F σ H ρ) {j:Nat} {v:V} {av:AV} (hj:∀ c,ρ[j]? ≠ some (some (.op c))) (hl:j<ρ.length)
  (h:(∃ d,av=.fz d∧Rep K F v d)∨∃ c,av=.ol c∧RVR K G F σ H ρ v (.fr c)):StOk K G F (σ.set j (some v)) H (ρ.set j (some av)):=by
 have hls:j<σ.length:=by rw [S.ln];exact hl
 have ne:∀ i,i≠j→(ρ.set j (some av))[i]? = ρ[i]?:=fun i hi=>List.getElem?_set_ne (Ne.symm hi)
 have nes:∀ i,i≠j→(σ.set j (some v))[i]? = σ[i]?:=fun i hi=>List.getElem?_set_ne (Ne.symm hi)
 have atj:(ρ.set j (some av))[j]? = some (some av):=List.getElem?_set_self hl
 have atjs:(σ.set j (some v))[j]? = some (some v):=List.getElem?_set_self hls
 have owni:∀ i c,i≠j→own (ρ.set j (some av)) i c→own ρ i c:=fun i c hi h=>by
  unfold own at h ⊢
  rw [ne i hi] at h
  exact h
 refine ⟨S.fh,S.oh,S.fo,by simpa using S.ln,fun i d q=>?_,fun i c q=>?_,fun i k c e a q1 q2 e1 e2=>?_,fun i a q=>?_,fun i c q=>?_,S.fb⟩
 ·by_cases hi:i=j
  ·subst hi
   rw [atj] at q
   rcases h with ⟨d',rfl,r⟩|⟨c,rfl,_⟩
   ·cases q;exact ⟨v,atjs,r⟩
   ·cases q
  ·rw [ne i hi] at q
   obtain ⟨w,e,r⟩:=S.fz i d q
   exact ⟨w,by rw [nes i hi];exact e,r⟩
 ·by_cases hi:i=j
  ·subst hi
   rcases h with ⟨d',rfl,r⟩|⟨c',rfl,a,rfl,oa,_⟩
   ·rcases q with q|q<;>(rw [atj] at q;cases q)
   ·rcases q with q|q
    ·rw [atj] at q;cases q;exact ⟨a,atjs,oa⟩
    ·rw [atj] at q;cases q
  ·obtain ⟨a,e,oa⟩:=S.ow i c (owni i c hi q)
   exact ⟨a,by rw [nes i hi];exact e,oa⟩
 ·by_cases hi:i=j
  ·by_cases hk:k=j
   ·rw [hi,hk]
   ·exfalso
    subst hi
    rw [nes k hk] at e2
    rw [atjs] at e1
    injection e1 with e1;injection e1 with e1
    subst e1
    rcases h with ⟨d',rfl,r⟩|⟨c',rfl,a',e,oa,nn⟩
    ·rcases q1 with q|q<;>(rw [atj] at q;cases q)
    ·injection e with e;subst e
     exact nn k _ (owni k _ hk q2) e2
  ·by_cases hk:k=j
   ·exfalso
    subst hk
    rw [nes i hi] at e1
    rw [atjs] at e2
    injection e2 with e2;injection e2 with e2
    subst e2
    rcases h with ⟨d',rfl,r⟩|⟨c',rfl,a',e,oa,nn⟩
    ·rcases q2 with q|q<;>(rw [atj] at q;cases q)
    ·injection e with e;subst e
     exact nn i _ (owni i _ hi q1) e1
   ·rw [nes i hi] at e1
    rw [nes k hk] at e2
    exact S.dj i k _ _ a (owni i _ hi q1) (owni k _ hk q2) e1 e2
 ·obtain ⟨q1,c,q2⟩:=S.pp i a q
  have hi:i≠j:=by rintro rfl;exact hj c q2
  exact ⟨by rw [nes i hi];exact q1,c,by rw [ne i hi];exact q2⟩
 ·have hi:i≠j:=by
   rintro rfl
   rw [atj] at q
   rcases h with ⟨d',rfl,r⟩|⟨c',rfl,_⟩<;>cases q
  rw [ne i hi] at q
  exact S.pq i c q
theorem StOk.change (S:StOk K G F σ H ρ) {j:Nat} {a:Addr} {c c':OC} {o:HO} (hj:own ρ j c) (ha:σ[j]? = some (some (.ref a))) (hh:Held K F (upd H a o) a c') :
  StOk K G F σ (upd H a o) (ρ.set j ((ρ[j]?.join).map fun | .op _=>.op c'|_=>.ol c')):=by
 obtain ⟨b,e,ob⟩:=S.ow j c hj
 rw [ha] at e
 injection e with e;injection e with e;injection e with e
 subst e
 have hl:j<ρ.length:=by rcases hj with h|h<;>exact (List.getElem?_eq_some_iff.mp h).1
 generalize hav:((ρ[j]?.join).map fun (x:AV)=>match x with | .op _=>AV.op c'|_=>AV.ol c')=av
 have ne:∀ i,i≠j→(ρ.set j av)[i]? = ρ[i]?:=fun i hi=>List.getElem?_set_ne (Ne.symm hi)
 have atj:(ρ.set j av)[j]? = some av:=List.getElem?_set_self hl
 have owni:∀ i e,i≠j→own (ρ.set j av) i e→own ρ i e:=fun i c hi h=>by
  unfold own at h ⊢
  rw [ne i hi] at h
  exact h
 have kind:(ρ[j]? = some (some (.ol c))∧av=some (.ol c'))∨(ρ[j]? = some (some (.op c))∧av=some (.op c')):=by
  rcases hj with h|h
  ·exact .inl ⟨h,by rw [←hav,h];rfl⟩
  ·exact .inr ⟨h,by rw [←hav,h];rfl⟩
 have ownj:∀ e,own (ρ.set j av) j e→e=c':=fun e h=>by
  unfold own at h
  rw [atj] at h
  rcases kind with ⟨_,k⟩|⟨_,k⟩<;>rw [k] at h<;>rcases h with h|h<;>cases h<;>rfl
 refine ⟨j7_ S.fh ob.nf,j7_ S.oh ob.no,S.fo,by simpa using S.ln,fun i d q=>?_,fun i e q=>?_,fun i k c1 e1 b q1 q2=>?_,fun i b q=>?_,fun i e q=>?_,S.fb⟩
 ·by_cases hi:i=j
  ·subst hi
   rw [atj] at q
   rcases kind with ⟨_,k⟩|⟨_,k⟩<;>rw [k] at q<;>cases q
  ·rw [ne i hi] at q;exact S.fz i d q
 ·by_cases hi:i=j
  ·subst hi
   have:=ownj e q
   subst this
   exact ⟨a,ha,ob.nf,ob.no,hh⟩
  ·have q':=owni i e hi q
   obtain ⟨b',e',ob'⟩:=S.ow i e q'
   refine ⟨b',e',ob'.nf,ob'.no,ob'.he.at (zg_ fun z=>hi (S.dj i j _ _ a q' hj (by rw [e',z]) ha))⟩
 ·have o1:∃ e,own ρ i e:=by
   by_cases hi:i=j
   ·exact ⟨c,hi▸hj⟩
   ·exact ⟨_,owni i _ hi q1⟩
  have o2:∃ e,own ρ k e:=by
   by_cases hk:k=j
   ·exact ⟨c,hk▸hj⟩
   ·exact ⟨_,owni k _ hk q2⟩
  exact S.dj i k _ _ b o1.choose_spec o2.choose_spec
 ·obtain ⟨q1,e,q2⟩:=S.pp i b q
  refine ⟨q1,?_⟩
  by_cases hi:i=j
  ·subst hi
   rcases kind with ⟨k1,k⟩|⟨k1,k⟩
   ·rw [k1] at q2;cases q2
   ·exact ⟨c',by rw [atj,k]⟩
  ·exact ⟨e,by rw [ne i hi];exact q2⟩
 ·by_cases hi:i=j
  ·subst hi
   rcases kind with ⟨k1,k⟩|⟨k1,k⟩
   ·rw [atj,k] at q;cases q
   ·exact S.pq i c k1
  ·rw [ne i hi] at q;exact S.pq i e q
end
end L3
set_option Elab.async false
set_option linter.all false
set_option maxRecDepth 100000
namespace L4
open PySem PySem.Spec PyProof.Rows L2 L3
def TbOf (h:Heap) (e b:Addr):Prop:=∃ oe vs,h.get? e=some oe∧oe.data=.fields vs∧vs[1]? = some (.ref b)
structure Ent (fs:List Addr) (h h':Heap) (e T:Addr) (oe:Obj) (ts:Array Value):Prop where
 keep:∀ b o,h.get? b=some o→b∉fs→b≠e→h'.get? b=some o
 slot:∀ b o,h.get? b=some o→b≠e→∃ sl,h'.get? b=some { o with slots:=sl }
 new:h.objs.size≤T
 exc:h'.get? e=some (oe.mapFields (·.setIfInBounds 1 (.ref T)))
 way:∃ oT,h'.get? T=some oT∧oT.data=.fields ts
section
variable {M:Model} {A:Around} {E:Value→Shared→Prop} {s:Shared} {base:Heap} {env:Env} {outer:List Env} {L e:Addr} {oe:Obj} {vs:Array Value}
theorem yI_ {top:Value} {nx:Bool} {Q:Unit→Shared→Prop} (hA:A.frames=some (env::outer)) (hF:s.heap.FunFrames base (env::outer)) (hL:env.frame=some L)
  (he:s.heap.get? e=some oe) (hd:oe.data=.fields vs) (hz:1<vs.size)
  (k:∀ h' T ts,Ent (frs (env::outer)) s.heap h' e T oe ts→3<ts.size→ts[3]? = some (rawInt L)→Q () { s with heap:=h' }) :
  wpAny M A (do let a ←frameOf env;let pl ←entryPlaceOf L nx;let b ←EntryCells.newEntry top a .none (rawInt L) .none pl;setField (.ref e) 1 b) Q E s:=by
 have ne:e∉frs (env::outer):=fun z=>by
  obtain ⟨_,o,q,r⟩:=hF.mem z
  rw [he] at q;cases q
  exact r vs hd
 refine wpAny_bind (wpAny_frameOf_fun hA hF hL fun h1 so=>wpAny_bind (wpAny_entryPlaceOf fun pl ip=>?_))
 simp only [EntryCells.newEntry,newFields]
 refine wpAny_bind (wpAny_newObj_type ?_ (ip.sizeOk5 _ _ _ _ _))
 generalize hts:([top,.ref L,.none,rawInt L,.none]++(if pl.isEmpty then List.replicate 6 Value.none else pl)).toArray=ts
 have z3:3<ts.size:=by
  rw [←hts,List.size_toArray,List.length_append]
  simp only [List.length_cons,List.length_nil]
  omega
 have g3:ts[3]? = some (rawInt L):=by rw [←hts];simp
 generalize htb:({ cls:=.type "traceback",dict:=none,data:=.fields ts }:Obj)=tb
 have fr:tb.isFreed=false:=by rw [←htb];rfl
 have e1:h1.get? e=some oe:=by rw [so.2.1 e ne];exact he
 have lt:e<h1.objs.size:=Heap.lt_size e1
 refine wpAny_setField (Heap.get?_push_of_some tb e1) hd hz ?_
 have hd':=Obj.data_mapFields hd (·.setIfInBounds 1 (Value.ref h1.objs.size))
 have up:∀ b,b≠e→((h1.push tb).update e (Obj.mapFields (·.setIfInBounds 1 (.ref h1.objs.size)))).get? b=(h1.push tb).get? b:=fun b hb=>Heap.get?_update_other _ _ (Ne.symm hb)
 refine k _ h1.objs.size ts ⟨fun b o q nf nb=>?_,fun b o q nb=>?_,by rw [so.1];exact Nat.le_refl _,?_,⟨tb,?_,?_⟩⟩ z3 g3
 ·exact (up b nb).trans (Heap.get?_push_of_some _ ((so.2.1 b nf).trans q))
 ·obtain ⟨sl,q'⟩:=so.2.2 b o q
  exact ⟨sl,(up b nb).trans (Heap.get?_push_of_some _ q')⟩
 ·exact Heap.get?_update_self _ (Heap.get?_push_of_some tb e1) (Obj.isFreed_of_fields hd')
 ·exact (up _ (Nat.ne_of_gt lt)).trans (Heap.get?_push_size h1 fr)
 ·rw [←htb]
end
def XO (e C:Addr) (dd:Option Addr):Heap→Prop:=fun h=>∃ oe,h.get? e=some oe∧oe.cls=.ref C∧oe.dict=dd∧PySem.W.notCls oe=true
def XD (dx:Addr) (fs:List (Str×V)):Heap→Prop:=fun h=>∃ mA,h.Ns1 dx mA∧PySem.Within mA (fs.map (·.1))∧∀ f,RelO (fs.lookup f) (mA f)
structure XS (H:Hp) (h:Heap) (lo:Nat) (e C:Addr) (dd:Option Addr):Prop where
 yg:lo≤e
 trk:H e=some (.ext (XO e C dd))
 obj:∃ oe vs,h.get? e=some oe∧oe.cls=.ref C∧oe.dict=dd∧oe.data=.fields vs∧1<vs.size ∧
  (vs[1]? = some .none∨∃ T oT ts,vs[1]? = some (.ref T)∧T≠e∧lo≤T∧H T=none∧h.get? T=some oT∧oT.data=.fields ts∧ts[3]? = some .none)
structure Mv (fs:List Addr) (h h':Heap) (e:Addr):Prop where
 keep:∀ b o,h.get? b=some o→b∉fs→b≠e→¬ TbOf h e b→h'.get? b=some o
 slot:∀ b o,h.get? b=some o→b≠e→¬ TbOf h e b→∃ sl,h'.get? b=some { o with slots:=sl }
 there:∀ b o,h.get? b=some o→∃ o',h'.get? b=some o'
theorem YE_ (f:Array Value→Array Value) (o:Obj):(o.mapFields f).dict=o.dict:=by
 obtain ⟨c,d,dt,sl⟩:=o
 cases dt<;>rfl
theorem zab_ {L:Addr}:¬ ((Value.none==rawInt L)=true):=by simp [rawInt]
section
variable {M:Model} {A:Around} {E:Value→Shared→Prop} {s:Shared} {base:Heap} {env:Env} {outer:List Env} {L e C:Addr} {dd:Option Addr} {H:Hp} {lo:Nat} {P:Program} {w:World}
theorem yH_ {oe:Obj} {vs:Array Value} {h0:Heap} {T:Addr} {ts:Array Value} {Q:Unit→Shared→Prop} (en:Ent (frs (env::outer)) h0 s.heap e T oe ts) (hd:oe.data=.fields vs) (hz:1<vs.size) (z3:3<ts.size) (hh:e<h0.objs.size)
  (k:∀ h',(∀ b,b≠T→h'.get? b=s.heap.get? b)→(∃ oT tz,h'.get? T=some oT∧oT.data=.fields tz∧tz[3]? = some .none)→Q () { s with heap:=h' }):wpAny M A (setFlight (.ref e) none) Q E s:=by
 obtain ⟨oT,q1,q2⟩:=en.way
 have d':=Obj.data_mapFields hd (·.setIfInBounds 1 (Value.ref T))
 simp only [setFlight]
 refine wpAny_bind (wpAny_field en.exc d' (x:=.ref T) (by simp [hz]) ?_)
 rw [if_pos (by simp)]
 refine wpAny_setField q1 q2 z3 (k _ (fun b hb=>Heap.get?_update_other _ _ (Ne.symm hb)) ⟨_,_,Heap.get?_update_self _ q1 (Obj.isFreed_of_fields (Obj.data_mapFields q2 _)),Obj.data_mapFields q2 _,by simp [z3]⟩)
theorem JO_ {Q:Unit→Shared→Prop} (hA:A.frames=some (env::outer)) (hF:s.heap.FunFrames base (env::outer)) (hL:env.frame=some L) (hk:HOk P w H s.heap) (xs:XS H s.heap lo e C dd)
  (k:∀ h',Mv (frs (env::outer)) s.heap h' e→XS H h' lo e C dd→Q () { s with heap:=h' }) :
  wpAny M A (noteFrame (.ref e) env) (fun _ s2=>wpAny M A (setFlight (.ref e) none) Q E s2) E s:=by
 obtain ⟨oe,vs,he,hc,hdd,hd,hz,tb⟩:=xs.obj
 have elt:e<s.heap.objs.size:=Heap.lt_size he
 have hlo:lo≤s.heap.objs.size:=Nat.le_trans xs.yg (Nat.le_of_lt elt)
 simp only [noteFrame,hL]
 rcases tb with tb|⟨T,oT,ts,tb,hTe,hTl,hTn,hT,hTd,t3⟩
 ·refine wpAny_bind (wpAny_field he hd tb ?_)
  rw [if_neg (by decide)]
  refine yI_ hA hF hL he hd hz fun h1 T1 t1 en z3 g3=>?_
  refine yH_ (s:={ s with heap:=h1 }) en hd hz z3 elt fun h2 same way=>?_
  have nT:∀ b o,s.heap.get? b=some o→b≠T1:=fun b o q=>Nat.ne_of_lt (Nat.lt_of_lt_of_le (Heap.lt_size q) en.new)
  have d1:=Obj.data_mapFields hd (·.setIfInBounds 1 (Value.ref T1))
  refine k h2 ⟨fun b o q nf nb _=>?_,fun b o q nb _=>?_,fun b o q=>?_⟩ ⟨xs.yg,xs.trk,_,_,?_,?_,?_,d1,by simpa using hz,.inr ?_⟩
  ·rw [same b (nT b o q)];exact en.keep b o q nf nb
  ·obtain ⟨sl,z⟩:=en.slot b o q nb
   exact ⟨sl,by rw [same b (nT b o q)];exact z⟩
  ·by_cases nb:b=e
   ·subst nb;exact ⟨_,by rw [same _ (nT _ o q)];exact en.exc⟩
   ·obtain ⟨sl,z⟩:=en.slot b o q nb
    exact ⟨_,by rw [same b (nT b o q)];exact z⟩
  ·rw [same e (nT e _ he)];exact en.exc
  ·rw [Obj.cls_mapFields];exact hc
  ·rw [YE_];exact hdd
  ·obtain ⟨o1,tz,w1,w2,w3⟩:=way
   exact ⟨T1,o1,tz,by simp [hz],fun z=>nT e _ he z.symm,Nat.le_trans hlo en.new,hk.fresh en.new,w1,w2,w3⟩
 ·refine wpAny_bind (wpAny_field he hd tb ?_)
  rw [if_pos (by simp)]
  refine wpAny_bind (wpAny_field hT hTd t3 ?_)
  rw [if_neg zab_]
  have z3':3<ts.size:=(Array.getElem?_eq_some_iff.mp t3).1
  refine wpAny_bind (wpAny_setField hT hTd z3' ?_)
  have off:∀ b,b≠T→(s.heap.update T (Obj.mapFields (·.setIfInBounds 3 Value.none))).get? b=s.heap.get? b:=fun b hb=>Heap.get?_update_other _ _ (Ne.symm hb)
  have hF':(s.heap.update T (Obj.mapFields (·.setIfInBounds 3 Value.none))).FunFrames base (env::outer):=hF.of_keeps fun b o q r=>⟨o,(off b fun z=>by subst z;rw [hT] at q;cases q;exact r ts hTd).trans q,rfl⟩
  have he':(s.heap.update T (Obj.mapFields (·.setIfInBounds 3 Value.none))).get? e=some oe:=(off e (Ne.symm hTe)).trans he
  have zz:(s.heap.update T (Obj.mapFields (·.setIfInBounds 3 Value.none))).objs.size=s.heap.objs.size:=Heap.size_update ..
  refine yI_ (s:={ s with heap:=s.heap.update T (Obj.mapFields (·.setIfInBounds 3 Value.none)) }) hA hF' hL he' hd hz fun h1 T1 t1 en z3 g3=>?_
  refine yH_ (s:={ s with heap:=h1 }) en hd hz z3 (by rw [zz];exact elt) fun h2 same way=>?_
  have nw:s.heap.objs.size≤T1:=by have:=en.new;rw [zz] at this;exact this
  have nT:∀ b o,s.heap.get? b=some o→b≠T1:=fun b o q=>Nat.ne_of_lt (Nat.lt_of_lt_of_le (Heap.lt_size q) nw)
  have isT:TbOf s.heap e T:=⟨oe,vs,he,hd,tb⟩
  have nTT:∀ b,¬ TbOf s.heap e b→b≠T:=fun b z q=>z (q▸isT)
  have d1:=Obj.data_mapFields hd (·.setIfInBounds 1 (Value.ref T1))
  have T0:(s.heap.update T (Obj.mapFields (·.setIfInBounds 3 Value.none))).get? T=some (oT.mapFields (·.setIfInBounds 3 Value.none)):=Heap.get?_update_self _ hT (Obj.isFreed_of_fields (Obj.data_mapFields hTd _))
  refine k h2 ⟨fun b o q nf nb nt=>?_,fun b o q nb nt=>?_,fun b o q=>?_⟩ ⟨xs.yg,xs.trk,_,_,?_,?_,?_,d1,by simpa using hz,.inr ?_⟩
  ·rw [same b (nT b o q)];exact en.keep b o ((off b (nTT b nt)).trans q) nf nb
  ·obtain ⟨sl,z⟩:=en.slot b o ((off b (nTT b nt)).trans q) nb
   exact ⟨sl,by rw [same b (nT b o q)];exact z⟩
  ·by_cases nb:b=e
   ·subst nb;exact ⟨_,by rw [same _ (nT _ o q)];exact en.exc⟩
   ·by_cases nt:b=T
    ·subst nt
     obtain ⟨sl,z⟩:=en.slot b _ T0 nb
     exact ⟨_,by rw [same b (nT b o q)];exact z⟩
    ·obtain ⟨sl,z⟩:=en.slot b o ((off b nt).trans q) nb
     exact ⟨_,by rw [same b (nT b o q)];exact z⟩
  ·rw [same e (nT e _ he)];exact en.exc
  ·rw [Obj.cls_mapFields];exact hc
  ·rw [YE_];exact hdd
  ·obtain ⟨o1,tz,w1,w2,w3⟩:=way
   exact ⟨T1,o1,tz,by simp [hz],fun z=>nT e _ he z.symm,Nat.le_trans hlo nw,hk.fresh nw,w1,w2,w3⟩
theorem Ut_ {Q:Unit→Shared→Prop} (hA:A.frames=some (env::outer)) (hF:s.heap.FunFrames base (env::outer)) (hL:env.frame=some L) (hk:HOk P w H s.heap) (xs:XS H s.heap lo e C dd)
  (k:∀ h',Mv (frs (env::outer)) s.heap h' e→XS H h' lo e C dd→Q () { s with heap:=h' }):wpAny M A (leaving env (.ref e)) Q E s:=by
 unfold leaving
 exact wpAny_bind (JO_ hA hF hL hk xs k)
end
end L4
set_option Elab.async false
set_option linter.all false
set_option maxRecDepth 100000
namespace L4
open PySem PySem.Spec PyProof.Rows L2 L3
section
variable {fs:List Addr} {h h':Heap} {e C:Addr} {dd:Option Addr} {H:Hp} {lo:Nat} {P:Program} {w:World}
theorem XO.ok {H':Hp} (x:XO e C dd h):ObjOk P w H' h e (.ext (XO e C dd)):=by
 obtain ⟨oe,q,r⟩:=x
 exact ⟨⟨oe,q,r⟩,⟨oe,q⟩,fun h1 h2 ⟨o,z,r⟩ k=>⟨o,k o z,r⟩⟩
theorem XS.xo (xs:XS H h lo e C dd):XO e C dd h:=by
 obtain ⟨oe,vs,q,c,d,z,_⟩:=xs.obj
 exact ⟨oe,q,c,d,by unfold PySem.W.notCls;rw [z]⟩
theorem XS.tb (xs:XS H h lo e C dd) {b:Addr} (t:TbOf h e b):H b=none∧lo≤b∧b≠e∧∃ oT ts,h.get? b=some oT∧oT.data=.fields ts:=by
 obtain ⟨oe,vs,q,c,d,z,_,k⟩:=xs.obj
 obtain ⟨oe',vs',q',z',k'⟩:=t
 rw [q] at q';cases q'
 rw [z] at z';cases z'
 rcases k with k|⟨T,oT,ts,k,ne,l,n,g,gd,_⟩
 ·rw [k] at k';cases k'
 ·rw [k] at k'
  cases k'
  exact ⟨n,l,ne,oT,ts,g,gd⟩
theorem XS.tb_list (xs:XS H h lo e C dd):∃ ch:List Addr,∀ b,b∈ch↔TbOf h e b:=by
 obtain ⟨oe,vs,q,c,d,z,_,k⟩:=xs.obj
 rcases k with k|⟨T,oT,ts,k,_⟩
 ·exact ⟨[],fun b=>⟨fun z=>(nomatch z),fun ⟨oe',vs',q',z',k'⟩=>by rw [q] at q';cases q';rw [z] at z';cases z';rw [k] at k';cases k'⟩⟩
 ·refine ⟨[T],fun b=>⟨fun y=>?_,fun ⟨oe',vs',q',z',k'⟩=>?_⟩⟩
  ·rw [List.mem_singleton.mp y];exact ⟨oe,vs,q,z,k⟩
  ·rw [q] at q';cases q'
   rw [z] at z';cases z'
   rw [k] at k';cases k'
   exact List.mem_singleton.mpr rfl
theorem Mv.hok (m:Mv fs h h' e) (ok:HOk P w H h) (xs:XS H h lo e C dd) (xs':XS H h' lo e C dd) (hf:∀ b∈fs,H b=none):HOk P w H h':=fun a o q=>by
 by_cases ae:a=e
 ·subst ae
  rw [xs.trk] at q;cases q
  exact xs'.xo.ok
 ·refine (ok a o q).stay (fun b u hb z=>?_) (fun _ z=>z) fun _ _ z=>z
  have hbH:∃ v,H b=some v:=by
   rcases hb with rfl|hb
   ·exact ⟨o,q⟩
   ·exact ⟨_,hb⟩
  obtain ⟨v,hv⟩:=hbH
  refine m.keep b u z (fun y=>by rw [hf b y] at hv;cases hv) (fun y=>?_) fun y=>by rw [(xs.tb y).1] at hv;cases hv
  subst y
  rcases hb with rfl|hb
  ·exact ae rfl
  ·rw [xs.trk] at hb;cases hb
theorem Mv.un {ch:List Addr} (m:Mv fs h h' e) (xs:XS H h lo e C dd) (hc:∀ b,b∈ch↔TbOf h e b):Un fs ch H H h h' where
 keep:=fun b o q n hb hx=>m.keep b o q hb (fun z=>by subst z;rw [xs.trk] at n;cases n) fun z=>hx ((hc b).mpr z)
 slot:=fun b o q n hb hx=>m.slot b o q (fun z=>by subst z;rw [xs.trk] at n;cases n) fun z=>hx ((hc b).mpr z)
 free:=fun _ _ _ n _=>n
 there:=fun b o q _=>m.there b o q
 tups:=fun _ _ z=>z
 frzs:=fun _ _ _ z=>z
 tbls:=fun b ps z=>⟨#[],by rw [z];simp⟩
end
section
variable {X:Cx} {pins:List (Addr×Obj)} {σ:L2.St} {H:Hp} {s:Shared} {h':Heap} {e C:Addr} {dd:Option Addr} {lo:Nat}
theorem Inv.mv (I:Inv X pins σ H s) (m:Mv (frs X.stack) s.heap h' e) (xs:XS H s.heap lo e C dd) (xs':XS H h' lo e C dd) (hlo:X.s₀.heap.objs.size≤lo) (hp:∀ p∈X.pn++pins,¬ TbOf s.heap e p.1) (t':Nat):Inv X pins σ H { s with heap:=h',toks:=t' }:=by
 obtain ⟨ch,hc⟩:=xs.tb_list
 refine I.call (g':=s.gens) (d':=s.drawn) (t':=t') (m.un xs hc) (m.hok I.hok xs xs' I.stkFree) I.bare fun b hb=>?_
 have tb:=(hc b).mp hb
 obtain ⟨n,l,ne,oT,ts,g,gd⟩:=xs.tb tb
 refine ⟨.inr (Nat.le_trans hlo l),fun z=>?_,fun x c q z=>?_,fun p hp' z=>hp p hp' (z▸tb)⟩
 ·subst z
  obtain ⟨m,⟨o,es,ep,ho,hd,_⟩,_⟩:=I.loc
  rw [g] at ho;cases ho
  rw [gd] at hd;cases hd
 ·subst z
  obtain ⟨v,o,ho,hd⟩:=I.cell x c q
  rw [g] at ho;cases ho
  rw [gd] at hd;cases hd
end
def CX1 (P:Program) (w:World):CXT:=fun outer H s E e s'=>∃ a C dd H',e=.ref a∧s'.os=s.os∧AllBare s'.gens∧Un (frs outer) [] H H' s.heap s'.heap∧HOk P w H' s'.heap∧XS H' s'.heap s.heap.objs.size a C dd∧E (.ref C) dd H'
theorem VR_ {P:Program} {w:World} {K:Fg} {mg:Str→Option Value} {base:Heap} {N:List Str} {qual:Str} {scope:Scope} {f:Addr} {cd:Value} {A:Around} {outer:List Env} {s:Shared} {H:Hp} {E:XK}
  {pins:List (Addr×Obj)} {σ:L2.St} {H':Hp} {s':Shared} {a C:Addr} {dd:Option Addr} (I:Inv (cxOf (CX1 P w) P w K mg base N qual scope f cd A outer s H E) pins σ H' s') (xs:XS H' s'.heap s.heap.objs.size a C dd) (hE:E (.ref C) dd H') :
  (cxOf (CX1 P w) P w K mg base N qual scope f cd A outer s H E).xe (.ref a) s':=by
 have hF:=I.stack
 have hS:=I.stkFree
 refine Ut_ (base:=base) (L:=s.heap.objs.size) (P:=P) (w:=w) (s:=s') I.ok.frames hF rfl I.hok xs fun h1 m xs1=>?_
 have un:Un (frs outer) [] H H' s.heap s'.heap:=I.base
 have lt:∀ b o,s.heap.get? b=some o→b<s.heap.objs.size:=fun b o q=>Heap.lt_size q
 have ne:∀ b o,s.heap.get? b=some o→b≠a:=fun b o q=>Nat.ne_of_lt (Nat.lt_of_lt_of_le (lt b o q) xs.yg)
 have nt:∀ b o,s.heap.get? b=some o→¬ TbOf s'.heap a b:=fun b o q z=>absurd (Nat.lt_of_lt_of_le (lt b o q) (xs.tb z).2.1) (Nat.lt_irrefl _)
 refine ⟨a,C,dd,H',rfl,I.os,I.bare,⟨fun b o q n hb hx=>?_,fun b o q n hb hx=>?_,un.free,fun b o q hx=>?_,un.tups,un.frzs,un.tbls⟩,m.hok I.hok xs xs1 hS,xs1,hE⟩
 ·refine m.keep b o (un.keep b o q n hb hx) (fun z=>?_) (ne b o q) (nt b o q)
  rcases List.mem_cons.mp (I.stkSub b z) with y|y
  ·exact absurd (lt b o q) (by rw [y];exact Nat.lt_irrefl _)
  ·exact hb y
 ·obtain ⟨sl,z⟩:=un.slot b o q n hb hx
  obtain ⟨sl',z'⟩:=m.slot b _ z (ne b o q) (nt b o q)
  exact ⟨sl',z'⟩
 ·obtain ⟨o',z⟩:=un.there b o q hx
  exact m.there b o' z
end L4
set_option Elab.async false
set_option linter.all false
set_option maxRecDepth 100000
namespace L4
open PySem PySem.Spec PyProof.Rows L2 L3
structure Ex where
 cls:Str
 fs:List (Str×D)
inductive M (S:Type) where
 | ret (s:S)
 | exc (x:Ex)
 | bad
def M.on {S T:Type} (m:M S) (x:Ex→M T) (k:S→M T):M T:=match m with
 | .ret s=>k s
 | .exc e=>x e
 | .bad=>.bad
def bd {S T:Type} (m:M S) (k:S→M T):M T:=m.on .exc k
def oM {S:Type} (o:Option S):M S:=match o with
 | some s=>.ret s
 | none=>.bad
section
variable {S T U:Type}
@[simp] theorem W5_ (s:S) (x:Ex→M T) (k:S→M T):(M.ret s).on x k=k s:=rfl
@[simp] theorem jm_ (s:S) (k:S→M T):bd (.ret s) k=k s:=rfl
end
abbrev Pu (α:Type):=En→M α
def XR (K:Fg) (F H:Hp) (C:Addr) (dd:Option Addr) (x:Ex):Prop:=PySem.W.nsIn K mainGlobals x.cls=some (some (.ref C)) ∧
 ((x.fs=[]∧dd=none)∨∃ dx fv,dd=some dx∧H dx=some (.ext (XD dx fv))∧Paired (fun (p:Str×V) (q:Str×D)=>p.1=q.1∧Rep K F p.2 q.2) fv x.fs)
structure GOk (G:Gh) (F H:Hp):Prop where
 fh:Same F H
 oh:Same G.O H
 fo:∀ b o,G.O b=some o→F b=none∧∀ vs,o≠.tup vs
 fb:Same G.B F
def XW (X:Cx) (G:Gh) (F:Hp) (ρ:En) (x:Ex):Prop:=∀ F' H' s' a C dd pins σ,GOk G F' H'→Inv X pins σ H' s'→XS H' s'.heap X.s₀.heap.objs.size a C dd→XR X.K F' H' C dd x→X.xe (.ref a) s'
theorem XW.mono {X:Cx} {G:Gh} {F F':Hp} {ρ:En} {x:Ex} (s:Same F F') (h:XW X G F ρ x):XW X G F' ρ x:=h
def W (X:Cx) (G:Gh) (F:Hp) (σ:L2.St) (ρ:En) {α:Type} (m:M α) (C:α→Hp→Hp→Prop):Prop:=match m with
 | .ret a=>∀ F' H',Same F F'→StOk X.K G F' σ H' ρ→C a F' H'
 | .exc x=>XW X G F ρ x
 | .bad=>False
section
variable {X:Cx} {G:Gh} {F F' H:Hp} {σ:L2.St} {ρ:En} {α β:Type} {m:M α} {k:α→M β} {C C':α→Hp→Hp→Prop}
theorem W.up {C:β→Hp→Hp→Prop} {m:M β} (s:Same F F') (h:W X G F σ ρ m C):W X G F' σ ρ m C:=by
 cases m with
 | ret a=>exact fun F2 H2 s2 S2=>h F2 H2 (s.trans s2) S2
 | exc x=>exact XW.mono (X:=X) (G:=G) (ρ:=ρ) (x:=x) s h
 | bad=>exact h
theorem W.bind {C:β→Hp→Hp→Prop} (h:W X G F σ ρ (bd m k) C):W X G F σ ρ m fun a F' H'=>W X G F' σ ρ (k a) C:=by
 cases m with
 | ret a=>exact fun F2 H2 s2 S2=>W.up s2 h
 | exc x=>exact h
 | bad=>exact h
theorem W.imp (h:W X G F σ ρ m C) (w:∀ a F' H',Same F F'→StOk X.K G F' σ H' ρ→C a F' H'→C' a F' H'):W X G F σ ρ m C':=by
 cases m with
 | ret a=>exact fun F2 H2 s2 S2=>w a F2 H2 s2 S2 (h F2 H2 s2 S2)
 | exc x=>exact h
 | bad=>exact h
theorem W.opt {o:Option α} (h:W X G F σ ρ (oM o) C):∃ a,o=some a∧∀ F' H',Same F F'→StOk X.K G F' σ H' ρ→C a F' H':=by
 cases o with
 | none=>exact h.elim
 | some a=>exact ⟨a,rfl,h⟩
end
@[irreducible] def tSem (X:Cx) (e:Expr):TE:=fun σ H Q=>∀ (pins:List (Addr×Obj)) (s:Shared),Inv X pins σ H s→wpAny (model X.prog X.w) X.A (eval e X.env) (EP X pins σ Q) X.xe s
@[irreducible] def Ub_ (X:Cx) (e:Expr):TT:=fun σ H Q=>∀ (pins:List (Addr×Obj)) (s:Shared),Inv X pins σ H s→wpAny (model X.prog X.w) X.A (isTrue e X.env (eval e X.env)) (TP X pins σ Q) X.xe s
@[irreducible] def UK_ (X:Cx) (e:Expr):TT:=fun σ H Q=>∀ (whole:Sem Value) (pins:List (Addr×Obj)) (s:Shared),Inv X pins σ H s→wpAny (model X.prog X.w) X.A (isTrue e X.env whole) (TP X pins σ Q) X.xe s
@[irreducible] def uk_ (X:Cx) (es:List Expr):TA:=fun σ H Q=>∀ (pos:Pos) (pins:List (Addr×Obj)) (s:Shared),Inv X pins σ H s→wpAny (model X.prog X.w) X.A (spliced (backTo pos (starEach es X.env))) (AP X pins σ Q) X.xe s
section
variable {X:Cx} {e:Expr} {es:List Expr} {σ:L2.St} {H:Hp}
theorem zi_:PE X e (tSem X e):=fun pins s σ H Q I h=>by unfold tSem at h;exact h pins s I
theorem uv_:PT X e (Ub_ X e):=fun pins s σ H Q I h=>by unfold Ub_ at h;exact h pins s I
theorem UU_:PW X e (UK_ X e):=fun wh pins s σ H Q I h=>by unfold UK_ at h;exact h wh pins s I
theorem z4_:PA X es (uk_ X es):=fun pos pins s σ H Q I h=>by unfold uk_ at h;exact h pos pins s I
theorem sem {t:TE} {Q:VK} (h:PE X e t) (q:t σ H Q):tSem X e σ H Q:=by unfold tSem;exact fun pins s I=>h pins s σ H Q I q
theorem semT {t:TT} {Q:Bool→Hp→Prop} (h:PT X e t) (q:t σ H Q):Ub_ X e σ H Q:=by unfold Ub_;exact fun pins s I=>h pins s σ H Q I q
theorem semW {t:TT} {Q:Bool→Hp→Prop} (h:PW X e t) (q:t σ H Q):UK_ X e σ H Q:=by unfold UK_;exact fun wh pins s I=>h wh pins s σ H Q I q
theorem semA {t:TA} {Q:List V→Hp→Prop} (h:PA X es t) (q:t σ H Q):uk_ X es σ H Q:=by unfold uk_;exact fun pos pins s I=>h pos pins s σ H Q I q
end
def ownL (ρ:En) (i:Nat):Option (List D):=match ρ[i]? with
 | some (some (.ol (.l ds)))=>some ds
 | some (some (.op (.l ds)))=>some ds
 | _=>none
theorem uH_ {ρ:En} {i:Nat} {ds:List D} (h:ownL ρ i=some ds):own ρ i (.l ds):=by
 unfold ownL at h
 split at h
 ·rename_i q;cases h;exact .inl q
 ·rename_i q;cases h;exact .inr q
 ·cases h
def VO (K:Fg) (F:Hp) (σ:L2.St) (ρ:En) (v:V) (d:D):Prop:=Rep K F v d∨∃ i c,own ρ i c∧σ[i]? = some (some v)∧d=c.d
inductive VOs (K:Fg) (F:Hp) (σ:L2.St) (ρ:En):List V→List D→Prop
 | nil:VOs K F σ ρ [] []
 | cons {v d vs ds}:VO K F σ ρ v d→VOs K F σ ρ vs ds→VOs K F σ ρ (v::vs) (d::ds)
theorem VO.mono {K:Fg} {F F':Hp} {σ:L2.St} {ρ:En} {v:V} {d:D} (s:Same F F') (h:VO K F σ ρ v d):VO K F' σ ρ v d:=h.imp (Rep.mono s) id
theorem VOs.mono {K:Fg} {F F':Hp} {σ:L2.St} {ρ:En} (s:Same F F'):∀ {vs ds},VOs K F σ ρ vs ds→VOs K F' σ ρ vs ds
 | _,_,.nil=>.nil
 | _,_,.cons h t=>.cons (h.mono s) (t.mono s)
def OR (K:Fg) (F H:Hp) (v:V) (d:D):Prop:=Rep K F v d∨∃ a c,v=.ref a∧d=c.d∧Held K F H a c
inductive ORs (K:Fg) (F H:Hp):List V→List D→Prop
 | nil:ORs K F H [] []
 | cons {v d vs ds}:OR K F H v d→ORs K F H vs ds→ORs K F H (v::vs) (d::ds)
theorem VO.or {K:Fg} {G:Gh} {F H:Hp} {σ:L2.St} {ρ:En} {v:V} {d:D} (S:StOk K G F σ H ρ) (h:VO K F σ ρ v d):OR K F H v d:=by
 rcases h with h|⟨i,c,ho,hv,rfl⟩
 ·exact .inl h
 ·obtain ⟨a,e1,oa⟩:=S.ow i _ ho
  rw [hv] at e1
  injection e1 with e1;injection e1 with e1
  exact .inr ⟨a,c,e1,rfl,oa.he⟩
theorem VOs.ors {K:Fg} {G:Gh} {F H:Hp} {σ:L2.St} {ρ:En} (S:StOk K G F σ H ρ):∀ {vs ds},VOs K F σ ρ vs ds→ORs K F H vs ds
 | _,_,.nil=>.nil
 | _,_,.cons h t=>.cons (h.or S) (t.ors S)
section
variable {K:Fg} {F H:Hp} {v:V} {ds:List D}
theorem OR.rep {d:D} (s:Same F H) (h:OR K F H v d):Rep K H v d:=by
 rcases h with h|⟨a,c,rfl,rfl,h1⟩
 ·exact h.mono s
 ·obtain ⟨o,e,r⟩:=Yu_ h1;exact r H s e
theorem OR.list (s:Same F H) (h:OR K F H v (.list ds)):∃ a vs,v=.ref a∧SqL K H a vs∧RepL K F vs ds:=by
 rcases h with h|⟨a,c,e,e2,h1⟩
 ·cases h with
  | lst h1 h2=>exact ⟨_,_,rfl,s.seq h1,h2⟩
 ·cases c<;>cases e2
  obtain ⟨vs,h1,h2⟩:=h1
  exact ⟨a,vs,e,.inl (.inl h1),h2⟩
theorem OR.tuple (s:Same F H) (h:OR K F H v (.tuple ds)):∃ a vs,v=.ref a∧SqT K H a vs∧RepL K F vs ds:=by
 rcases h with h|⟨a,c,e,e2,h1⟩
 ·cases h with
  | tup h1 h2=>exact ⟨_,_,rfl,SqT.of (s _ _ h1),h2⟩
 ·cases c<;>cases e2
theorem OR.tup' (h:OR K F H v (.tuple ds)):Rep K F v (.tuple ds):=by
 rcases h with h|⟨a,c,e,e2,h1⟩
 ·exact h
 ·cases c<;>cases e2
theorem OR.int {i:Int} (h:OR K F H v (.int i)):v=.int i:=by
 rcases h with h|⟨a,c,e,e2,h1⟩
 ·cases h;rfl
 ·cases c<;>cases e2
theorem OR.bool {i:Bool} (h:OR K F H v (.bool i)):v=.bl i:=by
 rcases h with h|⟨a,c,e,e2,h1⟩
 ·cases h;rfl
 ·cases c<;>cases e2
theorem OR.str {i:Str} (h:OR K F H v (.str i)):v=.str i:=by
 rcases h with h|⟨a,c,e,e2,h1⟩
 ·cases h;rfl
 ·cases c<;>cases e2
theorem zv_ {vs:List V} {d:D} {ds:List D} (h:ORs K F H vs (d::ds)):∃ v r,vs=v::r∧OR K F H v d∧ORs K F H r ds:=by
 cases h with|cons a b=>exact ⟨_,_,rfl,a,b⟩
theorem zK_ {vs:List V} (h:ORs K F H vs []):vs=[]:=by cases h;rfl
end
def AP (X:Cx) (e:Expr) (p:Pu D):Prop :=
 ∀ (G:Gh) (F:Hp) (σ:L2.St) (H:Hp) (ρ:En) (Q:VK),StOk X.K G F σ H ρ→W X G F σ ρ (p ρ) (fun d F' H'=>∀ v,Rep X.K F' v d→Q v H')→tSem X e σ H Q
def AO (X:Cx) (e:Expr) (p:Pu D):Prop :=
 ∀ (G:Gh) (F:Hp) (σ:L2.St) (H:Hp) (ρ:En) (Q:VK),StOk X.K G F σ H ρ→W X G F σ ρ (p ρ) (fun d F' H'=>∀ v,VO X.K F' σ ρ v d→Q v H')→tSem X e σ H Q
def AT (X:Cx) (e:Expr) (p:Pu Bool):Prop :=
 ∀ (G:Gh) (F:Hp) (σ:L2.St) (H:Hp) (ρ:En) (Q:Bool→Hp→Prop),StOk X.K G F σ H ρ→W X G F σ ρ (p ρ) (fun d F' H'=>Q d H')→Ub_ X e σ H Q
def AW (X:Cx) (e:Expr) (p:Pu Bool):Prop :=
 ∀ (G:Gh) (F:Hp) (σ:L2.St) (H:Hp) (ρ:En) (Q:Bool→Hp→Prop),StOk X.K G F σ H ρ→W X G F σ ρ (p ρ) (fun d F' H'=>Q d H')→UK_ X e σ H Q
def AB (X:Cx) (e:Expr) (p:Pu Bool):Prop :=
 ∀ (G:Gh) (F:Hp) (σ:L2.St) (H:Hp) (ρ:En) (Q:VK),StOk X.K G F σ H ρ→W X G F σ ρ (p ρ) (fun d F' H'=>Q (.bl d) H')→tSem X e σ H Q
def AA {α:Type} (X:Cx) (es:List Expr) (m:(List D→M α)→En→M α):Prop :=
 ∀ (G:Gh) (F:Hp) (σ:L2.St) (H:Hp) (ρ:En) (Q:List V→Hp→Prop) (k:List D→M α) (C:α→Hp→Hp→Prop),StOk X.K G F σ H ρ→W X G F σ ρ (m k ρ) C →
  (∀ ds vs F' H',Same F F'→StOk X.K G F' σ H' ρ→vs.length=es.length→RepL X.K F' vs ds→W X G F' σ ρ (k ds) C→Q vs H')→uk_ X es σ H Q
def AAo {α:Type} (X:Cx) (es:List Expr) (m:(List D→M α)→En→M α):Prop :=
 ∀ (G:Gh) (F:Hp) (σ:L2.St) (H:Hp) (ρ:En) (Q:List V→Hp→Prop) (k:List D→M α) (C:α→Hp→Hp→Prop),StOk X.K G F σ H ρ→W X G F σ ρ (m k ρ) C →
  (∀ ds vs F' H',Same F F'→StOk X.K G F' σ H' ρ→VOs X.K F' σ ρ vs ds→W X G F' σ ρ (k ds) C→Q vs H')→uk_ X es σ H Q
def Frs (K:Fg) (G:Gh) (F:Hp) (σ:L2.St) (H:Hp) (ρ:En) (v:V) (c:OC):Prop:=∃ a,v=.ref a∧OwnAt K G F H a c∧∀ (i:Nat) (e:OC),own ρ i e→σ[i]? ≠ some (some (V.ref a))
def AL (X:Cx) (e:Expr) (p:Pu (List D)):Prop :=
 ∀ (G:Gh) (F:Hp) (σ:L2.St) (H:Hp) (ρ:En) (Q:VK),StOk X.K G F σ H ρ→W X G F σ ρ (p ρ) (fun ds F' H'=>∀ v,Frs X.K G F' σ H' ρ v (.l ds)→Q v H')→tSem X e σ H Q
def pVar (i:Nat):Pu D:=fun ρ=>match ρ[i]? with
 | some (some (.fz d))=>.ret d
 | _=>.bad
def WT_ (i:Nat):Pu D:=fun ρ=>match ρ[i]? with
 | some (some (.ol c))=>.ret c.d
 | some (some (.op c))=>.ret c.d
 | _=>.bad
def pCon (d:D):Pu D:=fun _=>.ret d
def pBin (f:D→D→Option D) (a b:Pu D):Pu D:=fun ρ=>bd (a ρ) fun x=>bd (b ρ) fun y=>oM (f x y)
def W0_ (f:D→D→Option Bool) (a b:Pu D):Pu Bool:=fun ρ=>bd (a ρ) fun x=>bd (b ρ) fun y=>oM (f x y)
abbrev Pa (α:Type):=(List D→M α)→En→M α
def pNil {α:Type}:Pa α:=fun k _=>k []
def WW_ {α:Type} (a:Pu D) (r:Pa α):Pa α:=fun k ρ=>bd (a ρ) fun x=>r (fun xs=>k (x::xs)) ρ
def fitM {S:Type} (ds:List S):M (List S):=if ds.length≤sizeLine then .ret ds else .bad
def pTup (ps:Pa D):Pu D:=fun ρ=>ps (fun ds=>.ret (.tuple ds)) ρ
def pLst (ps:Pa (List D)):Pu (List D):=fun ρ=>ps (fun ds=>.ret ds) ρ
theorem Zw_ {n:Nat} (h:n≤1000):n≤sizeLine:=Nat.le_trans h (by decide)
def WZ_ (f:List D→Option D) (ps:Pa D):Pu D:=fun ρ=>ps (fun ds=>oM (f ds)) ρ
def WY_ (f:List D→Option Bool) (ps:Pa Bool):Pu Bool:=fun ρ=>ps (fun ds=>oM (f ds)) ρ
def WX_ (f:List D→Option (List D)) (ps:Pa (List D)):Pu (List D):=fun ρ=>ps (fun ds=>oM (f ds)) ρ
def pB (p:Pu Bool):Pu D:=fun ρ=>bd (p ρ) fun b=>.ret (.bool b)
def pZ (p:Pu (List D)):Pu D:=fun ρ=>bd (p ρ) fun ds=>.ret (.list ds)
def pAnd (a b:Pu Bool):Pu Bool:=fun ρ=>bd (a ρ) fun t=>if t then b ρ else .ret false
def pOr (a b:Pu Bool):Pu Bool:=fun ρ=>bd (a ρ) fun t=>if t then .ret true else b ρ
def pNot (a:Pu Bool):Pu Bool:=fun ρ=>bd (a ρ) fun t=>.ret (!t)
def pIf {α:Type} (c:Pu Bool) (a b:Pu α):Pu α:=fun ρ=>bd (c ρ) fun t=>if t then a ρ else b ρ
def OpD (K:Fg) (r:R2) (f:D→D→Option D):Prop :=
 ∀ (G:Gh) (F:Hp) (σ:L2.St) (H:Hp) (ρ:En) (x y:V) (dx dy:D) (res:D) (Q:VK),StOk K G F σ H ρ→OR K F H x dx→OR K F H y dy→f dx dy=some res →
  (∀ v F' H',Same F F'→StOk K G F' σ H' ρ→Rep K F' v res→Q v H')→r x y H Q
def OpB (K:Fg) (r:R2) (f:D→D→Option Bool):Prop :=
 ∀ (G:Gh) (F:Hp) (σ:L2.St) (H:Hp) (ρ:En) (x y:V) (dx dy:D) (res:Bool) (Q:VK),StOk K G F σ H ρ→OR K F H x dx→OR K F H y dy→f dx dy=some res→Q (.bl res) H→r x y H Q
def us_ (K:Fg) (r:List V→Hp→VK→Prop) (f:List D→Option D):Prop :=
 ∀ (G:Gh) (F:Hp) (σ:L2.St) (H:Hp) (ρ:En) (xs:List V) (ds:List D) (res:D) (Q:VK),StOk K G F σ H ρ→ORs K F H xs ds→f ds=some res →
  (∀ v F' H',Same F F'→StOk K G F' σ H' ρ→Rep K F' v res→Q v H')→r xs H Q
def J7_ (K:Fg) (r:List V→Hp→VK→Prop) (f:List D→Option Bool):Prop :=
 ∀ (G:Gh) (F:Hp) (σ:L2.St) (H:Hp) (ρ:En) (xs:List V) (ds:List D) (res:Bool) (Q:VK),StOk K G F σ H ρ→ORs K F H xs ds→f ds=some res→Q (.bl res) H→r xs H Q
section
variable {X:Cx} {e a b c:Expr} {es rest:List Expr} {p pa pb:Pu D} {ta tb tc:Pu Bool} {ps:Pa D} {pb':Pa Bool} {pl:Pa (List D)} {α:Type} {pα:Pa α} {qs:Pu (List D)} {pos:Pos}
theorem XD_ {i:Nat} {x:Str} (hN:X.N[i]? = some x) (hv:Vis X.env.scope x) (hd:(x==("__debug__" : Str))=false:=by decide) (hcd:(x==("__classdict__" : Str))=false:=by decide):AP X (.Name x pos) (pVar i) :=
 fun G F σ H ρ Q S w=>sem (jV_ hN hv hd hcd)<|by
  unfold pVar at w
  split at w
  ·rename_i d q
   obtain ⟨v,e1,r1⟩:=S.fz i d q
   exact ⟨v,e1,w F H (Same.refl _) S v r1⟩
  ·exact w.elim
theorem j5_ {i:Nat} {x:Str} (hN:X.N[i]? = some x) (hv:Vis X.env.scope x) (hd:(x==("__debug__" : Str))=false:=by decide) (hcd:(x==("__classdict__" : Str))=false:=by decide):AO X (.Name x pos) (WT_ i) :=
 fun G F σ H ρ Q S w=>sem (jV_ hN hv hd hcd)<|by
  have go:∀ c:OC,own ρ i c→W X G F σ ρ (.ret c.d) (fun d F' H'=>∀ v,VO X.K F' σ ρ v d→Q v H')→tVar i σ H Q:=fun ds ho w=>by
   obtain ⟨a,e1,oa⟩:=S.ow i _ ho
   exact ⟨_,e1,w F H (Same.refl _) S _ (.inr ⟨i,ds,ho,e1,rfl⟩)⟩
  unfold WT_ at w
  split at w
  ·rename_i ds q;exact go ds (.inl q) w
  ·rename_i ds q;exact go ds (.inr q) w
  ·exact w.elim
theorem ao (h:AP X e p):AO X e p:=fun G F σ H ρ Q S w=>h G F σ H ρ Q S (w.imp fun d F' H' _ _ q v r=>q v (.inl r))
theorem ZZ_ {v:V} {d:D} (h:PE X e (tC v)) (r:∀ F,Rep X.K F v d):AP X e (pCon d) :=
 fun G F σ H ρ Q S w=>sem h (w F H (Same.refl _) S v (r F))
theorem zc_ {i j}:AP X (.Constant (.int i) j pos) (pCon (.int i)):=ZZ_ WS_ fun _=>.int _
theorem Wi_ {i j}:AP X (.Constant (.bool i) j pos) (pCon (.bool i)):=ZZ_ X3_ fun _=>.bl _
theorem zH_ {i j}:AP X (.Constant (.str i) j pos) (pCon (.str i)):=ZZ_ Q2_ fun _=>.str _
theorem jN_ {j}:AP X (.Constant .none j pos) (pCon .none):=ZZ_ WP_ fun _=>.non
theorem J1_ {r:R2} {Q:VK} {G:Gh} {F H:Hp} {σ:L2.St} {ρ:En} {α:Type} {f:D→D→M α} {C:α→Hp→Hp→Prop} (ha:AO X a pa) (hb:AO X b pb) (S:StOk X.K G F σ H ρ) (w:W X G F σ ρ (bd (pa ρ) fun x=>bd (pb ρ) fun y=>f x y) C)
  (k:∀ x y dx dy F' H',Same F F'→StOk X.K G F' σ H' ρ→OR X.K F' H' x dx→OR X.K F' H' y dy→W X G F' σ ρ (f dx dy) C→r x y H' Q):tOp r (tSem X a) (tSem X b) σ H Q :=
 ha G F σ H ρ _ S (w.bind.imp fun dx F1 H1 s1 S1 w1 x hx=>hb G F1 σ H1 ρ _ S1 (w1.bind.imp fun dy F2 H2 s2 S2 w2 y hy=>k x y dx dy F2 H2 (s1.trans s2) S2 ((hx.mono s2).or S2) (hy.or S2) w2))
theorem zn_ {op:Operator} {r:R2} {f:D→D→Option D} (ho:OpR X (binaryOp op) r) (hf:OpD X.K r f) (ha:AO X a pa) (hb:AO X b pb):AP X (.BinOp a op b pos) (pBin f pa pb) :=
 fun G F σ H ρ Q S w=>sem (WO_ ho zi_ zi_) (J1_ ha hb S w fun x y dx dy F' H' s' S' hx hy w'=>by
  obtain ⟨res,e,k⟩:=w'.opt
  exact hf G F' σ H' ρ x y dx dy res Q S' hx hy e fun v F2 H2 s2 S2 r2=>k F2 H2 s2 S2 v r2)
theorem yb_ {r:R2} {f:D→D→Option D} (hr:IxR X r) (hf:OpD X.K r f) (ha:AO X a pa) (hb:AO X b pb) (hs:Jv_ b):AP X (.Subscript a b pos) (pBin f pa pb) :=
 fun G F σ H ρ Q S w=>sem (WR_ hr zi_ zi_ hs) (J1_ ha hb S w fun x y dx dy F' H' s' S' hx hy w'=>by
  obtain ⟨res,e,k⟩:=w'.opt
  exact hf G F' σ H' ρ x y dx dy res Q S' hx hy e fun v F2 H2 s2 S2 r2=>k F2 H2 s2 S2 v r2)
theorem Y5_ {op:CmpOp} {r:R2} {f:D→D→Option Bool} (ho:OpR X (compareOp op) r) (hf:OpB X.K r f) (ha:AO X a pa) (hb:AO X b pb) (hm:behindInMarks op b=false):AB X (.Compare a [op] [b] pos) (W0_ f pa pb) :=
 fun G F σ H ρ Q S w=>sem (VC_ ho zi_ zi_ hm) (J1_ ha hb S w fun x y dx dy F' H' s' S' hx hy w'=>by
  obtain ⟨res,e,k⟩:=w'.opt
  exact hf G F' σ H' ρ x y dx dy res Q S' hx hy e (k F' H' (Same.refl _) S'))
theorem zU_ {op:CmpOp} {r:R2} {f:D→D→Option Bool} (ho:OpR X (compareOp op) r) (hf:OpB X.K r f) (ha:AO X a pa) (hb:AO X b pb) (hm:behindInMarks op b=false):AT X (.Compare a [op] [b] pos) (W0_ f pa pb) :=
 fun G F σ H ρ Q S w=>semT (Vw_ ho zi_ zi_ hm) (J1_ (Q:=fun x H'=>∃ k,x=.bl k∧Q k H') ha hb S w fun x y dx dy F' H' s' S' hx hy w'=>by
  obtain ⟨res,e,k⟩:=w'.opt
  exact hf G F' σ H' ρ x y dx dy res _ S' hx hy e ⟨res,rfl,k F' H' (Same.refl _) S'⟩)
theorem ap_b (h:AB X e ta):AP X e (pB ta):=fun G F σ H ρ Q S w=>h G F σ H ρ Q S (w.bind.imp fun b F' H' s1 S1 w1=>w1 F' H' (Same.refl _) S1 _ (.bl b))
theorem ap_z (h:AL X e qs):AP X e (pZ qs):=fun G F σ H ρ Q S w=>h G F σ H ρ Q S (w.bind.imp fun ds F' H' s1 S1 w1 v fr=>by
 obtain ⟨F2,s2,S2,r2⟩:=S1.settle (v:=v) (ds:=ds) fr
 exact w1 F2 H' s2 S2 v r2)
theorem zM_:AA (α:=α) X [] pNil:=fun G F σ H ρ Q k C S w kk=>semA JJ_ (kk [] [] F H (Same.refl _) S rfl .nil w)
theorem zd_ (h:AP X e p) (hr:AA X es pα) (hs:starEach (e::es) X.env=(false,eval e X.env)::starEach es X.env):AA X (e::es) (WW_ p pα) :=
 fun G F σ H ρ Q k C S w kk=>semA (j0_ zi_ z4_ hs) (h G F σ H ρ _ S (w.bind.imp fun d F1 H1 s1 S1 w1 v r1 =>
  hr G F1 σ H1 ρ _ _ C S1 w1 fun ds vs F2 H2 s2 S2 hl r2 w2=>kk (d::ds) (v::vs) F2 H2 (s1.trans s2) S2 (by simp [hl]) (.cons (r1.mono s2) r2) w2))
theorem zh_:AAo (α:=α) X [] pNil:=fun G F σ H ρ Q k C S w kk=>semA JJ_ (kk [] [] F H (Same.refl _) S .nil w)
theorem ze_ (h:AO X e p) (hr:AAo X es pα) (hs:starEach (e::es) X.env=(false,eval e X.env)::starEach es X.env):AAo X (e::es) (WW_ p pα) :=
 fun G F σ H ρ Q k C S w kk=>semA (j0_ zi_ z4_ hs) (h G F σ H ρ _ S (w.bind.imp fun d F1 H1 s1 S1 w1 v r1 =>
  hr G F1 σ H1 ρ _ _ C S1 w1 fun ds vs F2 H2 s2 S2 r2 w2=>kk (d::ds) (v::vs) F2 H2 (s1.trans s2) S2 (.cons (r1.mono s2) r2) w2))
theorem W.fit {α:Type} {G:Gh} {F:Hp} {σ:L2.St} {ρ:En} {ds:List α} {C:List α→Hp→Hp→Prop} (h:W X G F σ ρ (fitM ds) C):ds.length≤sizeLine∧∀ F' H',Same F F'→StOk X.K G F' σ H' ρ→C ds F' H':=by
 unfold fitM at h
 split at h
 ·exact ⟨by assumption,h⟩
 ·exact h.elim
theorem Ve_ {x1} (h:AA X es ps) (hz:es.length≤1000):AP X (.Tuple es x1 pos) (pTup ps) :=
 fun G F σ H ρ Q S w=>sem (Q1_ z4_) (h G F σ H ρ _ _ _ S w fun ds vs F1 H1 s1 S1 hl r1 w1=>by
  refine ⟨by rw [hl];exact Zw_ hz,fun q hq=>?_⟩
  obtain ⟨s2,S2,r2⟩:=S1.newTup hq r1
  exact w1 _ _ s2 S2 _ r2)
theorem Z0_ (h:AA X es pl) (hz:es.length≤1000):AL X (.List es pos) (pLst pl) :=
 fun G F σ H ρ Q S w=>sem (WQ_ z4_) (h G F σ H ρ _ _ _ S w fun ds vs F1 H1 s1 S1 hl r1 w1=>by
  refine ⟨by rw [hl];exact Zw_ hz,fun q hq=>?_⟩
  obtain ⟨S2,r2⟩:=S1.newLst hq r1
  exact w1 _ _ (Same.refl _) S2 _ r2)
theorem Jq_ {r:List V→Hp→VK→Prop} {Q:VK} {G:Gh} {F H:Hp} {σ:L2.St} {ρ:En} {f:List D→M α} {C:α→Hp→Hp→Prop} (ha:AAo X es pα) (S:StOk X.K G F σ H ρ) (w:W X G F σ ρ (pα f ρ) C)
  (k:∀ xs ds F' H',Same F F'→StOk X.K G F' σ H' ρ→ORs X.K F' H' xs ds→W X G F' σ ρ (f ds) C→r xs H' Q):tCB r (uk_ X es) σ H Q :=
 ha G F σ H ρ _ _ C S w fun ds xs F1 H1 s1 S1 hx w1=>k xs ds F1 H1 s1 S1 (hx.ors S1) w1
theorem zj_ {x:Str} {p:Pos} {id:String} {r:List V→Hp→VK→Prop} {f:List D→Option D} (hc:CallR X (.builtin id) r) (hf:us_ X.K r f) (hg:Gl X x) (hm:X.mg x=none) (hv:bootBuiltins x=some (.builtin id)) (ha:AAo X (e::es) ps)
  (hn:x ≠ "__name__") (hdb:(x==("__debug__" : Str))=false) (he:starEach (e::es) X.env=(false,eval e X.env)::starEach es X.env) (hpl:(backTo pos (starEach es X.env)).any (·.1)=false):AP X (.Call (.Name x p) (e::es) [] pos) (WZ_ f ps) :=
 fun G F σ H ρ Q S w=>sem (JI_ hc hg hm hv z4_ hn hdb he hpl) (Jq_ ha S w fun xs ds F' H' s' S' hx w'=>by
  obtain ⟨res,e,k⟩:=w'.opt
  exact hf G F' σ H' ρ xs ds res Q S' hx e fun v F2 H2 s2 S2 r2=>k F2 H2 s2 S2 v r2)
theorem J5_ {x:Str} {p:Pos} {id:String} {r:List V→Hp→VK→Prop} {f:List D→Option Bool} (hc:CallR X (.builtin id) r) (hf:J7_ X.K r f) (hg:Gl X x) (hm:X.mg x=none) (hv:bootBuiltins x=some (.builtin id)) (ha:AAo X (e::es) pb')
  (hn:x ≠ "__name__") (hdb:(x==("__debug__" : Str))=false) (he:starEach (e::es) X.env=(false,eval e X.env)::starEach es X.env) (hpl:(backTo pos (starEach es X.env)).any (·.1)=false):AB X (.Call (.Name x p) (e::es) [] pos) (WY_ f pb') :=
 fun G F σ H ρ Q S w=>sem (JI_ hc hg hm hv z4_ hn hdb he hpl) (Jq_ ha S w fun xs ds F' H' s' S' hx w'=>by
  obtain ⟨res,e,k⟩:=w'.opt
  exact hf G F' σ H' ρ xs ds res Q S' hx e (k F' H' (Same.refl _) S'))
theorem zL_ {x:Str} {p:Pos} {T:String} {r:List V→Hp→VK→Prop} {f:List D→Option D} (hc:CallR X (.type T) r) (hf:us_ X.K r f) (hg:Gl X x) (hm:X.mg x=none) (hv:bootBuiltins x=some (.type T)) (ha:AAo X (e::es) ps)
  (hn:x ≠ "__name__") (hdb:(x==("__debug__" : Str))=false) (he:starEach (e::es) X.env=(false,eval e X.env)::starEach es X.env) (hpl:(backTo pos (starEach es X.env)).any (·.1)=false):AP X (.Call (.Name x p) (e::es) [] pos) (WZ_ f ps) :=
 fun G F σ H ρ Q S w=>sem (U0_ hc hg hm hv z4_ hn hdb he hpl) (Jq_ ha S w fun xs ds F' H' s' S' hx w'=>by
  obtain ⟨res,e,k⟩:=w'.opt
  exact hf G F' σ H' ρ xs ds res Q S' hx e fun v F2 H2 s2 S2 r2=>k F2 H2 s2 S2 v r2)
theorem at_b (ha:AB X a ta) (he:∀ whole,isTrue a X.env whole=(do let v ←whole;standAt a.pos;holding [v] (truthy v))):AT X a ta :=
 fun G F σ H ρ Q S w=>semT (Ql_ zi_ he) (ha G F σ H ρ _ S (w.imp fun x F1 H1 s1 S1 w1=>⟨x,rfl,w1⟩))
theorem YU_ (ha:AT X a ta):AW X (.BoolOp .And [a] pos) ta:=fun G F σ H ρ Q S w=>semW (Vt_ uv_) (ha G F σ H ρ Q S w)
theorem J2_ (ha:AT X a ta):AW X (.BoolOp .Or [a] pos) ta:=fun G F σ H ρ Q S w=>semW (WI_ uv_) (ha G F σ H ρ Q S w)
theorem Vb_ (ha:AT X a ta) (hb:AW X (.BoolOp .And (b::rest) pos) tb):AW X (.BoolOp .And (a::b::rest) pos) (pAnd ta tb) :=
 fun G F σ H ρ Q S w=>semW (WJ_ uv_ UU_) (ha G F σ H ρ _ S (w.bind.imp fun t F1 H1 s1 S1 w1=>by
  cases t with
  | true=>refine iteT ?_;exact hb G F1 σ H1 ρ Q S1 w1
  | false=>refine iteF ?_;exact w1 F1 H1 (Same.refl _) S1))
theorem Jr_ (ha:AT X a ta) (hb:AW X (.BoolOp .Or (b::rest) pos) tb):AW X (.BoolOp .Or (a::b::rest) pos) (pOr ta tb) :=
 fun G F σ H ρ Q S w=>semW (XZ_ uv_ UU_) (ha G F σ H ρ _ S (w.bind.imp fun t F1 H1 s1 S1 w1=>by
  cases t with
  | true=>refine iteT ?_;exact w1 F1 H1 (Same.refl _) S1
  | false=>refine iteF ?_;exact hb G F1 σ H1 ρ Q S1 w1))
theorem UB_ (h:AW X e ta):AT X e ta:=fun G F σ H ρ Q S w=>semT (fun pins s σ H Q I h=>UU_ _ pins s σ H Q I h) (h G F σ H ρ Q S w)
theorem YV_ (ha:AT X a ta):AT X (.UnaryOp .Not a pos) (pNot ta) :=
 fun G F σ H ρ Q S w=>semT (WK_ uv_) (ha G F σ H ρ _ S (w.bind.imp fun t F1 H1 s1 S1 w1=>w1 F1 H1 (Same.refl _) S1))
theorem QP_ (hc:AT X c tc) (ha:AP X a pa) (hb:AP X b pb):AP X (.IfExp c a b pos) (pIf tc pa pb) :=
 fun G F σ H ρ Q S w=>sem (Qo_ uv_ zi_ zi_) (hc G F σ H ρ _ S (w.bind.imp fun t F1 H1 s1 S1 w1=>by
  cases t with
  | true=>refine iteT ?_;exact ha G F1 σ H1 ρ Q S1 w1
  | false=>refine iteF ?_;exact hb G F1 σ H1 ρ Q S1 w1))
end
end L4
set_option Elab.async false
set_option linter.all false
set_option maxRecDepth 100000
namespace L4
open PySem PySem.Spec PyProof.Rows L2 L3
def Qr_ (i j:Int):Bool:=(decide (-(2^64)<i)&&decide (i<2^64))||(decide (-(2^64)<j)&&decide (j<2^64))
def zV_:D→D→Option D
 | .int i,.int j=>some (.int (i+j))
 | .str a,.str b=>if a.length+b.length≤sizeLine then some (.str (a++b)) else none
 | .tuple a,.tuple b=>if a.length+b.length≤sizeLine then some (.tuple (a++b)) else none
 | .list a,.list b=>if a.length+b.length≤sizeLine then some (.list (a++b)) else none
 | _,_=>none
def zas_:D→D→Option D
 | .int i,.int j=>some (.int (i - j))
 | _,_=>none
def jy_:D→D→Option D
 | .int i,.int j=>if Qr_ i j then some (.int (i*j)) else none
 | _,_=>none
def U7_:D→D→Option D
 | .int i,.int j=>if decide (0<j)&&decide (j<1073741824) then some (.int (i / j)) else none
 | _,_=>none
def uR_:D→D→Option D
 | .int i,.int j=>if 0<j then some (.int (i % j)) else none
 | _,_=>none
def jI_:D→D→Option D
 | .int i,.int j=>if decide (0≤j)&&decide (j≤1000000)&&decide (i.natAbs<2^64) then some (.int (i^j.toNat)) else none
 | _,_=>none
def opLe:D→D→Option Bool
 | .int i,.int j=>some (decide (i≤j))
 | _,_=>none
def opGt:D→D→Option Bool
 | .int i,.int j=>some (decide (j<i))
 | _,_=>none
def opGe:D→D→Option Bool
 | .int i,.int j=>some (decide (j≤i))
 | _,_=>none
def WG_ (K:Fg):R2:=fun x y H Q=>∃ a b xs ys,x=.ref a∧y=.ref b∧SqT K H a xs∧SqT K H b ys∧xs.length+ys.length≤sizeLine ∧
 (xs=[]→Q (.ref b) H)∧(xs≠[]→ys=[]→Q (.ref a) H)∧(xs≠[]→ys≠[]→∀ p,H p=none→Q (.ref p) (upd H p (.tup (xs++ys))))
theorem op_cat0 {X:Cx}:OpR X (binaryOp .Add) (WG_ X.K):=by
 intro pins s σ H x y v u Q I rx ry h
 obtain ⟨a,b,xs,ys,rfl,rfl,ha,hb,hz,q0,q1,q2⟩:=h
 by_cases hx:xs=[]
 ·cases rx
  cases ry
  obtain ⟨its,r1,p1,_⟩:=I.tuple ha
  obtain ⟨its2,r2,p2,_⟩:=I.tuple hb
  have hv:its=[]:=r1.nil_iff.mpr hx
  obtain ⟨⟨cls,dd,data,sl⟩,ho,hc,n,hd⟩:=id p1
  obtain ⟨⟨cls2,dd2,data2,sl2⟩,ho2,hc2,n2,hd2⟩:=id p2
  simp only at hc hd hc2 hd2
  subst hc hd hc2 hd2
  exact concat_meets ⟨_,ho,rfl⟩ ⟨_,ho2,rfl⟩ noFill_tuple_add seq_tuple_add PySem.F.slot_tuple_add PySem.F.entry_tuple_add (PySem.F.args_tuple_add_2 _ _)
   (tuple_addW0 a b its.toArray its2.toArray n n2 dd dd2 sl sl2 (by simp [hv])) ⟨ho,ho2,⟨.ref b,H,I,rfl,q0 hx⟩⟩
 ·exact VK_ pins s σ H _ _ v u Q I rx ry ⟨a,b,xs,ys,rfl,rfl,ha,hb,hx,hz,q1 hx,q2 hx⟩
section
variable {K:Fg} {X:Cx}
theorem okI {C:Int→Int→Prop} {g:Int→Int→V} {f:D→D→Option D} (h:∀ dx dy res,f dx dy=some res→∃ i j,dx=.int i∧dy=.int j∧C i j∧∀ K F,Rep K F (g i j) res):OpD K (rI C g) f:=by
 intro G F σ H ρ x y dx dy res Q S ox oy e k
 obtain ⟨i,j,rfl,rfl,hc,hr⟩:=h dx dy res e
 exact ⟨i,j,ox.int,oy.int,hc,k _ F H (Same.refl _) S (hr K F)⟩
theorem okB {g:Int→Int→Bool} {f:D→D→Option Bool} (h:∀ dx dy res,f dx dy=some res→∃ i j,dx=.int i∧dy=.int j∧res=g i j):OpB K (rI0 fun i j=>.bl (g i j)) f:=by
 intro G F σ H ρ x y dx dy res Q S ox oy e k
 obtain ⟨i,j,rfl,rfl,rfl⟩:=h dx dy res e
 exact ⟨i,j,ox.int,oy.int,k⟩
theorem X8_:OpB K (rI0 fun i j=>.bl (decide (i≤j))) opLe:=okB fun dx dy res e=>by
 cases dx<;>cases dy<;>cases e
 exact ⟨_,_,rfl,rfl,rfl⟩
theorem Um_:OpB K (rI0 fun i j=>.bl (decide (j<i))) opGt:=okB fun dx dy res e=>by
 cases dx<;>cases dy<;>cases e
 exact ⟨_,_,rfl,rfl,rfl⟩
theorem zaa_:OpB K (rI0 fun i j=>.bl (decide (j≤i))) opGe:=okB fun dx dy res e=>by
 cases dx<;>cases dy<;>cases e
 exact ⟨_,_,rfl,rfl,rfl⟩
theorem Q5_:OpD K (rI CDiv fun i j=>.int (i / j)) U7_:=okI fun dx dy res e=>by
 cases dx<;>cases dy<;>try (cases e)
 rename_i i j
 dsimp only [U7_] at e
 split at e
 ·rename_i hc
  cases e
  simp only [Bool.and_eq_true,decide_eq_true_eq] at hc
  exact ⟨i,j,rfl,rfl,hc,fun _ _=>.int _⟩
 ·cases e
theorem uT_:OpD K (rI (fun _ j=>0<j) fun i j=>.int (i % j)) uR_:=okI fun dx dy res e=>by
 cases dx<;>cases dy<;>try (cases e)
 rename_i i j
 dsimp only [uR_] at e
 split at e
 ·rename_i hc
  cases e
  exact ⟨i,j,rfl,rfl,hc,fun _ _=>.int _⟩
 ·cases e
theorem yB_:OpD K (rI CPow fun i j=>.int (i^j.toNat)) jI_:=okI fun dx dy res e=>by
 cases dx<;>cases dy<;>try (cases e)
 rename_i i j
 dsimp only [jI_] at e
 split at e
 ·rename_i hc
  cases e
  simp only [Bool.and_eq_true,decide_eq_true_eq] at hc
  exact ⟨i,j,rfl,rfl,⟨hc.1.1,hc.1.2,hc.2⟩,fun _ _=>.int _⟩
 ·cases e
theorem ut_ {F:Hp} {vs:List V} {ds:List D} (r:RepL K F vs ds):vs=[]↔ds=[]:=by cases r<;>simp
def WF_ (K:Fg):R2:=fun x y H Q=>∃ l b xs zs,x=.ref l∧y=.ref b∧SqL K H l xs∧SqL K H b zs∧xs.length+zs.length≤sizeLine∧∀ p,H p=none→Q (.ref p) (upd H p (.lst (xs++zs)))
theorem VL_:OpR X (binaryOp .Add) (WF_ X.K):=by
 intro pins s σ H x y v u Q I rx ry h
 obtain ⟨l,b,xs,zs,rfl,rfl,hH,hB,hz,q⟩:=h
 cases rx
 cases ry
 obtain ⟨its,r,pl,_⟩:=I.list hH
 obtain ⟨its2,r2,pl2,_⟩:=I.list hB
 obtain ⟨⟨cls,dd,data,sl⟩,ho,hc,n,hd⟩:=id pl.isList
 obtain ⟨⟨cls2,dd2,data2,sl2⟩,ho2,hc2,n2,hd2⟩:=id pl2.isList
 simp only at hc hd hc2 hd2
 subst hc hd hc2 hd2
 have e:its.toArray++its2.toArray=(its++its2).toArray:=by simp
 refine concat_meets ⟨_,ho,rfl⟩ ⟨_,ho2,rfl⟩ noFill_list_add seq_list_add PySem.F.slot_list_add PySem.F.entry_list_add (PySem.F.args_list_add_2 _ _) (list_addW l b its.toArray its2.toArray n n2 dd dd2 sl sl2 (by rw [List.size_toArray,List.size_toArray,←r.length,←r2.length];exact hz)) ⟨ho,ho2,?_⟩
 rw [e]
 exact ⟨.ref _,_,I.laid (t':=s.toks) (o:=.lst (xs++zs)) (fun b ob q=>Heap.get?_push_of_some _ q) (Nat.le_refl _) ⟨by rw [List.length_append];exact hz,_,0,r.append r2,Heap.get?_push_size _ rfl⟩,rfl,q _ (I.hok.fresh (Nat.le_refl _))⟩
def XW_:R2:=fun x y H Q=>∃ i j,x=.str i∧y=.str j∧i.length+j.length≤sizeLine∧Q (.str (i++j)) H
def WH_ (K:Fg):R2:=fun x y H Q=>rI0 (fun i j=>.int (i+j)) x y H Q∨(XW_ x y H Q∨(WG_ K x y H Q∨WF_ K x y H Q))
theorem zF_:OpR X (binaryOp .Add) (WH_ X.K):=op_add.or (OpR.or Ul_ (op_cat0.or VL_))
theorem z2_:OpD K (WH_ K) zV_:=by
 intro G F σ H ρ x y dx dy res Q S ox oy e k
 cases dx<;>cases dy<;>try (cases e)
 ·exact .inl ⟨_,_,ox.int,oy.int,k _ F H (Same.refl _) S (.int _)⟩
 ·dsimp only [zV_] at e
  split at e
  ·rename_i hz
   cases e
   exact .inr (.inl ⟨_,_,ox.str,oy.str,hz,k _ F H (Same.refl _) S (.str _)⟩)
  ·cases e
 ·dsimp only [zV_] at e
  split at e
  ·rename_i hz
   cases e
   obtain ⟨a,vs,rfl,h1,h2⟩:=ox.list S.fh
   obtain ⟨b,us,rfl,g1,g2⟩:=oy.list S.fh
   refine .inr (.inr (.inr ⟨a,b,vs,us,rfl,rfl,h1,g1,by rw [h2.length,g2.length];exact hz,fun p hp=>?_⟩))
   obtain ⟨S2,r2⟩:=S.newLst hp (h2.append g2)
   obtain ⟨F2,s3,S3,r3⟩:=S2.settle r2
   exact k _ F2 _ s3 S3 r3
  ·cases e
 ·dsimp only [zV_] at e
  split at e
  ·rename_i hz
   cases e
   obtain ⟨a,vs,rfl,h1,h2⟩:=ox.tuple S.fh
   obtain ⟨b,us,rfl,g1,g2⟩:=oy.tuple S.fh
   refine .inr (.inr (.inl ⟨a,b,vs,us,rfl,rfl,h1,g1,by rw [h2.length,g2.length];exact hz,fun z=>?_,fun _ z=>?_,fun _ _ p hp=>?_⟩))
   ·have z':=(ut_ h2).mp z
    subst z'
    exact k _ F H (Same.refl _) S oy.tup'
   ·have z':=(ut_ g2).mp z
    subst z'
    exact k _ F H (Same.refl _) S (by rw [List.append_nil];exact ox.tup')
   ·obtain ⟨s2,S2,r2⟩:=S.newTup hp (h2.append g2)
    exact k _ _ _ s2 S2 r2
  ·cases e
theorem yC_:OpD K (rI CMul fun i j=>.int (i*j)) jy_:=okI fun dx dy res e=>by
 cases dx<;>cases dy<;>try (cases e)
 rename_i i j
 dsimp only [jy_] at e
 split at e
 ·rename_i hc
  cases e
  unfold Qr_ at hc
  simp only [Bool.or_eq_true,Bool.and_eq_true,decide_eq_true_eq] at hc
  exact ⟨i,j,rfl,rfl,hc,fun _ _=>.int _⟩
 ·cases e
end
def eqOk (d e:D):Bool:=d.canLay0&&e.canLay0&&decide (d.depth≤1000)
def opEq (d e:D):Option Bool:=if eqOk d e then some (PyData.eqv d e) else none
def opNe (d e:D):Option Bool:=if eqOk d e then some (!PyData.eqv d e) else none
def inOk (d:D) (xs:List D):Bool:=PyData.canLayAll0 xs&&d.canLay0&&decide (d.depth≤1000)
def Uw_ (i j:Str):Bool:=!(Builtin.Str.occurrences j i 0 j.length 1).isEmpty
def opIn (d c:D):Option Bool:=match c with
 | .list xs=>if inOk d xs then some (xs.any fun y=>PyData.eqv y d) else none
 | .tuple xs=>if inOk d xs then some (xs.any fun y=>PyData.eqv y d) else none
 | .str j=>match d with
  | .str i=>some (Uw_ i j)
  | _=>none
 | _=>none
def un_ (d c:D):Option Bool:=match c with
 | .list xs=>if inOk d xs then some (!xs.any fun y=>PyData.eqv y d) else none
 | .tuple xs=>if inOk d xs then some (!xs.any fun y=>PyData.eqv y d) else none
 | .str j=>match d with
  | .str i=>some (!Uw_ i j)
  | _=>none
 | _=>none
def isNone:D→Bool
 | .none=>true
 | _=>false
def W4_ (d e:D):Option Bool:=match e with
 | .none=>some (isNone d)
 | _=>none
def rD2 (K:Fg) (f:D→D→Option Bool):R2:=fun x y H Q=>∃ d e b,Rep K H x d∧Rep K H y e∧f d e=some b∧Q (.bl b) H
theorem j8_ {K:Fg} {f:D→D→Option Bool}:OpB K (rD2 K f) f:=by
 intro G F σ H ρ x y dx dy res Q S ox oy e k
 exact ⟨dx,dy,res,ox.rep S.fh,oy.rep S.fh,e,k⟩
theorem Rep.non_iff {K:Fg} {F:Hp} {v:V} {d:D} (r:Rep K F v d):(decide (v=.non))=isNone d:=by
 cases r<;>rfl
section
variable {X:Cx}
theorem Zl_ (hu:X.A.units+1100<cLine):OpR X (compareOp .Eq) (rD2 X.K opEq):=by
 intro pins s σ H x y v u Q I rx ry ⟨d,e,b,r1,r2,ho,q⟩
 obtain ⟨as,ra⟩:=(z5_ I).1 r1 rx
 obtain ⟨bs,rb⟩:=(z5_ I).1 r2 ry
 unfold opEq at ho
 split at ho
 case isFalse=>cases ho
 rename_i hc
 cases ho
 simp only [eqOk,Bool.and_eq_true,decide_eq_true_eq] at hc
 exact SeqAt.compareEq_reads ra rb hc.1.1 hc.1.2 (by have:=Nat.min_le_left d.depth e.depth;omega) ⟨.bl _,H,I,rfl,q⟩
theorem yz_ (hu:X.A.units+1100<cLine):OpR X (compareOp .NotEq) (rD2 X.K opNe):=by
 intro pins s σ H x y v u Q I rx ry ⟨d,e,b,r1,r2,ho,q⟩
 obtain ⟨as,ra⟩:=(z5_ I).1 r1 rx
 obtain ⟨bs,rb⟩:=(z5_ I).1 r2 ry
 unfold opNe at ho
 split at ho
 case isFalse=>cases ho
 rename_i hc
 cases ho
 simp only [eqOk,Bool.and_eq_true,decide_eq_true_eq] at hc
 exact SeqAt.compareNe_reads ra rb hc.1.1 hc.1.2 (by have:=Nat.min_le_left d.depth e.depth;omega) ⟨.bl _,H,I,rfl,q⟩
theorem W1_ (hu:X.A.units+1100<cLine):OpR X (compareOp .In) (rD2 X.K opIn):=by
 intro pins s σ H x y v u Q I rx ry ⟨d,e,b,r1,r2,ho,q⟩
 obtain ⟨as,ra⟩:=(z5_ I).1 r1 rx
 obtain ⟨bs,rb⟩:=(z5_ I).1 r2 ry
 unfold opIn at ho
 split at ho
 ·rename_i xs
  split at ho
  case isFalse=>cases ho
  rename_i hc
  cases ho
  simp only [inOk,Bool.and_eq_true,decide_eq_true_eq] at hc
  exact SeqAt.in_list_reads rb ra hc.1.1 hc.1.2 (by have:=Nat.min_le_right (PyData.depthAll xs) d.depth;omega) ⟨.bl _,H,I,rfl,q⟩
 ·rename_i xs
  split at ho
  case isFalse=>cases ho
  rename_i hc
  cases ho
  simp only [inOk,Bool.and_eq_true,decide_eq_true_eq] at hc
  exact SeqAt.in_tuple_reads rb ra hc.1.1 hc.1.2 (by have:=Nat.min_le_right (PyData.depthAll xs) d.depth;omega) ⟨.bl _,H,I,rfl,q⟩
 ·split at ho
  ·cases ho
   cases r1
   cases r2
   exact U4_ pins s σ H _ _ v u Q I rx ry ⟨_,_,rfl,rfl,q⟩
  ·cases ho
 ·cases ho
theorem U3_ (hu:X.A.units+1100<cLine):OpR X (compareOp .NotIn) (rD2 X.K un_):=by
 intro pins s σ H x y v u Q I rx ry ⟨d,e,b,r1,r2,ho,q⟩
 obtain ⟨as,ra⟩:=(z5_ I).1 r1 rx
 obtain ⟨bs,rb⟩:=(z5_ I).1 r2 ry
 unfold un_ at ho
 split at ho
 ·rename_i xs
  split at ho
  case isFalse=>cases ho
  rename_i hc
  cases ho
  simp only [inOk,Bool.and_eq_true,decide_eq_true_eq] at hc
  exact SeqAt.notIn_list_reads rb ra hc.1.1 hc.1.2 (by have:=Nat.min_le_right (PyData.depthAll xs) d.depth;omega) ⟨.bl _,H,I,rfl,q⟩
 ·rename_i xs
  split at ho
  case isFalse=>cases ho
  rename_i hc
  cases ho
  simp only [inOk,Bool.and_eq_true,decide_eq_true_eq] at hc
  exact SeqAt.notIn_tuple_reads rb ra hc.1.1 hc.1.2 (by have:=Nat.min_le_right (PyData.depthAll xs) d.depth;omega) ⟨.bl _,H,I,rfl,q⟩
 ·split at ho
  ·cases ho
   cases r1
   cases r2
   exact Zm_ pins s σ H _ _ v u Q I rx ry ⟨_,_,rfl,rfl,q⟩
  ·cases ho
 ·cases ho
theorem VG_:OpR X (compareOp .Is) (rD2 X.K W4_):=by
 intro pins s σ H x y v u Q I rx ry ⟨d,e,b,r1,r2,ho,q⟩
 unfold W4_ at ho
 split at ho
 ·cases ho
  cases r2
  refine W3_ pins s σ H x _ v u Q I rx ry ⟨rfl,?_⟩
  rw [Rep.non_iff r1]
  exact q
 ·cases ho
end
def opIx:D→D→Option D
 | .list ds,.int i=>atI ds i
 | .tuple ds,.int i=>atI ds i
 | .str z,.int i=>if z.length≤sizeLine then (atI z.cps.toList i).map fun c=>.str ⟨#[c]⟩ else none
 | _,_=>none
theorem YW_ {K:Fg} {F:Hp} {vs:List V} {ds:List D} {i:Int} {d:D} (r:RepL K F vs ds) (h:atI ds i=some d):∃ v,atI vs i=some v∧Rep K F v d:=by
 unfold atI at h ⊢
 rw [r.length]
 cases q:ixN ds.length i with
 | none=>rw [q] at h;cases h
 | some j =>
  rw [q] at h
  exact r.get (i:=j) h
theorem X9_ {K:Fg}:OpD K (rIx K) opIx:=by
 intro G F σ H ρ x y dx dy res Q S ox oy e k
 cases dx<;>cases dy<;>try (cases e)
 ·dsimp only [opIx] at e
  split at e
  ·rename_i hz
   obtain ⟨c,hc,rfl⟩:=Option.map_eq_some_iff.mp e
   exact .inr (.inr ⟨_,_,c,ox.str,oy.int,hz,hc,k _ F H (Same.refl _) S (.str _)⟩)
  ·cases e
 ·obtain ⟨a,vs,rfl,h1,h2⟩:=ox.list S.fh
  obtain ⟨v,e1,e2⟩:=YW_ h2 e
  exact .inl ⟨a,vs,_,v,rfl,oy.int,h1,e1,k v F H (Same.refl _) S e2⟩
 ·obtain ⟨a,vs,rfl,h1,h2⟩:=ox.tuple S.fh
  obtain ⟨v,e1,e2⟩:=YW_ h2 e
  exact .inr (.inl ⟨a,vs,_,v,rfl,oy.int,h1,e1,k v F H (Same.refl _) S e2⟩)
end L4
set_option Elab.async false
set_option linter.all false
set_option maxRecDepth 100000
namespace L4
open PySem PySem.Spec PyProof.Rows L2 L3
theorem Vals.one {v:V} {us:List Value} (h:Vals [v] us):∃ u,us=[u]∧RelV v u:=by
 cases h with|cons a b=>cases b;exact ⟨_,rfl,a⟩
def fLen:List D→Option D
 | [.list ds]=>some (.int ds.length)
 | [.tuple ds]=>some (.int ds.length)
 | [.str z]=>if z.length≤sizeLine then some (.int z.length) else none
 | _=>none
def u7_:List D→Option D
 | [.list ds]=>some (.tuple ds)
 | [.tuple ds]=>some (.tuple ds)
 | _=>none
def fAbs:List D→Option D
 | [.int i]=>some (.int (if i<0 then -i else i))
 | _=>none
def YC_:List D→Option D
 | [.int i,.int j]=>some (.int (if j<i then j else i))
 | _=>none
def rLen (K:Fg):List V→Hp→VK→Prop:=fun xs H Q=>(∃ p ys,xs=[.ref p]∧(SqL K H p ys∨SqT K H p ys)∧Q (.int ys.length) H)∨∃ z,xs=[.str z]∧z.length≤sizeLine∧Q (.int z.length) H
theorem zA_ {X:Cx}:CallR X (.builtin "len") (rLen X.K):=CallR.or ZT_ ZS_
theorem jb_ {K:Fg}:us_ K (rLen K) fLen:=by
 intro G F σ H ρ xs ds res Q S o e k
 unfold fLen at e
 split at e
 ·rename_i es
  cases e
  obtain ⟨v,r,rfl,ho,hr⟩:=zv_ o
  obtain rfl:=zK_ hr
  obtain ⟨a,vs,rfl,h1,h2⟩:=ho.list S.fh
  exact .inl ⟨a,vs,rfl,.inl h1,k _ F H (Same.refl _) S (by rw [h2.length];exact .int _)⟩
 ·rename_i es
  cases e
  obtain ⟨v,r,rfl,ho,hr⟩:=zv_ o
  obtain rfl:=zK_ hr
  obtain ⟨a,vs,rfl,h1,h2⟩:=ho.tuple S.fh
  exact .inl ⟨a,vs,rfl,.inr h1,k _ F H (Same.refl _) S (by rw [h2.length];exact .int _)⟩
 ·split at e
  ·rename_i hz
   cases e
   obtain ⟨v,r,rfl,ho,hr⟩:=zv_ o
   obtain rfl:=zK_ hr
   exact .inr ⟨_,by rw [ho.str],hz,k _ F H (Same.refl _) S (.int _)⟩
  ·cases e
 ·cases e
theorem yS_ {K:Fg}:us_ K (fun xs H Q=>∃ p ys,xs=[.ref p]∧((SqL K H p ys∧∀ l,H l=none→Q (.ref l) (upd H l (.tup ys)))∨(SqT K H p ys∧Q (.ref p) H))) u7_:=by
 intro G F σ H ρ xs ds res Q S o e k
 unfold u7_ at e
 split at e
 ·rename_i es
  cases e
  obtain ⟨v,r,rfl,ho,hr⟩:=zv_ o
  obtain rfl:=zK_ hr
  obtain ⟨a,vs,rfl,h1,h2⟩:=ho.list S.fh
  refine ⟨a,vs,rfl,.inl ⟨h1,fun l hl=>?_⟩⟩
  obtain ⟨s2,S2,r2⟩:=S.newTup hl h2
  exact k _ _ _ s2 S2 r2
 ·rename_i es
  cases e
  obtain ⟨v,r,rfl,ho,hr⟩:=zv_ o
  obtain rfl:=zK_ hr
  have ho:=ho.tup'
  cases ho with
  | tup h1 h2=>exact ⟨_,_,rfl,.inr ⟨SqT.of (S.fh _ _ h1),k _ F H (Same.refl _) S (show Rep K F _ _ from .tup h1 h2)⟩⟩
 ·cases e
theorem Q6_ {K:Fg}:us_ K (fun xs H Q=>∃ i,xs=[.int i]∧Q (.int (if i<0 then -i else i)) H) fAbs:=by
 intro G F σ H ρ xs ds res Q S o e k
 unfold fAbs at e
 split at e
 ·cases e
  obtain ⟨v,r,rfl,ho,hr⟩:=zv_ o
  obtain rfl:=zK_ hr
  exact ⟨_,by rw [ho.int],k _ F H (Same.refl _) S (show Rep K F _ _ from .int _)⟩
 ·cases e
theorem VN_ {K:Fg}:us_ K (fun xs H Q=>∃ i j,xs=[.int i,.int j]∧Q (.int (if j<i then j else i)) H) YC_:=by
 intro G F σ H ρ xs ds res Q S o e k
 unfold YC_ at e
 split at e
 ·cases e
  obtain ⟨v,r,rfl,ho,hr⟩:=zv_ o
  obtain ⟨v2,r2,rfl,ho2,hr2⟩:=zv_ hr
  obtain rfl:=zK_ hr2
  exact ⟨_,_,by rw [ho.int,ho2.int],k _ F H (Same.refl _) S (show Rep K F _ _ from .int _)⟩
 ·cases e
def Zb_ (d:D):Bool:=d.showable&&d.canLay0&&decide (d.depth≤1000)&&decide (d.shown.length≤sizeLine)
def YB_:List D→Option D
 | [d]=>if Zb_ d then some (.str d.shown) else none
 | _=>none
def WB_ (K:Fg):List V→Hp→VK→Prop:=fun xs H Q=>∃ v d,xs=[v]∧Rep K H v d∧Zb_ d=true∧Q (.str d.shown) H
theorem Ya_ {K:Fg}:us_ K (WB_ K) YB_:=by
 intro G F σ H ρ xs ds res Q S o e k
 unfold YB_ at e
 split at e
 ·rename_i d
  split at e
  ·rename_i hc
   cases e
   obtain ⟨v,r,rfl,ho,hr⟩:=zv_ o
   obtain rfl:=zK_ hr
   exact ⟨v,d,rfl,ho.rep S.fh,hc,k _ F H (Same.refl _) S (.str _)⟩
  ·cases e
 ·cases e
theorem ZR_ {X:Cx} (hu:X.A.units+1100<cLine) (hg:X.A.guards=some []):CallR X (.builtin "repr") (WB_ X.K):=by
 intro pins s σ H xs us Q I r h0
 obtain ⟨v,d,rfl,rp,hc,q⟩:=h0
 obtain ⟨u,rfl,ru⟩:=Vals.one r
 obtain ⟨as,ra⟩:=(z5_ I).1 rp ru
 simp only [Zb_,Bool.and_eq_true,decide_eq_true_eq] at hc
 have big:∀ a,v=.ref a→wpAny (model X.prog X.w) X.A (call (.builtin "repr") [u]) (EP X pins σ Q) X.xe s:=fun a e=>by
  subst e
  cases ru
  exact repr_of_reads' ra hc.1.1.1 (PyData.noDict_hsm (PyData.hasDict_of_canLay d hc.1.1.2)) hg (by omega) (fun _ _ e=>e) (fun h' u tk hk=>⟨.str _,H,I.kept hk,⟨_,rfl⟩,q⟩) hc.2
 cases rp with
 | non=>cases ru;exact PySem.P.repr_of_none ⟨.str _,H,I.tok _,⟨_,rfl⟩,q⟩
 | bl b=>cases ru;exact PySem.P.repr_of_bool ⟨.str _,H,I.tok _,⟨_,rfl⟩,q⟩
 | int i=>obtain ⟨t,rfl⟩:=ru;exact PySem.P.repr_of_int (by simpa [PyData.showable] using hc.1.1.1) ⟨.str _,H,I.tok _,⟨_,rfl⟩,q⟩
 | str x=>obtain ⟨t,rfl⟩:=ru;exact PySem.P.repr_of_str ⟨.str _,H,I.tok _,⟨_,rfl⟩,q⟩ hc.2
 | tup h1 h2=>exact big _ rfl
 | lst h1 h2=>exact big _ rfl
 | dct h1 h2 h3=>exact big _ rfl
 | dck h1 h2 h3=>exact big _ rfl
def intsOf:List D→Option (List Int)
 | []=>some []
 | .int i::r=>match intsOf r with
  | some l=>some (i::l)
  | none=>none
 | _=>none
theorem jK_:∀ {ds:List D} {ns:List Int},intsOf ds=some ns→ds=ns.map PyData.int
 | [],ns,h=>by cases h;rfl
 | .int i::r,ns,h=>by
  dsimp only [intsOf] at h
  split at h
  ·rename_i l e;cases h;rw [jK_ e];rfl
  ·cases h
 | .none::_,_,h=>by cases h
 | .bool _::_,_,h=>by cases h
 | .str _::_,_,h=>by cases h
 | .list _::_,_,h=>by cases h
 | .tuple _::_,_,h=>by cases h
 | .dict _::_,_,h=>by cases h
theorem yG_ (ns:List Int):intsOf (ns.map PyData.int)=some ns:=by
 induction ns with
 | nil=>rfl
 | cons n r ih=>simp [intsOf,ih]
theorem jH_ {K:Fg} {F:Hp}:∀ {vs:List V} {ns:List Int},RepL K F vs (ns.map PyData.int)→vs=ns.map V.int
 | _,[],h=>by cases h;rfl
 | _,n::r,h=>by
  cases h with
  | cons a b=>cases a;rw [jH_ b];rfl
theorem ui_:∀ {ns:List Int} {us:List Value},Vals (ns.map V.int) us→∃ ps:List (Int×Tok),us=ps.map (fun p=>Value.int p.1 p.2)∧ps.map Prod.fst=ns
 | [],_,h=>by cases h;exact ⟨[],rfl,rfl⟩
 | n::r,_,h=>by
  cases h with
  | cons a b =>
   obtain ⟨t,rfl⟩:=a
   obtain ⟨ps,rfl,e⟩:=ui_ b
   exact ⟨(n,t)::ps,rfl,by simp [e]⟩
def Ws_ (ns:List Int):Bool:=ns.all (fun i=>decide (i.natAbs≤2^40))&&decide (ns.length≤2^20)
def fSum:List D→Option D
 | [.list ds]=>match intsOf ds with
  | some ns=>if Ws_ ns then some (.int ns.sum) else none
  | none=>none
 | _=>none
def maxL:List Int→Int
 | []=>0
 | n::r=>r.foldl max n
def fMax:List D→Option D
 | [.list ds]=>match intsOf ds with
  | some (n::r)=>some (.int (maxL (n::r)))
  | _=>none
 | [.int i,.int j]=>some (.int (if j>i then j else i))
 | _=>none
def Vs_ (K:Fg) (f:List Int→Option Int):List V→Hp→VK→Prop:=fun xs H Q=>∃ a ns i,xs=[.ref a]∧SqL K H a (ns.map V.int)∧f ns=some i∧Q (.int i) H
def gMax:List Int→Option Int
 | []=>none
 | ns=>some (maxL ns)
theorem uI_ {ps:List (Int×Tok)} {i:Nat}:numAt ps.toArray i=(ps.map Prod.fst).getD i 0:=by
 unfold numAt
 rw [List.getElem?_toArray,List.getD_eq_getElem?_getD,List.getElem?_map]
theorem W6_ {K:Fg}:us_ K (fun xs H Q=>Vs_ K gMax xs H Q∨∃ i j,xs=[.int i,.int j]∧Q (.int (if j>i then j else i)) H) fMax:=by
 intro G F σ H ρ xs ds res Q S o e k
 unfold fMax at e
 split at e
 ·rename_i es
  split at e
  case h_2=>cases e
  rename_i n r' hns
  cases e
  obtain ⟨v,r,rfl,ho,hr⟩:=zv_ o
  obtain rfl:=zK_ hr
  obtain ⟨a,vs,rfl,h1,h2⟩:=ho.list S.fh
  rw [jK_ hns] at h2
  rw [jH_ h2] at h1
  exact .inl ⟨a,_,_,rfl,h1,rfl,k _ F H (Same.refl _) S (show Rep K F _ _ from .int _)⟩
 ·cases e
  obtain ⟨v,r,rfl,ho,hr⟩:=zv_ o
  obtain ⟨v2,r2,rfl,ho2,hr2⟩:=zv_ hr
  obtain rfl:=zK_ hr2
  exact .inr ⟨_,_,by rw [ho.int,ho2.int],k _ F H (Same.refl _) S (show Rep K F _ _ from .int _)⟩
 ·cases e
theorem Yz_ (r:List Int):∀ n:Int,n≤r.foldl max n∧(∀ i∈r,i≤r.foldl max n)∧(r.foldl max n=n∨r.foldl max n∈r):=by
 induction r with
 | nil=>intro n;exact ⟨Int.le_refl _,fun i hi=>(nomatch hi),.inl rfl⟩
 | cons a r ih =>
  intro n
  obtain ⟨h1,h2,h3⟩:=ih (max n a)
  rw [List.foldl_cons]
  refine ⟨by omega,fun i hi=>?_,?_⟩
  ·rcases List.mem_cons.mp hi with rfl|hi
   ·omega
   ·exact h2 i hi
  ·rcases h3 with h3|h3
   ·rw [h3]
    by_cases hna:n≤a
    ·right;rw [show max n a=a by omega];exact List.mem_cons_self
    ·left;omega
   ·right;exact List.mem_cons_of_mem _ h3
theorem ub_ {ns:List Int} (h:ns≠[]):(∀ i∈ns,i≤maxL ns)∧maxL ns∈ns:=by
 cases ns with
 | nil=>exact absurd rfl h
 | cons n r =>
  obtain ⟨h1,h2,h3⟩:=Yz_ r n
  refine ⟨fun i hi=>?_,?_⟩
  ·rcases List.mem_cons.mp hi with rfl|hi
   ·exact h1
   ·exact h2 i hi
  ·rcases h3 with h3|h3
   ·show r.foldl max n∈_;rw [h3];exact List.mem_cons_self
   ·exact List.mem_cons_of_mem _ h3
theorem YQ_ {X:Cx} (hc:X.calm=true):CallR X (.builtin "max") (Vs_ X.K gMax):=by
 intro pins s σ H xs us Q I r h0
 obtain ⟨a,ns,i,rfl,hq,e,q⟩:=h0
 obtain ⟨u,rfl,ru⟩:=Vals.one r
 cases ru
 obtain ⟨its,rv,pl,hz⟩:=I.list hq
 obtain ⟨ps,rfl,rfl⟩:=ui_ rv
 have hne:ps≠[]:=by rintro rfl;cases e
 have hne':ps.map Prod.fst≠[]:=by simpa using hne
 have ei:i=maxL (ps.map Prod.fst):=by
  cases hp:ps.map Prod.fst with
  | nil=>exact absurd hp hne'
  | cons n r=>rw [hp] at e;cases e;rfl
 subst ei
 have hl:s.heap.IsList a (intItems ps.toArray):=by
  have:=pl.isList
  unfold intItems
  simpa using this
 have hpos:0<ps.length:=List.length_pos_iff.mpr hne
 refine max_intList (I.ok.hd hc) hl (by simpa using hpos) fun v h' tk hv hk=>?_
 obtain ⟨t,rfl⟩:=intItems_at hv
 refine ⟨.int _,H,I.kept hk,⟨_,rfl⟩,?_⟩
 have b:=argBest_gt (numAt ps.toArray) (ps.toArray.size - 1)
 generalize argBest (fun i j=>decide (numAt ps.toArray i>numAt ps.toArray j)) (ps.toArray.size - 1)=m at b hv
 have hm:m<ps.length:=by
  have h0:=b.1
  simp at h0
  omega
 have hsp:=ub_ hne'
 have e1:numAt ps.toArray m=maxL (ps.map Prod.fst):=by
  refine Int.le_antisymm ?_ ?_
  ·refine hsp.1 _ ?_
   rw [uI_,List.getD_eq_getElem?_getD,List.getElem?_eq_getElem (by simpa using hm)]
   exact List.getElem_mem _
  ·obtain ⟨j,hj,ej⟩:=List.getElem_of_mem hsp.2
   have h0:=b.2 j (by simp at hj ⊢;omega)
   rw [uI_,List.getD_eq_getElem?_getD,List.getElem?_eq_getElem hj] at h0
   rw [←ej]
   exact h0
 rw [e1]
 exact q
end L4
set_option Elab.async false
set_option linter.all false
set_option maxRecDepth 100000
namespace L4
open PySem PySem.Spec PyProof.Rows L2 L3
section
variable {K:Fg} {G:Gh} {F H:Hp} {σ:L2.St} {ρ ρ':En}
theorem _root_.L3.StOk.weak (S:StOk K G F σ H ρ) (hl:ρ'.length=ρ.length) (h:∀ (i:Nat) (av:AV),ρ'[i]? = some (some av)→ρ[i]? = some (some av)) (hp:∀ (i:Nat) (c:OC),ρ[i]? = some (some (AV.op c))→ρ'[i]? = some (some (AV.op c))):StOk K G F σ H ρ':=by
 have ow':∀ j c,own ρ' j c→own ρ j c:=fun j c q=>q.imp (h _ _) (h _ _)
 refine ⟨S.fh,S.oh,S.fo,S.ln.trans hl.symm,fun j d q=>S.fz j d (h _ _ q),fun j c q=>S.ow j c (ow' j c q),fun j k c e a h1 h2=>S.dj j k c e a (ow' j c h1) (ow' k e h2),fun j a q=>?_,fun j c q=>S.pq j c (h _ _ q),S.fb⟩
 obtain ⟨q1,c,q2⟩:=S.pp j a q
 exact ⟨q1,c,hp _ _ q2⟩
theorem jT_ {k:Nat} {i:Nat} {av:AV} (h:(ρ++List.replicate k none)[i]? = some (some av)):ρ[i]? = some (some av):=by
 by_cases hi:i<ρ.length
 ·rw [List.getElem?_append_left hi] at h;exact h
 ·rw [List.getElem?_append_right (Nat.not_lt.mp hi),List.getElem?_replicate] at h
  split at h<;>cases h
theorem _root_.L3.StOk.grow (S:StOk K G F σ H ρ) (k:Nat):StOk K G F (σ++List.replicate k none) H (ρ++List.replicate k none):=by
 have ap:∀ {i:Nat} {v:V},σ[i]? = some (some v)→(σ++List.replicate k none)[i]? = some (some v):=fun {i v} e=>by
  rw [List.getElem?_append_left (List.getElem?_eq_some_iff.mp e).1];exact e
 have apr:∀ {i:Nat} {v:AV},ρ[i]? = some (some v)→(ρ++List.replicate k none)[i]? = some (some v):=fun {i v} e=>by
  rw [List.getElem?_append_left (List.getElem?_eq_some_iff.mp e).1];exact e
 have ow':∀ i c,own (ρ++List.replicate k none) i c→own ρ i c:=fun i c h=>by
  rcases h with h|h
  ·exact .inl (jT_ h)
  ·exact .inr (jT_ h)
 refine ⟨S.fh,S.oh,S.fo,by simp [S.ln],fun i d h=>?_,fun i c h=>?_,fun i j c e a h1 h2 e1 e2=>?_,fun i a h=>?_,fun i c h=>S.pq i c (jT_ h),S.fb⟩
 ·obtain ⟨v,e,r⟩:=S.fz i d (jT_ h);exact ⟨v,ap e,r⟩
 ·obtain ⟨a,e,oa⟩:=S.ow i c (ow' i c h);exact ⟨a,ap e,oa⟩
 ·have o1:=ow' i c h1
  have o2:=ow' j e h2
  obtain ⟨a1,q1,_⟩:=S.ow i c o1
  obtain ⟨a2,q2,_⟩:=S.ow j e o2
  rw [ap q1] at e1;rw [ap q2] at e2
  injection e1 with e1;injection e2 with e2
  exact S.dj i j c e a o1 o2 (by rw [q1,e1]) (by rw [q2,e2])
 ·obtain ⟨e,c,q⟩:=S.pp i a h;exact ⟨ap e,c,apr q⟩
theorem _root_.L3.StOk.shrink (S:StOk K G F σ H ρ) {n:Nat} (hn:n≤ρ.length) (hp:∀ i a,G.P i=some a→i<n):StOk K G F (σ.take n) H (ρ.take n):=by
 have tk:∀ {i:Nat} {v:AV},(ρ.take n)[i]? = some (some v)→i<n∧ρ[i]? = some (some v):=fun {i v} e=>by
  have hi:i<n:=by
   have:=(List.getElem?_eq_some_iff.mp e).1
   rw [List.length_take] at this;omega
  rw [List.getElem?_take_of_lt hi] at e
  exact ⟨hi,e⟩
 have ow':∀ i c,own (ρ.take n) i c→i<n∧own ρ i c:=fun i c h=>by
  rcases h with h|h
  ·exact ⟨(tk h).1,.inl (tk h).2⟩
  ·exact ⟨(tk h).1,.inr (tk h).2⟩
 refine ⟨S.fh,S.oh,S.fo,by simp [S.ln],fun i d h=>?_,fun i c h=>?_,fun i j c e a h1 h2 e1 e2=>?_,fun i a h=>?_,fun i c h=>S.pq i c (tk h).2,S.fb⟩
 ·obtain ⟨v,e,r⟩:=S.fz i d (tk h).2;exact ⟨v,by rw [List.getElem?_take_of_lt (tk h).1];exact e,r⟩
 ·obtain ⟨a,e,oa⟩:=S.ow i c (ow' i c h).2;exact ⟨a,by rw [List.getElem?_take_of_lt (ow' i c h).1];exact e,oa⟩
 ·rw [List.getElem?_take_of_lt (ow' i c h1).1] at e1
  rw [List.getElem?_take_of_lt (ow' j e h2).1] at e2
  exact S.dj i j c e a (ow' i c h1).2 (ow' j e h2).2 e1 e2
 ·obtain ⟨e,c,q⟩:=S.pp i a h
  exact ⟨by rw [List.getElem?_take_of_lt (hp i a h)];exact e,c,by rw [List.getElem?_take_of_lt (hp i a h)];exact q⟩
end
theorem yp_ {α:Type} {l l':List α} {n:Nat} (h:∀ j,j<n→l'[j]? = l[j]?) (hl:l.length=n):l'.take n=l:=by
 apply List.ext_getElem?
 intro i
 by_cases hi:i<n
 ·rw [List.getElem?_take_of_lt hi,h i hi]
 ·rw [List.getElem?_eq_none_iff.mpr (by rw [List.length_take];omega),List.getElem?_eq_none_iff.mpr (by omega)]
inductive Kd where
 | dead|f|o|p|t|k
@[reducible] def SOf:List Kd→Type
 | []=>Unit
 | .dead::r=>SOf r
 | .f::r=>D×SOf r
 | .o::r=>List D×SOf r
 | .p::r=>List D×SOf r
 | .t::r=>List (D×D)×SOf r
 | .k::r=>List (D×D)×SOf r
def rd:(sh:List Kd)→En→Option (SOf sh)
 | [],[]=>some ()
 | .dead::r,x::ρ=>match x with
  | some (.op _)=>none
  | _=>rd r ρ
 | .f::r,x::ρ=>match x with
  | some (.fz d)=>match rd r ρ with
   | some s=>some (d,s)
   | none=>none
  | _=>none
 | .o::r,x::ρ=>match x with
  | some (.ol (.l ds))=>match rd r ρ with
   | some s=>some (ds,s)
   | none=>none
  | _=>none
 | .p::r,x::ρ=>match x with
  | some (.op (.l ds))=>match rd r ρ with
   | some s=>some (ds,s)
   | none=>none
  | _=>none
 | .t::r,x::ρ=>match x with
  | some (.ol (.t ds))=>match rd r ρ with
   | some s=>some (ds,s)
   | none=>none
  | _=>none
 | .k::r,x::ρ=>match x with
  | some (.ol (.k ds))=>match rd r ρ with
   | some s=>some (ds,s)
   | none=>none
  | _=>none
 | _,_=>none
def wr:(sh:List Kd)→SOf sh→En
 | [],_=>[]
 | .dead::r,s=>none::wr r s
 | .f::r,s=>some (.fz s.1)::wr r s.2
 | .o::r,s=>some (.ol (.l s.1))::wr r s.2
 | .p::r,s=>some (.op (.l s.1))::wr r s.2
 | .t::r,s=>some (.ol (.t s.1))::wr r s.2
 | .k::r,s=>some (.ol (.k s.1))::wr r s.2
theorem Zd_:∀ (sh:List Kd) (ρ:En) (s:SOf sh),rd sh ρ=some s→(wr sh s).length=ρ.length∧(∀ (i:Nat) (av:AV),(wr sh s)[i]? = some (some av)→ρ[i]? = some (some av))∧(∀ (i:Nat) (c:OC),ρ[i]? = some (some (AV.op c))→(wr sh s)[i]? = some (some (AV.op c)))
 | [],[],s,h=>⟨rfl,fun i av q=>by simpa [wr] using q,fun i c q=>by simp at q⟩
 | [],_::_,s,h=>by cases h
 | .dead::r,[],s,h=>by cases h
 | .f::r,[],s,h=>by cases h
 | .o::r,[],s,h=>by cases h
 | .p::r,[],s,h=>by cases h
 | .t::r,[],s,h=>by cases h
 | .k::r,[],s,h=>by cases h
 | .dead::r,x::ρ,s,h=>by
  dsimp only [rd] at h
  split at h
  ·cases h
  ·rename_i hx
   obtain ⟨h1,h2,h3⟩:=Zd_ r ρ s h
   refine ⟨by simp [wr,h1],fun i av q=>?_,fun i c q=>?_⟩
   ·cases i with
    | zero=>simp [wr] at q
    | succ i=>simpa using h2 i av (by simpa [wr] using q)
   ·cases i with
    | zero=>simp at q;exact absurd q (hx c)
    | succ i=>simpa [wr] using h3 i c (by simpa using q)
 | .f::r,x::ρ,s,h=>by
  dsimp only [rd] at h
  split at h
  ·split at h
   ·rename_i s' e
    cases h
    obtain ⟨h1,h2,h3⟩:=Zd_ r ρ s' e
    refine ⟨by simp [wr,h1],fun i av q=>?_,fun i c q=>?_⟩
    ·cases i with
     | zero=>simpa [wr] using q
     | succ i=>simpa using h2 i av (by simpa [wr] using q)
    ·cases i with
     | zero=>simp at q
     | succ i=>simpa [wr] using h3 i c (by simpa using q)
   ·cases h
  ·cases h
 | .o::r,x::ρ,s,h=>by
  dsimp only [rd] at h
  split at h
  ·split at h
   ·rename_i s' e
    cases h
    obtain ⟨h1,h2,h3⟩:=Zd_ r ρ s' e
    refine ⟨by simp [wr,h1],fun i av q=>?_,fun i c q=>?_⟩
    ·cases i with
     | zero=>simpa [wr] using q
     | succ i=>simpa using h2 i av (by simpa [wr] using q)
    ·cases i with
     | zero=>simp at q
     | succ i=>simpa [wr] using h3 i c (by simpa using q)
   ·cases h
  ·cases h
 | .p::r,x::ρ,s,h=>by
  dsimp only [rd] at h
  split at h
  ·split at h
   ·rename_i s' e
    cases h
    obtain ⟨h1,h2,h3⟩:=Zd_ r ρ s' e
    refine ⟨by simp [wr,h1],fun i av q=>?_,fun i c q=>?_⟩
    ·cases i with
     | zero=>simpa [wr] using q
     | succ i=>simpa using h2 i av (by simpa [wr] using q)
    ·cases i with
     | zero=>simpa [wr] using q
     | succ i=>simpa [wr] using h3 i c (by simpa using q)
   ·cases h
  ·cases h
 | .t::r,x::ρ,s,h=>by
  dsimp only [rd] at h
  split at h
  ·split at h
   ·rename_i s' e
    cases h
    obtain ⟨h1,h2,h3⟩:=Zd_ r ρ s' e
    refine ⟨by simp [wr,h1],fun i av q=>?_,fun i c q=>?_⟩
    ·cases i with
     | zero=>simpa [wr] using q
     | succ i=>simpa using h2 i av (by simpa [wr] using q)
    ·cases i with
     | zero=>simp at q
     | succ i=>simpa [wr] using h3 i c (by simpa using q)
   ·cases h
  ·cases h
 | .k::r,x::ρ,s,h=>by
  dsimp only [rd] at h
  split at h
  ·split at h
   ·rename_i s' e
    cases h
    obtain ⟨h1,h2,h3⟩:=Zd_ r ρ s' e
    refine ⟨by simp [wr,h1],fun i av q=>?_,fun i c q=>?_⟩
    ·cases i with
     | zero=>simpa [wr] using q
     | succ i=>simpa using h2 i av (by simpa [wr] using q)
    ·cases i with
     | zero=>simp at q
     | succ i=>simpa [wr] using h3 i c (by simpa using q)
   ·cases h
  ·cases h
theorem _root_.L3.StOk.rd {K:Fg} {G:Gh} {F H:Hp} {σ:L2.St} {ρ:En} {sh:List Kd} {s:SOf sh} (S:StOk K G F σ H ρ) (h:L4.rd sh ρ=some s):StOk K G F σ H (wr sh s):=by
 obtain ⟨h1,h2,h3⟩:=Zd_ sh ρ s h
 exact S.weak h1 h2 h3
def rdk {S:Type} (sh:List Kd) (k:SOf sh→M S) (ρ:En):M S:=match rd sh ρ with
 | some s=>k s
 | none=>.bad
abbrev Ev (S α:Type):=(Ex→En→M S)→(α→En→M S)→En→M S
structure KS (S:Type) where
 nx:En→M S
 rt:D→En→M S
 rl:List D→En→M S
 bk:En→M S
 ct:En→M S
 x:Ex→En→M S
def KOk {S:Type} (OK:M S→Prop):Prop:=¬ OK .bad
def XL {S:Type} (X:Cx) (OK:M S→Prop) (x:Ex→En→M S) (G:Gh):Prop:=∀ F ρ e,OK (x e ρ)→XW X G F ρ e
def AE {S:Type} (X:Cx) (e:Expr) (m:Ev S D):Prop :=
 ∀ (OK:M S→Prop) (x:Ex→En→M S) (k:D→En→M S) (G:Gh) (F:Hp) (σ:L2.St) (H:Hp) (ρ:En) (Q:VK),KOk OK→XL X OK x G→StOk X.K G F σ H ρ→OK (m x k ρ) →
  (∀ d v F' H' ρ',Same F F'→StOk X.K G F' σ H' ρ'→Rep X.K F' v d→OK (k d ρ')→Q v H')→tSem X e σ H Q
def AEt {S:Type} (X:Cx) (e:Expr) (m:Ev S Bool):Prop :=
 ∀ (OK:M S→Prop) (x:Ex→En→M S) (k:Bool→En→M S) (G:Gh) (F:Hp) (σ:L2.St) (H:Hp) (ρ:En) (Q:Bool→Hp→Prop),KOk OK→XL X OK x G→StOk X.K G F σ H ρ→OK (m x k ρ) →
  (∀ d F' H' ρ',Same F F'→StOk X.K G F' σ H' ρ'→OK (k d ρ')→Q d H')→Ub_ X e σ H Q
def AEa {S:Type} (X:Cx) (es:List Expr) (m:Ev S (List D)):Prop :=
 ∀ (OK:M S→Prop) (x:Ex→En→M S) (k:List D→En→M S) (G:Gh) (F:Hp) (σ:L2.St) (H:Hp) (ρ:En) (Q:List V→Hp→Prop),KOk OK→XL X OK x G→StOk X.K G F σ H ρ→OK (m x k ρ) →
  (∀ ds vs F' H' ρ',Same F F'→StOk X.K G F' σ H' ρ'→vs.length=es.length→RepL X.K F' vs ds→OK (k ds ρ')→Q vs H')→uk_ X es σ H Q
def AEl {S:Type} (X:Cx) (e:Expr) (m:Ev S (List D)):Prop :=
 ∀ (OK:M S→Prop) (x:Ex→En→M S) (k:List D→En→M S) (G:Gh) (F:Hp) (σ:L2.St) (H:Hp) (ρ:En) (Q:VK),KOk OK→XL X OK x G→StOk X.K G F σ H ρ→OK (m x k ρ) →
  (∀ ds v F' H' ρ',Same F F'→StOk X.K G F' σ H' ρ'→Frs X.K G F' σ H' ρ' v (.l ds)→OK (k ds ρ')→Q v H')→tSem X e σ H Q
def ePu {S α:Type} (p:Pu α):Ev S α:=fun x k ρ=>(p ρ).on (fun e=>x e ρ) (fun a=>k a ρ)
section
variable {S α:Type} {X:Cx} {OK:M S→Prop} {x:Ex→En→M S} {k:α→En→M S} {G:Gh} {F:Hp} {σ:L2.St} {ρ:En} {p:Pu α} {C:α→Hp→Hp→Prop}
theorem W.of (hO:KOk OK) (hX:XL X OK x G) (h:OK (ePu p x k ρ)) (w:∀ a F' H',Same F F'→StOk X.K G F' σ H' ρ→OK (k a ρ)→C a F' H'):W X G F σ ρ (p ρ) C:=by
 unfold ePu at h
 cases hp:p ρ with
 | ret a=>rw [hp] at h;exact fun F' H' s S'=>w a F' H' s S' h
 | exc e=>rw [hp] at h;exact hX F ρ e h
 | bad=>rw [hp] at h;exact hO h
end
section
variable {S:Type} {X:Cx} {e a b c:Expr} {es rest:List Expr} {p:Pu D} {pt:Pu Bool} {ps:Pu (List D)} {pos:Pos}
theorem zs_ (h:AP X e p):AE (S:=S) X e (ePu p):=fun OK x k G F σ H ρ Q hO hX St ok kk=>h G F σ H ρ Q St (W.of hO hX ok fun d F' H' s S' o v r=>kk d v F' H' ρ s S' r o)
theorem jW_ (h:AT X e pt):AEt (S:=S) X e (ePu pt):=fun OK x k G F σ H ρ Q hO hX St ok kk=>h G F σ H ρ Q St (W.of hO hX ok fun d F' H' s S' o=>kk d F' H' ρ s S' o)
theorem Vf_ (h:AL X e ps):AEl (S:=S) X e (ePu ps):=fun OK x k G F σ H ρ Q hO hX St ok kk=>h G F σ H ρ Q St (W.of hO hX ok fun d F' H' s S' o v r=>kk d v F' H' ρ s S' r o)
def eBin (f:D→D→Option D) (a b:Ev S D):Ev S D:=fun x k ρ=>a x (fun d ρ1=>b x (fun d2 ρ2=>(oM (f d d2)).on (fun e=>x e ρ2) (fun r=>k r ρ2)) ρ1) ρ
def eNil:Ev S (List D):=fun _ k ρ=>k [] ρ
def zai_ (m:Ev S D) (ms:Ev S (List D)):Ev S (List D):=fun x k ρ=>m x (fun d ρ1=>ms x (fun ds ρ2=>k (d::ds) ρ2) ρ1) ρ
theorem Zk_ {α:Type} {OK:M S→Prop} (hO:KOk OK) {o:Option α} {x:Ex→M S} {k:α→M S} (h:OK ((oM o).on x k)):∃ a,o=some a∧OK (k a):=by
 cases o with
 | none=>exact (hO h).elim
 | some a=>exact ⟨a,rfl,h⟩
theorem Xt_ {α:Type} {OK:M S→Prop} (hO:KOk OK) {ds:List α} {x:Ex→M S} {k:List α→M S} (h:OK ((fitM ds).on x k)):ds.length≤sizeLine∧OK (k ds):=by
 unfold fitM at h
 split at h
 ·exact ⟨by assumption,h⟩
 ·exact (hO h).elim
variable {ma mb m:Ev S D} {ta tb tc:Ev S Bool} {ms:Ev S (List D)}
theorem YD_ {r:R2} {Q:VK} {OK:M S→Prop} {x:Ex→En→M S} {G:Gh} {F H:Hp} {σ:L2.St} {ρ:En} {f:D→D→En→M S} (ha:AE X a ma) (hb:AE X b mb) (hO:KOk OK) (hX:XL X OK x G) (St:StOk X.K G F σ H ρ)
  (ok:OK (ma x (fun d ρ1=>mb x (fun d2 ρ2=>f d d2 ρ2) ρ1) ρ)) (k:∀ u v dx dy F' H' ρ',Same F F'→StOk X.K G F' σ H' ρ'→Rep X.K F' u dx→Rep X.K F' v dy→OK (f dx dy ρ')→r u v H' Q):tOp r (tSem X a) (tSem X b) σ H Q :=
 ha OK x _ G F σ H ρ _ hO hX St ok fun d v F1 H1 ρ1 s1 S1 r1 o1=>hb OK x _ G F1 σ H1 ρ1 _ hO hX S1 o1 fun d2 u F2 H2 ρ2 s2 S2 r2 o2=>k v u d d2 F2 H2 ρ2 (s1.trans s2) S2 (r1.mono s2) r2 o2
theorem Y4_ {op:Operator} {r:R2} {f:D→D→Option D} (ho:OpR X (binaryOp op) r) (hf:OpD X.K r f) (ha:AE X a ma) (hb:AE X b mb):AE X (.BinOp a op b pos) (eBin f ma mb) :=
 fun OK x k G F σ H ρ Q hO hX St ok kk=>sem (WO_ ho zi_ zi_) (YD_ ha hb hO hX St ok fun u v dx dy F' H' ρ' s S' r1 r2 o=>by
  obtain ⟨res,e,o'⟩:=Zk_ hO o
  exact hf G F' σ H' ρ' u v dx dy res Q S' (.inl r1) (.inl r2) e fun w F2 H2 s2 S2 r3=>kk res w F2 H2 ρ' (s.trans s2) S2 r3 o')
theorem zal_ {r:R2} {f:D→D→Option D} (hr:IxR X r) (hf:OpD X.K r f) (ha:AE X a ma) (hb:AE X b mb) (hs:Jv_ b):AE X (.Subscript a b pos) (eBin f ma mb) :=
 fun OK x k G F σ H ρ Q hO hX St ok kk=>sem (WR_ hr zi_ zi_ hs) (YD_ ha hb hO hX St ok fun u v dx dy F' H' ρ' s S' r1 r2 o=>by
  obtain ⟨res,e,o'⟩:=Zk_ hO o
  exact hf G F' σ H' ρ' u v dx dy res Q S' (.inl r1) (.inl r2) e fun w F2 H2 s2 S2 r3=>kk res w F2 H2 ρ' (s.trans s2) S2 r3 o')
theorem ja_:AEa (S:=S) X [] eNil:=fun OK x k G F σ H ρ Q hO hX St ok kk=>semA JJ_ (kk [] [] F H ρ (Same.refl _) St rfl .nil ok)
theorem zJ_ (h:AE X e m) (hr:AEa X es ms) (hs:starEach (e::es) X.env=(false,eval e X.env)::starEach es X.env):AEa X (e::es) (zai_ m ms) :=
 fun OK x k G F σ H ρ Q hO hX St ok kk=>semA (j0_ zi_ z4_ hs) (h OK x _ G F σ H ρ _ hO hX St ok fun d v F1 H1 ρ1 s1 S1 r1 o1 =>
  hr OK x _ G F1 σ H1 ρ1 _ hO hX S1 o1 fun ds vs F2 H2 ρ2 s2 S2 hl r2 o2=>kk (d::ds) (v::vs) F2 H2 ρ2 (s1.trans s2) S2 (by simp [hl]) (.cons (r1.mono s2) r2) o2)
end
end L4
set_option Elab.async false
set_option linter.all false
set_option maxRecDepth 100000
namespace L4
open PySem PySem.Spec PyProof.Rows L2 L3
structure Walk (K:Fg) (J:It) (ds:List D) (F:Hp):Prop where
 go:∀ (i:Nat) (G:Gh) (F2:Hp) (σ:L2.St) (H2:Hp) (ρ:En),Same F F2→StOk K G F2 σ H2 ρ→i<ds.length→J.go i H2
 yld:∀ (i:Nat) (G:Gh) (F2:Hp) (σ:L2.St) (H2:Hp) (ρ:En) (x:V) (H3:Hp) (d:D),Same F F2→StOk K G F2 σ H2 ρ→ds[i]? = some d→J.yld i H2 x H3→∃ F3,Same F2 F3∧StOk K G F3 σ H3 ρ∧Rep K F3 x d
 stop:∀ (G:Gh) (F2:Hp) (σ:L2.St) (H2:Hp) (ρ:En),Same F F2→StOk K G F2 σ H2 ρ→J.stop ds.length H2
theorem UH_ {K:Fg} {F:Hp} {a:Addr} {vs:List V} {ds:List D} (h:SqL K F a vs) (r:RepL K F vs ds):Walk K (Itl K a) ds F where
 go:=fun i G F2 σ H2 ρ s S hi=>by
  have hi':i<vs.length:=by rw [r.length];exact hi
  exact ⟨vs,vs[i],S.fh.seq (s.seq h),by simp [hi']⟩
 yld:=fun i G F2 σ H2 ρ x H3 d s S hd ⟨e,q⟩=>by
  subst e
  obtain ⟨v,e1,e2⟩:=r.get hd
  have:=q vs (S.fh.seq (s.seq h))
  rw [e1] at this
  cases this
  exact ⟨F2,Same.refl _,S,e2.mono s⟩
 stop:=fun G F2 σ H2 ρ s S=>⟨vs,S.fh.seq (s.seq h),by rw [r.length];exact Nat.le_refl _⟩
theorem Y7_ {K:Fg} {F:Hp} {a:Addr} {vs:List V} {ds:List D} (h:SqT K F a vs) (r:RepL K F vs ds):Walk K (Itt K a) ds F where
 go:=fun i G F2 σ H2 ρ s S hi=>by
  have hi':i<vs.length:=by rw [r.length];exact hi
  exact ⟨vs,vs[i],jO_ S.fh (jO_ s h),by simp [hi']⟩
 yld:=fun i G F2 σ H2 ρ x H3 d s S hd ⟨e,q⟩=>by
  subst e
  obtain ⟨v,e1,e2⟩:=r.get hd
  have:=q vs (jO_ S.fh (jO_ s h))
  rw [e1] at this
  cases this
  exact ⟨F2,Same.refl _,S,e2.mono s⟩
 stop:=fun G F2 σ H2 ρ s S=>⟨vs,jO_ S.fh (jO_ s h),by rw [r.length];exact Nat.le_refl _⟩
def uu_ (lo:Int) (n:Nat):List D:=(List.range n).map fun (i:Nat)=>PyData.int (lo+(i:Int))
theorem jn_ (lo:Int) (n:Nat):(uu_ lo n).length=n:=by simp [uu_]
theorem J8_ {K:Fg} {F:Hp} (lo:Int) (n:Nat):Walk K (Itr lo n) (uu_ lo n) F where
 go:=fun i G F2 σ H2 ρ s S hi=>by rw [jn_] at hi;exact hi
 yld:=fun i G F2 σ H2 ρ x H3 d s S hd ⟨e,q⟩=>by
  subst e q
  have e':(uu_ lo n)[i]? = some d:=hd
  unfold uu_ at e'
  rw [List.getElem?_map] at e'
  have hi:i<n:=by
   have:=(List.getElem?_eq_some_iff.mp hd).1
   rw [jn_] at this;exact this
  rw [List.getElem?_range hi] at e'
  cases e'
  exact ⟨F2,Same.refl _,S,.int _⟩
 stop:=fun G F2 σ H2 ρ s S=>by rw [jn_];exact Nat.le_refl _
@[irreducible] def uA_ (X:Cx) (tg iter:Expr):TI:=fun σ H R=>∀ (pins:List (Addr×Obj)) (s:Shared),Inv X pins σ H s→wpAny (model X.prog X.w) X.A (eval iter X.env) (fun v s1=>wpAny (model X.prog X.w) X.A (pyIter v) (PIE X pins σ tg R) X.xe s1) X.xe s
theorem Zh_ {X:Cx} {tg e:Expr}:PI X tg e (uA_ X tg e):=fun pins s σ H R I h=>by unfold uA_ at h;exact h pins s I
theorem semI {X:Cx} {tg e:Expr} {σ:L2.St} {H:Hp} {R:It→Hp→Prop} {t:TI} (h:PI X tg e t) (q:t σ H R):uA_ X tg e σ H R:=by unfold uA_;exact fun pins s I=>h pins s σ H R I q
def AI (X:Cx) (tg e:Expr) (p:Pu (List D)):Prop :=
 ∀ (G:Gh) (F:Hp) (σ:L2.St) (H:Hp) (ρ:En) (R:It→Hp→Prop),StOk X.K G F σ H ρ→W X G F σ ρ (p ρ) (fun ds F' H'=>∀ J,Walk X.K J ds F'→R J H')→uA_ X tg e σ H R
def AEi {S:Type} (X:Cx) (tg e:Expr) (m:Ev S (List D)):Prop :=
 ∀ (OK:M S→Prop) (x:Ex→En→M S) (k:List D→En→M S) (G:Gh) (F:Hp) (σ:L2.St) (H:Hp) (ρ:En) (R:It→Hp→Prop),KOk OK→XL X OK x G→StOk X.K G F σ H ρ→OK (m x k ρ) →
  (∀ ds J F' H' ρ',Same F F'→StOk X.K G F' σ H' ρ'→Walk X.K J ds F'→OK (k ds ρ')→R J H')→uA_ X tg e σ H R
theorem Vg_ {S:Type} {X:Cx} {tg e:Expr} {ps:Pu (List D)} (h:AI X tg e ps):AEi (S:=S) X tg e (ePu ps):=fun OK x k G F σ H ρ Q hO hX St ok kk=>h G F σ H ρ Q St (W.of hO hX ok fun d F' H' s S' o v r=>kk d v F' H' ρ s S' r o)
def seqD:D→Option (List D)
 | .list ds=>some ds
 | .tuple ds=>some ds
 | _=>none
def uM_ (i:Int):Bool:=decide (-(2^62)≤i)&&decide (i<2^62)
theorem yt_ {i:Int} (h:uM_ i=true) : -(2^62)≤i∧i<2^62:=by
 unfold uM_ at h
 simp only [Bool.and_eq_true,decide_eq_true_eq] at h
 exact h
def ji_:List D→Option (List D)
 | [.int j]=>if uM_ j then some (uu_ 0 j.toNat) else none
 | _=>none
def Xv_ {S:Type} (f:List D→Option (List D)) (ms:Ev S (List D)):Ev S (List D):=fun x k ρ=>ms x (fun ds ρ1=>(oM (f ds)).on (fun e=>x e ρ1) (fun r=>k r ρ1)) ρ
section
variable {S:Type} {X:Cx} {tg e a b:Expr} {pp:Pu D} {ps:Pa (List D)} {m:Ev S D} {ms:Ev S (List D)} {p pos:Pos}
theorem Qg_ {F H:Hp} {v:V} {d:D} {ds:List D} {R:It→Hp→Prop} (s:Same F H) (r:Rep X.K F v d) (hd:seqD d=some ds) (k:∀ J,Walk X.K J ds F→R J H) :
  (∃ a,v=.ref a∧(∃ xs,SqL X.K H a xs)∧R (Itl X.K a) H)∨∃ a,v=.ref a∧(∃ xs,SqT X.K H a xs)∧R (Itt X.K a) H:=by
 cases r with
 | lst h1 h2=>cases hd;exact .inl ⟨_,rfl,⟨_,s.seq h1⟩,k _ (UH_ h1 h2)⟩
 | tup h1 h2=>cases hd;exact .inr ⟨_,rfl,⟨_,SqT.of (s _ _ h1)⟩,k _ (Y7_ (SqT.of h1) h2)⟩
 | dct _ _ _=>cases hd
 | dck _ _ _=>cases hd
 | non=>cases hd
 | bl _=>cases hd
 | int _=>cases hd
 | str _=>cases hd
theorem Ze_ {F H:Hp} {vs:List V} {ds out:List D} {R:It→Hp→Prop} (r:RepL X.K F vs ds) (h:ji_ ds=some out) (k:∀ J,Walk X.K J out F→R J H):∃ j,vs=[.int j] ∧ -(2^62)≤j∧j<2^62∧R (Itr 0 j.toNat) H:=by
 unfold ji_ at h
 split at h
 ·rename_i j
  split at h
  ·rename_i hs
   cases h
   cases r with
   | cons r1 r2 =>
    cases r2
    cases r1
    exact ⟨j,rfl,(yt_ hs).1,(yt_ hs).2,k _ (J8_ 0 j.toNat)⟩
  ·cases h
 ·cases h
theorem Z1_ (hg:Gl X "range") (hm:X.mg "range" = none) (ha:AA X [a] ps) (hs:starEach [a] X.env=[(false,eval a X.env)]):AI X tg (.Call (.Name "range" p) [a] [] pos) (WX_ ji_ ps) :=
 fun G F σ H ρ R S w=>semI (Zi_ hg hm z4_ hs) (ha G F σ H ρ _ _ _ S w fun ds vs F1 H1 s1 S1 _ r1 w1=>by
  obtain ⟨out,hd,k⟩:=w1.opt
  exact Ze_ r1 hd (k F1 H1 (Same.refl _) S1))
theorem UC_ (hg:Gl X "range") (hm:X.mg "range" = none) (ha:AEa X [a] ms) (hs:starEach [a] X.env=[(false,eval a X.env)]):AEi X tg (.Call (.Name "range" p) [a] [] pos) (Xv_ ji_ ms) :=
 fun OK x k G F σ H ρ R hO hX St ok kk=>semI (Zi_ hg hm z4_ hs) (ha OK x _ G F σ H ρ _ hO hX St ok fun ds vs F1 H1 ρ1 s1 S1 _ r1 o1=>by
  obtain ⟨out,hd,o⟩:=Zk_ hO o1
  exact Ze_ r1 hd fun J wk=>kk out J F1 H1 ρ1 s1 S1 wk o)
end
abbrev Tg (S:Type):=D→(En→M S)→En→M S
def yj_ (ρ:En) (i:Nat):Bool:=decide (i<ρ.length)&&(match ρ[i]? with
 | some (some (.op _))=>false
 | _=>true)
theorem jp_ {ρ:En} {i:Nat} (h:yj_ ρ i=true):i<ρ.length∧∀ c,ρ[i]? ≠ some (some (.op c)):=by
 unfold yj_ at h
 rw [Bool.and_eq_true] at h
 refine ⟨by simpa using h.1,fun c e=>?_⟩
 rw [e] at h
 exact absurd h.2 (by simp)
@[irreducible] def Uc_ (X:Cx) (tg:Expr):TG:=fun v σ H Q=>∀ (pins:List (Addr×Obj)) (s:Shared) (u:Value),Inv X pins σ H s→RelV v u→wpAny (model X.prog X.w) X.A (assign tg X.env u) (fun _ s'=>∃ σ' H',Inv X pins σ' H' s'∧Q σ' H') X.xe s
theorem Zj_ {X:Cx} {tg:Expr}:PG X tg (Uc_ X tg):=fun pins s σ H v u Q I r h=>by unfold Uc_ at h;exact h pins s u I r
theorem semG {X:Cx} {tg:Expr} {t:TG} {v:V} {σ:L2.St} {H:Hp} {Q:L2.St→Hp→Prop} (h:PG X tg t) (q:t v σ H Q):Uc_ X tg v σ H Q:=by unfold Uc_;exact fun pins s u I r=>h pins s σ H v u Q I r q
def AG {S:Type} (X:Cx) (n:Nat) (tg:Expr) (st:Tg S):Prop :=
 ∀ (OK:M S→Prop) (k:En→M S) (G:Gh) (F:Hp) (σ:L2.St) (H:Hp) (ρ:En) (v:V) (d:D) (Q:L2.St→Hp→Prop),KOk OK→StOk X.K G F σ H ρ→Rep X.K F v d→OK (st d k ρ) →
  (∀ σ' ρ',StOk X.K G F σ' H ρ'→(∀ j,j<n→σ'[j]? = σ[j]? ∧ ρ'[j]? = ρ[j]?)→σ'.length=σ.length→ρ'.length=ρ.length→OK (k ρ')→Q σ' H)→Uc_ X tg v σ H Q
def gSet {S:Type} (i:Nat):Tg S:=fun d k ρ=>match yj_ ρ i with
 | true=>k (ρ.set i (some (.fz d)))
 | false=>.bad
section
variable {S:Type} {X:Cx} {pos:Pos} {n:Nat}
theorem jk_ {i:Nat} {x:Str} (hn:n≤i) (hN:X.N.Nodup) (hi:X.N[i]? = some x) (hx:Loc X.env.scope x) (hf:X.fn x=true∨X.env.scope.names.lookup x=some .local):AG (S:=S) X n (.Name x pos) (gSet i):=by
 intro OK k G F σ H ρ v d Q hO S r ok kk
 unfold gSet at ok
 split at ok
 ·rename_i ho
  obtain ⟨hl,hop⟩:=jp_ ho
  refine semG (Vz_ hN hi hx hf) ?_
  exact kk _ _ (S.store hop hl (.inl ⟨d,rfl,r⟩)) (fun j hj=>⟨List.getElem?_set_ne (by omega),List.getElem?_set_ne (by omega)⟩) (by simp) (by simp) ok
 ·exact (hO ok).elim
end
abbrev SM (S:Type):=KS S→En→M S
structure EOk {S:Type} (X:Cx) (OK:M S→Prop) (K:KS S) (G:Gh) (F:Hp) (E:Ends):Prop where
 nx:∀ F' σ' H' ρ',Same F F'→StOk X.K G F' σ' H' ρ'→OK (K.nx ρ')→E.nx σ' H'
 rt:∀ F' σ' H' ρ' d v,Same F F'→StOk X.K G F' σ' H' ρ'→Rep X.K F' v d→OK (K.rt d ρ')→E.rt v H'
 rl:∀ F' σ' H' ρ' ds v,Same F F'→StOk X.K G F' σ' H' ρ'→Frs X.K G F' σ' H' ρ' v (.l ds)→OK (K.rl ds ρ')→E.rt v H'
 bk:∀ F' σ' H' ρ',Same F F'→StOk X.K G F' σ' H' ρ'→OK (K.bk ρ')→E.bk σ' H'
 ct:∀ F' σ' H' ρ',Same F F'→StOk X.K G F' σ' H' ρ'→OK (K.ct ρ')→E.ct σ' H'
theorem EOk.up {S:Type} {X:Cx} {OK:M S→Prop} {K:KS S} {G:Gh} {F F':Hp} {E:Ends} (h:EOk X OK K G F E) (s:Same F F'):EOk X OK K G F' E :=
 ⟨fun F2 σ' H' ρ' s2=>h.nx F2 σ' H' ρ' (s.trans s2),fun F2 σ' H' ρ' d v s2=>h.rt F2 σ' H' ρ' d v (s.trans s2),fun F2 σ' H' ρ' d v s2=>h.rl F2 σ' H' ρ' d v (s.trans s2),fun F2 σ' H' ρ' s2=>h.bk F2 σ' H' ρ' (s.trans s2),fun F2 σ' H' ρ' s2=>h.ct F2 σ' H' ρ' (s.trans s2)⟩
@[irreducible] def ye_ (X:Cx) (st:Stmt):TS:=fun E σ H=>∀ (pins:List (Addr×Obj)) (s:Shared),Inv X pins σ H s→wpAny (model X.prog X.w) X.A (exec st X.env) (SP X pins E) X.xe s
@[irreducible] def UL_ (X:Cx) (sts:List Stmt):TS:=fun E σ H=>∀ (pins:List (Addr×Obj)) (s:Shared),Inv X pins σ H s→wpAny (model X.prog X.w) X.A (execs sts X.env) (SP X pins E) X.xe s
section
variable {X:Cx} {st:Stmt} {sts:List Stmt} {σ:L2.St} {H:Hp} {E:Ends} {t:TS}
theorem QX_:PS X st (ye_ X st):=fun pins s σ H E I h=>by unfold ye_ at h;exact h pins s I
theorem jZ_:PSs X sts (UL_ X sts):=fun pins s σ H E I h=>by unfold UL_ at h;exact h pins s I
theorem semS (h:PS X st t) (q:t E σ H):ye_ X st E σ H:=by unfold ye_;exact fun pins s I=>h pins s σ H E I q
theorem semB (h:PSs X sts t) (q:t E σ H):UL_ X sts E σ H:=by unfold UL_;exact fun pins s I=>h pins s σ H E I q
end
def AS {S:Type} (X:Cx) (st:Stmt) (m:SM S):Prop :=
 ∀ (OK:M S→Prop) (K:KS S) (G:Gh) (F:Hp) (σ:L2.St) (H:Hp) (ρ:En) (E:Ends),KOk OK→XL X OK K.x G→StOk X.K G F σ H ρ→OK (m K ρ)→EOk X OK K G F E→ye_ X st E σ H
def ASs {S:Type} (X:Cx) (st:List Stmt) (m:SM S):Prop :=
 ∀ (OK:M S→Prop) (K:KS S) (G:Gh) (F:Hp) (σ:L2.St) (H:Hp) (ρ:En) (E:Ends),KOk OK→XL X OK K.x G→StOk X.K G F σ H ρ→OK (m K ρ)→EOk X OK K G F E→UL_ X st E σ H
section
variable {S:Type}
def XT_:SM S:=fun K ρ=>K.nx ρ
def sSeq (m n:SM S):SM S:=fun K ρ=>m { K with nx:=fun ρ1=>n K ρ1 } ρ
def sIf (c:Ev S Bool) (m n:SM S):SM S:=fun K ρ=>c K.x (fun b ρ1=>if b then m K ρ1 else n K ρ1) ρ
def sTo (sh:List Kd) (m:SM S):SM S:=fun K ρ=>m { K with nx:=fun ρ1=>rdk sh (fun s=>K.nx (wr sh s)) ρ1 } ρ
def sSet (i:Nat) (m:Ev S D):SM S:=fun K ρ=>m K.x (fun d ρ1=>match yj_ ρ1 i with
 | true=>K.nx (ρ1.set i (some (.fz d)))
 | false=>.bad) ρ
def Vp_ (i:Nat) (m:Ev S (List D)):SM S:=fun K ρ=>m K.x (fun ds ρ1=>match yj_ ρ1 i with
 | true=>K.nx (ρ1.set i (some (.ol (.l ds))))
 | false=>.bad) ρ
def sRet (m:Ev S D):SM S:=fun K ρ=>m K.x K.rt ρ
def XS_ (m:Ev S (List D)):SM S:=fun K ρ=>m K.x K.rl ρ
def zar_ (i:Nat):SM S:=fun K ρ=>match ρ[i]? with
 | some (some (.ol (.l ds)))=>K.rl ds (ρ.set i none)
 | _=>.bad
def sFrz (i:Nat) (m:SM S):SM S:=fun K ρ=>match ρ[i]? with
 | some (some (.ol c))=>m K (ρ.set i (some (.fz c.d)))
 | _=>.bad
def setO (ρ:En) (i:Nat) (ds:List D):En:=match ρ[i]? with
 | some (some (.op _))=>ρ.set i (some (.op (.l ds)))
 | _=>ρ.set i (some (.ol (.l ds)))
def forC {T:Type} (step:T→D→(T→M S)→M S):List D→T→(T→M S)→M S
 | [],s,k=>k s
 | d::r,s,k=>step s d (fun s'=>forC step r s' k)
@[reducible] def Qs_ (sh:List Kd) (K:KS S) (kn:SOf sh→M S):KS S:={ K with
  nx:=fun ρ3=>rdk sh kn ρ3
  ct:=fun ρ3=>rdk sh kn ρ3
  bk:=fun ρ3=>rdk sh (fun s'=>K.nx (wr sh s')) ρ3 }
def sFor (sh:List Kd) (it:Ev S (List D)) (t:Tg S) (mb:SM S):SM S:=fun K ρ=>it K.x (fun ds ρ1=>rdk sh (fun s=>forC (fun s d kn=>t d (fun ρ2=>mb (Qs_ sh K kn) ρ2) (wr sh s)) ds s (fun s'=>K.nx (wr sh s'))) ρ1) ρ
end
theorem uN_ (ρ:En) (i:Nat) (ds ds0:List D) (h:ownL ρ i=some ds0):setO ρ i ds=ρ.set i ((ρ[i]?.join).map fun | .op _=>.op (.l ds)|_=>.ol (.l ds)):=by
 unfold ownL at h
 unfold setO
 split at h
 ·rename_i q;rw [q];rfl
 ·rename_i q;rw [q];rfl
 ·cases h
theorem uP_ {S:Type} {OK:M S→Prop} (hO:KOk OK) {sh:List Kd} {k:SOf sh→M S} {ρ:En} (h:OK (rdk sh k ρ)):∃ s,rd sh ρ=some s∧OK (k s):=by
 unfold rdk at h
 split at h
 ·rename_i s e;exact ⟨s,e,h⟩
 ·exact (hO h).elim
section
variable {S:Type} {X:Cx} {st:Stmt} {sts rest:List Stmt} {m n:SM S} {e c a b:Expr} {me:Ev S D} {mt:Ev S Bool} {ml:Ev S (List D)} {pos pos' tpos:Pos}
theorem jj_:ASs (S:=S) X [] XT_:=fun OK K G F σ H ρ E hO hX St ok eo=>semB Z6_ (eo.nx F σ H ρ (Same.refl _) St ok)
theorem zf_ (h1:AS X st m) (h2:ASs X rest n):ASs X (st::rest) (sSeq m n):=fun OK K G F σ H ρ E hO hX St ok eo =>
 semB (uG_ QX_ jZ_) (h1 OK { K with nx:=fun ρ1=>n K ρ1 } G F σ H ρ _ hO hX St ok ⟨fun F' σ' H' ρ' s S' o=>h2 OK K G F' σ' H' ρ' E hO hX S' o (eo.up s),eo.rt,eo.rl,eo.bk,eo.ct⟩)
theorem zu_ (h1:AS X st m):ASs X [st] m:=fun OK K G F σ H ρ E hO hX St ok eo=>semB (Vx_ QX_) (h1 OK K G F σ H ρ E hO hX St ok eo)
theorem yo_ {A B:List Stmt} (hc:AEt X c mt) (ha:ASs X A m) (hb:ASs X B n):AS X (.If c A B pos) (sIf mt m n):=fun OK K G F σ H ρ E hO hX St ok eo =>
 semS (X2_ uv_ jZ_ jZ_) (hc OK K.x _ G F σ H ρ _ hO hX St ok fun t F1 H1 ρ1 s1 S1 o1=>by
  cases t with
  | true=>exact ha OK K G F1 σ H1 ρ1 E hO hX S1 o1 (eo.up s1)
  | false=>exact hb OK K G F1 σ H1 ρ1 E hO hX S1 o1 (eo.up s1))
theorem jE_ {sh:List Kd} (h:AS X st m):AS X st (sTo sh m):=fun OK K G F σ H ρ E hO hX St ok eo =>
 h OK { K with nx:=fun ρ1=>rdk sh (fun s=>K.nx (wr sh s)) ρ1 } G F σ H ρ E hO hX St ok ⟨fun F' σ' H' ρ' s S' o=>by
  obtain ⟨s',e',o'⟩:=uP_ hO o
  exact eo.nx F' σ' H' _ s (S'.rd e') o',eo.rt,eo.rl,eo.bk,eo.ct⟩
theorem XB_ {i:Nat} (h:AS X st m):AS X st (sFrz i m):=fun OK K G F σ H ρ E hO hX St ok eo=>by
 unfold sFrz at ok
 split at ok
 ·rename_i ds q
  obtain ⟨a,ea,_⟩:=St.ow i _ (.inl q)
  obtain ⟨F2,s2,S2,_⟩:=St.settleC q ea
  exact h OK K G F2 σ H _ E hO hX S2 ok (eo.up s2)
 ·exact (hO ok).elim
theorem zY_ (he:AE X e me):AS X (.Return (some e) pos) (sRet me):=fun OK K G F σ H ρ E hO hX St ok eo =>
 semS (QY_ zi_) (he OK K.x K.rt G F σ H ρ _ hO hX St ok fun d v F1 H1 ρ1 s1 S1 r1 o1=>eo.rt F1 σ H1 ρ1 d v s1 S1 r1 o1)
theorem Wh_ (he:AEl X e ml):AS X (.Return (some e) pos) (XS_ ml):=fun OK K G F σ H ρ E hO hX St ok eo =>
 semS (QY_ zi_) (he OK K.x K.rl G F σ H ρ _ hO hX St ok fun d v F1 H1 ρ1 s1 S1 r1 o1=>eo.rl F1 σ H1 ρ1 d v s1 S1 r1 o1)
theorem jC_ {i:Nat} {x:Str} (hN:X.N.Nodup) (hi:X.N[i]? = some x) (hx:Loc X.env.scope x) (he:AE X e me) (hs:swapsWith e (some (.Name x pos')) pos.line X.env=pure false) (hf:X.fn x=true∨X.env.scope.names.lookup x=some .local) :
  AS X (.Assign [.Name x pos'] e pos) (sSet i me):=fun OK K G F σ H ρ E hO hX St ok eo =>
 semS (UV_ hN hi hx zi_ hs hf) (he OK K.x _ G F σ H ρ _ hO hX St ok fun d v F1 H1 ρ1 s1 S1 r1 o1=>by
  split at o1
  ·rename_i ho
   obtain ⟨hl,hop⟩:=jp_ ho
   exact eo.nx F1 _ H1 _ s1 (S1.store hop hl (.inl ⟨d,rfl,r1⟩)) o1
  ·exact (hO o1).elim)
theorem Wf_ {i:Nat} {x:Str} (hN:X.N.Nodup) (hi:X.N[i]? = some x) (hx:Loc X.env.scope x) (he:AEl X e ml) (hs:swapsWith e (some (.Name x pos')) pos.line X.env=pure false) (hf:X.fn x=true∨X.env.scope.names.lookup x=some .local) :
  AS X (.Assign [.Name x pos'] e pos) (Vp_ i ml):=fun OK K G F σ H ρ E hO hX St ok eo =>
 semS (UV_ hN hi hx zi_ hs hf) (he OK K.x _ G F σ H ρ _ hO hX St ok fun d v F1 H1 ρ1 s1 S1 r1 o1=>by
  split at o1
  ·rename_i ho
   obtain ⟨hl,hop⟩:=jp_ ho
   exact eo.nx F1 _ H1 _ s1 (S1.store hop hl (.inr ⟨.l d,rfl,r1⟩)) o1
  ·exact (hO o1).elim)
end
end L4
set_option Elab.async false
set_option linter.all false
set_option maxRecDepth 100000
namespace L4
open PySem PySem.Spec PyProof.Rows L2 L3
section
variable {S:Type} {X:Cx} {m n mb:SM S} {e c a b o:Expr} {me mi:Ev S D} {mt:Ev S Bool} {ml ms:Ev S (List D)} {pos pos' tpos apos cpos:Pos}
theorem XC_ {tg iter:Expr} {body:List Stmt} {sh:List Kd} {t:Tg S} (hp:PassesOwn (model X.prog X.w) X.A X.env X.xe) (hc:X.calm=true) (hi:AEi X tg iter ml) (hg:AG X 0 tg t) (hb:ASs X body mb)
  (hs:∀ x,foldedSetIterable iter X.env x=pure x):AS X (.For tg iter body [] pos) (sFor sh ml t mb):=fun OK K G F σ H ρ E hO hX St ok eo =>
 semS (WL_ hp hc Zh_ Zj_ jZ_ hs) (hi OK K.x _ G F σ H ρ _ hO hX St ok fun ds J F1 H1 ρ1 s1 S1 wk o1=>by
  obtain ⟨s0,e0,o0⟩:=uP_ hO o1
  have S0:=S1.rd e0
  clear o1
  generalize hstep:(fun (s:SOf sh) d (kn:SOf sh→M S)=>t d (fun ρ2=>mb (Qs_ sh K kn) ρ2) (wr sh s))=step at o0
  refine ⟨fun i m σ' H'=>∃ F' s,m=ds.length - i∧i≤ds.length∧Same F1 F'∧StOk X.K G F' σ' H' (wr sh s)∧OK (forC step (ds.drop i) s (fun s'=>K.nx (wr sh s'))),⟨ds.length,F1,s0,rfl,Nat.zero_le _,Same.refl _,S0,o0⟩,?_⟩
  rintro i m σ' H' ⟨F',s,rfl,hi,s2,S2,go⟩
  by_cases hlt:i<ds.length
  ·have ed:ds.drop i=ds[i]::ds.drop (i+1):=List.drop_eq_getElem_cons hlt
   rw [ed] at go
   dsimp only [forC] at go
   rw [←hstep] at go
   have again:∀ F5 σ5 H5 ρ5,Same F' F5→StOk X.K G F5 σ5 H5 ρ5→OK (rdk sh (fun s'=>forC step (ds.drop (i+1)) s' fun s'=>K.nx (wr sh s')) ρ5) →
     ∃ m',m'<ds.length - i∧∃ F' s,m'=ds.length - (i+1)∧i+1≤ds.length∧Same F1 F'∧StOk X.K G F' σ5 H5 (wr sh s)∧OK (forC step (ds.drop (i+1)) s (fun s'=>K.nx (wr sh s'))):=fun F5 σ5 H5 ρ5 s5 S5 o5=>by
    obtain ⟨s',e',o'⟩:=uP_ hO o5
    exact ⟨ds.length - (i+1),by omega,F5,s',rfl,hlt,s2.trans s5,S5.rd e',o'⟩
   refine .inr ⟨wk.go i G F' σ' H' _ s2 S2 hlt,fun σ4 H4=>∃ m',m'<ds.length - i∧∃ F' s,m'=ds.length - (i+1)∧i+1≤ds.length∧Same F1 F'∧StOk X.K G F' σ4 H4 (wr sh s)∧OK (forC step (ds.drop (i+1)) s (fun s'=>K.nx (wr sh s'))),fun σ4 H4 h4=>h4,fun x H2 y=>?_⟩
   obtain ⟨F3,s3,S3,r3⟩:=wk.yld i G F' σ' H' _ x H2 ds[i] s2 S2 (by simp [hlt]) y
   refine hg OK _ G F3 σ' H2 (wr sh s) x ds[i] _ hO S3 r3 go fun σ3 ρ3 S4 _ _ _ o4=>?_
   rw [hstep] at o4
   refine hb OK (Qs_ sh K fun s'=>forC step (ds.drop (i+1)) s' fun s'=>K.nx (wr sh s')) G F3 σ3 H2 ρ3 _ hO hX S4 o4 ⟨fun F5 σ5 H5 ρ5 s5 S5 o5=>?_,fun F5 σ5 H5 ρ5 d v s5=>eo.rt F5 σ5 H5 ρ5 d v ((s1.trans (s2.trans s3)).trans s5),fun F5 σ5 H5 ρ5 d v s5=>eo.rl F5 σ5 H5 ρ5 d v ((s1.trans (s2.trans s3)).trans s5),fun F5 σ5 H5 ρ5 s5 S5 o5=>?_,fun F5 σ5 H5 ρ5 s5 S5 o5=>?_⟩
   ·exact again F5 σ5 H5 ρ5 (s3.trans s5) S5 o5
   ·obtain ⟨s',e',o'⟩:=uP_ hO o5
    exact eo.nx F5 σ5 H5 _ ((s1.trans (s2.trans s3)).trans s5) (S5.rd e') o'
   ·exact again F5 σ5 H5 ρ5 (s3.trans s5) S5 o5
  ·have ei:i=ds.length:=by omega
   subst ei
   rw [List.drop_length] at go
   exact .inl ⟨wk.stop G F' σ' H' _ s2 S2,eo.nx F' σ' H' _ (s1.trans s2) S2 go⟩)
theorem Z9_ {K:Fg} {G:Gh} {F H:Hp} {σ:L2.St} {ρ:En} {i:Nat} {ds:List D} (St:StOk K G F σ H ρ) (h:ownL ρ i=some ds):∃ a vs,σ[i]? = some (some (.ref a))∧H a=some (.lst vs)∧RepL K F vs ds:=by
 obtain ⟨a,ea,oa⟩:=St.ow i _ (uH_ h)
 obtain ⟨vs,h1,h2⟩:=oa.he
 exact ⟨a,vs,ea,h1,h2⟩
theorem VF_ {K:Fg} {G:Gh} {F H:Hp} {σ:L2.St} {ρ:En} {i:Nat} {a:Addr} {ds ds':List D} {vs':List V} (St:StOk K G F σ H ρ) (h:ownL ρ i=some ds) (ha:σ[i]? = some (some (.ref a))) (r:RepL K F vs' ds') :
  StOk K G F σ (upd H a (.lst vs')) (setO ρ i ds'):=by
 rw [uN_ ρ i ds' ds h]
 exact St.change (uH_ h) ha (c':=.l ds') ⟨_,zo_,r⟩
end
end L4
set_option Elab.async false
set_option linter.all false
set_option maxRecDepth 100000
namespace L4
open PySem PySem.Spec PyProof.Rows L2 L3
theorem map_some_get {α:Type} {l:List α} {i:Nat} {x:α}:(l.map some)[i]? = some (some x)↔l[i]? = some x:=by
 rw [List.getElem?_map]
 cases l[i]? <;> simp
open Classical in
noncomputable def zl_ (G:Gh) (σ:L2.St) (ρ:En) (H:Hp) (ex:Option Addr):Hp:=fun b=>if (∃ (i:Nat) (c:OC),own ρ i c∧σ[i]? = some (some (V.ref b)))∧some b≠ex then H b else G.O b
def setC (ρ:En) (j:Nat) (c:OC):En:=ρ.set j ((ρ[j]?.join).map fun | .op _=>.op c|_=>.ol c)
section
variable {K:Fg} {G:Gh} {F F' H H':Hp} {σ:L2.St} {ρ:En} {vs:List V} {ds:List D}
theorem zS_ {ex:Option Addr} (S:StOk K G F σ H ρ) {b:Addr} {o:HO} (h:G.O b=some o):zl_ G σ ρ H ex b=some o:=by
 unfold zl_
 rw [if_neg]
 ·exact h
 ·rintro ⟨⟨i,c,ho,e⟩,_⟩
  obtain ⟨a,e',oa⟩:=S.ow i c ho
  rw [e] at e'
  injection e' with e';injection e' with e';injection e' with e'
  subst e'
  rw [oa.no] at h;cases h
theorem js_ {ex:Option Addr} {b:Addr} {i:Nat} {c:OC} (ho:own ρ i c) (e:σ[i]? = some (some (V.ref b))) (hx:some b≠ex):zl_ G σ ρ H ex b=H b:=by
 unfold zl_
 rw [if_pos ⟨⟨i,c,ho,e⟩,hx⟩]
theorem ZP_ {ex:Option Addr} (S:StOk K G F σ H ρ):Same (zl_ G σ ρ H ex) H:=fun b o h=>by
 unfold zl_ at h
 split at h
 ·exact h
 ·exact S.oh b o h
theorem _root_.L3.Held.notup {K:Fg} {F H:Hp} {a:Addr} {c:OC} {o:HO} (h:Held K F H a c) (e:H a=some o):∀ vs,o≠.tup vs:=by
 cases c with
 | l ds=>obtain ⟨vs,h1,_⟩:=h;rw [h1] at e;cases e;intro vs z;cases z
 | t es=>obtain ⟨vs,h1,_⟩:=h;rw [h1] at e;cases e;intro vs z;cases z
 | k es=>obtain ⟨vs,h1,_⟩:=h;rw [h1] at e;cases e;intro vs z;cases z
theorem ZQ_ {ex:Option Addr} (S:StOk K G F σ H ρ):∀ b o,zl_ G σ ρ H ex b=some o→F b=none∧∀ vs,o≠.tup vs:=fun b o h=>by
 unfold zl_ at h
 split at h
 ·rename_i hc
  obtain ⟨⟨i,c,ho,e⟩,_⟩:=hc
  obtain ⟨a,e',oa⟩:=S.ow i c ho
  rw [e] at e'
  injection e' with e';injection e' with e';injection e' with e'
  subst e'
  exact ⟨oa.nf,oa.he.notup h⟩
 ·exact S.fo b o h
theorem u5_ {i:Nat} {av:AV} (h:((ds.map AV.fz).map some)[i]? = some (some av)):∃ d,av=.fz d∧ds[i]? = some d:=by
 rw [map_some_get,List.getElem?_map] at h
 cases q:ds[i]? with
 | none=>rw [q] at h;cases h
 | some d=>rw [q] at h;cases h;exact ⟨d,rfl,rfl⟩
theorem jJ_ {i:Nat} {c:OC} (h:own ((ds.map AV.fz).map some) i c):False:=by
 rcases h with h|h<;>(obtain ⟨d,z,_⟩:=u5_ h;cases z)
theorem jM_ (S:StOk K G F σ H ρ) (r:RepL K F vs ds):StOk K ⟨fun _=>none,zl_ G σ ρ H none,F⟩ F (vs.map some) H ((ds.map AV.fz).map some):=by
 refine ⟨S.fh,ZP_ S,ZQ_ S,by simp [r.length],fun i d h=>?_,fun i c h=>(jJ_ h).elim,fun i j c e a h=>(jJ_ h).elim,fun i a h=>(nomatch h),fun i c h=>?_,Same.refl _⟩
 ·obtain ⟨d',z,e⟩:=u5_ h
  cases z
  obtain ⟨v,e1,e2⟩:=r.get e
  exact ⟨v,map_some_get.mpr e1,e2⟩
 ·obtain ⟨d',z,e⟩:=u5_ h;cases z
theorem jR_ {avs':List AV} (S:StOk K G F σ H ρ) (s1:Same F F') (S1:StOk K ⟨fun _=>none,zl_ G σ ρ H none,F⟩ F' (vs.map some) H' (avs'.map some)) :
  StOk K G F' σ H' ρ∧∀ v c,Frs K ⟨fun _=>none,zl_ G σ ρ H none,F⟩ F' (vs.map some) H' (avs'.map some) v c→Frs K G F' σ H' ρ v c:=by
 have oo:∀ b,zl_ G σ ρ H none b=none→G.O b=none:=fun b h=>by
  cases q:G.O b with
  | none=>rfl
  | some o=>rw [zS_ S q] at h;cases h
 refine ⟨⟨S1.fh,fun b o h=>S1.oh b o (zS_ S h),fun b o h=>S1.fo b o (zS_ S h),S.ln,fun i d h=>?_,fun i c h=>?_,S.dj,S.pp,S.pq,S.fb.trans s1⟩,fun v cc h=>?_⟩
 ·obtain ⟨v,e,r⟩:=S.fz i d h;exact ⟨v,e,r.mono s1⟩
 ·obtain ⟨a,e,oa⟩:=S.ow i c h
  obtain ⟨o,ho⟩:=oa.he.some
  have q:zl_ G σ ρ H none a=some o:=by rw [js_ h e (by simp)];exact ho
  exact ⟨a,e,(S1.fo a o q).1,oa.no,(oa.he.mono s1).at (by rw [S1.oh a o q,ho])⟩
 ·obtain ⟨a,rfl,oa,_⟩:=h
  refine ⟨a,rfl,⟨oa.nf,oo a oa.no,oa.he⟩,fun i e ho q=>?_⟩
  obtain ⟨a',e',oa'⟩:=S.ow i e ho
  rw [q] at e'
  injection e' with e';injection e' with e';injection e' with e'
  subst e'
  obtain ⟨o,hh⟩:=oa'.he.some
  have:=oa.no
  rw [show (⟨fun _=>none,zl_ G σ ρ H none,F⟩:Gh).O a=zl_ G σ ρ H none a from rfl,js_ ho q (by simp),hh] at this
  cases this
def P1 (a:Addr):Nat→Option Addr
 | 0=>some a
 | _=>none
theorem YN_ {j:Nat} {c:OC} {a:Addr} (S:StOk K G F σ H ρ) (hj:own ρ j c) (ha:σ[j]? = some (some (V.ref a))) (r:RepL K F vs ds) :
  StOk K ⟨P1 a,zl_ G σ ρ H (some a),F⟩ F ((V.ref a::vs).map some) H ((AV.op c::ds.map AV.fz).map some):=by
 obtain ⟨a',e',oa⟩:=S.ow j c hj
 rw [ha] at e'
 injection e' with e';injection e' with e';injection e' with e'
 subst e'
 have at0:∀ i d,own ((AV.op c::ds.map AV.fz).map some) i d→i=0∧d=c:=fun i d h=>by
  cases i with
  | zero=>rcases h with h|h<;>(simp at h);exact ⟨rfl,h.symm⟩
  | succ i=>exact (jJ_ (ds:=ds) (i:=i) (c:=d) (by unfold own at h ⊢;simpa using h)).elim
 refine ⟨S.fh,ZP_ S,ZQ_ S,by simp [r.length],fun i d h=>?_,fun i d h=>?_,fun i k d e b h1 h2 _ _=>?_,fun i b h=>?_,fun i d h=>?_,Same.refl _⟩
 ·cases i with
  | zero=>simp at h
  | succ i =>
   obtain ⟨d',z,e⟩:=u5_ (ds:=ds) (i:=i) (av:=.fz d) (by simpa using h)
   cases z
   obtain ⟨v,e1,e2⟩:=r.get e
   exact ⟨v,by simpa using e1,e2⟩
 ·obtain ⟨rfl,rfl⟩:=at0 i d h
  refine ⟨a,rfl,oa.nf,?_,oa.he⟩
  show zl_ G σ ρ H (some a) a=none
  unfold zl_
  rw [if_neg (by simp)]
  exact oa.no
 ·rw [(at0 i d h1).1,(at0 k e h2).1]
 ·cases i with
  | zero=>cases h;exact ⟨rfl,c,rfl⟩
  | succ i=>cases h
 ·cases i with
  | zero=>exact ⟨a,rfl⟩
  | succ i =>
   obtain ⟨d',z,e⟩:=u5_ (ds:=ds) (i:=i) (av:=.op d) (by simpa using h)
   cases z
theorem Uz_ {j:Nat} {c c':OC} {a:Addr} {l:List AV} (S:StOk K G F σ H ρ) (hj:own ρ j c) (ha:σ[j]? = some (some (V.ref a))) (s1:Same F F')
  (S1:StOk K ⟨P1 a,zl_ G σ ρ H (some a),F⟩ F' ((V.ref a::vs).map some) H' ((AV.op c'::l).map some)) :
  StOk K G F' σ H' (setC ρ j c')∧∀ v cc,Frs K ⟨P1 a,zl_ G σ ρ H (some a),F⟩ F' ((V.ref a::vs).map some) H' ((AV.op c'::l).map some) v cc→Frs K G F' σ H' (setC ρ j c') v cc:=by
 have oo:∀ b,zl_ G σ ρ H (some a) b=none→G.O b=none:=fun b h=>by
  cases q:G.O b with
  | none=>rfl
  | some o=>rw [zS_ S q] at h;cases h
 obtain ⟨a',e',oa⟩:=S.ow j c hj
 rw [ha] at e'
 injection e' with e';injection e' with e';injection e' with e'
 subst e'
 have hl:j<ρ.length:=by rcases hj with h|h<;>exact (List.getElem?_eq_some_iff.mp h).1
 generalize hav:((ρ[j]?.join).map fun (x:AV)=>match x with | .op _=>AV.op c'|_=>AV.ol c')=av
 have hset:setC ρ j c'=ρ.set j av:=by rw [←hav];rfl
 rw [hset]
 have ne:∀ i,i≠j→(ρ.set j av)[i]? = ρ[i]?:=fun i hi=>List.getElem?_set_ne (Ne.symm hi)
 have atj:(ρ.set j av)[j]? = some av:=List.getElem?_set_self hl
 have kind:(ρ[j]? = some (some (.ol c))∧av=some (.ol c'))∨(ρ[j]? = some (some (.op c))∧av=some (.op c')):=by
  rcases hj with h|h
  ·exact .inl ⟨h,by rw [←hav,h];rfl⟩
  ·exact .inr ⟨h,by rw [←hav,h];rfl⟩
 have owni:∀ i e,own (ρ.set j av) i e→(i=j∧e=c')∨(i≠j∧own ρ i e):=fun i e h=>by
  by_cases hi:i=j
  ·subst hi
   unfold own at h
   rw [atj] at h
   rcases kind with ⟨_,k⟩|⟨_,k⟩<;>rw [k] at h<;>rcases h with h|h<;>cases h<;>exact .inl ⟨rfl,rfl⟩
  ·unfold own at h ⊢
   rw [ne i hi] at h
   exact .inr ⟨hi,h⟩
 have nea:∀ i e b,i≠j→own ρ i e→σ[i]? = some (some (V.ref b))→b≠a:=fun i e b hi ho q z=>by
  subst z
  exact hi (S.dj i j e c b ho hj q ha)
 have own1:OwnAt K ⟨P1 a,zl_ G σ ρ H (some a),F⟩ F' H' a c':=by
  obtain ⟨b,e1,ob⟩:=S1.ow 0 c' (.inr rfl)
  have:V.ref a=V.ref b:=by simpa using e1
  injection this with this
  subst this
  exact ob
 refine ⟨⟨S1.fh,fun b o h=>S1.oh b o (zS_ S h),fun b o h=>S1.fo b o (zS_ S h),by simpa using S.ln,fun i d h=>?_,fun i e h=>?_,fun i k d e b h1 h2=>?_,fun i b h=>?_,fun i d h=>?_,S.fb.trans s1⟩,fun v cc h=>?_⟩
 ·by_cases hi:i=j
  ·subst hi
   rw [atj] at h
   rcases kind with ⟨_,k⟩|⟨_,k⟩<;>rw [k] at h<;>cases h
  ·rw [ne i hi] at h
   obtain ⟨v,e,r⟩:=S.fz i d h;exact ⟨v,e,r.mono s1⟩
 ·rcases owni i e h with ⟨rfl,rfl⟩|⟨hi,ho⟩
  ·exact ⟨a,ha,own1.nf,oa.no,own1.he⟩
  ·obtain ⟨b,eb,ob⟩:=S.ow i e ho
   obtain ⟨o,hh⟩:=ob.he.some
   have q:zl_ G σ ρ H (some a) b=some o:=by rw [js_ ho eb (fun z=>nea i e b hi ho eb (Option.some.inj z))];exact hh
   exact ⟨b,eb,(S1.fo b o q).1,ob.no,(ob.he.mono s1).at (by rw [S1.oh b o q,hh])⟩
 ·have f:∀ i e,own (ρ.set j av) i e→∃ d,own ρ i d:=fun i e h=>by
   rcases owni i e h with ⟨rfl,_⟩|⟨_,ho⟩
   ·exact ⟨c,hj⟩
   ·exact ⟨e,ho⟩
  exact S.dj i k _ _ b (f i d h1).choose_spec (f k e h2).choose_spec
 ·obtain ⟨q1,e,q2⟩:=S.pp i b h
  refine ⟨q1,?_⟩
  by_cases hi:i=j
  ·subst hi
   rcases kind with ⟨k1,k⟩|⟨k1,k⟩
   ·rw [k1] at q2;cases q2
   ·exact ⟨c',by rw [atj,k]⟩
  ·exact ⟨e,by rw [ne i hi];exact q2⟩
 ·by_cases hi:i=j
  ·subst hi
   rcases kind with ⟨k1,k⟩|⟨k1,k⟩
   ·rw [atj,k] at h;cases h
   ·exact S.pq i c k1
  ·rw [ne i hi] at h;exact S.pq i d h
 ·obtain ⟨b,rfl,ob,nn⟩:=h
  refine ⟨b,rfl,⟨ob.nf,oo b ob.no,ob.he⟩,fun i e ho q=>?_⟩
  rcases owni i e ho with ⟨rfl,_⟩|⟨hi,ho'⟩
  ·rw [ha] at q
   injection q with q;injection q with q;injection q with q
   subst q
   exact nn 0 c' (.inr rfl) rfl
  ·obtain ⟨b',eb,ob'⟩:=S.ow i e ho'
   rw [q] at eb
   injection eb with eb;injection eb with eb;injection eb with eb
   subst eb
   obtain ⟨o,hh⟩:=ob'.he.some
   have:=ob.no
   rw [show (⟨P1 a,zl_ G σ ρ H (some a),F⟩:Gh).O b=zl_ G σ ρ H (some a) b from rfl,js_ ho' q (fun z=>nea i e b hi ho' q (Option.some.inj z)),hh] at this
   cases this
end
abbrev fzs (ds:List D):En:=(ds.map AV.fz).map some
def KD:KS D:=⟨fun _=>.ret .none,fun d _=>.ret d,fun _ _=>.bad,fun _=>.bad,fun _=>.bad,fun e _=>.exc e⟩
def KL:KS (List D):=⟨fun _=>.bad,fun _ _=>.bad,fun ds _=>.ret ds,fun _=>.bad,fun _=>.bad,fun e _=>.exc e⟩
def at0 {S:Type} (ρ:En) (k:List D→M S):M S:=match (ρ[0]? : Option (Option AV)) with
 | some (some (AV.op (OC.l f)))=>k f
 | _=>.bad
def K1:KS (D×List D):=⟨fun ρ=>at0 ρ fun f=>.ret (.none,f),fun d ρ=>at0 ρ fun f=>.ret (d,f),fun _ _=>.bad,fun _=>.bad,fun _=>.bad,fun e _=>.exc e⟩
def EndM (K:Fg) (G:Gh) (E:XK) {α:Type} (m:M α) (C:α→Prop):Prop:=match m with
 | .ret a=>C a
 | .exc x=>∀ F' H' Cl dd,GOk G F' H'→XR K F' H' Cl dd x→E (.ref Cl) dd H'
 | .bad=>False
def spD (K:Fg) (n:Nat) (mf:List D→M D):Sp:=fun vs H Q E=>∃ G F ds,vs.length=n∧StOk K G F (vs.map some) H (fzs ds)∧EndM K G E (mf ds) fun d=>∀ v F' H',Same F F'→StOk K G F' (vs.map some) H' (fzs ds)→Rep K F' v d→Q v H'
def spL (K:Fg) (n:Nat) (mf:List D→M (List D)):Sp:=fun vs H Q E=>∃ G F ds,vs.length=n∧StOk K G F (vs.map some) H (fzs ds)∧EndM K G E (mf ds) fun d=>∀ v F' H',Same F F'→StOk K G F' (vs.map some) H' (fzs ds)→Frs K G F' (vs.map some) H' (fzs ds) v (.l d)→Q v H'
def sp1 (K:Fg) (n:Nat) (mf:List D→List D→M (D×List D)):Sp:=fun vs H Q E=>∃ G F f ds,vs.length=n∧StOk K G F (vs.map some) H (some (.op (.l f))::fzs ds)∧EndM K G E (mf f ds) fun r =>
 ∀ v F' H',Same F F'→StOk K G F' (vs.map some) H' (some (.op (.l r.2))::fzs ds)→Rep K F' v r.1→Q v H'
section
variable {K:Fg} {G:Gh} {F F' H H':Hp} {vs:List V} {σ:L2.St} {ρ:En} {ds:List D}
theorem YT_ (S:StOk K G F (vs.map some) H (fzs ds)) (s1:Same F F') (S1:StOk K G F' σ H' ρ):StOk K G F' (vs.map some) H' (fzs ds):=by
 refine ⟨S1.fh,S1.oh,S1.fo,S.ln,fun i d q=>?_,fun i c q=>(jJ_ q).elim,fun i j c e a q=>(jJ_ q).elim,S.pp,S.pq,S1.fb⟩
 obtain ⟨v,e,r⟩:=S.fz i d q
 exact ⟨v,e,r.mono s1⟩
theorem Wb_ {v:V} {c:OC} (S1:StOk K G F' σ H' ρ) (h:Frs K G F' σ H' ρ v c):Frs K G F' (vs.map some) H' (fzs ds) v c:=by
 obtain ⟨a,rfl,oa,_⟩:=h
 exact ⟨a,rfl,oa,fun i e q=>(jJ_ q).elim⟩
theorem own1 {f:List D} {i:Nat} {c:OC} (h:own (some (.op (.l f))::fzs ds) i c):i=0∧c=.l f:=by
 cases i with
 | zero=>rcases h with h|h<;>simp at h;exact ⟨rfl,h.symm⟩
 | succ i=>exact (jJ_ (ds:=ds) (i:=i) (c:=c) (by unfold own at h ⊢;simpa using h)).elim
theorem Va_ {f f':List D} (S:StOk K G F (vs.map some) H (some (.op (.l f))::fzs ds)) (s1:Same F F') (S1:StOk K G F' σ H' ρ) (h0:ρ[0]? = some (some (.op (.l f')))) :
  StOk K G F' (vs.map some) H' (some (.op (.l f'))::fzs ds)∧∀ v c,Frs K G F' σ H' ρ v c→Frs K G F' (vs.map some) H' (some (.op (.l f'))::fzs ds) v c:=by
 obtain ⟨a,ha⟩:=S1.pq 0 _ h0
 obtain ⟨e1,_⟩:=S1.pp 0 a ha
 obtain ⟨e2,_⟩:=S.pp 0 a ha
 obtain ⟨b,eb,ob⟩:=S1.ow 0 _ (.inr h0)
 rw [e1] at eb
 injection eb with eb;injection eb with eb;injection eb with eb
 subst eb
 have only:∀ i b,G.P i=some b→i=0:=fun i b h=>by
  obtain ⟨_,c,q⟩:=S.pp i b h
  exact (own1 (.inr q)).1
 refine ⟨⟨S1.fh,S1.oh,S1.fo,S.ln,fun i d q=>?_,fun i c q=>?_,fun i j c e b q1 q2 _ _=>?_,fun i b q=>?_,fun i c q=>?_,S1.fb⟩,fun v c h=>?_⟩
 ·cases i with
  | zero=>simp at q
  | succ i =>
   obtain ⟨v,e,r⟩:=S.fz (i+1) d (by simpa using q)
   exact ⟨v,e,r.mono s1⟩
 ·obtain ⟨rfl,rfl⟩:=own1 q
  exact ⟨a,e2,ob⟩
 ·rw [(own1 q1).1,(own1 q2).1]
 ·have:=only i b q
  subst this
  exact ⟨(S.pp 0 b q).1,_,rfl⟩
 ·obtain ⟨rfl,_⟩:=own1 (.inr q)
  exact ⟨a,ha⟩
 ·obtain ⟨b,rfl,ob2,nn⟩:=h
  refine ⟨b,rfl,ob2,fun i e q z=>?_⟩
  obtain ⟨rfl,rfl⟩:=own1 q
  rw [e2] at z
  injection z with z;injection z with z;injection z with z
  subst z
  exact nn 0 _ (.inr h0) e1
end
section
variable {P:Program} {w:World} {K:Fg} {mg:Str→Option Value} {base:Heap} {x qual:Str} {st:Stmt} {f:Addr} {fd:FuncData} {N ps:List Str} {k:Nat}
theorem JC_ {vs:List V} {ds:List D} {G:Gh} {F H:Hp} (hl:vs.length=ps.length) (S0:StOk K G F (vs.map some) H (fzs ds)):StOk K G F (L2.start N vs) H (fzs ds++List.replicate (N.length - ps.length) none):=by
 have e0:L2.start N vs=vs.map some++List.replicate (N.length - ps.length) none:=by unfold L2.start;rw [hl]
 rw [e0]
 exact S0.grow _
theorem fn_x {sp:Sp} (Fn:Fun K x qual st f fd) (S:FnScope N ps (zb_ st)) (len:∀ vs H Q E,sp vs H Q E→vs.length=ps.length)
  (hbody:∀ (cdv:Value) (A:Around) (outer:List Env) (s:Shared) (H:Hp) (vs:List V) (Q:VK) (E:XK),Room k (A.deeper (envOfC qual (zb_ st) s.heap.objs.size f cdv))→sp vs H Q E →
   ∃ t,PSs (cxOf (CX1 P w) P w K mg base N qual (zb_ st) f cdv A outer s H E) (zx_ st) t∧t { nx:=fun _ H'=>Q .non H',rt:=Q } (start N vs) H):FnOk P w K mg base (CX1 P w) (k+1) f fd ps sp:=by
 obtain ⟨oc,od,kV,doc,pm,an,cdv,ct,osl,rfl,lk,hcd⟩:=Fn.ex
 exact zah_ lk hcd S len fun A outer s H vs Q E hr hsp=>hbody cdv A outer s H vs Q E hr hsp
theorem V6_ {α:Type} {C:α→Prop} {N:List Str} {qual:Str} {scope:Scope} {f:Addr} {cdv:Value} {A:Around} {outer:List Env} {s:Shared} {H F:Hp} {E:XK} {G:Gh} {ρ:En} {e:Ex} (h:EndM K G E (M.exc e:M α) C):XW (cxOf (CX1 P w) P w K mg base N qual scope f cdv A outer s H E) G F ρ e :=
 fun F' H' s' a Cl dd pins σ g I xs xr=>VR_ I xs (h F' H' Cl dd g xr)
theorem ux_ {mb:SM D} {mf:List D→M D} (Fn:Fun K x qual st f fd) (Sc:FnScope N ps (zb_ st))
  (hb:∀ (cdv:Value) (A:Around) (outer:List Env) (s:Shared) (H:Hp) (E:XK),Room k (A.deeper (envOfC qual (zb_ st) s.heap.objs.size f cdv)) →
   ASs (cxOf (CX1 P w) P w K mg base N qual (zb_ st) f cdv A outer s H E) (zx_ st) mb)
  (hm:∀ ds,ds.length=ps.length→mf ds=mb KD (fzs ds++List.replicate (N.length - ps.length) none)):FnOk P w K mg base (CX1 P w) (k+1) f fd ps (spD K ps.length mf):=by
 refine fn_x Fn Sc (fun vs H Q E h=>?_) (fun cdv A outer s H vs Q E hr h=>?_)
 ·obtain ⟨_,_,_,h1,_⟩:=h;exact h1
 ·obtain ⟨G,F0,ds,h1,S0,e⟩:=h
  have hl:ds.length=ps.length:=by have:=S0.ln;simp at this;omega
  rw [hm ds hl] at e
  refine ⟨_,jZ_,hb cdv A outer s H E hr (fun m=>EndM K G E m _) KD G F0 _ H _ _ (fun z=>z) (fun F ρ e z=>V6_ z) (JC_ h1 S0) e ?_⟩
  exact ⟨fun F' σ' H' ρ' s S' o=>(by exact o .non F' H' s (YT_ S0 s S') .non),fun F' σ' H' ρ' d' v s S' r o=>(by exact o v F' H' s (YT_ S0 s S') r),fun F' σ' H' ρ' d' v s S' r o=>(o:False).elim,fun F' σ' H' ρ' s S' o=>(o:False).elim,fun F' σ' H' ρ' s S' o=>(o:False).elim⟩
theorem Xs_ {mb:SM (List D)} {mf:List D→M (List D)} (Fn:Fun K x qual st f fd) (Sc:FnScope N ps (zb_ st))
  (hb:∀ (cdv:Value) (A:Around) (outer:List Env) (s:Shared) (H:Hp) (E:XK),Room k (A.deeper (envOfC qual (zb_ st) s.heap.objs.size f cdv)) →
   ASs (cxOf (CX1 P w) P w K mg base N qual (zb_ st) f cdv A outer s H E) (zx_ st) mb)
  (hm:∀ ds,ds.length=ps.length→mf ds=mb KL (fzs ds++List.replicate (N.length - ps.length) none)):FnOk P w K mg base (CX1 P w) (k+1) f fd ps (spL K ps.length mf):=by
 refine fn_x Fn Sc (fun vs H Q E h=>?_) (fun cdv A outer s H vs Q E hr h=>?_)
 ·obtain ⟨_,_,_,h1,_⟩:=h;exact h1
 ·obtain ⟨G,F0,ds,h1,S0,e⟩:=h
  have hl:ds.length=ps.length:=by have:=S0.ln;simp at this;omega
  rw [hm ds hl] at e
  refine ⟨_,jZ_,hb cdv A outer s H E hr (fun m=>EndM K G E m _) KL G F0 _ H _ _ (fun z=>z) (fun F ρ e z=>V6_ z) (JC_ h1 S0) e ?_⟩
  exact ⟨fun F' σ' H' ρ' s S' o=>(o:False).elim,fun F' σ' H' ρ' d' v s S' r o=>(o:False).elim,fun F' σ' H' ρ' d' v s S' r o=>(by exact o v F' H' s (YT_ S0 s S') (Wb_ S' r)),fun F' σ' H' ρ' s S' o=>(o:False).elim,fun F' σ' H' ρ' s S' o=>(o:False).elim⟩
theorem Vd_ {S:Type} {ρ:En} {k:List D→M S} {K:Fg} {G:Gh} {E:XK} {C:S→Prop} (h:EndM K G E (at0 ρ k) C):∃ f,ρ[0]? = some (some (AV.op (OC.l f)))∧EndM K G E (k f) C:=by
 unfold at0 at h
 split at h
 ·rename_i f q;exact ⟨f,q,h⟩
 ·exact h.elim
theorem Vm_ {vs:List V} {ds g:List D} {G:Gh} {F H:Hp} (hl:vs.length=ps.length) (S0:StOk K G F (vs.map some) H (some (.op (.l g))::fzs ds)):StOk K G F (L2.start N vs) H (some (.op (.l g))::fzs ds++List.replicate (N.length - ps.length) none):=by
 have e0:L2.start N vs=vs.map some++List.replicate (N.length - ps.length) none:=by unfold L2.start;rw [hl]
 rw [e0]
 exact S0.grow _
theorem Q7_ {mb:SM (D×List D)} {mf:List D→List D→M (D×List D)} (Fn:Fun K x qual st f fd) (Sc:FnScope N ps (zb_ st))
  (hb:∀ (cdv:Value) (A:Around) (outer:List Env) (s:Shared) (H:Hp) (E:XK),Room k (A.deeper (envOfC qual (zb_ st) s.heap.objs.size f cdv)) →
   ASs (cxOf (CX1 P w) P w K mg base N qual (zb_ st) f cdv A outer s H E) (zx_ st) mb)
  (hm:∀ g ds,ds.length+1=ps.length→mf g ds=mb K1 (some (.op (.l g))::fzs ds++List.replicate (N.length - ps.length) none)):FnOk P w K mg base (CX1 P w) (k+1) f fd ps (sp1 K ps.length mf):=by
 refine fn_x Fn Sc (fun vs H Q E h=>?_) (fun cdv A outer s H vs Q E hr h=>?_)
 ·obtain ⟨_,_,_,_,h1,_⟩:=h;exact h1
 ·obtain ⟨G,F0,g,ds,h1,S0,e⟩:=h
  have hl:ds.length+1=ps.length:=by have:=S0.ln;simp at this;omega
  rw [hm g ds hl] at e
  refine ⟨_,jZ_,hb cdv A outer s H E hr (fun m=>EndM K G E m _) K1 G F0 _ H _ _ (fun z=>z) (fun F ρ e z=>V6_ z) (Vm_ h1 S0) e ?_⟩
  refine ⟨fun F' σ' H' ρ' s S' o=>?_,fun F' σ' H' ρ' d' v s S' rv o=>?_,fun F' σ' H' ρ' d' v s S' r o=>(o:False).elim,fun F' σ' H' ρ' s S' o=>(o:False).elim,fun F' σ' H' ρ' s S' o=>(o:False).elim⟩
  ·obtain ⟨f',q,e'⟩:=Vd_ o
   exact e' .non F' H' s (Va_ S0 s S' q).1 .non
  ·obtain ⟨f',q,e'⟩:=Vd_ o
   exact e' v F' H' s (Va_ S0 s S' q).1 rv
end
structure CF (P:Program) (w:World) (K:Fg) (mg:Str→Option Value) (base:Heap) (x:Str) (k:Nat) (sp:Sp):Prop where
 ex:∃ (f:Addr) (fd:FuncData) (ps:List Str),FnOk P w K mg base (CX1 P w) k f fd ps sp∧mg x=some (.ref f)∧PySem.W.keepIn K (.ref f)=true∧L2.Binds K fd ps []
def pFnD (mf:List D→M D) (ps:Pa D):Pu D:=fun ρ=>ps (fun ds=>mf ds) ρ
def pFnL (mf:List D→M (List D)) (ps:Pa (List D)):Pu (List D):=fun ρ=>ps (fun ds=>mf ds) ρ
section
variable {S:Type}
def eFn1 (mf:List D→List D→M (D×List D)) (i:Nat) (ms:Ev S (List D)):Ev S D:=fun x k ρ=>ms x (fun ds ρ1=>match ownL ρ1 i with
 | some f=>(mf f ds).on (fun e=>x e ρ1) (fun r=>k r.1 (setO ρ1 i r.2))
 | none=>.bad) ρ
end
def EX (X:Cx) (G:Gh):XK:=fun c dd H'=>∃ x ρ F1 F' C,c=.ref C∧XW X G F1 ρ x∧GOk G F' H'∧XR X.K F' H' C dd x
theorem XS.older {H:Hp} {h:Heap} {lo lo':Nat} {e C:Addr} {dd:Option Addr} (xs:XS H h lo e C dd) (hl:lo'≤lo):XS H h lo' e C dd:=by
 obtain ⟨oe,vs,q,c,d,z,z1,k⟩:=xs.obj
 refine ⟨Nat.le_trans hl xs.yg,xs.trk,oe,vs,q,c,d,z,z1,k.imp id ?_⟩
 rintro ⟨T,oT,ts,k,ne,l,r⟩
 exact ⟨T,oT,ts,k,ne,Nat.le_trans hl l,r⟩
theorem VD_ {X:Cx} {G:Gh}:Y6_ (CX1 X.prog X.w) X (EX X G):=fun pins σ H s e s' I h=>by
 obtain ⟨a,C,dd,H',rfl,ho,hb,un,hk,xs,x,ρ,F1,F',C',ec,xw,g,xr⟩:=h
 cases ec
 exact xw F' H' s' a C dd pins σ g (I.call' ho un hk hb fun b z=>absurd z (by simp)) (xs.older I.sz) xr
theorem EX.of {X:Cx} {G:Gh} {F F' H' H:Hp} {σ:L2.St} {ρ:En} {x:Ex} {C:Addr} {dd:Option Addr} {ex:Option Addr} {p:Nat→Option Addr} (S:StOk X.K G F σ H ρ) (xw:XW X G F ρ x) (g:GOk ⟨p,zl_ G σ ρ H ex,F⟩ F' H') (xr:XR X.K F' H' C dd x):EX X G (.ref C) dd H' :=
 ⟨x,ρ,F,F',C,rfl,xw,⟨g.fh,fun b o h=>g.oh b o (zS_ S h),fun b o h=>g.fo b o (zS_ S h),S.fb.trans g.fb⟩,xr⟩
section
variable {S:Type} {X:Cx} {k n:Nat} {mf:List D→M D} {ml:List D→M (List D)} {m1:List D→List D→M (D×List D)} {m1L:List D→List D→M (List D×List D)} {x:Str} {p pos pn:Pos} {e:Expr} {es:List Expr} {ps:Pa D} {pl:Pa (List D)} {ms:Ev S (List D)}
theorem Ju_ (C:CF X.prog X.w X.K X.mg X.base x k (spD X.K n mf)) (hr:Room k X.A) (hg:Gl X x) (ha:AA X (e::es) ps) (hn:(e::es).length=n)
  (hdb:(x==("__debug__" : Str))=false) (he:starEach (e::es) X.env=(false,eval e X.env)::starEach es X.env) (hpl:(backTo pos (starEach es X.env)).any (·.1)=false):AP X (.Call (.Name x p) (e::es) [] pos) (pFnD mf ps):=by
 obtain ⟨f,fd,pl,Fn,h1,h2,h3⟩:=C.ex
 intro G F σ H ρ Q St w
 refine sem (Z7_ Fn hr hg h1 h2 h3 .nil (VD_ (G:=G)) z4_ hdb he hpl) ?_
 refine ha G F σ H ρ _ _ _ St w fun ds vs F1 H1 s1 S1 hl r1 w1=>?_
 show spD X.K n mf (vs++[]) H1 Q (EX X G)
 rw [List.append_nil]
 cases hd:mf ds with
 | bad=>rw [hd] at w1;exact w1.elim
 | exc e =>
  rw [hd] at w1
  exact ⟨_,F1,ds,hl.trans hn,jM_ S1 r1,by rw [hd];exact fun F' H' Cl dd g xr=>EX.of S1 w1 g xr⟩
 | ret d =>
  rw [hd] at w1
  refine ⟨_,F1,ds,hl.trans hn,jM_ S1 r1,?_⟩
  rw [hd]
  intro v F2 H2 s2 S2 r2
  obtain ⟨S3,t3⟩:=jR_ (avs':=ds.map AV.fz) S1 s2 S2
  exact w1 F2 H2 s2 S3 v r2
theorem zak_ (C:CF X.prog X.w X.K X.mg X.base x k (spL X.K n ml)) (hr:Room k X.A) (hg:Gl X x) (ha:AA X (e::es) pl) (hn:(e::es).length=n)
  (hdb:(x==("__debug__" : Str))=false) (he:starEach (e::es) X.env=(false,eval e X.env)::starEach es X.env) (hpl:(backTo pos (starEach es X.env)).any (·.1)=false):AL X (.Call (.Name x p) (e::es) [] pos) (pFnL ml pl):=by
 obtain ⟨f,fd,pz,Fn,h1,h2,h3⟩:=C.ex
 intro G F σ H ρ Q St w
 refine sem (Z7_ Fn hr hg h1 h2 h3 .nil (VD_ (G:=G)) z4_ hdb he hpl) ?_
 refine ha G F σ H ρ _ _ _ St w fun ds vs F1 H1 s1 S1 hl r1 w1=>?_
 show spL X.K n ml (vs++[]) H1 Q (EX X G)
 rw [List.append_nil]
 cases hd:ml ds with
 | bad=>rw [hd] at w1;exact w1.elim
 | exc e =>
  rw [hd] at w1
  exact ⟨_,F1,ds,hl.trans hn,jM_ S1 r1,by rw [hd];exact fun F' H' Cl dd g xr=>EX.of S1 w1 g xr⟩
 | ret d =>
  rw [hd] at w1
  refine ⟨_,F1,ds,hl.trans hn,jM_ S1 r1,?_⟩
  rw [hd]
  intro v F2 H2 s2 S2 r2
  obtain ⟨S3,t3⟩:=jR_ (avs':=ds.map AV.fz) S1 s2 S2
  exact w1 F2 H2 s2 S3 v (t3 v _ r2)
theorem UN_ {ρ:En} {i:Nat} {f g:List D} (h:ownL ρ i=some g):setO ρ i f=setC ρ i (.l f):=uN_ ρ i f g h
theorem UA_ {i:Nat} {y:Str} {OK:M S→Prop} {z:Ex→En→M S} {kk:List D→En→M S} {G:Gh} {F H:Hp} {σ:L2.St} {ρ:En} {Q:List V→Hp→Prop} (hN:X.N[i]? = some y) (hv:Vis X.env.scope y) (hd:(y==("__debug__" : Str))=false) (hcd:(y==("__classdict__" : Str))=false)
  (ha:AEa X es ms) (he:starEach (.Name y pn::es) X.env=(false,eval (.Name y pn) X.env)::starEach es X.env) (hO:KOk OK) (hX:XL X OK z G) (St:StOk X.K G F σ H ρ) (ok:OK (ms z (fun ds ρ1=>match ownL ρ1 i with|some f=>kk (.list f::ds) ρ1|none=>.bad) ρ))
  (h0:(ownL ρ i).isSome=true)
  (k2:∀ a f ds vs F' H' ρ',Same F F'→StOk X.K G F' σ H' ρ'→ownL ρ' i=some f→σ[i]? = some (some (V.ref a))→vs.length=es.length→RepL X.K F' vs ds→OK (kk (.list f::ds) ρ')→Q (.ref a::vs) H'):uk_ X (.Name y pn::es) σ H Q:=by
 obtain ⟨f0,hf0⟩:=Option.isSome_iff_exists.mp h0
 obtain ⟨a,_,ea,_,_⟩:=Z9_ St hf0
 refine semA (j0_ (jV_ hN hv hd hcd) z4_ he) ⟨_,ea,?_⟩
 refine ha OK z _ G F σ H ρ _ hO hX St ok fun ds vs F1 H1 ρ1 s1 S1 hl r1 o1=>?_
 split at o1
 ·rename_i f hf
  exact k2 a f ds vs F1 H1 ρ1 s1 S1 hf ea hl r1 o1
 ·exact (hO o1).elim
def ck {S α:Type} (i:Nat) (m:Ev S α):Ev S α:=fun x k ρ=>match (ownL ρ i).isSome with
 | true=>m x k ρ
 | false=>.bad
theorem yK_ {K:Fg} {G:Gh} {F H:Hp} {σ:L2.St} {ρ:En} {vs:List V} {ds f:List D} {j:Nat} {a:Addr} (S:StOk K G F σ H ρ) (hj:ownL ρ j=some f) (ha:σ[j]? = some (some (V.ref a))) (r:RepL K F vs ds) :
  StOk K ⟨P1 a,zl_ G σ ρ H (some a),F⟩ F ((V.ref a::vs).map some) H (some (.op (.l f))::fzs ds):=YN_ S (uH_ hj) ha r
theorem uy_ {i:Nat} {y:Str} (C:CF X.prog X.w X.K X.mg X.base x k (sp1 X.K n m1)) (hr:Room k X.A) (hg:Gl X x) (hN:X.N[i]? = some y) (hv:Vis X.env.scope y) (ha:AEa X es ms) (hn:es.length+1=n)
  (hdb:(x==("__debug__" : Str))=false) (he:starEach (.Name y pn::es) X.env=(false,eval (.Name y pn) X.env)::starEach es X.env) (hpl:(backTo pos (starEach es X.env)).any (·.1)=false)
  (hd:(y==("__debug__" : Str))=false:=by decide) (hcd:(y==("__classdict__" : Str))=false:=by decide):AE X (.Call (.Name x p) (.Name y pn::es) [] pos) (ck i (eFn1 m1 i ms)):=by
 obtain ⟨f,fd,pl,Fn,h1,h2,h3⟩:=C.ex
 intro OK z kk G F σ H ρ Q hO hX St ok k2
 unfold ck at ok
 split at ok
 case h_2=>exact (hO ok).elim
 rename_i h0
 refine sem (Z7_ Fn hr hg h1 h2 h3 .nil (VD_ (G:=G)) z4_ hdb he hpl) ?_
 refine UA_ (OK:=OK) (z:=z) (kk:=fun l ρ1=>match l with | .list f::ds=>(m1 f ds).on (fun e=>z e ρ1) (fun r=>kk r.1 (setO ρ1 i r.2))|_=>.bad) hN hv hd hcd ha he hO hX St ok h0 fun a f ds vs F1 H1 ρ1 s1 S1 hf ea hl r1 o1=>?_
 have o1':OK ((m1 f ds).on (fun e=>z e ρ1) (fun r=>kk r.1 (setO ρ1 i r.2))):=o1
 show sp1 X.K n m1 ((V.ref a::vs)++[]) H1 Q (EX X G)
 rw [List.append_nil]
 cases hd:m1 f ds with
 | bad=>rw [hd] at o1';exact (hO o1').elim
 | exc e =>
  rw [hd] at o1'
  exact ⟨_,F1,f,ds,by simp [hl];exact hn,yK_ S1 hf ea r1,by rw [hd];exact fun F' H' Cl dd g xr=>EX.of S1 (hX F1 ρ1 e o1') g xr⟩
 | ret r =>
  rw [hd] at o1'
  refine ⟨_,F1,f,ds,by simp [hl];exact hn,yK_ S1 hf ea r1,?_⟩
  rw [hd]
  intro v F2 H2 s2 S2 r2
  obtain ⟨S3,t3⟩:=Uz_ (c':=.l r.2) (l:=ds.map AV.fz) S1 (uH_ hf) ea s2 S2
  rw [←UN_ hf] at S3
  exact k2 r.1 v F2 H2 _ (s1.trans s2) S3 r2 o1'
end
theorem zq_ {k:Nat} {A:Around} (r:Room k A):A.units+1100<cLine:=by have:=r.un;omega
end L4
set_option Elab.async false
set_option linter.all false
set_option maxRecDepth 100000
namespace L4
open PySem PySem.Spec PyProof.Rows L2 L3
def noX {S:Type} (m:M S):M S:=match m with
 | .ret s=>.ret s
 | _=>.bad
theorem jg_ {S:Type} (s:S):noX (M.ret s)=.ret s:=rfl
def z8_ (step:D→M (Option D)):List D→M (List D)
 | []=>.ret []
 | d::r=>bd (noX (step d)) fun o=>bd (z8_ step r) fun xs=>.ret (o.toList++xs)
theorem JX_ {step:D→M (Option D)}:∀ {ds:List D} {e:Ex},z8_ step ds≠.exc e
 | [],e,h=>by cases h
 | d::r,e,h=>by
  unfold z8_ at h
  cases hs:step d with
  | ret o =>
   rw [hs,jg_,jm_] at h
   cases hr:z8_ step r with
   | ret xs=>rw [hr] at h;cases h
   | exc e'=>exact JX_ hr
   | bad=>rw [hr] at h;cases h
  | exc e'=>rw [hs] at h;cases h
  | bad=>rw [hs] at h;cases h
def U2_ (k:Nat) (it:Pu (List D)) (t:Tg (Option D)) (pt:Pu Bool) (pe:Pu D):Pu (List D):=fun ρ=>bd (it ρ) fun ds =>
 bd (z8_ (fun d=>t d (fun ρ1=>bd (pt ρ1) fun b=>if b then bd (pe ρ1) fun v=>.ret (some v) else .ret none) (ρ++List.replicate k none)) ds) fitM
def j3_ {T:Type} (step:T→D→M (Option D×T)):List D→T→M (List D×T)
 | [],s=>.ret ([],s)
 | d::r,s=>bd (noX (step s d)) fun p=>bd (j3_ step r p.2) fun q=>.ret (p.1.toList++q.1,q.2)
theorem JW_ {T:Type} {step:T→D→M (Option D×T)}:∀ {ds:List D} {s:T} {e:Ex},j3_ step ds s≠.exc e
 | [],s,e,h=>by cases h
 | d::r,s,e,h=>by
  unfold j3_ at h
  cases hs:step s d with
  | ret o =>
   rw [hs,jg_,jm_] at h
   cases hr:j3_ step r o.2 with
   | ret xs=>rw [hr] at h;cases h
   | exc e'=>exact JW_ hr
   | bad=>rw [hr] at h;cases h
  | exc e'=>rw [hs] at h;cases h
  | bad=>rw [hs] at h;cases h
def Xu_ {S:Type} (sh:List Kd) (k:Nat) (it:Ev S (List D)) (t:Tg (Option D×SOf sh)) (et:Ev (Option D×SOf sh) Bool) (ee:Ev (Option D×SOf sh) D):Ev S (List D):=fun x kk ρ=>it x (fun ds ρ1=>rdk sh (fun s =>
 (j3_ (fun s d=>t d (fun ρ2=>et (fun e _=>.exc e) (fun b ρ3=>if b then ee (fun e _=>.exc e) (fun v ρ4=>rdk sh (fun s'=>.ret (some v,s')) (ρ4.take sh.length)) ρ3 else rdk sh (fun s'=>.ret (none,s')) (ρ3.take sh.length)) ρ2) (wr sh s++List.replicate k none)) ds s).on
  (fun e=>x e ρ1) (fun q=>(fitM q.1).on (fun e=>x e ρ1) (fun out=>kk out (wr sh q.2)))) ρ1) ρ
def X4_:Pu Bool:=fun _=>.ret true
def ATs (X:Cx) (ifs:List Expr) (p:Pu Bool):Prop :=
 ∀ (G:Gh) (F:Hp) (σ:L2.St) (H:Hp) (ρ:En) (Q:Bool→Hp→Prop),StOk X.K G F σ H ρ→W X G F σ ρ (p ρ) (fun d F' H'=>Q d H')→∀ (pins:List (Addr×Obj)) (s:Shared),Inv X pins σ H s →
  wpAny (model X.prog X.w) X.A (forIn ifs true fun c r=>if r=true then do let ok ←isTrue c X.env (eval c X.env);pure (ForInStep.yield ok) else pure (ForInStep.yield r)) (TP X pins σ Q) X.xe s
theorem j4_ {X:Cx}:ATs X [] X4_:=fun G F σ H ρ Q S w pins s I=>Vv_ pins s σ H Q I (w F H (Same.refl _) S)
theorem Wd_ {X:Cx} {c:Expr} {p:Pu Bool} (h:AT X c p):ATs X [c] p:=fun G F σ H ρ Q S w pins s I=>Vu_ uv_ pins s σ H Q I (h G F σ H ρ Q S w)
def AEts {S:Type} (X:Cx) (ifs:List Expr) (m:Ev S Bool):Prop :=
 ∀ (OK:M S→Prop) (x:Ex→En→M S) (k:Bool→En→M S) (G:Gh) (F:Hp) (σ:L2.St) (H:Hp) (ρ:En) (Q:Bool→Hp→Prop),KOk OK→XL X OK x G→StOk X.K G F σ H ρ→OK (m x k ρ) →
  (∀ d F' H' ρ',Same F F'→StOk X.K G F' σ H' ρ'→OK (k d ρ')→Q d H')→∀ (pins:List (Addr×Obj)) (s:Shared),Inv X pins σ H s →
  wpAny (model X.prog X.w) X.A (forIn ifs true fun c r=>if r=true then do let ok ←isTrue c X.env (eval c X.env);pure (ForInStep.yield ok) else pure (ForInStep.yield r)) (TP X pins σ Q) X.xe s
theorem Wj_ {S:Type} {X:Cx} {ifs:List Expr} {p:Pu Bool} (h:ATs X ifs p):AEts (S:=S) X ifs (ePu p):=fun OK x k G F σ H ρ Q hO hX St ok kk=>h G F σ H ρ Q St (W.of hO hX ok fun d F' H' s S' o=>kk d F' H' ρ s S' o)
theorem W.rets {X:Cx} {G:Gh} {F:Hp} {σ:L2.St} {ρ:En} {α:Type} {m:M α} {a:α} {C:α→Hp→Hp→Prop} (e:m=.ret a) (h:∀ F' H',Same F F'→StOk X.K G F' σ H' ρ→C a F' H'):W X G F σ ρ m C:=by subst e;exact h
section
variable {X:Cx}
def Ue_ (X:Cx) (N':List Str) (scope:Scope) (tg:Expr):TG:=fun v σ H Q=>∀ cl s H0 fp C,Uc_ (zm_ X N' scope cl s H0 fp C) tg v σ H Q
def Ud_ (X:Cx) (N':List Str) (scope:Scope) (ifs:List Expr):TT:=fun σ H Q=>∀ cl s0 H0 fp C,∀ (pins:List (Addr×Obj)) (s:Shared),Inv (zm_ X N' scope cl s0 H0 fp C) pins σ H s →
  wpAny (model X.prog X.w) (zm_ X N' scope cl s0 H0 fp C).A (forIn ifs true fun c r=>if r=true then do let ok ←isTrue c (zm_ X N' scope cl s0 H0 fp C).env (eval c (zm_ X N' scope cl s0 H0 fp C).env);pure (ForInStep.yield ok) else pure (ForInStep.yield r)) (TP (zm_ X N' scope cl s0 H0 fp C) pins σ Q) (zm_ X N' scope cl s0 H0 fp C).xe s
def Uf_ (X:Cx) (N':List Str) (scope:Scope) (e:Expr):TE:=fun σ H Q=>∀ cl s H0 fp C,tSem (zm_ X N' scope cl s H0 fp C) e σ H Q
variable {elt tg iter:Expr} {ifs:List Expr} {scope:Scope} {pos:Pos} {N':List Str} {k:Nat}
theorem Jp_ {it:Pu (List D)} {t:Tg (Option D)} {pt:Pu Bool} {pe:Pu D} {G:Gh} {F:Hp} {σ:L2.St} {H:Hp} {ρ:En} {Q:VK} (hi:AI X tg iter it)
  (hg:∀ cl s H fp C,AG (zm_ X N' scope cl s H fp C) X.N.length tg t) (ht:∀ cl s H fp C,ATs (zm_ X N' scope cl s H fp C) ifs pt) (he:∀ cl s H fp C,AP (zm_ X N' scope cl s H fp C) elt pe)
  (hσ:σ.length=X.N.length) (St:StOk X.K G F σ H ρ) (w:W X G F σ ρ (U2_ k it t pt pe ρ) fun ds F' H'=>∀ v,Frs X.K G F' σ H' ρ v (.l ds)→Q v H') :
  Qb_ (uA_ X tg iter) k (Ue_ X N' scope tg) (Ud_ X N' scope ifs) (Uf_ X N' scope elt) σ H Q:=by
 refine hi G F σ H ρ _ St (w.bind.imp fun ds F1 H1 s1 S1 w1 J wk=>?_)
 have hP:∀ i a,G.P i=some a→i<σ.length:=fun i a h=>(List.getElem?_eq_some_iff.mp (S1.pp i a h).1).1
 have hln:σ.length=ρ.length:=S1.ln
 have wc:=w1.bind
 revert wc
 generalize hstep:(fun d=>t d (fun ρ1=>bd (pt ρ1) fun b=>if b then bd (pe ρ1) fun v=>.ret (some v) else .ret none) (ρ++List.replicate k none))=step
 intro wc
 cases hcc:z8_ step ds with
 | bad=>rw [hcc] at wc;exact wc.elim
 | exc e=>exact (JX_ hcc).elim
 | ret out =>
  rw [hcc] at wc
  have wf:∀ F' H',Same F1 F'→StOk X.K G F' σ H' ρ→W X G F' σ ρ (fitM out) fun ds F' H'=>∀ v,Frs X.K G F' σ H' ρ v (.l ds)→Q v H':=wc
  have hfit:out.length≤sizeLine:=(wf F1 H1 (Same.refl _) S1).fit.1
  have fin:∀ F' H',Same F1 F'→StOk X.K G F' σ H' ρ→∀ v,Frs X.K G F' σ H' ρ v (.l out)→Q v H':=fun F' H' s' S'=>(wf F' H' s' S').fit.2 F' H' (Same.refl _) S'
  have grown:∀ {F' H' σ' ρ'},StOk X.K G F' σ' H' ρ'→(∀ j,j<σ.length→σ'[j]? = σ[j]? ∧ ρ'[j]? = ρ[j]?)→σ'.length=σ.length+k→StOk X.K G F' σ' H' (ρ++List.replicate k none):=fun {F' H' σ' ρ'} S' kp hl=>by
   refine S'.weak (by have:=S'.ln;simp;omega) (fun i av q=>?_) (fun i c q=>?_)
   ·have q':=jT_ q
    have hi:i<σ.length:=by rw [hln];exact (List.getElem?_eq_some_iff.mp q').1
    rw [(kp i hi).2];exact q'
   ·obtain ⟨a,ha⟩:=S'.pq i c q
    have hi:=hP i a ha
    rw [List.getElem?_append_left (by omega),←(kp i hi).2]
    exact q
  refine ⟨fun i m vs σ' H'=>∃ F' acc rest,m=ds.length - i∧i≤ds.length∧Same F1 F'∧StOk X.K G F' σ' H' (ρ++List.replicate k none)∧(∀ j,j<σ.length→σ'[j]? = σ[j]?)∧σ'.length=σ.length+k∧RepL X.K F' vs acc∧z8_ step (ds.drop i)=.ret rest∧out=acc++rest,
   ⟨ds.length,F1,[],out,rfl,Nat.zero_le _,Same.refl _,S1.grow k,fun j hj=>by rw [List.getElem?_append_left hj],by simp,.nil,hcc,rfl⟩,?_⟩
  rintro i m vs σ' H' ⟨F',acc,rest,rfl,hi,s2,S2,kp,hlen,rp,go,eo⟩
  refine ⟨by rw [rp.length];rw [eo,List.length_append] at hfit;omega,?_⟩
  by_cases hlt:i<ds.length
  ·refine .inr ⟨wk.go i G F' σ' H' _ s2 S2 hlt,fun x H2 y cl s0 H0 fp C=>?_⟩
   have hd:ds[i]? = some ds[i]:=by simp [hlt]
   obtain ⟨F3,s3,S3,r3⟩:=wk.yld i G F' σ' H' _ x H2 ds[i] s2 S2 hd y
   have ed:ds.drop i=ds[i]::ds.drop (i+1):=List.drop_eq_getElem_cons hlt
   rw [ed] at go
   cases hst:step ds[i] with
   | bad=>dsimp only [z8_] at go;rw [hst] at go;cases go
   | exc e=>dsimp only [z8_] at go;rw [hst] at go;cases go
   | ret o =>
    dsimp only [z8_] at go
    rw [hst,jg_,jm_] at go
    cases hr:z8_ step (ds.drop (i+1)) with
    | bad=>rw [hr] at go;cases go
    | exc e=>rw [hr] at go;cases go
    | ret rest' =>
     rw [hr,jm_] at go
     cases go
     rw [←hstep] at hst
     refine hg cl s0 H0 fp C (fun m=>m=.ret o) _ G F3 σ' H2 _ x ds[i] _ (fun z=>nomatch z) S3 r3 hst fun σ3 ρ3 S4 kp3 hl3 ml3 o4=>?_
     have kp':∀ j,j<σ.length→σ3[j]? = σ[j]? ∧ ρ3[j]? = ρ[j]?:=fun j hj=>⟨((kp3 j (by omega)).1).trans (kp j hj),by rw [(kp3 j (by omega)).2,List.getElem?_append_left (by omega)]⟩
     cases hpt:pt ρ3 with
     | bad=>rw [hpt] at o4;cases o4
     | exc e=>rw [hpt] at o4;cases o4
     | ret b =>
      rw [hpt,jm_] at o4
      intro cl s0 H0 fp C
      refine ht cl s0 H0 fp C G F3 σ3 H2 ρ3 _ S4 (W.rets hpt fun F5 H5 s5 S5=>?_)
      cases b with
      | true =>
       refine iteT ?_
       have o4':bd (pe ρ3) (fun v=>.ret (some v))=M.ret o:=o4
       cases hpe:pe ρ3 with
       | bad=>rw [hpe] at o4';cases o4'
       | exc e=>rw [hpe] at o4';cases o4'
       | ret v =>
        rw [hpe,jm_] at o4'
        cases o4'
        intro cl s0 H0 fp C
        refine he cl s0 H0 fp C G F5 σ3 H5 ρ3 _ S5 (W.rets hpe fun F6 H6 s6 S6 u ru=>?_)
        exact ⟨ds.length - (i+1),by omega,F6,acc++[v],rest',rfl,hlt,((s2.trans s3).trans s5).trans s6,grown S6 kp' (by omega),fun j hj=>(kp' j hj).1,by omega,(rp.mono ((s3.trans s5).trans s6)).append (.cons ru .nil),hr,by rw [eo];simp⟩
      | false =>
       refine iteF ?_
       have o4':(M.ret none:M (Option D))=M.ret o:=o4
       cases o4'
       exact ⟨ds.length - (i+1),by omega,F5,acc,rest',rfl,hlt,(s2.trans s3).trans s5,grown S5 kp' (by omega),fun j hj=>(kp' j hj).1,by omega,rp.mono (s3.trans s5),hr,by rw [eo];simp⟩
  ·have ei:i=ds.length:=by omega
   subst ei
   rw [List.drop_length] at go
   cases go
   rw [List.append_nil] at eo
   subst eo
   refine .inl ⟨wk.stop G F' σ' H' _ s2 S2,fun p hp=>?_⟩
   have Ssh:=S2.shrink (n:=σ.length) (by simp;omega) hP
   have e1:σ'.take σ.length=σ:=yp_ kp rfl
   have e2:(ρ++List.replicate k none).take σ.length=ρ:=by rw [hln,List.take_left]
   rw [e1,e2] at Ssh
   obtain ⟨S5,r5⟩:=Ssh.newLst hp rp
   exact fin F' _ s2 S5 _ r5
theorem yc_ {it:Pu (List D)} {t:Tg (Option D)} {pt:Pu Bool} {pe:Pu D} (hc:X.calm=true) (Sc:CompOk X N' k scope) (hi:AI X tg iter it)
  (hg:∀ cl s H fp C,AG (zm_ X N' scope cl s H fp C) X.N.length tg t) (ht:∀ cl s H fp C,ATs (zm_ X N' scope cl s H fp C) ifs pt) (he:∀ cl s H fp C,AP (zm_ X N' scope cl s H fp C) elt pe)
  (hs:∀ x,foldedSetIterable iter X.env x=pure x):AL X (.ListComp elt [⟨tg,iter,ifs,0⟩] scope pos) (U2_ k it t pt pe):=by
 intro G F σ H ρ Q St w;unfold tSem;intro pins s I
 refine VB_ (wi:=uA_ X tg iter) (g:=Ue_ X N' scope tg) (tc:=Ud_ X N' scope ifs) (te:=Uf_ X N' scope elt) hc Sc (fun x hx hf=>I.ok.has x.1 (Sc.free x hx hf)) Zh_
  (fun cl s H fp C pins s' σ H v u Q I r h=>Zj_ pins s' σ H v u Q I r (h cl _ _ fp C)) (fun cl s H fp C pins s' σ H Q I h=>h cl _ _ fp C pins s' I) (fun cl s H fp C pins s' σ H Q I h=>zi_ pins s' σ H Q I (h cl _ _ fp C)) hs pins s σ H Q I (Jp_ hi hg ht he I.len St w)
theorem QE_ {S:Type} {sh:List Kd} {it:Ev S (List D)} {t:Tg (Option D×SOf sh)} {et:Ev (Option D×SOf sh) Bool} {ee:Ev (Option D×SOf sh) D} {OK:M S→Prop} {x:Ex→En→M S} {kk:List D→En→M S} {G:Gh} {F:Hp} {σ:L2.St} {H:Hp} {ρ:En} {Q:VK} (hi:AEi X tg iter it)
  (hg:∀ cl s H fp C,AG (zm_ X N' scope cl s H fp C) X.N.length tg t) (ht:∀ cl s H fp C,AEts (zm_ X N' scope cl s H fp C) ifs et) (he:∀ cl s H fp C,AE (zm_ X N' scope cl s H fp C) elt ee)
  (hσ:σ.length=X.N.length) (hO:KOk OK) (hX:XL X OK x G) (St:StOk X.K G F σ H ρ) (ok:OK (Xu_ sh k it t et ee x kk ρ)) (k2:∀ ds v F' H' ρ',Same F F'→StOk X.K G F' σ H' ρ'→Frs X.K G F' σ H' ρ' v (.l ds)→OK (kk ds ρ')→Q v H') :
  Qb_ (uA_ X tg iter) k (Ue_ X N' scope tg) (Ud_ X N' scope ifs) (Uf_ X N' scope elt) σ H Q:=by
 refine hi OK x _ G F σ H ρ _ hO hX St ok fun ds J F1 H1 ρ1 s1 S1 wk o1=>?_
 obtain ⟨s0,e0,o0⟩:=uP_ hO o1
 clear o1
 have S0:=S1.rd e0
 have hlen0:∀ s:SOf sh,(wr sh s).length=σ.length:=fun s=>by
  have h1:∀ (sh:List Kd) (s:SOf sh),(wr sh s).length=sh.length:=by
   intro sh
   induction sh with
   | nil=>intro s;rfl
   | cons a r ih=>intro s;cases a<;>simp [wr,ih]
  have h2:=S0.ln
  rw [h1] at h2 ⊢
  exact h2.symm
 have hshl:sh.length=σ.length:=by
  have h1:∀ (sh:List Kd) (s:SOf sh),(wr sh s).length=sh.length:=by
   intro sh
   induction sh with
   | nil=>intro s;rfl
   | cons a r ih=>intro s;cases a<;>simp [wr,ih]
  rw [←h1 sh s0];exact hlen0 s0
 have hP:∀ i a,G.P i=some a→i<σ.length:=fun i a h=>(List.getElem?_eq_some_iff.mp (S1.pp i a h).1).1
 revert o0
 generalize hstep:(fun (s:SOf sh) d=>t d (fun ρ2=>et (fun e _=>.exc e) (fun b ρ3=>if b then ee (fun e _=>.exc e) (fun v ρ4=>rdk sh (fun s'=>.ret (some v,s')) (ρ4.take sh.length)) ρ3 else rdk sh (fun s'=>.ret (none,s')) (ρ3.take sh.length)) ρ2) (wr sh s++List.replicate k none))=step
 intro o0
 cases hcc:j3_ step ds s0 with
 | bad=>rw [hcc] at o0;exact (hO o0).elim
 | exc e=>exact (JW_ hcc).elim
 | ret q =>
  obtain ⟨out,sf⟩:=q
  rw [hcc,W5_] at o0
  obtain ⟨hfit,o0⟩:=Xt_ hO o0
  have again:∀ {F' H' σ' ρ'} {s':SOf sh},StOk X.K G F' σ' H' ρ'→(∀ j,j<σ.length→σ'[j]? = σ[j]?)→σ'.length=σ.length+k→rd sh (ρ'.take sh.length)=some s'→StOk X.K G F' σ' H' (wr sh s'++List.replicate k none):=fun {F' H' σ' ρ' s'} S' kp hl e'=>by
   obtain ⟨h1,h2,h3⟩:=Zd_ sh _ s' e'
   have hρ':ρ'.length=σ.length+k:=by rw [←S'.ln];exact hl
   refine S'.weak (by simp [hlen0];omega) (fun i av q=>?_) (fun i c q=>?_)
   ·have q':=jT_ q
    have:=h2 i av q'
    have hi:i<sh.length:=by
     have:=(List.getElem?_eq_some_iff.mp this).1
     rw [List.length_take] at this;omega
    rw [List.getElem?_take_of_lt hi] at this
    exact this
   ·obtain ⟨a,ha⟩:=S'.pq i c q
    have hi:=hP i a ha
    rw [List.getElem?_append_left (by rw [hlen0];exact hi)]
    exact h3 i c (by rw [List.getElem?_take_of_lt (by omega)];exact q)
  refine ⟨fun i m vs σ' H'=>∃ F' acc rest s,m=ds.length - i∧i≤ds.length∧Same F1 F'∧StOk X.K G F' σ' H' (wr sh s++List.replicate k none)∧(∀ j,j<σ.length→σ'[j]? = σ[j]?)∧σ'.length=σ.length+k∧RepL X.K F' vs acc∧j3_ step (ds.drop i) s=.ret (rest,sf)∧out=acc++rest,
   ⟨ds.length,F1,[],out,s0,rfl,Nat.zero_le _,Same.refl _,S0.grow k,fun j hj=>by rw [List.getElem?_append_left hj],by simp,.nil,hcc,rfl⟩,?_⟩
  rintro i m vs σ' H' ⟨F',acc,rest,sc,rfl,hi,s2,S2,kp,hlen,rp,go,eo⟩
  refine ⟨by rw [rp.length];rw [eo,List.length_append] at hfit;omega,?_⟩
  by_cases hlt:i<ds.length
  ·refine .inr ⟨wk.go i G F' σ' H' _ s2 S2 hlt,fun x H2 y cl sx H0 fp C=>?_⟩
   have hd:ds[i]? = some ds[i]:=by simp [hlt]
   obtain ⟨F3,s3,S3,r3⟩:=wk.yld i G F' σ' H' _ x H2 ds[i] s2 S2 hd y
   have ed:ds.drop i=ds[i]::ds.drop (i+1):=List.drop_eq_getElem_cons hlt
   rw [ed] at go
   cases hst:step sc ds[i] with
   | bad=>dsimp only [j3_] at go;rw [hst] at go;cases go
   | exc e=>dsimp only [j3_] at go;rw [hst] at go;cases go
   | ret o =>
    obtain ⟨o,sn⟩:=o
    dsimp only [j3_] at go
    rw [hst,jg_,jm_] at go
    cases hr:j3_ step (ds.drop (i+1)) sn with
    | bad=>rw [hr] at go;cases go
    | exc e=>rw [hr] at go;cases go
    | ret q' =>
     obtain ⟨rest',sf'⟩:=q'
     rw [hr,jm_] at go
     cases go
     rw [←hstep] at hst
     refine hg cl sx H0 fp C (fun m=>m=.ret (o,sn)) _ G F3 σ' H2 _ x ds[i] _ (fun z=>nomatch z) S3 r3 hst fun σ3 ρ3 S4 kp3 hl3 ml3 o4=>?_
     have kp':∀ j,j<σ.length→σ3[j]? = σ[j]?:=fun j hj=>((kp3 j (by omega)).1).trans (kp j hj)
     intro cl sx H0 fp C
     refine ht cl sx H0 fp C (fun m=>m=.ret (o,sn)) (fun e _=>.exc e) _ G F3 σ3 H2 ρ3 _ (fun z=>nomatch z) (fun F ρ e z=>nomatch z) S4 o4 fun b F5 H5 ρ5 s5 S5 o5=>?_
     cases b with
     | true =>
      refine iteT ?_
      intro cl sx H0 fp C
      refine he cl sx H0 fp C (fun m=>m=.ret (o,sn)) (fun e _=>.exc e) _ G F5 σ3 H5 ρ5 _ (fun z=>nomatch z) (fun F ρ e z=>nomatch z) S5 o5 fun v u F6 H6 ρ6 s6 S6 ru o6=>?_
      obtain ⟨s',e',o'⟩:=uP_ (OK:=fun m=>m=.ret (o,sn)) (fun z=>nomatch z) o6
      cases o'
      exact ⟨ds.length - (i+1),by omega,F6,acc++[v],rest',sn,rfl,hlt,((s2.trans s3).trans s5).trans s6,again S6 kp' (by omega) e',kp',by omega,(rp.mono ((s3.trans s5).trans s6)).append (.cons ru .nil),hr,by rw [eo];simp⟩
     | false =>
      refine iteF ?_
      obtain ⟨s',e',o'⟩:=uP_ (OK:=fun m=>m=.ret (o,sn)) (fun z=>nomatch z) o5
      cases o'
      exact ⟨ds.length - (i+1),by omega,F5,acc,rest',sn,rfl,hlt,(s2.trans s3).trans s5,again S5 kp' (by omega) e',kp',by omega,rp.mono (s3.trans s5),hr,by rw [eo];simp⟩
  ·have ei:i=ds.length:=by omega
   subst ei
   rw [List.drop_length] at go
   cases go
   rw [List.append_nil] at eo
   subst eo
   refine .inl ⟨wk.stop G F' σ' H' _ s2 S2,fun p hp=>?_⟩
   have Ssh:=S2.shrink (n:=σ.length) (by simp [hlen0]) hP
   have e1:σ'.take σ.length=σ:=yp_ kp rfl
   have e2:(wr sh sf++List.replicate k none).take σ.length=wr sh sf:=by rw [←hlen0 sf,List.take_left]
   rw [e1,e2] at Ssh
   obtain ⟨S5,r5⟩:=Ssh.newLst hp rp
   exact k2 _ _ F' _ _ (s1.trans s2) S5 r5 o0
theorem Wg_ {S:Type} {pos' spos:Pos} {i:Nat} {y:Str} {it:Pu (List D)} {t:Tg (Option D)} {pt:Pu Bool} {pe:Pu D}
  (hN:X.N.Nodup) (hy:X.N[i]? = some y) (hly:Loc X.env.scope y) (hfn:X.fn y=true∨X.env.scope.names.lookup y=some .local) (hc:X.calm=true) (Sc:CompOk X N' k scope) (hi:AI X tg iter it)
  (hg:∀ cl s H fp C,AG (zm_ X N' scope cl s H fp C) X.N.length tg t) (ht:∀ cl s H fp C,ATs (zm_ X N' scope cl s H fp C) ifs pt) (he:∀ cl s H fp C,AP (zm_ X N' scope cl s H fp C) elt pe)
  (hsw:swapsWith (.ListComp elt [⟨tg,iter,ifs,0⟩] scope pos) (some (.Name y pos')) spos.line X.env=pure true) (hs:∀ x,foldedSetIterable iter X.env x=pure x) :
  AS (S:=S) X (.Assign [.Name y pos'] (.ListComp elt [⟨tg,iter,ifs,0⟩] scope pos) spos) (Vp_ i (ePu (U2_ k it t pt pe))):=by
 intro OK K G F σ H ρ E hO hX St ok eo;unfold ye_;intro pins s I
 refine um_ (wi:=uA_ X tg iter) (g:=Ue_ X N' scope tg) (tc:=Ud_ X N' scope ifs) (te:=Uf_ X N' scope elt) hN hy hly hfn hc Sc (fun x hx hf=>I.ok.has x.1 (Sc.free x hx hf)) Zh_
  (fun cl s H fp C pins s' σ H v u Q I r h=>Zj_ pins s' σ H v u Q I r (h cl _ _ fp C)) (fun cl s H fp C pins s' σ H Q I h=>h cl _ _ fp C pins s' I) (fun cl s H fp C pins s' σ H Q I h=>zi_ pins s' σ H Q I (h cl _ _ fp C)) hsw hs pins s σ H E I ?_
 refine Jp_ hi hg ht he I.len St ?_
 refine W.of hO hX ok fun d F' H' s S' o v r=>?_
 have o':OK (match yj_ ρ i with|true=>K.nx (ρ.set i (some (.ol (.l d))))|false=>.bad):=o
 split at o'
 ·rename_i ho
  obtain ⟨hl,hop⟩:=jp_ ho
  exact eo.nx F' _ H' _ s (S'.store hop hl (.inr ⟨.l d,rfl,r⟩)) o'
 ·exact (hO o').elim
theorem yL_ {S:Type} {pos' spos:Pos} {i:Nat} {y:Str} {it:Pu (List D)} {t:Tg (Option D)} {pt:Pu Bool} {pe:Pu D}
  (hN:X.N.Nodup) (hy:X.N[i]? = some y) (hly:Loc X.env.scope y) (hfn:X.fn y=true∨X.env.scope.names.lookup y=some .local) (hc:X.calm=true) (Sc:CompOk X N' k scope) (hi:AI X tg iter it)
  (hg:∀ cl s H fp C,AG (zm_ X N' scope cl s H fp C) X.N.length tg t) (ht:∀ cl s H fp C,ATs (zm_ X N' scope cl s H fp C) ifs pt) (he:∀ cl s H fp C,AP (zm_ X N' scope cl s H fp C) elt pe)
  (hsw:swapsWith (.ListComp elt [⟨tg,iter,ifs,0⟩] scope pos) (some (.Name y pos')) spos.line X.env=pure true) (hs:∀ x,foldedSetIterable iter X.env x=pure x) :
  AS (S:=S) X (.Assign [.Name y pos'] (.ListComp elt [⟨tg,iter,ifs,0⟩] scope pos) spos) (sSet i (ePu (pZ (U2_ k it t pt pe)))):=by
 intro OK K G F σ H ρ E hO hX St ok eo;unfold ye_;intro pins s I
 refine um_ (wi:=uA_ X tg iter) (g:=Ue_ X N' scope tg) (tc:=Ud_ X N' scope ifs) (te:=Uf_ X N' scope elt) hN hy hly hfn hc Sc (fun x hx hf=>I.ok.has x.1 (Sc.free x hx hf)) Zh_
  (fun cl s H fp C pins s' σ H v u Q I r h=>Zj_ pins s' σ H v u Q I r (h cl _ _ fp C)) (fun cl s H fp C pins s' σ H Q I h=>h cl _ _ fp C pins s' I) (fun cl s H fp C pins s' σ H Q I h=>zi_ pins s' σ H Q I (h cl _ _ fp C)) hsw hs pins s σ H E I ?_
 refine Jp_ hi hg ht he I.len St ?_
 have w:W X G F σ ρ (pZ (U2_ k it t pt pe) ρ) (fun d F' H'=>∀ v,Rep X.K F' v d→Yx_ i v σ H' E.nx):=W.of hO hX ok fun d F' H' s S' o v r=>by
  have o':OK (match yj_ ρ i with|true=>K.nx (ρ.set i (some (.fz d)))|false=>.bad):=o
  split at o'
  ·rename_i ho
   obtain ⟨hl,hop⟩:=jp_ ho
   exact eo.nx F' _ H' _ s (S'.store hop hl (.inl ⟨d,rfl,r⟩)) o'
  ·exact (hO o').elim
 refine w.bind.imp fun ds F' H' s1 S1 w1 v fr=>?_
 obtain ⟨F2,s2,S2,r2⟩:=S1.settle (v:=v) (ds:=ds) fr
 exact w1 F2 H' s2 S2 v r2
theorem ZY_ {S:Type} {pos' spos:Pos} {i:Nat} {y:Str} {sh:List Kd} {it:Ev S (List D)} {t:Tg (Option D×SOf sh)} {et:Ev (Option D×SOf sh) Bool} {ee:Ev (Option D×SOf sh) D}
  (hN:X.N.Nodup) (hy:X.N[i]? = some y) (hly:Loc X.env.scope y) (hfn:X.fn y=true∨X.env.scope.names.lookup y=some .local) (hc:X.calm=true) (Sc:CompOk X N' k scope) (hi:AEi X tg iter it)
  (hg:∀ cl s H fp C,AG (zm_ X N' scope cl s H fp C) X.N.length tg t) (ht:∀ cl s H fp C,AEts (zm_ X N' scope cl s H fp C) ifs et) (he:∀ cl s H fp C,AE (zm_ X N' scope cl s H fp C) elt ee)
  (hsw:swapsWith (.ListComp elt [⟨tg,iter,ifs,0⟩] scope pos) (some (.Name y pos')) spos.line X.env=pure true) (hs:∀ x,foldedSetIterable iter X.env x=pure x) :
  AS X (.Assign [.Name y pos'] (.ListComp elt [⟨tg,iter,ifs,0⟩] scope pos) spos) (Vp_ i (Xu_ sh k it t et ee)):=by
 intro OK K G F σ H ρ E hO hX St ok eo;unfold ye_;intro pins s I
 refine um_ (wi:=uA_ X tg iter) (g:=Ue_ X N' scope tg) (tc:=Ud_ X N' scope ifs) (te:=Uf_ X N' scope elt) hN hy hly hfn hc Sc (fun x hx hf=>I.ok.has x.1 (Sc.free x hx hf)) Zh_
  (fun cl s H fp C pins s' σ H v u Q I r h=>Zj_ pins s' σ H v u Q I r (h cl _ _ fp C)) (fun cl s H fp C pins s' σ H Q I h=>h cl _ _ fp C pins s' I) (fun cl s H fp C pins s' σ H Q I h=>zi_ pins s' σ H Q I (h cl _ _ fp C)) hsw hs pins s σ H E I ?_
 refine QE_ hi hg ht he I.len hO hX St ok fun ds v F' H' ρ' s S' r o=>?_
 split at o
 ·rename_i ho
  obtain ⟨hl,hop⟩:=jp_ ho
  exact eo.nx F' _ H' _ s (S'.store hop hl (.inr ⟨.l ds,rfl,r⟩)) o
 ·exact (hO o).elim
end
end L4
set_option Elab.async false
set_option linter.all false
set_option maxRecDepth 100000
namespace HT
open PySem PySem.Spec PyProof.Rows
section
variable {prog:Program} {w:World} {A:Around} {E:Value→Shared→Prop} {s:Shared}
theorem getItem_tuple_all {t sl:Addr} {items:Array Value} {vl vu:Value} {lo hi:Option Int} {Q:Value→Shared→Prop} (ht:IsTup s.heap t items) (hs:s.heap.IsSliceOf sl vl vu .none) (pl:IsPart vl lo) (pu:IsPart vu hi)
  (hw:sIx items.size 0 lo=0∧sIx items.size items.size hi=items.size) (h:Q (.ref t) s):wpAny (model prog w) A (getItem (.ref t) (.ref sl)) Q E s:=by
 obtain ⟨os,hos,hcs,hds⟩:=id hs
 have hTs:s.TypeIs (.ref sl) "slice":=⟨os,hos,hcs⟩
 unfold getItem
 try with_reducible refine wpAny_holding ?_
 first|refine wpAny_bind (wpAny_pure ?_)|skip
 refine wpAny_bind (wpAny_sequenceKey ht.typeIs (by decide) ?_)
 refine wpAny_bind (wpAny_callSpecial?_slot (name:=Str.ofString "__getitem__") ht.typeIs PyProof.Rows.slot_tuple_getitem
  (wpAny_call_entry PyProof.Rows.slot_tuple_getitem ht.typeIs entry_tuple_getitem ?_ (args_tuple_getitem _ _)))
 show wpAny _ _ (Builtin.Tuple.tupleItemsOf (.ref t) >>= _) _ _ s
 refine wpAny_bind (tupleItemsOf_ ht ?_)
 refine wpAny_bind (wpAny_typeOf hTs ?_)
 rw [if_pos (by decide)]
 refine wpAny_bind (jx_ hs pl pu ?_)
 have hyes:((((sIx items.size 0 lo:Nat):Int)==0&&(1:Int)==1&&(sIx items.size items.size hi - sIx items.size 0 lo)==items.size)=true):=by
  rw [hw.1,hw.2]
  simp
 show wpAny _ _ (if (((sIx items.size 0 lo:Nat):Int)==0&&(1:Int)==1&&(sIx items.size items.size hi - sIx items.size 0 lo)==items.size)=true then _ else _) _ _ s
 rw [if_pos hyes]
 obtain ⟨o,ho,hc,n,hd⟩:=id ht
 have hex:∀ {Q':Bool→Shared→Prop},Q' true s→wpAny (model prog w) A.in1 (Builtin.Tuple.tupleIsExact (.ref t)) Q' E s:=fun {Q'} q=>by
  unfold Builtin.Tuple.tupleIsExact
  refine wpAny_bind (wpAny_typeOf ht.typeIs (wpAny_pure ?_))
  exact q
 first
  | exact wpAny_bind (hex (wpAny_bind (wpAny_rule (wpAny_pure ⟨_,rfl,wpAny_pure h⟩))))
  | exact wpAny_bind (wpAny_bind (hex (wpAny_bind (wpAny_rule (wpAny_pure (wpAny_pure ⟨_,rfl,wpAny_pure h⟩))))))
end
end HT
namespace L4
open PySem PySem.Spec PyProof.Rows L2 L3
def cutD (ds:List D) (lo hi:Option Int):List D:=(ds.drop (HT.sIx ds.length 0 lo)).take (HT.sIx ds.length ds.length hi - HT.sIx ds.length 0 lo)
theorem YH_ {K:Fg} {F:Hp} {vs:List V} {ds:List D} (r:RepL K F vs ds) (lo hi:Option Int):RepL K F (cutV vs lo hi) (cutD ds lo hi):=by
 unfold cutV cutD
 rw [r.length]
 exact (r.drop _).take _
def rSlA (K:Fg):V→Option Int→Option Int→Hp→VK→Prop:=fun x lo hi H Q=>∃ a xs,x=.ref a∧SqT K H a xs∧(HT.sIx xs.length 0 lo=0∧HT.sIx xs.length xs.length hi=xs.length)∧Q x H
theorem sl_tupA {X:Cx}:SlR X (rSlA X.K):=by
 intro pins s σ H x v vl vu lo hi sl Q I rx hs pl pu h
 obtain ⟨a,xs,rfl,hx,hw,q⟩:=h
 cases rx
 obtain ⟨its,r,ht,hz⟩:=I.tuple hx
 have hlen:its.toArray.size=xs.length:=by rw [List.size_toArray];exact r.length.symm
 refine ⟨"tuple",_,PyProof.Rows.slot_tuple_getitem.lookup,ht.typeIs,?_⟩
 exact HT.getItem_tuple_all ht hs pl pu (by rw [hlen];exact hw) ⟨.ref a,H,I,rfl,q⟩
def pNoI:Pu (Option Int):=fun _=>.ret none
def asI (d:D):M (Option Int):=match d with
 | .int i=>.ret (some i)
 | _=>.bad
def pInt (p:Pu D):Pu (Option Int):=fun ρ=>bd (p ρ) asI
def fCut (d:D) (lo hi:Option Int):Option D:=match d with
 | .tuple ds=>some (.tuple (cutD ds lo hi))
 | .list ds=>some (.list (cutD ds lo hi))
 | _=>none
def zax_ (d:D) (lo hi:Option Int):Option (List D):=match d with
 | .list ds=>some (cutD ds lo hi)
 | _=>none
def APo (X:Cx) (e:Option Expr) (p:Pu (Option Int)):Prop :=
 ∀ (G:Gh) (F:Hp) (σ:L2.St) (H:Hp) (ρ:En) (Q:Option Int→Hp→Prop),StOk X.K G F σ H ρ→W X G F σ ρ (p ρ) (fun d F' H'=>Q d H')→∀ (pins:List (Addr×Obj)) (s:Shared),Inv X pins σ H s →
  wpAny (model X.prog X.w) X.A (evalPart e X.env) (fun u s'=>∃ o H',Inv X pins σ H' s'∧IsPart u o∧Q o H') X.xe s
def XK_ (X:Cx) (e:Option Expr):TO:=fun σ H Q=>∀ (pins:List (Addr×Obj)) (s:Shared),Inv X pins σ H s→wpAny (model X.prog X.w) X.A (evalPart e X.env) (fun u s'=>∃ o H',Inv X pins σ H' s'∧IsPart u o∧Q o H') X.xe s
theorem QZ_ {X:Cx} {e:Option Expr}:PO X e (XK_ X e):=fun pins s σ H Q I h=>h pins s I
section
variable {X:Cx} {e:Expr} {lo hi:Option Expr} {p:Pu D} {pl ph:Pu (Option Int)} {pos p2:Pos}
theorem QO_:APo X none pNoI:=fun G F σ H ρ Q S w pins s I=>UY_ pins s σ H Q I (w F H (Same.refl _) S)
theorem QN_ (h:AP X e p):APo X (some e) (pInt p):=fun G F σ H ρ Q S w pins s I=>UX_ zi_ pins s σ H Q I (h G F σ H ρ _ S (w.bind.imp fun d F1 H1 s1 S1 w1 v r=>by
 cases r with
 | int i=>exact ⟨i,rfl,w1 F1 H1 (Same.refl _) S1⟩
 | bl b=>exact w1.elim
 | non=>exact w1.elim
 | str i=>exact w1.elim
 | tup _ _=>exact w1.elim
 | lst _ _=>exact w1.elim
 | dct _ _ _=>exact w1.elim
 | dck _ _ _=>exact w1.elim))
end
def Q3_ (f g:D→D→Option Bool) (a b c:Pu D):Pu Bool:=fun ρ=>bd (a ρ) fun x=>bd (b ρ) fun y=>bd (oM (f x y)) fun t=>if t then bd (c ρ) fun z=>oM (g y z) else .ret false
section
variable {X:Cx} {a b c:Expr} {pa pb pc:Pu D} {op op':CmpOp} {r r':R2} {f g:D→D→Option Bool} {pos:Pos}
theorem QG_ {G:Gh} {F H:Hp} {σ:L2.St} {ρ:En} {Q:VK} (hf:OpB X.K r f) (hg:OpB X.K r' g) (ha:AO X a pa) (hb:AO X b pb) (hc:AO X c pc) (S:StOk X.K G F σ H ρ) (w:W X G F σ ρ (Q3_ f g pa pb pc ρ) fun t F' H'=>Q (.bl t) H') :
  QT_ r r' (tSem X a) (tSem X b) (tSem X c) σ H Q :=
 ha G F σ H ρ _ S (w.bind.imp fun dx F1 H1 s1 S1 w1 x hx=>hb G F1 σ H1 ρ _ S1 (w1.bind.imp fun dy F2 H2 s2 S2 w2 y hy=>by
  have w3:=w2.bind
  obtain ⟨t,e,k⟩:=w3.opt
  refine hf G F2 σ H2 ρ x y dx dy t _ S2 ((hx.mono s2).or S2) (hy.or S2) e ⟨t,rfl,?_⟩
  have w4:=k F2 H2 (Same.refl _) S2
  cases t with
  | true =>
   refine iteT ?_
   exact hc G F2 σ H2 ρ _ S2 ((show W X G F2 σ ρ (bd (pc ρ) fun z=>oM (g dy z)) _ from w4).bind.imp fun dz F3 H3 s3 S3 w5 z hz=>by
    obtain ⟨t',e',k'⟩:=w5.opt
    exact hg G F3 σ H3 ρ y z dy dz t' _ S3 ((hy.mono s3).or S3) (hz.or S3) e' (k' F3 H3 (Same.refl _) S3))
  | false =>
   refine iteF ?_
   exact (show W X G F2 σ ρ (.ret false) _ from w4) F2 H2 (Same.refl _) S2))
theorem J3_ (ho:OpR X (compareOp op) r) (ho':OpR X (compareOp op') r') (hf:OpB X.K r f) (hg:OpB X.K r' g) (ha:AO X a pa) (hb:AO X b pb) (hc:AO X c pc) (hm:lastMarks [op,op'] [b,c]=false):AT X (.Compare a [op,op'] [b,c] pos) (Q3_ f g pa pb pc) :=
 fun G F σ H ρ Q S w=>semT (Qm_ ho ho' zi_ zi_ zi_ hm) (QG_ (Q:=fun x H'=>∃ k,x=.bl k∧Q k H') hf hg ha hb hc S (w.imp fun t F' H' _ _ q=>⟨t,rfl,q⟩))
end
def U6_ (d e:D):Option Bool:=match d,e with
 | .bool a,.bool b=>some (a==b)
 | _,.none=>some (isNone d)
 | _,_=>none
section
variable {X:Cx}
theorem VH_:OpR X (compareOp .Is) (rD2 X.K U6_):=by
 intro pins s σ H x y v u Q I rx ry ⟨d,e,b,r1,r2,ho,q⟩
 unfold U6_ at ho
 split at ho
 ·cases ho
  cases r1
  cases r2
  cases rx
  cases ry
  exact PyProof.Rows.is_bool ⟨.bl _,H,I,rfl,q⟩
 ·exact VG_ pins s σ H x y v u Q I rx ry ⟨d,.none,b,r1,r2,by rw [←ho];rfl,q⟩
 ·cases ho
end
def boolsOf:List D→Option (List Bool)
 | []=>some []
 | .bool b::r=>match boolsOf r with
  | some l=>some (b::l)
  | none=>none
 | _=>none
theorem ur_:∀ {ds:List D} {bs:List Bool},boolsOf ds=some bs→ds=bs.map PyData.bool
 | [],_,h=>by cases h;rfl
 | .bool i::r,ns,h=>by
  dsimp only [boolsOf] at h
  split at h
  ·rename_i l e;cases h;rw [ur_ e];rfl
  ·cases h
 | .none::_,_,h=>by cases h
 | .int _::_,_,h=>by cases h
 | .str _::_,_,h=>by cases h
 | .list _::_,_,h=>by cases h
 | .tuple _::_,_,h=>by cases h
 | .dict _::_,_,h=>by cases h
theorem ya_ (bs:List Bool):boolsOf (bs.map PyData.bool)=some bs:=by
 induction bs with
 | nil=>rfl
 | cons b r ih=>simp [boolsOf,ih]
theorem yw_ {K:Fg} {F:Hp}:∀ {vs:List V} {bs:List Bool},RepL K F vs (bs.map PyData.bool)→vs=bs.map V.bl
 | _,[],h=>by cases h;rfl
 | _,n::r,h=>by
  cases h with
  | cons a b=>cases a;rw [yw_ b];rfl
theorem uj_:∀ {bs:List Bool} {us:List Value},Vals (bs.map V.bl) us→us=bs.map Value.bool
 | [],_,h=>by cases h;rfl
 | n::r,_,h=>by
  cases h with
  | cons a b=>cases a;rw [uj_ b];rfl
def fAll:List D→Option Bool
 | [.list ds]=>(boolsOf ds).map fun bs=>bs.all id
 | _=>none
def fAny:List D→Option Bool
 | [.list ds]=>(boolsOf ds).map fun bs=>bs.any id
 | _=>none
def Zf_ (K:Fg) (f:List Bool→Bool):List V→Hp→VK→Prop:=fun xs H Q=>∃ a bs,xs=[.ref a]∧SqL K H a (bs.map V.bl)∧Q (.bl (f bs)) H
theorem JN_ {K:Fg} {f:List Bool→Bool} {g:List D→Option Bool} (hg:∀ l b,g l=some b→∃ bs,l=[.list (bs.map PyData.bool)]∧b=f bs):J7_ K (Zf_ K f) g:=by
 intro G F σ H ρ xs ds res Q S o e k
 obtain ⟨bs,rfl,rfl⟩:=hg _ _ e
 obtain ⟨v,r,rfl,ho,hr⟩:=zv_ o
 obtain rfl:=zK_ hr
 obtain ⟨a,vs,rfl,h1,h2⟩:=ho.list S.fh
 rw [yw_ h2] at h1
 exact ⟨a,bs,rfl,h1,k⟩
theorem W9_ {K:Fg}:J7_ K (Zf_ K fun bs=>bs.all id) fAll:=JN_ fun l b h=>by
 unfold fAll at h
 split at h
 ·obtain ⟨bs,e,rfl⟩:=Option.map_eq_some_iff.mp h
  exact ⟨bs,by rw [ur_ e],rfl⟩
 ·cases h
theorem W8_ {K:Fg}:J7_ K (Zf_ K fun bs=>bs.any id) fAny:=JN_ fun l b h=>by
 unfold fAny at h
 split at h
 ·obtain ⟨bs,e,rfl⟩:=Option.map_eq_some_iff.mp h
  exact ⟨bs,by rw [ur_ e],rfl⟩
 ·cases h
theorem Zz_ {prog:Program} {w:World} {A:Around} {E:Value→Shared→Prop} {s:Shared} {l:Addr} {its:Array Value} {Q:Value→Shared→Prop} (hl:s.heap.IsList l its)
  (h:∀ s₂:Shared,s₂={ s with heap:=s.heap.push { cls:=.type "list_iterator",data:=.fields #[.ref l,.int 0 0] } } →
   (s₂.heap.IsListIter s.heap.objs.size l 0∧s₂.heap.IsList l its)→l≠s.heap.objs.size→Q (.ref s.heap.objs.size) s₂) :
  wpAny (model prog w) A (pyIter (.ref l)) Q E s:=by
 have hlt:l<s.heap.objs.size:=by obtain ⟨_,e,_⟩:=hl;exact Heap.lt_size e
 exact wpAny_pyIter_list hl (h _ rfl ⟨⟨_,Heap.get?_push_size _ rfl,rfl,rfl⟩,hl.push _⟩ (Nat.ne_of_lt hlt))
theorem uL_ {prog:Program} {w:World} {A:Around} (bs:List Bool):TruthOf prog w A (fun i v=>(bs.map Value.bool).toArray[i]? = some v) (fun i=>bs.getD i false):=fun i v s Q E hP hQ=>by
 dsimp only at hP hQ
 rw [List.getElem?_toArray,List.getElem?_map] at hP
 obtain ⟨b,e,rfl⟩:=Option.map_eq_some_iff.mp hP
 rw [List.getD_eq_getElem?_getD,e] at hQ
 exact wpAny_truthy_bool hQ
theorem all_range (bs:List Bool):(List.range bs.length).all (fun i=>bs.getD i false)=bs.all id:=by
 induction bs with
 | nil=>rfl
 | cons b r ih =>
  rw [List.length_cons,List.range_succ_eq_map,List.all_cons,List.all_map,List.all_cons]
  simp only [List.getD_cons_zero,id_eq]
  congr 1
theorem any_range (bs:List Bool):(List.range bs.length).any (fun i=>bs.getD i false)=bs.any id:=by
 induction bs with
 | nil=>rfl
 | cons b r ih =>
  rw [List.length_cons,List.range_succ_eq_map,List.any_cons,List.any_map,List.any_cons]
  simp only [List.getD_cons_zero,id_eq]
  congr 1
theorem QI_ {X:Cx} (hc:X.calm=true):CallR X (.builtin "all") (Zf_ X.K fun bs=>bs.all id):=by
 intro pins s σ H xs us Q I r h
 obtain ⟨a,bs,rfl,hq,q⟩:=h
 obtain ⟨u,rfl,ru⟩:=Vals.one r
 cases ru
 obtain ⟨its,rv,pl,hz⟩:=I.list hq
 rw [uj_ rv] at pl
 refine call_all_walk (Zz_ pl.isList fun s₂ e st hlI=>?_)
 subst e
 refine ⟨_,_,_,_,_,_,_,rfl,Walks.list (A:=X.A.in1) (I.ok.hd hc) _ a hlI (bs.map Value.bool).toArray,st,uL_ bs,fun h' tk hk=>?_⟩
 refine ⟨.bl (bs.all id),H,I.kept (old_kept hk),?_,q⟩
 show _=_
 rw [←all_range bs]
 simp
theorem QH_ {X:Cx} (hc:X.calm=true):CallR X (.builtin "any") (Zf_ X.K fun bs=>bs.any id):=by
 intro pins s σ H xs us Q I r h
 obtain ⟨a,bs,rfl,hq,q⟩:=h
 obtain ⟨u,rfl,ru⟩:=Vals.one r
 cases ru
 obtain ⟨its,rv,pl,hz⟩:=I.list hq
 rw [uj_ rv] at pl
 refine call_any_walk (Zz_ pl.isList fun s₂ e st hlI=>?_)
 subst e
 refine ⟨_,_,_,_,_,_,_,rfl,Walks.list (A:=X.A.in1) (I.ok.hd hc) _ a hlI (bs.map Value.bool).toArray,st,uL_ bs,fun h' tk hk=>?_⟩
 refine ⟨.bl (bs.any id),H,I.kept (old_kept hk),?_,q⟩
 show _=_
 rw [←any_range bs]
 simp
def fInt:List D→Option D
 | [.int i]=>some (.int i)
 | [.bool b]=>some (.int (if b then 1 else 0))
 | _=>none
theorem W7_ {K:Fg}:us_ K (fun xs H Q=>(∃ i,xs=[.int i]∧Q (.int i) H)∨∃ k,xs=[.bl k]∧Q (.int (if k then 1 else 0)) H) fInt:=by
 intro G F σ H ρ xs ds res Q S o e k
 unfold fInt at e
 split at e
 ·cases e
  obtain ⟨v,r,rfl,ho,hr⟩:=zv_ o
  obtain rfl:=zK_ hr
  exact .inl ⟨_,by rw [ho.int],k _ F H (Same.refl _) S (.int _)⟩
 ·cases e
  obtain ⟨v,r,rfl,ho,hr⟩:=zv_ o
  obtain rfl:=zK_ hr
  exact .inr ⟨_,by rw [ho.bool],k _ F H (Same.refl _) S (.int _)⟩
 ·cases e
def fStr:List D→Option D
 | [.int i]=>if i.natAbs.log2<1920 then some (.str (toString i)) else none
 | _=>none
theorem U9_ {K:Fg}:us_ K (fun xs H Q=>∃ i,xs=[.int i]∧i.natAbs.log2<1920∧Q (.str (toString i)) H) fStr:=by
 intro G F σ H ρ xs ds res Q S o e k
 unfold fStr at e
 split at e
 ·split at e
  ·rename_i hz
   cases e
   obtain ⟨v,r,rfl,ho,hr⟩:=zv_ o
   obtain rfl:=zK_ hr
   exact ⟨_,by rw [ho.int],hz,k _ F H (Same.refl _) S (.str _)⟩
  ·cases e
 ·cases e
theorem Y2_ {X:Cx} {x:Str} {v:V} {u:Value} {d:D} {pos:Pos} (hg:Gl X x) (hm:X.mg x=some u) (r:RelV v u) (rp:∀ F,Rep X.K F v d) (hd:(x==("__debug__" : Str))=false):AP X (.Name x pos) (pCon d) :=
 ZZ_ (VA_ hg hm r hd) rp
end L4
set_option Elab.async false
set_option linter.all false
set_option maxRecDepth 100000
namespace L4
open PySem PySem.Spec PyProof.Rows L2 L3
section
variable {S:Type}
def putD (ds:List D) (j d:D):Option (List D):=match j with
 | .int k=>(ixN ds.length k).map fun q=>ds.set q d
 | _=>none
def sPut (i:Nat) (mi me:Ev S D):SM S:=fun K ρ=>me K.x (fun d ρ1=>match ownL ρ1 i with
 | some _=>mi K.x (fun j ρ2=>match ownL ρ2 i with
  | some ds=>(oM (putD ds j d)).on (fun e=>K.x e ρ2) (fun ds'=>K.nx (setO ρ2 i ds'))
  | none=>.bad) ρ1
 | none=>.bad) ρ
variable {X:Cx} {a b e:Expr} {mi me:Ev S D} {pos pos' tpos apos cpos:Pos} {ml:Ev S (List D)}
theorem YX_ {i:Nat} {x:Str} (hN:X.N[i]? = some x) (hv:Vis X.env.scope x) (hi:AE X b mi) (he:AE X e me) (ha:∀ v,assign (.Subscript (.Name x pos') b tpos) X.env v=(do
   let ov ←holding [v] (eval (.Name x pos') X.env)
   let iv ←holding [v,ov] (eval b X.env)
   standAt tpos
   holding [v,ov,iv] (setItem ov iv v)
   release [v,ov,iv] []))
  (hs:swapsWithSole [.Subscript (.Name x pos') b tpos] e pos.line X.env=pure false) (hw:swappedStores [.Subscript (.Name x pos') b tpos] e X.env=pure none)
  (h1:(assignEach [.Subscript (.Name x pos') b tpos] X.env).map (·.2)=[assign (.Subscript (.Name x pos') b tpos) X.env])
  (hd:(x==("__debug__" : Str))=false:=by decide) (hcd:(x==("__classdict__" : Str))=false:=by decide):AS X (.Assign [.Subscript (.Name x pos') b tpos] e pos) (sPut i mi me):=fun OK K G F σ H ρ E hO hX St ok eo =>
 semS (WM_ zi_ (WN_ (jV_ hN hv hd hcd) zi_ set_list ha) hs hw h1) (he OK K.x _ G F σ H ρ _ hO hX St ok fun d v F1 H1 ρ1 s1 S1 r1 o1=>by
  split at o1
  case h_2=>exact (hO o1).elim
  rename_i ds0 hd0
  obtain ⟨a,vs0,ea,_,_⟩:=Z9_ S1 hd0
  refine ⟨_,ea,hi OK K.x _ G F1 σ H1 ρ1 _ hO hX S1 o1 fun j u F2 H2 ρ2 s2 S2 r2 o2=>?_⟩
  split at o2
  case h_2=>exact (hO o2).elim
  rename_i ds hds
  obtain ⟨ds',hp,o3⟩:=Zk_ hO o2
  obtain ⟨a',vs,ea',hh,rv⟩:=Z9_ S2 hds
  rw [ea] at ea'
  injection ea' with ea';injection ea' with ea';injection ea' with ea'
  subst ea'
  unfold putD at hp
  split at hp
  ·rename_i k
   obtain ⟨q,hq,rfl⟩:=Option.map_eq_some_iff.mp hp
   cases r2
   refine ⟨a,vs,k,q,rfl,rfl,hh,by rw [rv.length];exact hq,?_⟩
   exact eo.nx F2 σ _ _ (s1.trans s2) (VF_ S2 hds ea (RepL.set (r1.mono s2) q rv)) o3
  ·cases hp)
end
end L4
set_option Elab.async false
set_option linter.all false
set_option maxRecDepth 100000
namespace L4
open PySem PySem.Spec PyProof.Rows L2 L3
def kindB (k:NameKind):Option NameKind→Bool
 | some k'=>k==k'
 | none=>false
def YJ_ (N N':List Str) (k:Nat) (scope sc:Scope):Bool :=
 (scope.kind==.function)&&(N'.length==N.length+k)&&scope.names.all (fun y=>y.2 != .cell)&&scope.names.all (fun y=>y.2 != .local||kindB .local (scope.names.lookup y.1))
  && ((List.range N.length).all fun i=>match N'[i]? with
   | some x=>!(kindB .free (scope.names.lookup x)||kindB .local (scope.names.lookup x)||kindB .cell (scope.names.lookup x))||(N[i]? == some x&&kindB .free (scope.names.lookup x))
   | none=>true)
  && scope.names.all (fun y=>y.2 != .free||kindB .cell (sc.names.lookup y.1)||kindB .free (sc.names.lookup y.1))
theorem uJ_ {k:NameKind} {o:Option NameKind} (h:kindB k o=true):o=some k:=by
 cases o with
 | none=>cases h
 | some k'=>simp [kindB] at h;rw [h]
theorem Qv_ {k:NameKind} {o:Option NameKind} (h:o=some k):kindB k o=true:=by subst h;simp [kindB]
theorem z3_ {X:Cx} {N N':List Str} {k:Nat} {scope sc:Scope} (h:YJ_ N N' k scope sc=true) (hN:X.N=N) (hs:X.env.scope=sc):CompOk X N' k scope:=by
 subst hN hs
 simp only [YJ_,Bool.and_eq_true,List.all_eq_true,beq_iff_eq,Bool.or_eq_true,bne_iff_ne,ne_eq] at h
 obtain ⟨⟨⟨⟨⟨h1,h2⟩,h3⟩,h4⟩,h5⟩,h6⟩:=h
 refine ⟨h1,h2,fun y hy=>h3 y hy,fun y hy hl=>?_,fun i x hi hx _ hk=>?_,fun y hy hf=>?_⟩
 ·rcases h4 y hy with z|z
  ·exact absurd hl z
  ·exact uJ_ z
 ·have:=h5 i (List.mem_range.mpr hi)
  rw [hx] at this
  simp only [Bool.or_eq_true,Bool.not_eq_true',Bool.and_eq_true,beq_iff_eq] at this
  rcases this with z|⟨z1,z2⟩
  ·exfalso
   rcases hk with hk|hk|hk<;>simp [Qv_ hk] at z
  ·exact ⟨z1,uJ_ z2⟩
 ·rcases h6 y hy with (z|z)|z
  ·exact absurd hf z
  ·exact .inl (uJ_ z)
  ·exact .inr (uJ_ z)
theorem Ym_ {K:Fg} {H:Hp} {a:Addr} {ns:List Int} {mf:List D→M D} (hS:SqL K H a (ns.map V.int)) (h:mf [.list (ns.map PyData.int)]=.ret (.bool true)):spD K 1 mf [.ref a] H (fun v _=>v=.bl true) fun _ _ _=>False:=by
 refine ⟨⟨fun _=>none,fun _=>none,H⟩,H,[.list (ns.map PyData.int)],rfl,⟨Same.refl _,fun b o z=>(nomatch z),fun b o z=>(nomatch z),rfl,fun i d z=>?_,fun i c z=>(jJ_ (ds:=[.list (ns.map PyData.int)]) z).elim,fun i j c e a z=>(jJ_ (ds:=[.list (ns.map PyData.int)]) z).elim,fun i a z=>(nomatch z),fun i c z=>?_,Same.refl _⟩,?_⟩
 ·obtain ⟨d',e,q⟩:=u5_ (ds:=[.list (ns.map PyData.int)]) z
  cases e
  cases i with
  | zero=>simp at q;subst q;exact ⟨_,rfl,.lst hS (RepL.ints ns)⟩
  | succ i=>simp at q
 ·obtain ⟨d',e,q⟩:=u5_ (ds:=[.list (ns.map PyData.int)]) z
  cases e
 ·rw [h]
  intro v F' H' s S' r
  cases r
  rfl
end L4
set_option Elab.async false
set_option linter.all false
set_option maxRecDepth 100000
namespace L4
open PySem PySem.Spec PyProof.Rows L2 L3
def isStar:Expr→Bool
 | .Starred _ _=>true
 | _=>false
theorem za_ {env:Env}:∀ {e:Expr} {es:List Expr},isStar e=false→starEach (e::es) env=(false,eval e env)::starEach es env:=by
 intro e es h
 cases e<;>first|rfl|cases h
end L4
set_option Elab.async false
set_option linter.all false
set_option maxRecDepth 100000
namespace L4
open PySem PySem.Spec PyProof.Rows L2 L3
noncomputable def forS {S T:Type}:(T→D→(T→M S)→M S)→List D→T→(T→M S)→M S:=Classical.choose (⟨@forC S T,rfl⟩:∃ f,f = @forC S T)
theorem Jj_ {S T:Type} : @forS S T = @forC S T:=Classical.choose_spec (⟨@forC S T,rfl⟩:∃ f,f = @forC S T)
section
variable {S:Type}
noncomputable def Vq_ (sh:List Kd) (it:Ev S (List D)) (t:Tg S) (mb:SM S):SM S:=fun K ρ=>it K.x (fun ds ρ1=>rdk sh (fun s=>forS (fun s d kn=>t d (fun ρ2=>mb (Qs_ sh K kn) ρ2) (wr sh s)) ds s (fun s'=>K.nx (wr sh s'))) ρ1) ρ
theorem Qh_ (sh:List Kd) (it:Ev S (List D)) (t:Tg S) (mb:SM S):Vq_ sh it t mb=sFor sh it t mb:=by
 unfold Vq_ sFor
 rw [Jj_]
variable {X:Cx} {mb:SM S} {c:Expr} {mt:Ev S Bool} {ml:Ev S (List D)} {pos:Pos}
theorem YY_ {tg iter:Expr} {body:List Stmt} {sh:List Kd} {t:Tg S} (hp:PassesOwn (model X.prog X.w) X.A X.env X.xe) (hc:X.calm=true) (hi:AEi X tg iter ml) (hg:AG X 0 tg t) (hb:ASs X body mb)
  (hs:∀ x,foldedSetIterable iter X.env x=pure x):AS X (.For tg iter body [] pos) (Vq_ sh ml t mb):=by
 rw [Qh_]
 exact XC_ hp hc hi hg hb hs
end
end L4
set_option Elab.async false
set_option linter.all false
set_option maxRecDepth 100000
namespace HT
open PySem PySem.Spec PyProof.Rows
section
variable {prog:Program} {w:World} {A:Around} {E:Value→Shared→Prop} {s:Shared} {xs:Array (Int×Tok)} {l:Addr}
theorem max_intTup {Q:Value→Shared→Prop} (hh:A.handled=none) (hl:s.heap.IsTuple l (intItems xs)) (hne:0<xs.size)
  (h:∀ v h' tk,(intItems xs)[argBest (fun i j=>decide (numAt xs i>numAt xs j)) (xs.size - 1)]? = some v→(∀ b o,s.heap.get? b=some o→h'.get? b=some o)→Q v { s with heap:=h',toks:=tk }) :
  wpAny (model prog w) A (call (.builtin "max") [.ref l]) Q E s:=by
 have hlt:l<s.heap.objs.size:=by obtain ⟨_,e,_⟩:=hl;exact Heap.lt_size e
 refine call_max_walk (wpAny_pyIter_tuple hl ?_)
 refine ⟨_,_,_,_,_,_,_,rfl,Walks.tuple (A:=A.in1) hh _ l (Nat.ne_of_lt hlt) (intItems xs),⟨⟨_,Heap.get?_push_size _ rfl,rfl,rfl⟩,?_⟩,fun b hb=>?_,by simpa [intItems] using hne,CmpOf.ints_gt (numAt xs) (fun _ _=>intItems_at),fun v h' tk hP hk=>?_⟩
 ·obtain ⟨o,e,r⟩:=hl
  exact ⟨o,Heap.get?_push_of_some _ e,r⟩
 ·show b<(s.heap.push _).objs.size
  rw [Heap.size_push]
  rcases List.mem_cons.mp hb with rfl|hb
  ·exact Nat.lt_succ_self _
  ·rcases List.mem_cons.mp hb with rfl|hb
   ·exact Nat.lt_succ_of_lt hlt
   ·cases hb
 ·refine h v h' tk (by simpa [intItems] using hP) fun b o e=>hk b o (fun hm=>?_) (Heap.get?_push_of_some _ e)
  rcases List.mem_cons.mp hm with e1|hm
  ·exact absurd (e1▸Heap.lt_size e) (Nat.lt_irrefl _)
  ·cases hm
end
end HT
namespace L4
open PySem PySem.Spec PyProof.Rows L2 L3
def zan_:D→D→Option D
 | .tuple (a::r),.int k=>if decide (-(2^63)≤k)&&decide (k<2^63)&&decide ((a::r).length*k.toNat≤sizeLine) then some (.tuple (List.replicate k.toNat (a::r)).flatten) else none
 | _,_=>none
def V3_:List D→Option D
 | [.tuple ds]=>match intsOf ds with
  | some (n::r)=>some (.int (maxL (n::r)))
  | _=>none
 | _=>none
def UT_ (K:Fg) (f:List Int→Option Int):List V→Hp→VK→Prop:=fun xs H Q=>∃ a ns i,xs=[.ref a]∧SqT K H a (ns.map V.int)∧f ns=some i∧Q (.int i) H
theorem VO_ {K:Fg}:us_ K (UT_ K gMax) V3_:=by
 intro G F σ H ρ xs ds res Q S o e k
 unfold V3_ at e
 split at e
 ·split at e
  ·rename_i hns
   cases e
   obtain ⟨v,r,rfl,ho,hr⟩:=zv_ o
   obtain rfl:=zK_ hr
   obtain ⟨a,vs,rfl,h1,h2⟩:=ho.tuple S.fh
   rw [jK_ hns] at h2
   rw [jH_ h2] at h1
   exact ⟨a,_,_,rfl,h1,rfl,k _ F H (Same.refl _) S (show Rep K F _ _ from .int _)⟩
  ·cases e
 ·cases e
theorem YP_ {X:Cx} (hc:X.calm=true):CallR X (.builtin "max") (UT_ X.K gMax):=by
 intro pins s σ H xs us Q I r h0
 obtain ⟨a,ns,i,rfl,hq,e,q⟩:=h0
 obtain ⟨u,rfl,ru⟩:=Vals.one r
 cases ru
 obtain ⟨its,rv,pl,hz⟩:=I.tuple hq
 obtain ⟨ps,rfl,rfl⟩:=ui_ rv
 have hne:ps≠[]:=by rintro rfl;cases e
 have hne':ps.map Prod.fst≠[]:=by simpa using hne
 have ei:i=maxL (ps.map Prod.fst):=by
  cases hp:ps.map Prod.fst with
  | nil=>exact absurd hp hne'
  | cons n r=>rw [hp] at e;cases e;rfl
 subst ei
 have hl:s.heap.IsTuple a (intItems ps.toArray):=by
  have:s.heap.IsTuple a _:=pl
  unfold intItems
  simpa using this
 have hpos:0<ps.length:=List.length_pos_iff.mpr hne
 refine HT.max_intTup (I.ok.hd hc) hl (by simpa using hpos) fun v h' tk hv hk=>?_
 obtain ⟨t,rfl⟩:=intItems_at hv
 refine ⟨.int _,H,I.kept hk,⟨_,rfl⟩,?_⟩
 have b:=argBest_gt (numAt ps.toArray) (ps.toArray.size - 1)
 generalize argBest (fun i j=>decide (numAt ps.toArray i>numAt ps.toArray j)) (ps.toArray.size - 1)=m at b hv
 have hm:m<ps.length:=by
  have h0:=b.1
  simp at h0
  omega
 have hsp:=ub_ hne'
 have e1:numAt ps.toArray m=maxL (ps.map Prod.fst):=by
  refine Int.le_antisymm ?_ ?_
  ·refine hsp.1 _ ?_
   rw [uI_,List.getD_eq_getElem?_getD,List.getElem?_eq_getElem (by simpa using hm)]
   exact List.getElem_mem _
  ·obtain ⟨j,hj,ej⟩:=List.getElem_of_mem hsp.2
   have h0:=b.2 j (by simp at hj ⊢;omega)
   rw [uI_,List.getD_eq_getElem?_getD,List.getElem?_eq_getElem hj] at h0
   rw [←ej]
   exact h0
 rw [e1]
 exact q
end L4
set_option Elab.async false
set_option linter.all false
set_option maxRecDepth 100000
namespace L4
open PySem PySem.Spec PyProof.Rows L2 L3
def uc_:D→Bool
 | .int _=>true
 | .str _=>true
 | _=>false
def u1_:D→Bool
 | .tuple ds=>ds.all uc_
 | _=>false
def Yn_:D→D→Bool
 | .int i,.int j=>decide (i=j)
 | .str i,.str j=>decide (i=j)
 | _,_=>false
def Jh_:List D→List D→Bool
 | [],[]=>true
 | a::r,b::t=>Yn_ a b&&Jh_ r t
 | _,_=>false
def keyQ:D→D→Bool
 | .tuple a,.tuple b=>Jh_ a b
 | a,b=>Yn_ a b
def keyOk (es:List (D×D)) (k:D):Bool:=(u1_ k&&es.all fun p=>u1_ p.1)||(uc_ k&&es.all fun p=>uc_ p.1)
def getE (es:List (D×D)) (k:D):Option D:=(es.find? fun p=>keyQ p.1 k).map (·.2)
theorem JT_ (a b:Key):Yn_ (keyD a) (keyD b)=decide (a=b):=by
 cases a<;>cases b<;>simp [Yn_,keyD]
theorem JS_:∀ (a b:List Key),Jh_ (a.map keyD) (b.map keyD)=decide (a=b)
 | [],[]=>by simp [Jh_]
 | [],_::_=>by simp [Jh_]
 | _::_,[]=>by simp [Jh_]
 | x::xs,y::ys=>by
  simp only [List.map_cons,Jh_,JT_,JS_ xs ys]
  by_cases h:x=y<;>by_cases g:xs=ys<;>simp [h,g]
theorem Xj_ (a b:List Key):keyQ (keyT a) (keyT b)=decide (a=b):=JS_ a b
theorem Xk_ (a b:Key):keyQ (keyD a) (keyD b)=decide (a=b):=by
 have h:keyQ (keyD a) (keyD b)=Yn_ (keyD a) (keyD b):=by cases a<;>cases b<;>rfl
 rw [h];exact JT_ a b
theorem u2_ {d:D} (h:uc_ d=true):∃ k,d=keyD k:=by
 cases d<;>first|exact ⟨.inl _,rfl⟩|exact ⟨.inr _,rfl⟩|cases h
theorem yE_:∀ {ds:List D},ds.all uc_=true→∃ k:List Key,ds=k.map keyD
 | [],_=>⟨[],rfl⟩
 | d::ds,h=>by
  rw [List.all_cons,Bool.and_eq_true] at h
  obtain ⟨k,rfl⟩:=u2_ h.1
  obtain ⟨ks,rfl⟩:=yE_ h.2
  exact ⟨k::ks,rfl⟩
theorem ZB_ {d:D} (h:u1_ d=true):∃ k,d=keyT k:=by
 cases d<;>first|cases h|skip
 obtain ⟨k,rfl⟩:=yE_ h
 exact ⟨k,rfl⟩
theorem Qw_ (k:Key):u1_ (keyD k)=false:=by cases k<;>rfl
theorem Qx_ (k:List Key):uc_ (keyT k)=false:=rfl
section
variable {K:Fg} {F H:Hp} {v:V}
theorem yR_ {k:Key} (r:Rep K F v (keyD k)):v=kV k:=by
 cases k with
 | inl i=>cases (show Rep K F v (.int i) from r);rfl
 | inr i=>cases (show Rep K F v (.str i) from r);rfl
theorem Zc_:∀ {vs:List V} {k:List Key},RepL K F vs (k.map keyD)→vs=k.map kV
 | _,[],r=>by rw [List.map_nil] at r;cases r;rfl
 | _,k::ks,r=>by
  rw [List.map_cons] at r
  cases r with
  | cons a b=>rw [yR_ a,Zc_ b];rfl
theorem JG_ {k:List Key} (r:Rep K F v (keyT k)):∃ b,v=.ref b∧F b=some (.tup (k.map kV)):=by
 unfold keyT at r
 cases r with
 | tup h1 h2=>rw [Zc_ h2] at h1;exact ⟨_,rfl,h1⟩
def DT (K:Fg) (F H:Hp) (a:Addr) (es:List (D×D)):Prop:=∃ kvs,H a=some (.dT kvs)∧es.map (·.1)=kvs.map (fun p=>keyT p.1)∧RepL K F (kvs.map (·.2)) (es.map (·.2))
def DK (K:Fg) (F H:Hp) (a:Addr) (es:List (D×D)):Prop:=∃ kvs,H a=some (.dK kvs)∧es.map (·.1)=kvs.map (fun p=>keyD p.1)∧RepL K F (kvs.map (·.2)) (es.map (·.2))
theorem OR.dict {es:List (D×D)} (s:Same F H) (h:OR K F H v (.dict es)):∃ a,v=.ref a∧(DT K F H a es∨DK K F H a es):=by
 rcases h with h|⟨a,c,e,e2,h1⟩
 ·cases h with
  | dct h1 h2 h3=>exact ⟨_,rfl,.inl ⟨_,s _ _ h1,h2,h3⟩⟩
  | dck h1 h2 h3=>exact ⟨_,rfl,.inr ⟨_,s _ _ h1,h2,h3⟩⟩
 ·cases c<;>cases e2
  ·exact ⟨a,e,.inl h1⟩
  ·exact ⟨a,e,.inr h1⟩
theorem Ji_ {κ:Type} [DecidableEq κ] {kd:κ→D} (inj:∀ a b,keyQ (kd a) (kd b)=decide (a=b)) (k:κ):∀ {kvs:List (κ×V)} {es:List (D×D)},es.map (·.1)=kvs.map (fun p=>kd p.1)→RepL K F (kvs.map (·.2)) (es.map (·.2)) →
  (∃ d v,getE es (kd k)=some d∧valV kvs k=some v∧Rep K F v d)∨(getE es (kd k)=none∧valV kvs k=none)
 | [],[],_,_=>.inr ⟨rfl,rfl⟩
 | [],_::_,e,_=>by simp at e
 | _::_,[],e,_=>by simp at e
 | p::kvs,q::es,e,r=>by
  simp only [List.map_cons,List.cons.injEq] at e
  cases r with
  | cons r1 r2 =>
   unfold getE valV
   rw [List.find?_cons,List.find?_cons,e.1,inj]
   by_cases h:p.1=k
   ·simp only [h,decide_true]
    exact .inl ⟨_,_,rfl,rfl,r1⟩
   ·simp only [h,decide_false]
    exact Ji_ inj k e.2 r2
end
def J6_ (H:Hp) (a:Addr):Prop:=H a=some (.dT [])∨H a=some (.dK [])
theorem up_ {X:Cx} {pins:List (Addr×Obj)} {σ:L2.St} {H:Hp} {s:Shared} {a:Addr} (I:Inv X pins σ H s) (h:J6_ H a) :
  s.heap.DictOfH (tupleKind (zw_ X.prog X.w)) a []∧s.heap.DictOf (zw_ X.prog X.w) a []∧(a==sysModules)=false:=by
 rcases h with h|h
 ·obtain ⟨z,y,xs,kt,o,es,ep,h1,h2,h3,h4,h5,h6⟩:=Xx_ I.hok h
  cases kt
  have e0:es = #[]:=by
   have:es.toList=[]:=h4
   exact Array.toList_inj.mp this
  subst e0
  exact ⟨⟨o,_,ep,h1,h2,h3,rfl,(fun x hx=>by simp at hx),List.nodup_nil⟩,⟨o,_,ep,h1,h2,h3,fun e he=>by simp at he,.nil,List.nodup_nil⟩,y⟩
 ·obtain ⟨z,y,vs,kv,o,es,ep,h1,h2,h3,h4,h5,h6⟩:=Xy_ I.hok h
  cases kv
  have e0:es = #[]:=by
   have:es.toList=[]:=by
    generalize es.toList=l at h5
    cases h5
    rfl
   exact Array.toList_inj.mp this
  subst e0
  exact ⟨⟨o,_,ep,h1,h2,h3,rfl,(fun x hx=>by simp at hx),List.nodup_nil⟩,⟨o,_,ep,h1,h2,h3,fun e he=>by simp at he,.nil,List.nodup_nil⟩,y⟩
theorem DT.empty {K:Fg} {F H:Hp} {a:Addr} (h:DT K F H a []):J6_ H a:=by
 obtain ⟨kvs,h1,h2,_⟩:=h
 cases kvs with
 | nil=>exact .inl h1
 | cons _ _=>simp at h2
theorem DK.empty {K:Fg} {F H:Hp} {a:Addr} (h:DK K F H a []):J6_ H a:=by
 obtain ⟨kvs,h1,h2,_⟩:=h
 cases kvs with
 | nil=>exact .inr h1
 | cons _ _=>simp at h2
def KeyV (H:Hp) (y:V):Prop:=(∃ k,y=kV k)∨∃ (b:Addr) (ks:List Key),y=.ref b∧H b=some (.tup (ks.map kV))
def DAsk (H:Hp) (a:Addr) (y:V) (o:Option V):Prop:=DGet H a y o∨(J6_ H a∧KeyV H y∧o=none)
theorem J4_ {K:Fg} {F H:Hp} {a:Addr} {y:V} {es:List (D×D)} {k:D} (s:Same F H) (h:DT K F H a es∨DK K F H a es) (r:Rep K F y k) (hk:keyOk es k=true) :
  (∃ d v,getE es k=some d∧DAsk H a y (some v)∧Rep K F v d)∨(getE es k=none∧DAsk H a y none):=by
 unfold keyOk at hk
 rw [Bool.or_eq_true,Bool.and_eq_true,Bool.and_eq_true] at hk
 have kT:u1_ k=true→KeyV H y:=fun h=>by
  obtain ⟨ks,rfl⟩:=ZB_ h
  obtain ⟨b,rfl,hb⟩:=JG_ r
  exact .inr ⟨b,ks,rfl,s _ _ hb⟩
 have kK:uc_ k=true→KeyV H y:=fun h=>by
  obtain ⟨ks,rfl⟩:=u2_ h
  exact .inl ⟨ks,yR_ r⟩
 cases es with
 | nil =>
  refine .inr ⟨rfl,.inr ⟨?_,?_,rfl⟩⟩
  ·rcases h with h|h
   ·exact h.empty
   ·exact h.empty
  ·rcases hk with hk|hk
   ·exact kT hk.1
   ·exact kK hk.1
 | cons p es =>
  rcases h with ⟨kvs,h1,h2,h3⟩|⟨kvs,h1,h2,h3⟩
  ·rcases hk with ⟨hk,_⟩|⟨_,hk⟩
   ·obtain ⟨ks,rfl⟩:=ZB_ hk
    obtain ⟨b,rfl,hb⟩:=JG_ r
    rcases Ji_ Xj_ ks h2 h3 with ⟨d,v,e1,e2,e3⟩|⟨e1,e2⟩
    ·exact .inl ⟨d,v,e1,.inl (e2▸DGet.t h1 (s _ _ hb)),e3⟩
    ·exact .inr ⟨e1,.inl (e2▸DGet.t h1 (s _ _ hb))⟩
   ·exfalso
    cases kvs with
    | nil=>simp at h2
    | cons q kvs =>
     simp only [List.map_cons,List.cons.injEq] at h2
     rw [List.all_cons,h2.1,Qx_,Bool.false_and] at hk
     cases hk
  ·rcases hk with ⟨_,hk⟩|⟨hk,_⟩
   ·exfalso
    cases kvs with
    | nil=>simp at h2
    | cons q kvs =>
     simp only [List.map_cons,List.cons.injEq] at h2
     rw [List.all_cons,h2.1,Qw_,Bool.false_and] at hk
     cases hk
   ·obtain ⟨ks,rfl⟩:=u2_ hk
    obtain rfl:=yR_ r
    rcases Ji_ Xk_ ks h2 h3 with ⟨d,v,e1,e2,e3⟩|⟨e1,e2⟩
    ·exact .inl ⟨d,v,e1,.inl (e2▸DGet.k h1),e3⟩
    ·exact .inr ⟨e1,.inl (e2▸DGet.k h1)⟩
section
variable {X:Cx} {pins:List (Addr×Obj)} {σ:L2.St} {H:Hp} {s:Shared} {a:Addr} {y d:V} {u r:Value} {o:Option V} {A:Around} {E:Value→Shared→Prop}
theorem a_in {Q:Value→Shared→Prop} (hu:A.units+1<cLine) (I:Inv X pins σ H s) (g:DAsk H a y o) (ry:RelV y u) (h:∀ s',Inv X pins σ H s'→Q (.bool o.isSome) s') :
  wpAny (model X.prog X.w) A (compareOp .In u (.ref a)) Q E s:=by
 rcases g with g|⟨e,k,rfl⟩
 ·exact d_in hu I g ry h
 ·obtain ⟨h1,h2,hd⟩:=up_ I e
  rcases k with ⟨k,rfl⟩|⟨b,ks,rfl,hb⟩
  ·exact wpAny_in_of (Zy_ ry) hd h2.mapOf (h _ (I.tok _))
  ·cases (show u=Value.ref b from ry)
   exact wpAny_in_heap (tupleKind_room_in1 hu) (uw_ I.hok hb) hd h1 (h _ (I.tok _))
theorem Wk_ {Q:Value→Shared→Prop} (hu:A.units+1<cLine) (I:Inv X pins σ H s) (g:DAsk H a y o) (ry:RelV y u) (h:∀ s',Inv X pins σ H s'→Q (.bool (!o.isSome)) s') :
  wpAny (model X.prog X.w) A (compareOp .NotIn u (.ref a)) Q E s:=by
 rcases g with g|⟨e,k,rfl⟩
 ·exact V8_ hu I g ry h
 ·obtain ⟨h1,h2,hd⟩:=up_ I e
  rcases k with ⟨k,rfl⟩|⟨b,ks,rfl,hb⟩
  ·exact wpAny_notIn_of (Zy_ ry) hd h2.mapOf (h _ (I.tok _))
  ·cases (show u=Value.ref b from ry)
   exact wpAny_notIn_heap (tupleKind_room_in1 hu) (uw_ I.hok hb) hd h1 (h _ (I.tok _))
theorem XE_ {Q:Value→Shared→Prop} (hu:A.units+1<cLine) (I:Inv X pins σ H s) (g:DAsk H a y o) (ry:RelV y u) (rd:RelV d r) (h:∀ w' s',Inv X pins σ H s'→RelV (o.getD d) w'→Q w' s') :
  wpAny (model X.prog X.w) A (call (.builtin "dict.get") [.ref a,u,r]) Q E s:=by
 rcases g with g|⟨e,k,rfl⟩
 ·exact Xz_ hu I g ry rd h
 ·obtain ⟨h1,h2,hd⟩:=up_ I e
  rcases k with ⟨k,rfl⟩|⟨b,ks,rfl,hb⟩
  ·exact call_meetsIn PySem.F.slot_dict_get h2.typeIs PySem.F.entry_dict_get (PySem.F.args_dict_get_3 _ _ _) (meets_dict_get_default (zw_ X.prog X.w) a (Zy_ ry) hd r) ⟨_,h2.mapOf,h _ _ (I.tok _) rd⟩
  ·cases (show u=Value.ref b from ry)
   exact call_meetsIn PySem.F.slot_dict_get h1.typeIs PySem.F.entry_dict_get (PySem.F.args_dict_get_3 _ _ _) (meetsH_dict_get_default (tupleKind (zw_ X.prog X.w)) a b hd r) ⟨tupleKind_room_in1 hu,ks,[],uw_ I.hok hb,h1,h _ _ (I.tok _) rd⟩
theorem DT.isD {K:Fg} {F:Hp} {es:List (D×D)} (h:DT K F H a es∨DK K F H a es):IsD H a:=by
 rcases h with ⟨kvs,h1,_⟩|⟨kvs,h1,_⟩
 ·exact .inr ⟨_,.inl h1⟩
 ·exact .inl ⟨_,.inl h1⟩
end
end L4
set_option Elab.async false
set_option linter.all false
set_option maxRecDepth 100000
namespace L4
open PySem PySem.Spec PyProof.Rows L2 L3
def XA_:D→D→D→Option D
 | .dict es,k,z=>if keyOk es k then some ((getE es k).getD z) else none
 | _,_,_=>none
def uC_ (d c:D):Option Bool:=match c with
 | .dict es=>if keyOk es d then some (getE es d).isSome else none
 | _=>opIn d c
def jo_ (d c:D):Option Bool:=match c with
 | .dict es=>if keyOk es d then some (!(getE es d).isSome) else none
 | _=>un_ d c
def jD_ (x y:D):Option D:=match x with
 | .dict es=>if keyOk es y then getE es y else none
 | _=>opIx x y
def WV_ (po pe pf:Pu D):Pu D:=fun ρ=>bd (po ρ) fun d=>bd (noX (pe ρ)) fun k=>bd (noX (pf ρ)) fun z=>oM (XA_ d k z)
theorem W.nx {X:Cx} {G:Gh} {F:Hp} {σ:L2.St} {ρ:En} {α:Type} {m:M α} {C:α→Hp→Hp→Prop} (h:W X G F σ ρ (noX m) C):W X G F σ ρ m C:=by
 cases m with
 | ret a=>exact h
 | exc x=>exact h.elim
 | bad=>exact h.elim
def Wr_ (td ty tx:TE):TE:=fun σ H Q=>td σ H fun x H1=>∃ a,x=.ref a∧IsD H1 a∧ty σ H1 fun y H2=>tx σ H2 fun z H3=>∃ o,DAsk H3 a y o∧Q (o.getD z) H3
section
variable {X:Cx} {o e f:Expr} {apos cpos:Pos} {td ty tx:TE}
theorem Qp_ (hu:X.A.units+1<cLine) (ho:PE X o td) (he:PE X e ty) (hf:PE X f tx) (m:M2 X o "get" apos e f cpos):PE X (.Call (.Attribute o "get" apos) [e,f] [] cpos) (Wr_ td ty tx):=by
 intro pins s σ H Q I h
 refine wpAny_Call_method m.base m.few m.line PySem.F.plainAttrs_dict PySem.F.slot_dict_get PySem.F.type_dict_get (thn (ho pins s σ H _ I h) fun u s1 ⟨x,H1,I1,rx,a,ex,d,q1⟩=>?_)
 subst ex
 obtain rfl:u=Value.ref a:=rx
 obtain ⟨t1,t2,_⟩:=Xo_ I1 d
 refine ⟨t1,t2,?_⟩
 rw [m.trees]
 refine Calls.callWith_builtin rfl (Calls.evalArgs_plain (Calls.spliced_cons (thn (he pins s1 σ H1 _ I1 q1) fun iv s2 ⟨y,H2,I2,ry,q2⟩ =>
  Calls.spliced_cons (thn (hf pins s2 σ H2 _ I2 q2) fun fv s3 ⟨z,H3,I3,rz,ov,g,q3⟩=>Calls.spliced_nil ?_))))
 exact XE_ hu I3 g ry rz fun w' s4 I4 rw'=>⟨_,H3,I4,rw',q3⟩
end
section
variable {X:Cx} {o e f:Expr} {apos cpos pos:Pos} {po pe pf:Pu D}
theorem XI_ (hu:X.A.units+1100<cLine) (ho:AO X o po) (he:AP X e pe) (hf:AP X f pf) (m:M2 X o "get" apos e f cpos):AP X (.Call (.Attribute o "get" apos) [e,f] [] cpos) (WV_ po pe pf) :=
 fun G F σ H ρ Q S w=>sem (Qp_ (by omega) zi_ zi_ zi_ m) (ho G F σ H ρ _ S (w.bind.imp fun d F1 H1 s1 S1 w1 v hv=>by
  have hd:∃ es,d=.dict es:=by
   cases hk:pe ρ with
   | ret k=>cases hz:pf ρ with
    | ret z =>
     rw [hk] at w1;simp only [jg_,jm_] at w1;rw [hz] at w1;simp only [jg_,jm_] at w1
     obtain ⟨res,e,_⟩:=w1.opt
     cases d<;>first|exact ⟨_,rfl⟩|cases e
    | exc x=>rw [hk] at w1;simp only [jg_,jm_] at w1;rw [hz] at w1;exact w1.elim
    | bad=>rw [hk] at w1;simp only [jg_,jm_] at w1;rw [hz] at w1;exact w1.elim
   | exc x=>rw [hk] at w1;exact w1.elim
   | bad=>rw [hk] at w1;exact w1.elim
  obtain ⟨es,rfl⟩:=hd
  obtain ⟨a,rfl,hh⟩:=(hv.or S1).dict S1.fh
  refine ⟨a,rfl,DT.isD hh,he G F1 σ H1 ρ _ S1 (w1.bind.nx.imp fun k F2 H2 s2 S2 w2 y hy=>hf G F2 σ H2 ρ _ S2 (w2.bind.nx.imp fun z F3 H3 s3 S3 w3 zv hz=>?_))⟩
  obtain ⟨res,e,kk⟩:=w3.opt
  dsimp only [XA_] at e
  split at e
  case isFalse=>cases e
  rename_i hk
  cases e
  obtain ⟨a',ea,hh3⟩:=(((hv.mono s2).mono s3).or S3).dict S3.fh
  cases ea
  rcases J4_ S3.fh hh3 (hy.mono s3) hk with ⟨d,v,e1,g,r⟩|⟨e1,g⟩
  ·refine ⟨some v,g,?_⟩
   rw [e1] at kk
   exact kk F3 H3 (Same.refl _) S3 v r
  ·refine ⟨none,g,?_⟩
   rw [e1] at kk
   exact kk F3 H3 (Same.refl _) S3 zv hz))
end
def rDin (neg:Bool):R2:=fun x y H Q=>∃ a o,y=.ref a∧DAsk H a x o∧Q (.bl (if neg then !o.isSome else o.isSome)) H
def rInA (K:Fg):R2:=fun x y H Q=>rD2 K opIn x y H Q∨rDin false x y H Q
def US_ (K:Fg):R2:=fun x y H Q=>rD2 K un_ x y H Q∨rDin true x y H Q
def rDIx:R2:=fun x y H Q=>∃ a v,x=.ref a∧DGet H a y (some v)∧Q v H
def rIxA (K:Fg):R2:=fun x y H Q=>rIx K x y H Q∨rDIx x y H Q
section
variable {X:Cx}
theorem Ja_ (hu:X.A.units+1100<cLine):OpR X (compareOp .In) (rInA X.K):=OpR.or (W1_ hu) (by
 intro pins s σ H x y v u Q I rx ry ⟨a,o,e,g,q⟩
 subst e
 obtain rfl:u=Value.ref a:=ry
 exact a_in (by omega) I g rx fun s' I'=>⟨.bl _,H,I',rfl,q⟩)
theorem Uj_ (hu:X.A.units+1100<cLine):OpR X (compareOp .NotIn) (US_ X.K):=OpR.or (U3_ hu) (by
 intro pins s σ H x y v u Q I rx ry ⟨a,o,e,g,q⟩
 subst e
 obtain rfl:u=Value.ref a:=ry
 exact Wk_ (by omega) I g rx fun s' I'=>⟨.bl _,H,I',rfl,q⟩)
theorem VV_ (hu:X.A.units+1100<cLine):IxR X rDIx:=by
 intro value slice pins s σ H x y v u Q I rx ry ⟨a,w,e,g,q⟩ hs
 subst e
 obtain rfl:v=Value.ref a:=rx
 have hT:s.TypeIs (.ref a) "dict":=Jo_ I g
 unfold subscriptTail
 refine wpAny_bind ?_
 rw [getitemInPython_of_ne hT.not_modules]
 refine wpAny_bind (wpAny_specialOf hT PySem.F.slot_dict_getitem.lookup ?_)
 have h₂:wpAny (model X.prog X.w) X.A (getItem (.ref a) u) (EP X pins σ Q) X.xe s:=YG_ (by omega) I g ry fun w' s3 I3 rw'=>⟨w,H,I3,rw',q⟩
 have fin:wpAny (model X.prog X.w) X.A (subscripted slice false (.ref a) u) (fun r s₃=>wpAny (model X.prog X.w) X.A (letTemporaryGo value (.ref a) r >>= fun _=>pure r) (EP X pins σ Q) X.xe s₃) X.xe s:=by
  rw [hs]
  exact wpAny_operating (wpAny_mono h₂ (fun r s₃ h₃=>wpAny_bind (wpAny_letTemporaryGo (wpAny_pure h₃))) fun _ _ x=>x)
 first
  | exact wpAny_pure (wpAny_bind fin)
  | exact wpAny_bind (wpAny_pure (wpAny_bind fin))
  | exact wpAny_bind fin
theorem jA_ (hu:X.A.units+1100<cLine):IxR X (rIxA X.K):=IxR.or Xm_ (VV_ hu)
theorem u0_ {K:Fg} {F H:Hp} {y:V} {es:List (D×D)} {k:D} (h:OR K F H y k) (hk:keyOk es k=true):Rep K F y k:=by
 rcases h with h|⟨a,c,e,e2,h1⟩
 ·exact h
 ·exfalso
  subst e2
  unfold keyOk at hk
  cases c<;>simp [OC.d,u1_,uc_] at hk
theorem Yc_ {K:Fg}:OpB K (rInA K) uC_:=by
 intro G F σ H ρ x y dx dy res Q S ox oy e k
 unfold uC_ at e
 split at e
 ·rename_i es
  split at e
  case isFalse=>cases e
  rename_i hk
  cases e
  obtain ⟨a,rfl,hh⟩:=oy.dict S.fh
  rcases J4_ S.fh hh (u0_ ox hk) hk with ⟨d,v,e1,g,r⟩|⟨e1,g⟩
  ·exact .inr ⟨a,_,rfl,g,by rw [e1] at k;exact k⟩
  ·exact .inr ⟨a,_,rfl,g,by rw [e1] at k;exact k⟩
 ·exact .inl (j8_ G F σ H ρ x y dx dy res Q S ox oy e k)
theorem Yb_ {K:Fg}:OpB K (US_ K) jo_:=by
 intro G F σ H ρ x y dx dy res Q S ox oy e k
 unfold jo_ at e
 split at e
 ·rename_i es
  split at e
  case isFalse=>cases e
  rename_i hk
  cases e
  obtain ⟨a,rfl,hh⟩:=oy.dict S.fh
  rcases J4_ S.fh hh (u0_ ox hk) hk with ⟨d,v,e1,g,r⟩|⟨e1,g⟩
  ·exact .inr ⟨a,_,rfl,g,by rw [e1] at k;exact k⟩
  ·exact .inr ⟨a,_,rfl,g,by rw [e1] at k;exact k⟩
 ·exact .inl (j8_ G F σ H ρ x y dx dy res Q S ox oy e k)
theorem jz_ {K:Fg}:OpD K (rIxA K) jD_:=by
 intro G F σ H ρ x y dx dy res Q S ox oy e k
 unfold jD_ at e
 split at e
 ·rename_i es
  split at e
  case isFalse=>cases e
  rename_i hk
  obtain ⟨a,rfl,hh⟩:=ox.dict S.fh
  rcases J4_ S.fh hh (u0_ oy hk) hk with ⟨d,v,e1,g,r⟩|⟨e1,g⟩
  ·rw [e1] at e
   cases e
   rcases g with g|⟨_,_,z⟩
   ·exact .inr ⟨a,v,rfl,g,k v F H (Same.refl _) S r⟩
   ·cases z
  ·rw [e1] at e;cases e
 ·exact .inl (X9_ G F σ H ρ x y dx dy res Q S ox oy e k)
end
end L4
set_option Elab.async false
set_option linter.all false
set_option maxRecDepth 100000
namespace HT
open PySem PyProof.Rows
def lexLe:List Int→List Int→Bool
 | [],[]=>true
 | [],_::_=>true
 | _::_,[]=>false
 | x::xs,y::ys=>if x=y then lexLe xs ys else decide (x≤y)
theorem Us_ (x y:Int) (xs ys:List Int):lexLe (x::xs) (y::ys)=if x=y then lexLe xs ys else decide (x≤y):=rfl
theorem yY_:lexLe [] []=true:=rfl
theorem yk_ (y:Int) (ys:List Int):lexLe [] (y::ys)=true:=rfl
theorem yl_ (x:Int) (xs:List Int):lexLe (x::xs) []=false:=rfl
theorem Qi_ (A:Around) (s:Shared) (a:Int) (t:Tok) (c:Int) (u:Tok) (prog:Program) (w:World) (E:Value→Shared→Prop) (Q:Value→Shared→Prop) (h:Q (.bool (decide (a≤c))) s) :
  wpAny (model prog w) A (richCompare .LtE (.int a t) (.int c u)) Q E s :=
 (PyProof.Rows.le_int h:wpAny (model prog w) A (compareOp .LtE (.int a t) (.int c u)) Q E s)
section
open PySem.SeqAt
open PySem.AutoSeq1 (wpAny_loadPart')
open PySem.MeetsSeq PySem.MeetsSeq2 PySem.MeetsSeq3
theorem yN_ (l b:Addr) (items items2:Array Value) (n n2:Nat) (dd dd2:Option Addr) (sl sl2:Array (Option Value)) (ns ms:List Int) (hi:IntsAre items.toList ns) (hj:IntsAre items2.toList ms) :
  Meets (Builtin.«tuple.__le__» ⟨[.ref l,.ref b],[]⟩)
   (fun _ R s=>s.heap.get? l=some { cls:=.type "tuple",dict:=dd,data:=.seq items n,slots:=sl }∧s.heap.get? b=some { cls:=.type "tuple",dict:=dd2,data:=.seq items2 n2,slots:=sl2 } ∧
    R (.ok (.ret (.bool (lexLe ns ms)))) s) :=
 .of_wp fun prog w A R s h=>by
  obtain ⟨hp,g,d,tk,os⟩:=s;obtain ⟨hl,hb,h⟩:=h
  have f2:=AutoSeq1.sub_tuple_tuple
  have z1:items.size=ns.length:=by rw [←hi.length];simp
  have z2:items2.size=ms.length:=by rw [←hj.length];simp
  wp_walk using wpAny_loadPart' hl,wpAny_loadPart' hb,wpAny_forIn_list _ (fun rest b s'=>b.1=none∧s'=⟨hp,g,d,tk,os⟩∧∃ (vs ws:List Value) (ns' ms':List Int),rest=vs.zip ws ∧
   IntsAre vs ns'∧IntsAre ws ms'∧ns'.length+items2.size=ms'.length+items.size∧R (.ok (.ret (.bool (lexLe ns' ms')))) ⟨hp,g,d,tk,os⟩) _
  case turn =>
   rintro ⟨y,x⟩ rest b s' ⟨hb',rfl,vs,ws,ns',ms',hz,hvi,hwi,hlen,hR⟩
   cases hvi with
   | nil=>rw [List.zip_nil_left] at hz;cases hz
   | cons a t hvi' =>
    cases hwi with
    | nil=>rw [List.zip_nil_right] at hz;cases hz
    | cons c u hwi' =>
     rw [List.zip_cons_cons] at hz
     injection hz with hyx hrest
     injection hyx with hy hx
     subst hy hx
     rw [Us_] at hR
     simp only [List.length_cons] at hlen
     obtain ⟨e,he,hiff⟩:=QC_ A.in1 ⟨hp,g,d,tk,os⟩ a t c u
     refine wpAny_bind (he prog w _ _ ?_)
     cases e with
     | true =>
      rw [if_pos (hiff.mp rfl)] at hR
      wp_walk
      exact ⟨rfl,rfl,_,_,_,_,hrest,hvi',hwi',by omega,hR⟩
     | false =>
      rw [if_neg (fun q=>absurd (hiff.mpr q) Bool.false_ne_true)] at hR
      have hri:=Qi_ A.in1 ⟨hp,g,d,tk,os⟩ a t c u prog w
      wp_walk using hri
      exact ⟨_,rfl,by simpa using hR⟩
  case fin =>
   rintro ⟨b1,b2⟩ s' ⟨hb',rfl,vs,ws,ns',ms',hz,hvi,hwi,hlen,hR⟩
   simp only at hb'
   subst hb'
   have hv:lexLe ns' ms'=decide (items.size≤items2.size):=by
    cases hvi with
    | nil =>
     cases hwi with
     | nil =>
      simp only [List.length_nil] at hlen
      rw [yY_]
      exact (decide_eq_true (by omega)).symm
     | cons c u hw =>
      simp only [List.length_nil,List.length_cons] at hlen
      rw [yk_]
      exact (decide_eq_true (by omega)).symm
    | cons a t hv =>
     cases hwi with
     | nil =>
      simp only [List.length_nil,List.length_cons] at hlen
      rw [yl_]
      exact (decide_eq_false (by omega)).symm
     | cons c u hw =>
      rw [List.zip_cons_cons] at hz
      cases hz
   rw [hv] at hR
   wp_walk
   exact ⟨_,rfl,by simpa [Builtin.Tuple.tupleCompareSizes] using hR⟩
  case h =>
   exact ⟨rfl,rfl,items.toList,items2.toList,ns,ms,rfl,hi,hj,by omega,h⟩
end
section
variable {prog:Program} {w:World} {A:Around} {E:Value→Shared→Prop} {s:Shared}
theorem le_tupInts {l b:Addr} {items items2:Array Value} {ns ms:List Int} {Q:Value→Shared→Prop} (hl:IsTup s.heap l items) (hb:IsTup s.heap b items2) (hi:IntsAre items.toList ns) (hj:IntsAre items2.toList ms)
  (hu:A.units<cLine) (h:Q (.bool (lexLe ns ms)) s):wpAny (model prog w) A (compareOp .LtE (.ref l) (.ref b)) Q E s:=by
 obtain ⟨⟨cls,dd,data,sl⟩,ho,hc,n,hd⟩:=id hl
 obtain ⟨⟨cls2,dd2,data2,sl2⟩,ho2,hc2,n2,hd2⟩:=id hb
 simp only at hc hd hc2 hd2
 subst hc hd hc2 hd2
 exact richCompare_meets_room (op:=.LtE) ⟨_,ho,rfl⟩ ⟨_,ho2,rfl⟩ PySem.F.slot_tuple_le PySem.F.entry_tuple_le (PySem.F.args_tuple_le_2 _ _) (yN_ l b items items2 n n2 dd dd2 sl sl2 ns ms hi hj)
  ⟨ho,ho2,show Value.bool (lexLe ns ms)≠Value.notImplemented∧Q (.bool (lexLe ns ms)) s from ⟨(fun x=>nomatch x),h⟩⟩ hu
end
end HT
namespace L4
open PySem PySem.Spec PyProof.Rows L2 L3
def rLeT (K:PySem.W.Frag):R2:=fun x y H Q=>∃ a b ns ms,x=.ref a∧y=.ref b∧SqT K H a (ns.map V.int)∧SqT K H b (ms.map V.int)∧Q (.bl (HT.lexLe ns ms)) H
theorem W2_ {X:Cx} (hu:X.A.units<cLine):OpR X (compareOp .LtE) (rLeT X.K):=by
 intro pins s σ H x y v u Q I rx ry h
 obtain ⟨a,b,ns,ms,rfl,rfl,ha,hb,q⟩:=h
 cases rx
 cases ry
 obtain ⟨its,r1,p1,_⟩:=I.tuple ha
 obtain ⟨its2,r2,p2,_⟩:=I.tuple hb
 have i1:IntsAre its.toArray.toList ns:=intsAre_of r1
 have i2:IntsAre its2.toArray.toList ms:=intsAre_of r2
 exact HT.le_tupInts p1 p2 i1 i2 hu ⟨.bl (HT.lexLe ns ms),H,I,rfl,q⟩
def Zn_ (x y:D):Option Bool:=match x,y with
 | .tuple a,.tuple b=>match intsOf a,intsOf b with
  | some m,some n=>some (HT.lexLe m n)
  | _,_=>none
 | x,y=>opLe x y
def rLeA (K:Fg):R2:=fun x y H Q=>rI0 (fun i j=>.bl (decide (i≤j))) x y H Q∨rLeT K x y H Q
theorem JK_ {X:Cx} (hu:X.A.units+1100<cLine):OpR X (compareOp .LtE) (rLeA X.K):=OpR.or X6_ (W2_ (by omega))
theorem JM_ {K:Fg}:OpB K (rLeA K) Zn_:=by
 intro G F σ H ρ x y dx dy res Q S ox oy e k
 unfold Zn_ at e
 split at e
 ·rename_i a b
  split at e
  ·rename_i m n hm hn
   cases e
   obtain ⟨p,vs,rfl,h1,h2⟩:=ox.tuple S.fh
   obtain ⟨q,us,rfl,g1,g2⟩:=oy.tuple S.fh
   rw [jK_ hm] at h2
   rw [jK_ hn] at g2
   rw [jH_ h2] at h1
   rw [jH_ g2] at g1
   exact .inr ⟨p,q,m,n,rfl,rfl,h1,g1,k⟩
  ·cases e
 ·exact .inl (X8_ G F σ H ρ x y dx dy res Q S ox oy e k)
end L4
set_option Elab.async false
set_option linter.all false
set_option maxRecDepth 100000
namespace HT
open PySem PySem.Spec PyProof.Rows
end HT
namespace L4
open PySem PySem.Spec PyProof.Rows L2 L3
def zaw_:List D→Option D
 | [.tuple ds]=>match intsOf ds with
  | some ns=>if Ws_ ns then some (.int ns.sum) else none
  | none=>none
 | l=>fSum l
def uE_:List D→Option D
 | [.tuple ds]=>V3_ [.tuple ds]
 | l=>fMax l
def WD_ (K:Fg):List V→Hp→VK→Prop:=fun xs H Q=>UT_ K gMax xs H Q∨(Vs_ K gMax xs H Q∨∃ i j,xs=[.int i,.int j]∧Q (.int (if j>i then j else i)) H)
theorem u9_ {X:Cx} (hc:X.calm=true):CallR X (.builtin "max") (WD_ X.K):=CallR.or (YP_ hc) ((YQ_ hc).or (YR_ hc))
theorem Jb_ {K:Fg}:us_ K (WD_ K) uE_:=by
 intro G F σ H ρ xs ds res Q S o e k
 unfold uE_ at e
 split at e
 ·exact .inl (VO_ G F σ H ρ xs _ res Q S o e k)
 ·exact .inr (W6_ G F σ H ρ xs ds res Q S o e k)
end L4
set_option Elab.async false
set_option linter.all false
set_option maxRecDepth 100000
namespace L4
open PySem PySem.Spec PyProof.Rows L2 L3 PySem.W
section
variable {prog:Program} {w:World} {A:Around} {E:Value→Shared→Prop} {s:Shared} {K:Frag} {x C:Addr} {ox:Obj} {od:Option Obj} {name:Str} {expr:Bool} {Q:Value→Shared→Prop}
theorem VZ_ {v:Value} (X:K.In s.heap) (I:PySem.W.InstAt s.heap x ox C od) (hga:findIn K (.ref C) "__getattribute__" = some (some (.builtin "BaseException.__getattribute__"))) (hgr:findIn K (.ref C) "__getattr__" = some none) (hb:mroIn K C (.type "BaseException")=some true)
  (hf:findObj K C od name=some (.value v)) (hh:handedIn v=true) (h:Q v { s with toks:=s.toks+1 }):wpAny (model prog w) A (getAttr (.ref x) name expr) Q E s:=by
 obtain ⟨hp,g,d,t,os⟩:=s
 have L0:=I.type (M:=model prog w)
 have L1:=looks_findIn (M:=model prog w) X hga
 have L2:=looks_findIn (M:=model prog w) X hgr
 have L3:=looks_find (M:=model prog w) X I hf
 have L4:=looks_mroIn (M:=model prog w) X hb
 have bnd:=F.attr_ValueError.ga.bind (.ref x)
 have ok:=F.args_bexc_ga (.ref x) (.str name t)
 have kd:builtinKind "BaseException.__getattribute__" = some .slot:=by decide +kernel
 have sp:splitId "BaseException.__getattribute__" = some ("BaseException", "__getattribute__"):=by decide +kernel
 unfold getAttr getAttrBy
 refine wpAny_bind (wpAny_mkText (wpAny_holding (wpAny_bind (L0.at (wpAny_bind (L1.at ?_))))))
 show wpAny _ _ (getAttrByItsOwn _ _ _ _ _ _) _ _ _
 unfold getAttrByItsOwn
 repeat (any_goals (first|assumption|with_reducible refine L0.at ?_|with_reducible refine L2.at ?_|wp_step))
 rw [if_neg (by cases expr<;>decide)]
 unfold boundAndCalled
 rw [bnd]
 repeat (any_goals (first|assumption|with_reducible refine L0.at ?_|with_reducible refine L2.at ?_|wp_step))
 refine codeAny_call_builtin F.attr_ValueError.ga.plain F.entry_bexc_ga ?_
 simp only [checkBuiltinCall,kd,sp]
 refine wpAny_bind ?_
 unfold isInstance
 refine wpAny_bind (L0.at (L4.at ?_))
 repeat (any_goals (first|assumption|with_reducible refine L0.at ?_|with_reducible refine L3.at ?_|wp_step))
 show wpAny _ _ (handedOut v) _ _ _
 rw [handedOut_of hh]
 exact wpAny_pure h
end
section
variable {prog:Program} {w:World} {A:Around} {E:Value→Shared→Prop} {s:Shared} {K:Frag} {x C D:Addr} {ox:Obj} {name:Str} {v:Value} {Q:Unit→Shared→Prop}
theorem Qf_ {cd:ClassData} {bmB:List Value} (X:K.In s.heap) (hx:s.heap.get? x=some ox) (hc:ox.cls=.ref C) (hn:notCls ox=true) (hdn:ox.dict=none) (hs:findIn K (.ref C) "__setattr__" = some (some (.builtin "object.__setattr__")))
  (hcd:clsIn K C=some cd) (hm:cd.mro=.ref C::.ref D::[.type "ValueError",.type "Exception",.type "BaseException",.type "object"]) (hd:cd.hasDict=true) (hna:findIn K (.ref C) name=some none)
  (h:∀ h' dx tk,s.heap.objs.size≤dx→h'.Ns1 dx (fun y=>if y=name then some v else none)→h'.get? x=some { ox with dict:=some dx }→(∀ b o,b≠x→s.heap.get? b=some o→h'.get? b=some o)→Q () { s with heap:=h',toks:=tk }) :
  wpAny (model prog w) A (setAttr (.ref x) name v) Q E s:=by
 obtain ⟨hp,g,d,t,os⟩:=s
 obtain ⟨oc,odi,oda,osl⟩:=ox
 dsimp only at hc hdn
 subst hc hdn
 have I:PySem.W.InstAt hp x ⟨.ref C,none,oda,osl⟩ C none:=⟨hx,rfl,hn,trivial⟩
 refine PySem.W.set_plain X I hs ?_
 have SF:=F.store_ValueError
 have L0:=I.type (M:=model prog w)
 have L1:=looks_findIn (M:=model prog w) X hna
 have L4:=looks_mroIn (M:=model prog w) (r:=true) X (C:=C) (base:=.type "object") (by unfold mroIn;rw [hcd,Option.bind_some,hm];rfl)
 have LC:=looks_clsIn (M:=model prog w) X hcd
 have pass:=SF.passes (.ref x)
 have ok:=SF.args (.ref x) (.str name t) v
 refine codeAny_call_builtin SF.slot.plain SF.entry ?_
 simp only [checkBuiltinCall,SF.kind,SF.split]
 refine wpAny_bind ?_
 unfold isInstance
 refine wpAny_bind (L0.at (L4.at ?_))
 have LM:Looks (model prog w) hp (mroOf (.ref C)) cd.mro:=(looks_clsIn X hcd).andThen .now
 rw [if_neg (by decide)]
 have run:∀ A',wpAny (model prog w) A' (Builtin.«object.__setattr__» { pos:=[Value.ref x,Value.str name t,v] }) (fun fin s'=>∃ f,fin=.done (.ret f)∧Q () s') E ⟨hp,g,d,t+1,os⟩:=by
  intro A'
  unfold Builtin.«object.__setattr__»
  repeat (first|rw [refuse_eq]|with_reducible refine LM.at ?_|(rw [hm,refuseLoop_ref,refuseLoop_ref,pass])|with_reducible refine L0.at ?_|with_reducible refine L1.at ?_|(with_reducible refine LC.at ?_;rw [hd])|wp_step)
  have fin:wpAny (model prog w) A' (do
    let d ←alloc { cls:=Value.type "dict",data:=Data.dict #[] }
    update x fun o=>{ cls:=o.cls,dict:=some d,data:=o.data,slots:=o.slots }
    dictMade (.ref C) x d)
    (fun a s'=>wpAny (model prog w) A' (match a with
     | some d=>Builtin.ObjectAttr.storeInDict d (Value.str name t) name v
     | none=>Builtin.ObjectAttr.noDictFor (Value.ref x) (Value.ref C) name (none:Option Value).isSome) (fun fin s'=>∃ f,fin=Fin.done (Flow.ret f)∧Q () s') E s') E ⟨hp,g,d,t+1,os⟩:=by
   refine wpAny_bind (wpAny_alloc' (wpAny_bind (wpAny_update' (Heap.get?_push_of_some _ hx) (wpAny_pure ?_))))
   have xs:x≠hp.objs.size:=Nat.ne_of_lt (Heap.lt_size hx)
   show wpAny _ _ (Builtin.ObjectAttr.storeInDict hp.objs.size (.str name t) name v) _ _ _
   have e0:((hp.push { cls:=.type "dict",data:=.dict #[] }).update x fun o=>{ cls:=o.cls,dict:=some hp.objs.size,data:=o.data,slots:=o.slots }).get? hp.objs.size=some { cls:=.type "dict",data:=.dict #[] }:=by
    rw [Heap.get?_update_other _ _ xs];exact Heap.get?_push_size hp rfl
   have n0:((hp.push { cls:=.type "dict",data:=.dict #[] }).update x fun o=>{ cls:=o.cls,dict:=some hp.objs.size,data:=o.data,slots:=o.slots }).Ns hp.objs.size (fun _=>none):=⟨_,#[],_,e0,rfl,fun e he=>absurd he (by simp),fun _=>rfl⟩
   unfold Builtin.ObjectAttr.storeInDict Builtin.ObjectAttr.newKeyGuard
   refine wpAny_bind (wpAny_pure (wpAny_bind (wpAny_nsSet1 (Heap.Ns1.of_empty n0) fun h' n1 sb=>?_)))
   obtain ⟨oD,esD,epD,q1,q2,q3⟩:=n1.count (PySem.Within.cons name v PySem.Within.nil)
   refine wpAny_bind (wpAny_lookBehind q1 (by rw [q2];exact pastItsLine_dict (Nat.le_trans q3 (show 1≤sizeLine+1 from by decide))) (wpAny_pure ⟨_,rfl,?_⟩))
   refine h h' hp.objs.size _ (Nat.le_refl _) n1 ?_ fun b o nb q=>?_
   ·rw [sb.2 x xs]
    refine Heap.get?_update_self _ (Heap.get?_push_of_some _ hx) ?_
    have fr:=(Heap.get?_some_iff.mp hx).2
    cases oda<;>first|rfl|exact fr
   ·rw [sb.2 b (Nat.ne_of_lt (Heap.lt_size q)),Heap.get?_update_other _ _ (Ne.symm nb)]
    exact Heap.get?_push_of_some _ q
  cases oda<;>first|exact fin|cases hn
 have fin:wpAny (model prog w) A.in1 (Builtin.«object.__setattr__» { pos:=[Value.ref x,Value.str name t,v] }) (fun fin s'=>match fin with
   | .done f=>(match (Except.ok f:Result) with | .ok (.ret v)=>Q () s' | .ok a=>False | .error e=>E e s')
   | .again c'=>c'.quiet=true∧codeAny (model prog w) A c' (fun r s'=>match r with | .ok (.ret v)=>Q () s' | .ok a=>False | .error e=>E e s') s') E ⟨hp,g,d,t+1,os⟩ :=
  wpAny_mono (run _) (fun f s' z=>by obtain ⟨u,rfl,q⟩:=z;exact q) fun _ _ z=>z
 cases hsig:Manifest.signature? "object.__setattr__" with
 | none=>exact wpAny_pure fin
 | some sig =>
  simp only [argsOk,hsig] at ok
  show wpAny _ _ (Bind.checkArgs "object.__setattr__" sig ⟨[.ref x,.str name t,v],[]⟩) _ _ _
  rw [show Bind.checkArgs "object.__setattr__" sig ⟨[.ref x,.str name t,v],[]⟩=pure () from ok]
  exact wpAny_pure fin
theorem Qe_ {cd:ClassData} {dx:Addr} {mA:Str→Option Value} {ns:List Str} (X:K.In s.heap) (hx:s.heap.get? x=some ox) (hc:ox.cls=.ref C) (hn:notCls ox=true) (hdn:ox.dict=some dx) (hne:dx≠x) (hA:s.heap.Ns1 dx mA) (hw:PySem.Within mA ns) (hz:ns.length≤1000) (hs:findIn K (.ref C) "__setattr__" = some (some (.builtin "object.__setattr__")))
  (hcd:clsIn K C=some cd) (hm:cd.mro=.ref C::.ref D::[.type "ValueError",.type "Exception",.type "BaseException",.type "object"]) (hd:cd.hasDict=true) (hna:findIn K (.ref C) name=some none)
  (h:∀ h' tk,h'.Ns1 dx (fun y=>if y=name then some v else mA y)→(∀ b o,b≠dx→s.heap.get? b=some o→h'.get? b=some o)→Q () { s with heap:=h',toks:=tk }) :
  wpAny (model prog w) A (setAttr (.ref x) name v) Q E s:=by
 obtain ⟨hp,g,d,t,os⟩:=s
 obtain ⟨oc,odi,oda,osl⟩:=ox
 dsimp only at hc hdn
 subst hc hdn
 obtain ⟨od,qd⟩:∃ od,hp.get? dx=some od:=by obtain ⟨o,_,_,q,_⟩:=hA;exact ⟨o,q⟩
 have I:PySem.W.InstAt hp x ⟨.ref C,some dx,oda,osl⟩ C (some od):=⟨hx,rfl,hn,qd⟩
 refine PySem.W.set_plain X I hs ?_
 have SF:=F.store_ValueError
 have L0:=I.type (M:=model prog w)
 have L1:=looks_findIn (M:=model prog w) X hna
 have L4:=looks_mroIn (M:=model prog w) (r:=true) X (C:=C) (base:=.type "object") (by unfold mroIn;rw [hcd,Option.bind_some,hm];rfl)
 have LC:=looks_clsIn (M:=model prog w) X hcd
 have pass:=SF.passes (.ref x)
 have ok:=SF.args (.ref x) (.str name t) v
 refine codeAny_call_builtin SF.slot.plain SF.entry ?_
 simp only [checkBuiltinCall,SF.kind,SF.split]
 refine wpAny_bind ?_
 unfold isInstance
 refine wpAny_bind (L0.at (L4.at ?_))
 have LM:Looks (model prog w) hp (mroOf (.ref C)) cd.mro:=(looks_clsIn X hcd).andThen .now
 rw [if_neg (by decide)]
 have run:∀ A',wpAny (model prog w) A' (Builtin.«object.__setattr__» { pos:=[Value.ref x,Value.str name t,v] }) (fun fin s'=>∃ f,fin=.done (.ret f)∧Q () s') E ⟨hp,g,d,t+1,os⟩:=by
  intro A'
  have st:wpAny (model prog w) A' (Builtin.ObjectAttr.storeInDict dx (.str name t) name v) (fun fin s'=>∃ f,fin=.done (.ret f)∧Q () s') E ⟨hp,g,d,t+1,os⟩:=by
   unfold Builtin.ObjectAttr.storeInDict Builtin.ObjectAttr.newKeyGuard
   refine wpAny_bind (wpAny_pure (wpAny_bind (wpAny_nsSet1 hA fun h' n1 sb=>?_)))
   obtain ⟨oD,esD,epD,q1,q2,q3⟩:=n1.count (PySem.Within.cons name v hw)
   refine wpAny_bind (wpAny_lookBehind q1 (by rw [q2];exact pastItsLine_dict (Nat.le_trans q3 (Nat.le_trans (Nat.succ_le_succ hz) (show 1001≤sizeLine+1 from by decide)))) (wpAny_pure ⟨_,rfl,?_⟩))
   exact h h' _ n1 fun b o nb q=>(sb.2 b nb).trans q
  unfold Builtin.«object.__setattr__»
  repeat (first|with_reducible exact st|rw [refuse_eq]|with_reducible refine LM.at ?_|(rw [hm,refuseLoop_ref,refuseLoop_ref,pass])|with_reducible refine L0.at ?_|with_reducible refine L1.at ?_|(with_reducible refine LC.at ?_;rw [hd])|wp_step)
 have fin:wpAny (model prog w) A.in1 (Builtin.«object.__setattr__» { pos:=[Value.ref x,Value.str name t,v] }) (fun fin s'=>match fin with
   | .done f=>(match (Except.ok f:Result) with | .ok (.ret v)=>Q () s' | .ok a=>False | .error e=>E e s')
   | .again c'=>c'.quiet=true∧codeAny (model prog w) A c' (fun r s'=>match r with | .ok (.ret v)=>Q () s' | .ok a=>False | .error e=>E e s') s') E ⟨hp,g,d,t+1,os⟩ :=
  wpAny_mono (run _) (fun f s' z=>by obtain ⟨u,rfl,q⟩:=z;exact q) fun _ _ z=>z
 cases hsig:Manifest.signature? "object.__setattr__" with
 | none=>exact wpAny_pure fin
 | some sig =>
  simp only [argsOk,hsig] at ok
  show wpAny _ _ (Bind.checkArgs "object.__setattr__" sig ⟨[.ref x,.str name t,v],[]⟩) _ _ _
  rw [show Bind.checkArgs "object.__setattr__" sig ⟨[.ref x,.str name t,v],[]⟩=pure () from ok]
  exact wpAny_pure fin
end
end L4
set_option Elab.async false
set_option linter.all false
set_option maxRecDepth 100000
namespace L4
open PySem PySem.Spec PyProof.Rows L2 L3 PySem.W
abbrev bmV:List Value:=[.type "ValueError",.type "Exception",.type "BaseException",.type "object"]
structure XC (K:Frag) (C D fI:Addr):Prop where
 obj:∃ nm q N bs sn sub ab col dd k0 k1 k2 k3 k5,K.lookup C=some (excClassObj nm q C N bs (.ref D::bmV) true sn sub ab col dd k0 k1 k2 k3 k5 "ValueError.__new__")
 tl:tailIn K bmV (.ref D::bmV)=true
 ini:findIn K (.ref C) "__init__" = some (some (.ref fI))
 fn:typeIn K (.ref fI)=some (.type "function")
 sa:findIn K (.ref C) "__setattr__" = some (some (.builtin "object.__setattr__"))
 ga:findIn K (.ref C) "__getattribute__" = some (some (.builtin "BaseException.__getattribute__"))
 gr:findIn K (.ref C) "__getattr__" = some none
section
variable {prog:Program} {w:World} {A:Around} {E:Value→Shared→Prop} {K:Frag} {C D fI:Addr} {h:Heap} {g:Array GenState} {d:Drawn} {t:Nat} {os:OsState} {rest:List Value}
abbrev newX (h:Heap) (C:Addr) (rest:List Value):Heap:=(h.push { cls:=.type "tuple",data:=.seq rest.toArray }).push { cls:=.ref C,data:=.fields #[.ref h.objs.size,.none,.none,.none,.bool false,.none] }
theorem Zt_ {b:Addr} {o:Obj} (q:h.get? b=some o):(newX h C rest).get? b=some o:=Heap.get?_push_of_some _ (Heap.get?_push_of_some _ q)
theorem Yh_:(newX h C rest).get? (h.objs.size+1)=some { cls:=.ref C,data:=.fields #[.ref h.objs.size,.none,.none,.none,.bool false,.none] }:=by
 have z:=Heap.get?_push_size (h.push { cls:=.type "tuple",data:=.seq rest.toArray }) (o:={ cls:=.ref C,data:=.fields #[.ref h.objs.size,.none,.none,.none,.bool false,.none] }) rfl
 rwa [Heap.size_push] at z
theorem Zv_ (X:K.In h) (c:XC K C D fI) {Q:Fin→Shared→Prop} (hz:rest.length≤sizeLine)
  (hq:wpAny (model prog w) A (call (.ref fI) (.ref (h.objs.size+1)::rest)) (fun r s'=>r=.none∧Q (.done (.ret (.ref (h.objs.size+1)))) s') E ⟨newX h C rest,g,d,t,os⟩) :
  wpAny (model prog w) A (Builtin.«type.__call__» ⟨.ref C::rest,[]⟩) Q E ⟨h,g,d,t,os⟩:=by
 obtain ⟨nm,q,N,bs,sn,sub,ab,col,dd,k0,k1,k2,k3,k5,lk⟩:=c.obj
 have hC:=X _ _ lk
 have T:OwnTail h bmV (.ref D::bmV):=tail_of_in X c.tl
 have B:=F.excBase_ValueError
 repeat (first|with_reducible refine wpAny_loadPart_at hC ?_|with_reducible refine wpAny_madeBy_exc hC ?_|wp_step)
 refine codeAny_call_builtin_code (Code.quiet_builtin _ B.quiet) (wpAny_check_new_subT B T hC (codeAny_exc_new_subT B T hC ?_ hz))
 show wpAny _ _ _ _ _ _
 have X1:K.In (newX h C rest):=X.keeps fun b o z=>Zt_ z
 have LI:=looks_findIn (M:=model prog w) X1 c.ini
 have LB:=bind_fn (M:=model prog w) X1 (.ref (h.objs.size+1)) c.fn
 have hC1:=Zt_ (rest:=rest) (C:=C) hC
 have yes:(Value.ref C::.ref D::bmV).contains (.ref C)=true:=by simp
 unfold isInstance
 repeat (first|with_reducible refine wpAny_loadPart_at Yh_ ?_|(with_reducible refine wpAny_isSubtype_exc hC1 ?_;rw [yes])|wp_step)
 show wpAny _ _ (typeLookup (.ref C) _) _ _ _
 refine LI.at ?_
 refine wpAny_holding (wpAny_bind (LB.at ?_))
 refine wpAny_bind (wpAny_mono hq (fun r s' z=>?_) fun _ _ z=>z)
 obtain ⟨rfl,z⟩:=z
 wp_walk
 exact z
theorem call_exc (X:K.In h) (c:XC K C D fI) {Q:Value→Shared→Prop} (hz:rest.length≤sizeLine)
  (hq:wpAny (model prog w) (A.under (.builtin "type.__call__" ⟨.ref C::rest,[]⟩)) (call (.ref fI) (.ref (h.objs.size+1)::rest)) (fun r s'=>r=.none∧Q (.ref (h.objs.size+1)) s') E ⟨newX h C rest,g,d,t,os⟩) :
  wpAny (model prog w) A (call (.ref C) rest) Q E ⟨h,g,d,t,os⟩:=by
 obtain ⟨nm,q,N,bs,sn,sub,ab,col,dd,k0,k1,k2,k3,k5,lk⟩:=c.obj
 have hC:=X _ _ lk
 have f1:=tc_lookup
 have f2:=tc_bind (.ref C)
 have ty:(⟨h,g,d,t,os⟩:Shared).TypeIs (.ref C) "type":=⟨_,hC,rfl⟩
 refine wpAny_call (codeAny_of_tree ?_)
 show wpAny _ _ (callAny (.ref C) _) _ _ _
 repeat (any_goals (first|assumption|with_reducible refine wpAny_loadPart_at hC ?_|wp_step))
 refine ⟨rfl,codeAny_call_builtin_at (Code.quiet_builtin _ (by decide +kernel)) entry_typeCall (wpAny_check_type_call_sub hC (Zv_ X c hz ?_))⟩
 exact hq
end
end L4
set_option Elab.async false
set_option linter.all false
set_option maxRecDepth 100000
namespace L4
open PySem PySem.Spec PyProof.Rows L2 L3
def XN (e C:Addr) (dd:Option Addr):Heap→Prop:=fun h=>∃ oe vs,h.get? e=some oe∧oe.cls=.ref C∧oe.dict=dd∧oe.data=.fields vs∧1<vs.size∧vs[1]? = some .none
section
variable {P:Program} {w:World} {h h':Heap} {e C dx:Addr} {dd:Option Addr} {H:Hp} {fs:List (Str×V)}
theorem XN.ok {H':Hp} (x:XN e C dd h):ObjOk P w H' h e (.ext (XN e C dd)):=by
 obtain ⟨oe,vs,q,r⟩:=x
 exact ⟨⟨oe,vs,q,r⟩,⟨oe,q⟩,fun h1 h2 ⟨o,vs,z,r⟩ k=>⟨o,vs,k o z,r⟩⟩
theorem XD.ok {H':Hp} (x:XD dx fs h):ObjOk P w H' h dx (.ext (XD dx fs)):=by
 obtain ⟨mA,n,r⟩:=x
 obtain ⟨o,es,ep,q,z⟩:=id n
 exact ⟨⟨mA,n,r⟩,⟨o,q⟩,fun h1 h2 ⟨m,n,r⟩ k=>⟨m,n.at fun o q=>k o q,r⟩⟩
theorem YK_ {K:Fg} {D fI:Addr} (c:XC K C D fI):∃ cd,PySem.W.clsIn K C=some cd∧cd.mro=.ref C::.ref D::bmV∧cd.hasDict=true:=by
 obtain ⟨nm,q,N,bs,sn,sub,ab,col,dd,k0,k1,k2,k3,k5,lk⟩:=c.obj
 refine ⟨_,by unfold PySem.W.clsIn;rw [lk],rfl,rfl⟩
theorem XJ_ {fr:List Addr} {o1 o2:HO} (ea:∃ φ,H e=some (.ext φ)) (hd:h.objs.size≤dx) (hn:H dx=none) (heo:∃ o,h'.get? e=some o) (k:∀ b o,b≠e→h.get? b=some o→h'.get? b=some o):Un fr [] H (upd (upd H dx o1) e o2) h h':=by
 obtain ⟨φ,ea⟩:=ea
 have nd:∀ b o,h.get? b=some o→b≠dx:=fun b o q=>Nat.ne_of_lt (Nat.lt_of_lt_of_le (Heap.lt_size q) hd)
 have ne:∀ b,H b=none→b≠e:=fun b n z=>by subst z;rw [ea] at n;cases n
 have kp:∀ b u,H b=some u→(∀ φ,u≠.ext φ)→(upd (upd H dx o1) e o2) b=some u:=fun b u q nu=>by
  rw [zg_ (fun z=>by subst z;rw [ea] at q;cases q;exact nu _ rfl),zg_ (fun z=>by subst z;rw [hn] at q;cases q)]
  exact q
 refine ⟨fun b o q n _ _=>k b o (ne b n) q,fun b o q n _ _=>⟨o.slots,k b o (ne b n) q⟩,fun b o q n _=>?_,fun b o q _=>?_,fun b xs q=>kp b _ q (fun _ z=>by cases z),fun b o u q=>kp b _ q (fun _ z=>by cases z),fun b ps q=>⟨#[],?_⟩⟩
 ·rw [zg_ (ne b n),zg_ (nd b o q)];exact n
 ·by_cases z:b=e
  ·subst z;exact heo
  ·exact ⟨o,k b o z q⟩
 ·rw [kp b _ q (fun _ z=>by cases z)];simp
theorem Xq_ {o1 o2:HO} (ok:HOk P w H h) (ea:∃ φ,H e=some (.ext φ)) (hn:H dx=none) (k:∀ b o,b≠e→h.get? b=some o→h'.get? b=some o)
  (h1:ObjOk P w (upd (upd H dx o1) e o2) h' dx o1) (h2:ObjOk P w (upd (upd H dx o1) e o2) h' e o2):HOk P w (upd (upd H dx o1) e o2) h':=fun a o q=>by
 obtain ⟨φ,ea⟩:=ea
 have kp:∀ b u,H b=some u→(∀ φ,u≠.ext φ)→(upd (upd H dx o1) e o2) b=some u:=fun b u r nu=>by
  rw [zg_ (fun z=>by subst z;rw [ea] at r;cases r;exact nu _ rfl),zg_ (fun z=>by subst z;rw [hn] at r;cases r)]
  exact r
 by_cases z:a=e
 ·subst z;rw [zo_] at q;cases q;exact h2
 ·rw [zg_ z] at q
  by_cases y:a=dx
  ·subst y;rw [zo_] at q;cases q;exact h1
  ·rw [zg_ y] at q
   refine (ok a o q).stay (fun b u hb r=>k b u (fun x=>?_) r) (fun b r=>kp b _ r (fun _ z=>by cases z)) fun b xs r=>kp b _ r (fun _ z=>by cases z)
   subst x
   rcases hb with rfl|hb
   ·exact z rfl
   ·rw [ea] at hb;cases hb
end
section
variable {X:Cx} {pins:List (Addr×Obj)} {σ:L2.St} {H:Hp} {s:Shared} {e C D fI dx:Addr} {f:Str} {y:V} {u:Value} {A:Around} {E:Value→Shared→Prop} {fs:List (Str×V)} {Q:Unit→Shared→Prop}
theorem XP_ (I:Inv X pins σ H s) (ea:H e=some (.ext (XN e C none))) (c:XC X.K C D fI) (n:jX_ X.K C f) (ry:RelV y u)
  (h:∀ s' dx,H dx=none→dx≠e→Inv X pins σ (upd (upd H dx (.ext (XD dx [(f,y)]))) e (.ext (XN e C (some dx)))) s'→Q () s'):wpAny (model X.prog X.w) A (setAttr (.ref e) f u) Q E s:=by
 obtain ⟨⟨oe,vs,q,q1,q2,q3,q4,q5⟩,_⟩:=I.hok e _ ea
 obtain ⟨cd,k1,k2,k3⟩:=YK_ c
 refine Qf_ (bmB:=bmV) I.kIn q q1 (by unfold PySem.W.notCls;rw [q3]) q2 c.sa k1 k2 k3 n fun h' dx tk hd ns he kp=>?_
 have hn:H dx=none:=I.hok.fresh hd
 have nx:dx≠e:=fun z=>by subst z;rw [ea] at hn;cases hn
 have xn:XN e C (some dx) h':=⟨_,vs,he,q1,rfl,q3,q4,q5⟩
 have xd:XD dx [(f,y)] h':=by
  refine ⟨_,ns,fun g hg=>?_,fun g=>?_⟩
  ·by_cases z:g=f
   ·subst z;exact List.mem_singleton.mpr rfl
   ·exact absurd (show (if g=f then some u else none)=none from if_neg z) hg
  ·by_cases z:g=f
   ·subst z
    rw [show List.lookup g [(g,y)]=some y by simp [List.lookup],show (if g=g then some u else none)=some u from if_pos rfl]
    exact ry
   ·rw [show List.lookup g [(f,y)]=none by simp [List.lookup,beq_eq_false_iff_ne.mpr z],show (if g=f then some u else none)=none from if_neg z]
    exact True.intro
 exact h _ dx hn nx (I.un (XJ_ ⟨_,ea⟩ hd hn ⟨_,he⟩ kp) (Xq_ I.hok ⟨_,ea⟩ hn kp xd.ok xn.ok))
theorem XO_ (I:Inv X pins σ H s) (ea:H e=some (.ext (XN e C (some dx)))) (hd:H dx=some (.ext (XD dx fs))) (c:XC X.K C D fI) (n:jX_ X.K C f) (hl:fs.length≤900) (ry:RelV y u)
  (h:∀ s',Inv X pins σ (upd H dx (.ext (XD dx (putF f y fs)))) s'→Q () s'):wpAny (model X.prog X.w) A (setAttr (.ref e) f u) Q E s:=by
 obtain ⟨⟨oe,vs,q,q1,q2,q3,q4,q5⟩,_⟩:=I.hok e _ ea
 obtain ⟨⟨mA,na,wi,r⟩,_⟩:=I.hok dx _ hd
 obtain ⟨cd,k1,k2,k3⟩:=YK_ c
 have ne:dx≠e:=fun z=>by
  subst z
  obtain ⟨o,es,ep,z1,z2,_⟩:=na
  rw [q] at z1;cases z1
  rw [q3] at z2;cases z2
 refine Qe_ (D:=D) I.kIn q q1 (by unfold PySem.W.notCls;rw [q3]) q2 ne na wi (by rw [List.length_map];omega) c.sa k1 k2 k3 n fun h' tk ns kp=>?_
 have xd:XD dx (putF f y fs) h':=by
  refine ⟨_,ns,fun g hg=>?_,fun g=>?_⟩
  ·by_cases z:g=f
   ·rw [z];exact (uZ_ f y fs).1
   ·refine (uZ_ f y fs).2 g (wi g fun z'=>hg ?_)
    show (if g=f then some u else mA g)=none
    rw [if_neg z];exact z'
  ·show RelO ((putF f y fs).lookup g) (if g=f then some u else mA g)
   rw [uW_]
   by_cases z:g=f
   ·rw [if_pos z,if_pos z];exact ry
   ·rw [if_neg z,if_neg z];exact r g
 obtain ⟨o',es',ep',z',_⟩:=id ns
 exact h _ (I.write (x:=dx) (e:=dx) (by rw [hd];exact True.intro) (.inl rfl) (fun b o nb z=>kp b o nb z) ⟨o',z'⟩ xd.ok)
end
end L4
set_option Elab.async false
set_option linter.all false
set_option maxRecDepth 100000
namespace L4
open PySem PySem.Spec PyProof.Rows L2 L3
def sX1 (C:Addr) (f:Str) (i:Nat):TS:=fun D σ H=>∃ e y,σ[0]? = some (some (.ref e))∧σ[i]? = some (some y)∧H e=some (.ext (XN e C none))∧∀ dx,H dx=none→dx≠e→D.nx σ (upd (upd H dx (.ext (XD dx [(f,y)]))) e (.ext (XN e C (some dx))))
def sX2 (C:Addr) (f:Str) (i:Nat):TS:=fun D σ H=>∃ e y dx fs,σ[0]? = some (some (.ref e))∧σ[i]? = some (some y)∧H e=some (.ext (XN e C (some dx)))∧H dx=some (.ext (XD dx fs))∧fs.length≤900∧D.nx σ (upd H dx (.ext (XD dx (putF f y fs))))
section
variable {X:Cx} {C D fI:Addr} {f:Str} {o value:Expr} {i:Nat} {pos pos':Pos}
theorem X1_ (c:XC X.K C D fI) (n:jX_ X.K C f) (ha:PE X o (tVar 0)) (hv:PE X value (tVar i)) (hs:swapsWith value (some (.Attribute o f pos')) pos.line X.env=pure false):PS X (.Assign [.Attribute o f pos'] value pos) (sX1 C f i):=by
 intro pins s σ H Dd I h
 obtain ⟨e,y,h0,hi,he,k⟩:=h
 refine plainObj_wpAny_Assign_Attribute (thn (hv pins s σ H (fun v H'=>v=y∧H'=H) I ⟨y,hi,rfl,rfl⟩) fun u s1 ⟨y',H1,I1,ry,e1,e2⟩=>thn (ha pins s1 σ H1 (fun v H'=>v=.ref e∧H'=H) (by rw [e2] at I1 ⊢;exact I1) ⟨_,h0,rfl,e2⟩) fun ov s2 ⟨x,H2,I2,rx,e3,e4⟩=>?_) hs
 subst e1 e2 e3 e4
 obtain rfl:ov=Value.ref e:=rx
 exact XP_ I2 he c n ry fun s3 dx hn ne I3=>⟨σ,_,I3,k dx hn ne⟩
theorem X0_ (c:XC X.K C D fI) (n:jX_ X.K C f) (ha:PE X o (tVar 0)) (hv:PE X value (tVar i)) (hs:swapsWith value (some (.Attribute o f pos')) pos.line X.env=pure false):PS X (.Assign [.Attribute o f pos'] value pos) (sX2 C f i):=by
 intro pins s σ H Dd I h
 obtain ⟨e,y,dx,fs,h0,hi,he,hd,hl,k⟩:=h
 refine plainObj_wpAny_Assign_Attribute (thn (hv pins s σ H (fun v H'=>v=y∧H'=H) I ⟨y,hi,rfl,rfl⟩) fun u s1 ⟨y',H1,I1,ry,e1,e2⟩=>thn (ha pins s1 σ H1 (fun v H'=>v=.ref e∧H'=H) (by rw [e2] at I1 ⊢;exact I1) ⟨_,h0,rfl,e2⟩) fun ov s2 ⟨x,H2,I2,rx,e3,e4⟩=>?_) hs
 subst e1 e2 e3 e4
 obtain rfl:ov=Value.ref e:=rx
 exact XO_ I2 he hd c n hl ry fun s3 I3=>⟨σ,_,I3,k⟩
end
def spI (C:Addr) (fl:List Str):Sp:=fun vs H Q _=>∃ e args,vs=.ref e::args∧args.length=fl.length∧H e=some (.ext (XN e C none)) ∧
 ((fl=[]∧Q .non H)∨(fl≠[]∧∀ dx,H dx=none→dx≠e→Q .non (upd (upd H dx (.ext (XD dx (fl.zip args)))) e (.ext (XN e C (some dx))))))
section
variable {P:Program} {w:World} {K:Fg} {mg:Str→Option Value} {base:Heap} {qual:Str} {st:Stmt} {f:Addr} {fd:FuncData} {k:Nat} {C D:Addr} {f1 f2 q1 q2 self:Str} {a1 a2 a3 a4 b1 b2 b3 b4:Pos}
theorem zae_ (Fn:Fun K "__init__" qual st f fd) (Sc:FnScope [self,q1,q2] [self,q1,q2] (zb_ st)) (hb:zx_ st=[.Assign [.Attribute (.Name self a1) f1 a2] (.Name q1 a3) a4,.Assign [.Attribute (.Name self b1) f2 b2] (.Name q2 b3) b4]) (c:XC K C D f) (n:jX_ K C f1) (n2:jX_ K C f2) (ne12:f1≠f2)
  (v0:Vis (zb_ st) self:=by first|exact Or.inl rfl|exact Or.inr (Or.inl rfl)|exact Or.inr (Or.inr rfl)) (v1:Vis (zb_ st) q1:=by first|exact Or.inl rfl|exact Or.inr (Or.inl rfl)|exact Or.inr (Or.inr rfl)) (v2:Vis (zb_ st) q2:=by first|exact Or.inl rfl|exact Or.inr (Or.inl rfl)|exact Or.inr (Or.inr rfl))
  (d0:(self==("__debug__" : Str))=false:=by decide) (d1:(q1==("__debug__" : Str))=false:=by decide) (d2:(q2==("__debug__" : Str))=false:=by decide) (c0:(self==("__classdict__" : Str))=false:=by decide) (c1:(q1==("__classdict__" : Str))=false:=by decide) (c2:(q2==("__classdict__" : Str))=false:=by decide):FnOk P w K mg base (CX1 P w) (k+1) f fd [self,q1,q2] (spI C [f1,f2]):=by
 refine fn_x Fn Sc (fun vs H Q E h=>?_) (fun cdv A outer s H vs Q E hr h=>?_)
 ·obtain ⟨e,args,rfl,hl,_⟩:=h;simp at hl ⊢;exact hl
 ·obtain ⟨e,args,rfl,hl,he,h⟩:=h
  match args,hl with
  | [y,z],_ =>
   rw [hb]
   refine ⟨_,uG_ (X1_ (i:=1) c n (jV_ rfl v0 d0 c0) (jV_ rfl v1 d1 c1) rfl) (uG_ (X0_ (i:=2) c n2 (jV_ rfl v0 d0 c0) (jV_ rfl v2 d2 c2) rfl) Z6_),e,y,rfl,rfl,he,fun dx hn ne=>?_⟩
   rcases h with ⟨h,_⟩|⟨_,h⟩
   ·cases h
   ·refine ⟨e,z,dx,[(f1,y)],rfl,rfl,zo_,by rw [zg_ ne,zo_],by simp,?_⟩
    have e1:putF f2 z [(f1,y)]=[(f1,y),(f2,z)]:=by
     show (if f1=f2 then (f1,z)::[] else (f1,y)::putF f2 z [])=_
     rw [if_neg ne12];rfl
    have e2:∀ (a b:HO),upd (upd (upd H dx a) e b) dx (.ext (XD dx [(f1,y),(f2,z)]))=upd (upd H dx (.ext (XD dx [(f1,y),(f2,z)]))) e b:=fun a b=>by
     funext q
     unfold upd
     by_cases q1:q=dx
     ·rw [if_pos q1]
      rw [if_neg (fun z=>ne (q1▸z)),if_pos q1]
     ·rw [if_neg q1]
      by_cases q2:q=e
      ·rw [if_pos q2,if_pos q2]
      ·rw [if_neg q2,if_neg q2,if_neg q1,if_neg q1]
    rw [e1]
    show Q .non _
    rw [e2]
    exact h dx hn ne
end
end L4
set_option Elab.async false
set_option linter.all false
set_option maxRecDepth 100000
namespace L4
open PySem PySem.Spec PyProof.Rows L2 L3
section
variable {M:Model} {A:Around} {E:Value→Shared→Prop} {s:Shared} {env:Env} {K:Fg} {C D fI:Addr}
theorem Z5_ {x:Sem Value} {Q:Flow→Shared→Prop} (c:XC K C D fI) (hh:A.handled=none)
  (h:wpAny M A x (fun v s1=>∃ e oe vs,v=.ref e∧K.In s1.heap∧s1.heap.get? e=some oe∧oe.cls=.ref C∧oe.data=.fields vs∧vs[1]? = some .none∧E (.ref e) s1) E s) :
  wpAny M A (raiseStmt env (some x) none) Q E s:=by
 obtain ⟨nm,q,N,bs,sn,sub,ab,col,dd,k0,k1,k2,k3,k5,lk⟩:=c.obj
 have isB:(Value.ref C::.ref D::bmV).contains (.type "BaseException")=true:=by rfl
 unfold raiseStmt
 refine wpAny_bind (wpAny_mono h (fun v s1 z=>?_) fun _ _ z=>z)
 obtain ⟨e,oe,vs,rfl,X,he,hc,hd,h1,hE⟩:=z
 obtain ⟨hp,g,d,t,os⟩:=s1
 have hC:=X _ _ lk
 repeat (first|(with_reducible refine wpAny_loadPart_at he ?_;rw [hc])|with_reducible refine wpAny_loadPart_at hC ?_|(with_reducible refine wpAny_isSubtype_exc hC ?_;rw [isB])|with_reducible refine wpAny_field he hd h1 ?_|wp_step)
 exact wpAny_raiseNew_none hh hE
end
def MadeX (H H':Hp) (e C:Addr) (fl:List Str) (vs:List V) (dd:Option Addr):Prop :=
 (fl=[]∧dd=none∧H'=upd H e (.ext (XN e C none)))∨(fl≠[]∧∃ dx,dd=some dx∧H dx=none∧dx≠e∧H'=upd (upd (upd H e (.ext (XN e C none))) dx (.ext (XD dx (fl.zip vs)))) e (.ext (XN e C (some dx))))
section
variable {X:Cx} {pins:List (Addr×Obj)} {σ:L2.St} {H:Hp} {s:Shared} {C D fI:Addr} {fd:FuncData} {ps fl:List Str} {k:Nat} {us:List Value} {vs:List V} {Q:Value→Shared→Prop} {E:Value→Shared→Prop}
theorem Qy_ (I:Inv X pins σ H s):Inv X pins σ (upd H (s.heap.objs.size+1) (.ext (XN (s.heap.objs.size+1) C none))) { s with heap:=newX s.heap C us }:=by
 have I1:=I.kept (h':=s.heap.push { cls:=.type "tuple",data:=.seq us.toArray }) (t':=s.toks) fun b u q=>Heap.get?_push_of_some _ q
 refine I1.laid (a:=s.heap.objs.size+1) (t':=s.toks) (h':=newX s.heap C us) (fun b u q=>Heap.get?_push_of_some _ q) (Nat.le_of_eq (Heap.size_push _ _)) ?_
 exact XN.ok ⟨_,_,Yh_,rfl,rfl,rfl,(show 1<6 from by decide),rfl⟩
theorem UQ_ (c:XC X.K C D fI) (Fn:FnOk X.prog X.w X.K X.mg X.base (CX1 X.prog X.w) k fI fd ps (spI C fl)) (hr:Room (k+1) X.A) (hb:L2.Binds X.K fd ps []) (I:Inv X pins σ H s) (r:Vals vs us) (hl:vs.length=fl.length) (hz:us.length≤sizeLine)
  (h:∀ e dd H' s',s.heap.objs.size≤e→Inv X pins σ H' s'→MadeX H H' e C fl vs dd→H' e=some (.ext (XN e C dd))→Q (.ref e) s'):wpAny (model X.prog X.w) X.A (call (.ref C) us) Q E s:=by
 have I2:=Qy_ (C:=C) (us:=us) I
 have hn:H (s.heap.objs.size+1)=none:=I.hok.fresh (Nat.le_succ _)
 obtain ⟨hp,g,d,t,os⟩:=s
 have sp:∀ E',spI C fl (V.ref (hp.objs.size+1)::vs) (upd H (hp.objs.size+1) (.ext (XN (hp.objs.size+1) C none))) (fun v H'=>v=.non∧∃ dd,MadeX H H' (hp.objs.size+1) C fl vs dd∧H' (hp.objs.size+1)=some (.ext (XN (hp.objs.size+1) C dd))) E':=by
  intro E'
  refine ⟨_,vs,rfl,hl,zo_,?_⟩
  by_cases z:fl=[]
  ·exact .inl ⟨z,rfl,none,.inl ⟨z,rfl,rfl⟩,zo_⟩
  ·exact .inr ⟨z,fun dx q ne=>⟨rfl,some dx,.inr ⟨z,dx,rfl,by rw [zg_ ne] at q;exact q,ne,rfl⟩,zo_⟩⟩
 have r2:Vals (V.ref (hp.objs.size+1)::vs) (Value.ref (hp.objs.size+1)::us):=.cons rfl r
 have hl2:((Value.ref (hp.objs.size+1)::us)++[]).length=ps.length:=by
  have e:=r2.length
  rw [Fn.len _ _ _ _ (sp fun _ _ _=>False)] at e
  rw [List.append_nil]
  exact e.symm
 refine call_exc I.kIn c hz (wpAny_call (codeAny_mono (Fn.run _ X.stack _ _ ⟨Value.ref (hp.objs.size+1)::us,[]⟩ (Value.ref (hp.objs.size+1)::us) _ _ (fun _ _ _=>False) (hr.make C us []) (I2.env0.make C us []) (by
  have:=hb _ (Value.ref (hp.objs.size+1)::us) I2.kIn hl2
  rw [List.append_nil] at this
  exact this) r2 (sp _)) fun r s' q=>?_))
 cases r with
 | error e=>obtain ⟨_,_,_,_,_,_,_,_,_,_,z⟩:=q;exact z.elim
 | ok fl' =>
  cases fl' with
  | ret u =>
   obtain ⟨v,H',I3,rv,ev,dd,mk,he⟩:=I2.after q
   subst ev
   exact ⟨rv,h _ dd H' s' (Nat.le_succ _) I3 mk he⟩
  | next=>exact False.elim q
  | brk=>exact False.elim q
  | cont=>exact False.elim q
end
end L4
set_option Elab.async false
set_option linter.all false
set_option maxRecDepth 100000
namespace L4
open PySem PySem.Spec PyProof.Rows L2 L3
structure CCl (P:Program) (w:World) (K:Fg) (mg:Str→Option Value) (base:Heap) (x:Str) (k:Nat) (fl:List Str):Prop where
 ex:∃ C D fI fd ps,XC K C D fI∧FnOk P w K mg base (CX1 P w) k fI fd ps (spI C fl)∧L2.Binds K fd ps []∧mg x=some (.ref C)∧PySem.W.nsIn K mainGlobals x=some (some (.ref C))∧PySem.W.keepIn K (.ref C)=true∧(∀ f∈fl,jX_ K C f)∧PySem.W.exmOne K (.ref C) (.ref C)=some true
def Wv_ {S:Type} (x:Str) (fl:List Str) (ms:Ev S (List D)):SM S:=fun K ρ=>ms K.x (fun ds ρ1=>K.x ⟨x,fl.zip ds⟩ ρ1) ρ
theorem UF_ {K:Fg} {F:Hp}:∀ {fl:List Str} {vs:List V} {ds:List D},RepL K F vs ds→fl.length=vs.length→Paired (fun (p:Str×V) (q:Str×D)=>p.1=q.1∧Rep K F p.2 q.2) (fl.zip vs) (fl.zip ds)
 | [],_,_,.nil,_=>.nil
 | f::fl,_,_,.cons r t,h=>.cons ⟨rfl,r⟩ (UF_ t (by simpa using h))
section
variable {X:Cx} {pins:List (Addr×Obj)} {σ:L2.St} {H H':Hp} {s:Shared} {e C:Addr} {dd:Option Addr} {fl:List Str} {vs:List V} {ds:List D} {G:Gh} {F:Hp} {ρ:En} {x:Str}
theorem Qk_ (I:Inv X pins σ H' s) (hs:X.s₀.heap.objs.size≤e) (hn:H e=none) (mk:MadeX H H' e C fl vs dd) (he:H' e=some (.ext (XN e C dd))) (St:StOk X.K G F σ H ρ) (r:RepL X.K F vs ds) (hl:fl.length=vs.length)
  (hc:PySem.W.nsIn X.K mainGlobals x=some (some (.ref C))) (xw:XW X G F ρ ⟨x,fl.zip ds⟩):X.xe (.ref e) s:=by
 obtain ⟨⟨oe,ws,q1,q2,q3,q4,q5,q6⟩,_⟩:=I.hok e _ he
 have I2:Inv X pins σ (upd H' e (.ext (XO e C dd))) s:=by
  have:=I.write (x:=e) (e:=e) (o:=.ext (XO e C dd)) (h':=s.heap) (t':=s.toks) (by rw [he];exact True.intro) (.inl rfl) (fun b u _ z=>z) ⟨_,q1⟩ (XO.ok ⟨oe,q1,q2,q3,by unfold PySem.W.notCls;rw [q4]⟩)
  exact this
 have low:∀ b u,b≠e→H b=some u→upd H' e (.ext (XO e C dd)) b=some u:=fun b u ne z=>by
  rw [zg_ ne]
  rcases mk with ⟨_,_,rfl⟩|⟨_,dx,_,hd,_,rfl⟩
  ·rw [zg_ ne];exact z
  ·rw [zg_ ne,zg_ (fun y=>by subst y;rw [hd] at z;cases z),zg_ ne];exact z
 have ne:∀ b u,H b=some u→b≠e:=fun b u z y=>by subst y;rw [hn] at z;cases z
 refine xw F _ s e C dd pins σ ⟨fun b u z=>?_,fun b u z=>?_,St.fo,St.fb⟩ I2 ⟨hs,zo_,oe,ws,q1,q2,q3,q4,q5,.inl q6⟩ ⟨hc,?_⟩
 ·have:=St.fh b u z;exact low b u (ne b u this) this
 ·have:=St.oh b u z;exact low b u (ne b u this) this
 ·rcases mk with ⟨z,rfl,_⟩|⟨z,dx,rfl,_,nx,rfl⟩
  ·subst z;exact .inl ⟨rfl,rfl⟩
  ·exact .inr ⟨dx,_,rfl,by rw [zg_ nx,zg_ nx,zo_],UF_ r hl⟩
end
section
variable {S:Type} {X:Cx} {k:Nat} {x:Str} {fl:List Str} {p cpos pos:Pos} {e:Expr} {es:List Expr} {ms:Ev S (List D)}
theorem QM_ (C:CCl X.prog X.w X.K X.mg X.base x k fl) (hr:Room (k+1) X.A) (hg:Gl X x) (ha:AEa X (e::es) ms) (hn:(e::es).length=fl.length) (hz:fl.length≤1000)
  (hdb:(x==("__debug__" : Str))=false) (he:starEach (e::es) X.env=(false,eval e X.env)::starEach es X.env) (hpl:(backTo cpos (starEach es X.env)).any (·.1)=false) :
  AS X (.Raise (some (.Call (.Name x p) (e::es) [] cpos)) none pos) (Wv_ x fl ms):=by
 obtain ⟨Cl,D,fI,fd,ps,c,Fn,hb,hm,hc,kp,_⟩:=C.ex
 intro OK K G F σ H ρ E hO hX St ok eo
 unfold ye_
 intro pins s I
 rw [arm_exec_Raise]
 refine wpAny_bind (wpAny_standAt (Z5_ c hr.hd ?_))
 refine wpAny_bind (wpAny_mono (wpAny_Call_Name_kw (uY_ I hg hm (PySem.W.callWith_K (h₀:=X.base) I.ok.mod.kin kp (Q:=fun v s1=>∃ e oe vs,v=.ref e∧X.K.In s1.heap∧s1.heap.get? e=some oe∧oe.cls=.ref Cl∧oe.data=.fields vs∧vs[1]? = some .none∧X.xe (.ref e) s1) ?_ he hpl) hdb)) (fun v s3 z=>wpAny_bind (wpAny_standAt (wpAny_pure z))) fun _ _ z=>z)
 have ar:uk_ X (e::es) σ H fun vs H1=>∃ F1 ρ1 ds,StOk X.K G F1 σ H1 ρ1∧vs.length=(e::es).length∧RepL X.K F1 vs ds∧OK (K.x ⟨x,fl.zip ds⟩ ρ1) :=
  ha OK K.x _ G F σ H ρ _ hO hX St ok fun ds vs F1 H1 ρ1 s1 S1 hl r1 o1=>⟨F1,ρ1,ds,S1,hl,r1,o1⟩
 unfold uk_ at ar
 refine thn (ar cpos pins s I) fun us s1 ⟨vs,H1,I1,rv,F1,ρ1,ds,S1,hl,r1,o1⟩=>⟨I1.kIn,?_⟩
 have hlv:vs.length=fl.length:=hl.trans hn
 refine UQ_ (vs:=vs) c Fn hr hb I1 rv hlv (by rw [List.nil_append,←rv.length,hlv];exact Zw_ hz) fun a dd H2 s2 hs I2 mk hh=>?_
 obtain ⟨⟨oe,ws,q1,q2,q3,q4,q5,q6⟩,_⟩:=I2.hok a _ hh
 exact ⟨a,oe,ws,rfl,I2.kIn,q1,q2,q4,q6,Qk_ I2 (Nat.le_trans I1.sz hs) (I1.hok.fresh hs) mk hh S1 r1 hlv.symm hc (hX F1 ρ1 _ o1)⟩
end
end L4
set_option Elab.async false
set_option linter.all false
set_option maxRecDepth 100000
namespace L4
open PySem PySem.Spec PyProof.Rows L2 L3
section
variable {prog:Program} {w:World} {A:Around} {E:Value→Shared→Prop} {s:Shared} {env:Env} {K:Fg} {e C:Addr}
theorem Yv_ {t:Expr} {n:Str} {b0:Stmt} {suite:List Stmt} {pos:Pos} {rest:List ExceptHandler} {Q:Flow→Shared→Prop}
  (h:wpAny (model prog w) (A.mark (some (.ref e))) (eval t env) (fun c s1=>K.In s1.heap∧PySem.W.exmOne K (.ref C) c=some true∧(∃ oe,s1.heap.get? e=some oe∧oe.cls=.ref C) ∧
   wpAny (model prog w) (A.mark (some (.ref e))) (setFlight (.ref e) none) (fun _ s2=>wpAny (model prog w) (A.mark (some (.ref e))) (storeName env n (.ref e)) (fun _ s3 =>
    wpAny (model prog w) (A.mark (some (.ref e))) (execs (b0::suite) env) (fun f s4=>wpAny (model prog w) A (do bindName env n .none;unbindBehindTheSuite env n pos) (fun _ s5=>Q f s5) E s4) (fun _ _=>False) s3) (fun _ _=>False) s2) (fun _ _=>False) s1) (fun _ _=>False) s) :
  wpAny (model prog w) A (handleBy (.ref e) env (.ExceptHandler (some t) (some n) (b0::suite) pos::rest)) Q E s:=by
 refine wpAny_handleBy_cons (codeAny_handlers_test (wpAny_mono h (fun c s1 z=>?_) fun _ _ z=>z.elim)) (fun z=>nomatch z)
 obtain ⟨X,hx,⟨oe,he,hc⟩,k⟩:=z
 have LT:PySem.W.Looks (model prog w) s1.heap (typeOf (.ref e)) (.ref C):=hc▸(PySem.W.Looks.ld he).andThen .now
 obtain ⟨hp,g,d,tk,os⟩:=s1
 refine (PySem.W.exm_one (M:=model prog w) X LT hx).at ?_
 refine codeAny_handlers_suite_as (wpAny_mono k (fun _ s2 k2=>wpAny_mono k2 (fun _ s3 k3=>wpAny_mono k3 (fun f s4 k4=>k4) fun _ _ z=>z.elim) fun _ _ z=>z.elim) fun _ _ z=>z.elim)
theorem name_goes {n:Str} {pos:Pos} {m:Str→Option Value} {Q:Unit→Shared→Prop} (hl:env.kindOf n=some .local) (hn:s.heap.Ns env.locals m) (hk:env.scope.kind=.function)
  (k:∀ h' v t',h'.Ns env.locals (fun y=>if y=n then v else m y)→Heap.SameBut env.locals s.heap h'→Q () { s with heap:=h',toks:=t' }):wpAny (model prog w) A (do bindName env n .none;unbindBehindTheSuite env n pos) Q E s:=by
 have hc:(env.scope.kind==.class||(env.scope.kind==.module&&env.locals != env.globals))=false:=by rw [hk];rfl
 refine wpAny_bind (wpAny_bindName (wpAny_storeName_local hl hn (fun h1 n1 b1=>?_) hc))
 simp only [unbindBehindTheSuite,unbindName]
 refine wpAny_onRaise (wpAny_bind (wpAny_point (wpAny_bind ?_)))
 unfold deleteName
 simp only [hl,hc]
 rw [if_neg (by decide)]
 refine wpAny_bind (wpAny_nsDel_keeps n1 fun h2 v n2 b2=>?_)
 simp only [if_true,Option.isSome_some,Bool.not_true,Bool.false_eq_true,if_false]
 refine wpAny_pure (wpAny_point (k h2 v _ ?_ (b1.trans b2)))
 refine (show (fun y=>if y=n then v else if y=n then some Value.none else m y)=(fun y=>if y=n then v else m y) from ?_)▸n2
 funext y
 by_cases q:y=n
 ·rw [if_pos q,if_pos q]
 ·rw [if_neg q,if_neg q,if_neg q]
end
section
variable {X:Cx} {pins:List (Addr×Obj)} {σ:L2.St} {H:Hp} {s:Shared} {j:Nat} {n:Str} {A:Around} {E:Value→Shared→Prop}
theorem VY_ {pos:Pos} {Q:Unit→Shared→Prop} (I:Inv X pins σ H s) (hN:X.N.Nodup) (hj:X.N[j]? = some n) (hl:X.env.kindOf n=some .local)
  (k:∀ s',Inv X pins (σ.set j none) H s'→Q () s'):wpAny (model X.prog X.w) A (do bindName X.env n .none;unbindBehindTheSuite X.env n pos) Q E s:=by
 obtain ⟨m,hn,hv⟩:=id I.loc
 refine name_goes hl hn I.ok.kind fun h' v t' n1 b1=>k _ ?_
 have neL:∀ b o,X.s₀.heap.get? b=some o→b≠X.env.locals:=fun b o q=>Nat.ne_of_lt (Nat.lt_of_lt_of_le (Heap.lt_size q) I.ok.above)
 refine ⟨I.ok,I.os,I.bare,⟨fun b o q z hb hx=>?_,fun b o q z hb hx=>?_,I.base.free,fun b o q hx=>?_,I.base.tups,I.base.frzs,I.base.tbls⟩,⟨_,n1,fun i x u q1 q2 q3=>?_⟩,fun x c q=>?_,I.free,I.freeC,fun p hp=>?_,fun b o q=>?_,by simpa using I.len⟩
 ·exact (b1.2 b (neL b o q)).trans (I.base.keep b o q z hb hx)
 ·obtain ⟨sl,r⟩:=I.base.slot b o q z hb hx
  exact ⟨sl,(b1.2 b (neL b o q)).trans r⟩
 ·obtain ⟨o',r⟩:=I.base.there b o q hx
  exact ⟨o',(b1.2 b (neL b o q)).trans r⟩
 ·have ne:i≠j:=fun z=>by
   subst z
   have hi:i<σ.length:=by rw [I.len];exact (List.getElem?_eq_some_iff.mp q1).1
   rw [List.getElem?_set_self hi] at q2
   cases q2
  rw [List.getElem?_set_ne (Ne.symm ne)] at q2
  obtain ⟨w',r,l⟩:=hv i x u q1 q2 q3
  refine ⟨w',r,?_⟩
  rcases l with ⟨l1,l2⟩|⟨l1,c,l2,l3⟩
  ·refine .inl ⟨l1,?_⟩
   have nx:x≠n:=fun z=>by subst z;exact ne (yW_ hN q1 hj)
   show (if x=n then v else m x)=_
   rw [if_neg nx];exact l2
  ·refine .inr ⟨l1,c,l2,?_⟩
   obtain ⟨oc,g1,g2⟩:=l3
   exact ⟨oc,(b1.2 c (I.cne x c l2)).trans g1,g2⟩
 ·obtain ⟨v',oc,g1,g2⟩:=I.cell x c q
  exact ⟨v',oc,(b1.2 c (I.cne x c q)).trans g1,g2⟩
 ·obtain ⟨g1,g2,g3,g4⟩:=I.pin p hp
  exact ⟨(b1.2 p.1 g3).trans g1,g2,g3,g4⟩
 ·refine (I.hok b o q).stay (fun c u hc r=>(b1.2 c ?_).trans r) (fun _ r=>r) fun _ _ r=>r
  rintro rfl
  rcases hc with z|z
  ·rw [←z,I.free] at q;cases q
  ·rw [I.free] at z;cases z
abbrev cau (X:Cx) (e:Addr):Cx:={ X with A:=X.A.mark (some (.ref e)),calm:=false,xe:=fun _ _=>False }
theorem ZO_ {e:Addr} (I:Inv X pins σ H s):Inv (cau X e) pins σ H s :=
 ⟨⟨I.ok.mod,I.ok.kind,I.ok.glob,I.ok.blt,I.ok.above,I.ok.inj,I.ok.has,I.ok.cab,(fun z=>nomatch z),I.ok.frames,I.ok.stk,I.ok.exf,I.ok.bs,I.ok.bsz,I.ok.noex,I.ok.exfs,I.ok.funs,I.ok.frf⟩,I.os,I.bare,I.base,I.loc,I.cell,I.free,I.freeC,I.pin,I.hok,I.len⟩
theorem Uy_ {e:Addr} (h:X.calm=true→X.A.handled=none) (I:Inv (cau X e) pins σ H s):Inv X pins σ H s :=
 ⟨⟨I.ok.mod,I.ok.kind,I.ok.glob,I.ok.blt,I.ok.above,I.ok.inj,I.ok.has,I.ok.cab,h,I.ok.frames,I.ok.stk,I.ok.exf,I.ok.bs,I.ok.bsz,I.ok.noex,I.ok.exfs,I.ok.funs,I.ok.frf⟩,I.os,I.bare,I.base,I.loc,I.cell,I.free,I.freeC,I.pin,I.hok,I.len⟩
end
def tXat (K:Fg) (ta:TE) (f:Str):TE:=fun σ H Q=>ta σ H fun x H1=>∃ a C D fI dx fv v,x=.ref a∧XC K C D fI∧jX_ K C f∧H1 a=some (.ext (XO a C (some dx)))∧H1 dx=some (.ext (XD dx fv))∧fv.lookup f=some v∧Q v H1
theorem Q0_ {X:Cx} {o:Expr} {ta:TE} {f:Str} {pos:Pos} (ha:PE X o ta) (hb:attributeBase o f X.env (eval o X.env)=eval o X.env):PE X (.Attribute o f pos) (tXat X.K ta f):=by
 intro pins s σ H Q I h
 refine Wc_ hb (thn (ha pins s σ H _ I h) fun u s1 ⟨x,H1,I1,rx,a,C,D,fI,dx,fv,v,ex,c,n,h1,h2,l,q⟩=>?_)
 subst ex
 obtain rfl:u=Value.ref a:=rx
 obtain ⟨⟨oe,q1,q2,q3,q4⟩,_⟩:=I1.hok a _ h1
 obtain ⟨⟨mA,na,wi,r⟩,_⟩:=I1.hok dx _ h2
 obtain ⟨cd,k1,k2,k3⟩:=YK_ c
 obtain ⟨od,z1,hlk⟩:=Yj_ na
 have It:PySem.W.InstAt s1.heap a oe C (some od):=⟨q1,q2,q4,by rw [q3];exact z1⟩
 obtain ⟨u,hu,ru⟩:=RelO.some_of (v:=v) (o:=mA f) (by rw [←l];exact r f)
 have lk:PySem.W.lookIn f od=some (some u):=by rw [hlk,hu]
 refine VZ_ I1.kIn It c.ga c.gr (by unfold PySem.W.mroIn;rw [k1,Option.bind_some,k2];rfl) (PySem.W.findObj_own (by unfold PySem.W.hasDictIn;rw [k1];exact k3) n rfl lk) (Yw_ ru) ⟨v,H1,I1.tok _,ru,q⟩
end L4
set_option Elab.async false
set_option linter.all false
set_option maxRecDepth 100000
namespace L4
open PySem PySem.Spec PyProof.Rows L2 L3
section
variable {M:Model} {A:Around} {E:Value→Shared→Prop} {s:Shared} {e C:Addr} {dd:Option Addr} {H:Hp} {lo:Nat}
theorem flight_again {Q:Unit→Shared→Prop} (fs:List Addr) (xs:XS H s.heap lo e C dd) (k:∀ h',Mv fs s.heap h' e→XS H h' lo e C dd→Q () { s with heap:=h' }):wpAny M A (setFlight (.ref e) none) Q E s:=by
 obtain ⟨oe,vs,he,hc,hdd,hd,hz,tb⟩:=xs.obj
 simp only [setFlight]
 rcases tb with tb|⟨T,oT,ts,tb,hTe,hTl,hTn,hT,hTd,t3⟩
 ·refine wpAny_bind (wpAny_field he hd tb ?_)
  rw [if_neg (by decide)]
  exact wpAny_pure (k s.heap ⟨fun _ _ q _ _ _=>q,fun b o q _ _=>⟨o.slots,q⟩,fun b o q=>⟨o,q⟩⟩ xs)
 ·refine wpAny_bind (wpAny_field he hd tb ?_)
  rw [if_pos (by simp)]
  have z3:3<ts.size:=(Array.getElem?_eq_some_iff.mp t3).1
  have isT:TbOf s.heap e T:=⟨oe,vs,he,hd,tb⟩
  have off:∀ b,b≠T→(s.heap.update T (Obj.mapFields (·.setIfInBounds 3 ((none:Option Addr).elim Value.none fun f=>rawInt f)))).get? b=s.heap.get? b:=fun b hb=>Heap.get?_update_other _ _ (Ne.symm hb)
  have T0:(s.heap.update T (Obj.mapFields (·.setIfInBounds 3 ((none:Option Addr).elim Value.none fun f=>rawInt f)))).get? T=some (oT.mapFields (·.setIfInBounds 3 ((none:Option Addr).elim Value.none fun f=>rawInt f))):=Heap.get?_update_self _ hT (Obj.isFreed_of_fields (Obj.data_mapFields hTd _))
  have nt:∀ b,¬ TbOf s.heap e b→b≠T:=fun b z q=>z (q▸isT)
  refine wpAny_setField hT hTd z3 (k _ ⟨fun b o q _ _ z=>(off b (nt b z)).trans q,fun b o q _ z=>⟨o.slots,(off b (nt b z)).trans q⟩,fun b o q=>?_⟩ ⟨xs.yg,xs.trk,oe,vs,(off e (Ne.symm hTe)).trans he,hc,hdd,hd,hz,.inr ⟨T,_,_,tb,hTe,hTl,hTn,T0,Obj.data_mapFields hTd _,by simp [z3]⟩⟩)
  by_cases z:b=T
  ·subst z;exact ⟨_,T0⟩
  ·exact ⟨o,(off b z).trans q⟩
end
def YF_ (ρ:En) (j:Nat):Bool:=match ρ[j]? with
 | some (some _)=>false
 | _=>true
theorem V7_ {ρ:En} {j:Nat} (h:YF_ ρ j=true):∀ av,ρ[j]? ≠ some (some av):=fun av z=>by
 unfold YF_ at h
 rw [z] at h
 cases h
theorem _root_.L3.StOk.setdead {K:Fg} {G:Gh} {F H:Hp} {σ:L2.St} {ρ:En} (S:StOk K G F σ H ρ) {j:Nat} (hj:∀ av,ρ[j]? ≠ some (some av)) (u:Option V):StOk K G F (σ.set j u) H ρ:=by
 have ne:∀ i av,ρ[i]? = some (some av)→i≠j:=fun i av q z=>by subst z;exact hj av q
 have at_:∀ i av,ρ[i]? = some (some av)→(σ.set j u)[i]? = σ[i]?:=fun i av q=>List.getElem?_set_ne (Ne.symm (ne i av q))
 have ao:∀ i c,own ρ i c→(σ.set j u)[i]? = σ[i]?:=fun i c q=>by rcases q with q|q<;>exact at_ i _ q
 refine ⟨S.fh,S.oh,S.fo,by simpa using S.ln,fun i d q=>by rw [at_ i _ q];exact S.fz i d q,fun i c q=>by rw [ao i c q];exact S.ow i c q,fun i k c e a q1 q2 z1 z2=>?_,fun i a q=>?_,S.pq,S.fb⟩
 ·rw [ao i c q1] at z1
  rw [ao k e q2] at z2
  exact S.dj i k c e a q1 q2 z1 z2
 ·obtain ⟨z1,c,z2⟩:=S.pp i a q
  exact ⟨by rw [at_ i _ z2];exact z1,c,z2⟩
theorem Xr_ {K:Fg} {G:Gh} {F F' H H':Hp} {vs:List V} {ds:List D} (S:StOk K G F (vs.map some) H (fzs ds)) (g:GOk G F' H') (s:Same F F'):StOk K G F' (vs.map some) H' (fzs ds):=by
 refine ⟨g.fh,g.oh,g.fo,S.ln,fun i d q=>?_,fun i c q=>(jJ_ q).elim,fun i j c e a q=>(jJ_ q).elim,S.pp,S.pq,g.fb⟩
 obtain ⟨v,e,r⟩:=S.fz i d q
 exact ⟨v,e,r.mono s⟩
def tryD (x c:Str) (gl:List Str) (ex:Ex):Option D:=if ex.cls=x then (gl.mapM fun f=>ex.fs.lookup f).map fun ws=>.tuple (.str c::ws) else none
def tryM (m:M D) (x c:Str) (gl:List Str):M D:=match m with
 | .ret d=>.ret d
 | .exc ex=>oM (tryD x c gl ex)
 | .bad=>.bad
def XR_ {S:Type} (i j:Nat) (ms:Ev S (List D)) (mf:List D→M D) (x c:Str) (gl:List Str):SM S:=fun K ρ=>ms (fun _ _=>.bad) (fun ds ρ1=>match yj_ ρ1 i&&YF_ ρ1 j with
 | true=>bd (tryM (mf ds) x c gl) fun t=>K.nx (ρ1.set i (some (.fz t)))
 | false=>.bad) ρ
def tXs (K:Fg) (j:Nat):List Str→TA
 | []=>tNil
 | f::r=>Qa_ (tXat K (tVar j) f) (tXs K j r)
theorem yD_ {K:Fg} {F:Hp} {f:Str}:∀ {fv:List (Str×V)} {fs:List (Str×D)} {d:D},Paired (fun (p:Str×V) (q:Str×D)=>p.1=q.1∧Rep K F p.2 q.2) fv fs→fs.lookup f=some d→∃ v,fv.lookup f=some v∧Rep K F v d
 | _,_,d,.nil,h=>by cases h
 | (a,v)::_,(b,e)::_,d,.cons ⟨r1,r2⟩ t,h=>by
  dsimp only at r1 r2
  subst r1
  rw [List.lookup_cons] at h ⊢
  cases q:f==a with
  | true=>rw [q] at h;cases h;exact ⟨v,rfl,r2⟩
  | false=>rw [q] at h;exact yD_ t h
theorem Wm_ {K:Fg} {F H:Hp} {σ:L2.St} {j:Nat} {a C B fI dx:Addr} {fv:List (Str×V)} {fs:List (Str×D)} (hj:σ[j]? = some (some (.ref a))) (c:XC K C B fI) (h1:H a=some (.ext (XO a C (some dx)))) (h2:H dx=some (.ext (XD dx fv))) (hp:Paired (fun (p:Str×V) (q:Str×D)=>p.1=q.1∧Rep K F p.2 q.2) fv fs) :
  ∀ {gl:List Str} {ws:List D} {Q:List V→Hp→Prop},(∀ f∈gl,jX_ K C f)→(gl.mapM fun f=>fs.lookup f)=some ws→(∀ vs,vs.length=gl.length→RepL K F vs ws→Q vs H)→tXs K j gl σ H Q
 | [],ws,Q,_,h,k=>by cases h;exact k [] rfl .nil
 | f::r,ws,Q,n,h,k=>by
  rw [List.mapM_cons] at h
  obtain ⟨d,e1,h⟩:=Option.bind_eq_some_iff.mp h
  obtain ⟨ds,e2,h⟩:=Option.bind_eq_some_iff.mp h
  cases h
  obtain ⟨v,lv,rv⟩:=yD_ hp e1
  refine ⟨.ref a,hj,a,C,B,fI,dx,fv,v,rfl,c,n f List.mem_cons_self,h1,h2,lv,?_⟩
  exact Wm_ hj c h1 h2 hp (fun g hg=>n g (List.mem_cons_of_mem _ hg)) e2 fun vs hl r=>k (v::vs) (by simp [hl]) (.cons rv r)
section
variable {S:Type} {X:Cx} {k k' m i j:Nat} {mf:List D→M D} {g x n c v:Str} {fl gl:List Str} {e:Expr} {es ts:List Expr} {ms:Ev S (List D)} {pv pg pc pa pC pv2 pt pa2 ph pos pk:Pos} {kc:Option Str} {k2:Nat}
theorem We_ (C:CF X.prog X.w X.K X.mg X.base g k (spD X.K m mf)) (Cc:CCl X.prog X.w X.K X.mg X.base x k' fl) (hr:Room k X.A) (hg:Gl X g) (hgx:Gl X x) (ha:∀ E,AEa (X.wish E) (e::es) ms) (hn:(e::es).length=m)
  (hN:X.N.Nodup) (hi:X.N[i]? = some v) (hj:X.N[j]? = some n) (hij:i≠j) (hv:Loc X.env.scope v) (hnl:X.env.scope.names.lookup n=some .local) (stk:X.stack=X.env::X.outer) (frm:X.env.frame=some X.env.locals) (hgl:∀ f∈gl,f∈fl) (g0:gl≠[]) (hsz:ts.length≤1000)
  (ht:∀ a,PA (cau X a) ts (Qa_ (tC (.str c)) (tXs X.K j gl))) (htl:ts.length=gl.length+1)
  (hf:X.fn v=true∨X.env.scope.names.lookup v=some .local)
  (hs:swapsWith (.Call (.Name g pg) (e::es) [] pc) (some (.Name v pv)) pa.line X.env=pure false) (hs2:swapsWith (.Tuple ts k2 pt) (some (.Name v pv2)) pa2.line X.env=pure false)
  (hdb:(g==("__debug__" : Str))=false) (hdx:(x==("__debug__" : Str))=false) (he:starEach (e::es) X.env=(false,eval e X.env)::starEach es X.env) (hpl:(backTo pc (starEach es X.env)).any (·.1)=false) :
  AS X (.Try [.Assign [.Name v pv] (.Call (.Name g pg) (e::es) [] pc) pa] [.ExceptHandler (some (.Name x pC)) (some n) [.Assign [.Name v pv2] (.Tuple ts k2 pt) pa2] ph] [] [] pos) (XR_ i j ms mf x c gl):=by
 obtain ⟨f,fd,ps,Fn,hm,kp,hb⟩:=C.ex
 obtain ⟨Cl,B,fI,fd',ps',xc,_,_,hmx,hcx,_,hna,hex⟩:=Cc.ex
 intro OK K G F σ H ρ E hO hX St ok eo
 unfold ye_
 intro pins s I
 rw [arm_exec_Try]
 refine wpAny_bind (wpAny_standAt (wpAny_tryStmt_except (wpAny_execs_cons (wpAny_Assign_Name ?_ hs))))
 generalize hXE:(fun (e:Value) (s1:Shared)=>wpAny (model X.prog X.w) X.A (noteFrame e X.env) (fun _ s2=>wpAny (model X.prog X.w) X.A (setFlight e none) (fun _ s3=>wpAny (model X.prog X.w) X.A (handleBy e X.env [.ExceptHandler (some (.Name x pC)) (some n) [.Assign [.Name v pv2] (.Tuple ts k2 pt) pa2] ph]) (SP X pins E) X.xe s3) X.xe s2) X.xe s1)=XE
 refine wpAny_Call_Name_kw (uY_ I hg hm (PySem.W.callWith_K (h₀:=X.base) I.ok.mod.kin kp ?_ he hpl) hdb)
 have ar:uk_ (X.wish XE) (e::es) σ H fun vs H1=>∃ F1 ρ1 ds,Same F F1∧StOk X.K G F1 σ H1 ρ1∧vs.length=(e::es).length∧RepL X.K F1 vs ds∧OK (match yj_ ρ1 i&&YF_ ρ1 j with|true=>bd (tryM (mf ds) x c gl) fun t=>K.nx (ρ1.set i (some (.fz t)))|false=>.bad) :=
  ha XE OK _ _ G F σ H ρ _ hO (fun _ _ _ z=>(hO z).elim) St ok fun ds vs F1 H1 ρ1 s1 S1 hl r1 o1=>⟨F1,ρ1,ds,s1,S1,hl,r1,o1⟩
 unfold uk_ at ar
 refine thn (ar pc pins s (I.wish _)) fun us s1 ⟨vs,H1,I1',rv,F1,ρ1,ds,sm1,S1,hl,r1,o1⟩=>⟨I1'.kIn,?_⟩
 have I1:Inv X pins σ H1 s1:=I1'.unwish
 cases hq:(yj_ ρ1 i&&YF_ ρ1 j) with
 | false=>rw [hq] at o1;exact (hO o1).elim
 | true =>
 rw [hq] at o1
 rw [Bool.and_eq_true] at hq
 obtain ⟨il,iop⟩:=jp_ hq.1
 have jd:=V7_ hq.2
 have o1:OK (bd (tryM (mf ds) x c gl) fun t=>K.nx (ρ1.set i (some (.fz t)))):=o1
 have pre:=jM_ S1 r1
 have sp:spD X.K m mf vs H1 (fun u H2=>∃ F2 d,mf ds=.ret d∧Same F1 F2∧StOk X.K G F2 σ H2 ρ1∧Rep X.K F2 u d) (fun cv dd H2=>∃ ex F2 C',cv=.ref C'∧mf ds=.exc ex∧Same F1 F2∧StOk X.K G F2 σ H2 ρ1∧XR X.K F2 H2 C' dd ex):=by
  refine ⟨_,F1,ds,hl.trans hn,pre,?_⟩
  cases hd:mf ds with
  | bad=>rw [hd] at o1;exact (hO o1).elim
  | ret d =>
   intro u F2 H2 s2 S2 r2
   exact ⟨F2,d,rfl,s2,(jR_ (avs':=ds.map AV.fz) S1 s2 S2).1,r2⟩
  | exc ex =>
   intro F2 H2 C' dd g xr
   exact ⟨ex,F2,C',rfl,rfl,g.fb,(jR_ (avs':=ds.map AV.fz) S1 g.fb (Xr_ pre g g.fb)).1,xr⟩
 have hlen:([]++us++([]:List Value)).length=ps.length:=by
  rw [List.append_nil,List.nil_append,←rv.length];exact Fn.len _ _ _ _ sp
 have bnd:=hb s1 ([]++us) I1.kIn hlen
 rw [List.append_nil] at bnd
 refine wpAny_call (codeAny_mono (Fn.run X.A X.stack s1 H1 ⟨[]++us,[]⟩ ([]++us) vs _ _ hr I1.env0 bnd rv sp) fun r s' hq'=>?_)
 have fin:∀ {F2:Hp} {σ2:L2.St} {H2:Hp} {ρ2:En} {s2:Shared},Same F1 F2→Inv X pins σ2 H2 s2→StOk X.K G F2 σ2 H2 ρ2→OK (K.nx ρ2)→SP X pins E .next s2:=fun {F2 σ2 H2 ρ2 s2} sm I2 S2 o2=>⟨σ2,H2,I2,eo.nx F2 σ2 H2 ρ2 (sm1.trans sm) S2 o2⟩
 cases r with
 | ok fl' =>
  cases fl' with
  | next=>exact False.elim hq'
  | brk=>exact False.elim hq'
  | cont=>exact False.elim hq'
  | ret u =>
   obtain ⟨y,H2,I2,ry,F2,d,hd,sm2,S2,r2⟩:=I1.after hq'
   rw [hd] at o1
   refine uF_ I2 hN hi hv ry (fun s3 I3=>?_) hf
   refine wpAny_execs_nil (wpAny_execs_nil ?_)
   exact fin sm2 I3 (S2.store iop il (.inl ⟨d,rfl,r2⟩)) o1
 | error ev =>
  obtain ⟨a,C',dd,H2,rfl,hos,hba,un,hk,xs,ex,F2,C'',ec,hd,sm2,S2,xr⟩:=hq'
  cases ec
  have I2:Inv X pins σ H2 s':=I1.call' hos un hk hba fun b z=>absurd z (by simp)
  subst hXE
  rw [hd] at o1
  cases htd:tryD x c gl ex with
  | none=>rw [show tryM (M.exc ex) x c gl=oM (tryD x c gl ex) from rfl,htd] at o1;exact (hO o1).elim
  | some t =>
  rw [show tryM (M.exc ex) x c gl=oM (tryD x c gl ex) from rfl,htd] at o1
  have o1:OK (K.nx (ρ1.set i (some (.fz t)))):=o1
  unfold tryD at htd
  split at htd
  case isFalse=>cases htd
  rename_i hcls
  obtain ⟨ws,hws,et⟩:=Option.map_eq_some_iff.mp htd
  subst et
  obtain ⟨xr1,xr2⟩:=xr
  rw [hcls,hcx] at xr1
  cases xr1
  have hlo:X.s₀.heap.objs.size≤s1.heap.objs.size:=I1.sz
  have pinlt:∀ p∈X.pn++pins,p.1<s1.heap.objs.size:=fun p hp=>Heap.lt_size (I1.pin p hp).1
  have npin:∀ {h:Heap},XS H2 h s1.heap.objs.size a Cl dd→∀ p∈X.pn++pins,¬ TbOf h a p.1:=fun y p hp z=>absurd (Nat.lt_of_lt_of_le (pinlt p hp) (y.tb z).2.1) (Nat.lt_irrefl _)
  refine JO_ (base:=X.base) (env:=X.env) (outer:=X.outer) (L:=X.env.locals) (P:=X.prog) (w:=X.w) (I2.ok.frames.trans (congrArg some stk)) (stk▸I2.stack) frm I2.hok xs fun h3 m3 xs3=>?_
  have I3:Inv X pins σ H2 { s' with heap:=h3 }:=Inv.mv I2 (by rw [stk];exact m3) xs xs3 hlo (npin xs) s'.toks
  refine Yv_ (K:=X.K) (C:=Cl) (uY_ (X:=cau X a) (ZO_ I3) hgx hmx ⟨I3.kIn,hex,?_,?_⟩ hdx)
  ·obtain ⟨oe,_,q1,q2,_⟩:=xs3.obj
   exact ⟨oe,q1,q2⟩
  refine flight_again (s:={ s' with heap:=h3 }) (frs X.stack) xs3 fun h4 m4 xs4=>?_
  have I4:Inv X pins σ H2 { s' with heap:=h4 }:=Inv.mv (s:={ s' with heap:=h3 }) I3 m4 xs3 xs4 hlo (npin xs3) s'.toks
  refine uF_ I4 hN hj (.inl hnl) (v:=.ref a) rfl (fun s5 I5=>?_) (.inr hnl)
  have hjl:j<σ.length:=by rw [I1.len];exact (List.getElem?_eq_some_iff.mp hj).1
  have atj:(σ.set j (some (V.ref a)))[j]? = some (some (V.ref a)):=List.getElem?_set_self hjl
  have suite:=uG_ (UV_ (X:=cau X a) hN hi hv (Q1_ (ht a)) hs2 hf) (Z6_ (X:=cau X a))
  have S3:=S2.setdead jd (some (V.ref a))
  have rd:(tTup (Qa_ (tC (.str c)) (tXs X.K j gl))) (σ.set j (some (V.ref a))) H2 fun y H6=>∃ p vs,H2 p=none∧RepL X.K F2 vs (.str c::ws)∧(σ.set j (some (V.ref a))).set i (some y)=(σ.set j (some (V.ref a))).set i (some (V.ref p))∧H6=upd H2 p (.tup vs):=by
   have go:∀ vs,vs.length=gl.length→RepL X.K F2 vs ws→(V.str c::vs).length≤sizeLine∧∀ p,H2 p=none→∃ p' vs',H2 p'=none∧RepL X.K F2 vs' (.str c::ws)∧(σ.set j (some (V.ref a))).set i (some (V.ref p))=(σ.set j (some (V.ref a))).set i (some (V.ref p'))∧upd H2 p (.tup (V.str c::vs))=upd H2 p' (.tup vs'):=fun vs hl r =>
    ⟨Zw_ (by rw [List.length_cons,hl];omega),fun p hp=>⟨p,_,hp,.cons (.str c) r,rfl,rfl⟩⟩
   rcases xr2 with ⟨z,_⟩|⟨dx,fv,rfl,hdx',hpr⟩
   ·exfalso
    rw [z] at hws
    cases gl with
    | nil=>exact g0 rfl
    | cons f r=>rw [List.mapM_cons] at hws;cases hws
   ·exact Wm_ atj xc xs4.trk hdx' hpr (fun f hf=>hna f (hgl f hf)) hws go
  refine wpAny_mono (suite pins s5 _ H2 { nx:=fun σ6 H6=>∃ p vs,H2 p=none∧RepL X.K F2 vs (.str c::ws)∧σ6=(σ.set j (some (V.ref a))).set i (some (V.ref p))∧H6=upd H2 p (.tup vs),rt:=fun _ _=>False,bk:=fun _ _=>False,ct:=fun _ _=>False } (ZO_ I5) ?_) (fun f s6 z=>?_) fun _ _ z=>z
  ·exact rd
  ·cases f with
   | next =>
    obtain ⟨σ6,H6,I6,p,vs6,hp6,r6,rfl,rfl⟩:=z
    refine VY_ (Uy_ I2.ok.hd I6) hN hj hnl fun s7 I7=>?_
    obtain ⟨sm3,S4,r4⟩:=S3.newTup hp6 r6
    refine fin (sm2.trans sm3) I7 (StOk.setdead (S4.store iop il (.inl ⟨_,rfl,r4⟩)) (fun av=>?_) none) o1
    rw [List.getElem?_set_ne hij]
    exact jd av
   | brk=>obtain ⟨_,_,_,z⟩:=z;exact z.elim
   | cont=>obtain ⟨_,_,_,z⟩:=z;exact z.elim
   | ret u=>obtain ⟨_,_,_,_,_,z⟩:=z;exact z.elim
end
end L4
set_option Elab.async false
set_option linter.all false
set_option maxRecDepth 100000
namespace L4
open PySem PySem.Spec PyProof.Rows L2 L3
theorem av {X:Cx} (i:Nat) {x:Str} {pos:Pos} (hN:X.N[i]? = some x:=by rfl) (hv:Vis X.env.scope x:=by first|exact Or.inl rfl|exact Or.inr (Or.inl rfl)|exact Or.inr (Or.inr rfl))
  (hd:(x==("__debug__" : Str))=false:=by decide) (hcd:(x==("__classdict__" : Str))=false:=by decide):AP X (.Name x pos) (pVar i):=XD_ hN hv hd hcd
end L4
set_option Elab.async false
set_option linter.all false
set_option maxRecDepth 100000
namespace L4
open PySem PySem.Spec PyProof.Rows L2 L3
inductive Ty where
 | tup|lst|str
def Ty.s:Ty→String
 | .tup => "tuple"
 | .lst => "list"
 | .str => "str"
def onT {S:Type} (t:Ty) (d:D) (m:M S):M S:=match t,d with
 | .tup,.tuple _=>m
 | .lst,.list _=>m
 | .str,.str _=>m
 | _,_=>.bad
def tyW (K:Fg) (T:String) (x:V) (H:Hp):Prop:=tyV K T x H∨(T = "tuple" ∧ ∃ p xs,x=.ref p∧H p=some (.tup xs))
theorem Wn_ {X:Cx} {pins:List (Addr×Obj)} {σ:L2.St} {H:Hp} {s:Shared} {T:String} {x:V} {v:Value} (I:Inv X pins σ H s) (r:RelV x v) (ty:tyW X.K T x H) :
  s.TypeIs v T∧∀ a,v=.ref a→∃ ob,s.heap.get? a=some ob∧ob.dict=none:=by
 rcases ty with ty|⟨rfl,p,xs,rfl,h⟩
 ·exact Wo_ I r ty
 ·cases r
  obtain ⟨_,its,_,⟨o,e,c,_⟩,ob,e2,d⟩:=I.hok p _ h
  refine ⟨⟨o,e,c⟩,fun a q=>?_⟩
  cases q
  exact ⟨ob,e2,d⟩
def WC_ (K:Fg) (f:D→List D→Option D):V→List V→Hp→VK→Prop:=fun x xs H Q=>∃ G F σ ρ d ds res,StOk K G F σ H ρ∧OR K F H x d∧RepL K F xs ds∧f d ds=some res ∧
 ∀ y F' H',Same F F'→StOk K G F' σ H' ρ→Rep K F' y res→Q y H'
def QW_ (K:Fg) (f:D→List D→Option (List D)):V→List V→Hp→VK→Prop:=fun x xs H Q=>∃ G F σ ρ d ds res,StOk K G F σ H ρ∧OR K F H x d∧RepL K F xs ds∧f d ds=some res ∧
 ∀ y F' H',Same F F'→StOk K G F' σ H' ρ→Frs K G F' σ H' ρ y (.l res)→Q y H'
def tMt (K:Fg) (T:String) (r:V→List V→Hp→VK→Prop) (to:TE) (t:TA):TE:=fun σ H Q=>to σ H fun x H1=>tyW K T x H1∧t σ H1 fun xs H2=>r x xs H2 Q
section
variable {X:Cx} {o e:Expr} {es:List Expr} {to:TE} {t:TA} {name:Str} {apos cpos:Pos} {T id:String} {r:V→List V→Hp→VK→Prop}
theorem UZ_ (pa:PlainAttrs T) (slot:Slot T name id) (hty:typeOf (.builtin id)=pure (.type "method_descriptor")) (hm:MtR X id r) (ho:PE X o to) (ha:PA X (e::es) t)
  (hbase:attributeBase o name X.env (eval o X.env)=eval o X.env)
  (hfew:((backTo cpos (starEach (e::es) X.env)).all (fun x=>!x.1)&&(backToKw cpos (keywordEach [] X.env)).all (fun x=>x.1.isSome)
   && decide ((e::es).length+([]:List Keyword).length+(if ([]:List Keyword).isEmpty then 0 else 1)<30))=true)
  (hline:(apos.endLine==cpos.line)=true) (hs:starEach (e::es) X.env=(false,eval e X.env)::starEach es X.env) (hplain:(backTo cpos (starEach es X.env)).any (·.1)=false) :
  PE X (.Call (.Attribute o name apos) (e::es) [] cpos) (tMt X.K T r to t):=by
 intro pins s σ H Q I h
 refine wpAny_Call_method_late hbase hfew hline rfl (thn (ho pins s σ H _ I h) fun v s1 ⟨x,H1,I1,r1,ty,q1⟩=>?_)
 obtain ⟨h1,h2⟩:=Wn_ I1 r1 ty
 refine ⟨T,id,pa,slot,hty,h1,h2,?_⟩
 have hA:=ha cpos pins s1 σ H1 _ I1 q1
 rw [hs] at hA ⊢
 refine Calls.callWith_builtin (by show (false||(backTo cpos (starEach es X.env)).any (·.1))=false;rw [hplain]<;>rfl) (Calls.evalArgs_plain ?_)
 exact thn hA fun us s2 ⟨vs,H2,I2,r2,q2⟩=>hm pins s2 σ H2 x vs v us Q I2 r1 r2 q2
end
def X5_ (t:Ty) (f:D→List D→Option D) (po:Pu D) (ps:Pa D):Pu D:=fun ρ=>bd (po ρ) fun d=>onT t d (ps (fun ds=>oM (f d ds)) ρ)
def WU_ (t:Ty) (f:D→List D→Option (List D)) (po:Pu D) (ps:Pa (List D)):Pu (List D):=fun ρ=>bd (po ρ) fun d=>onT t d (ps (fun ds=>oM (f d ds)) ρ)
theorem Q4_ {α:Type} {X:Cx} {G:Gh} {F H:Hp} {σ:L2.St} {ρ:En} {t:Ty} {d:D} {m:M α} {C:α→Hp→Hp→Prop} {v:V} (S:StOk X.K G F σ H ρ) (hv:VO X.K F σ ρ v d) (w:W X G F σ ρ (onT t d m) C) :
  tyW X.K t.s v H∧W X G F σ ρ m C:=by
 have o:=hv.or S
 cases t with
 | tup =>
  cases d with
  | tuple ds =>
   have r:=o.tup'
   cases r with
   | tup h1 h2=>exact ⟨.inr ⟨rfl,_,_,rfl,S.fh _ _ h1⟩,w⟩
  | _=>exact False.elim w
 | lst =>
  cases d with
  | list ds =>
   obtain ⟨a,vs,rfl,h1,h2⟩:=o.list S.fh
   exact ⟨.inl (.inl ⟨rfl,_,h1⟩),w⟩
  | _=>exact False.elim w
 | str =>
  cases d with
  | str ds =>
   rw [o.str]
   exact ⟨.inl rfl,w⟩
  | _=>exact False.elim w
section
variable {X:Cx} {o e:Expr} {es:List Expr} {name:Str} {apos cpos:Pos} {id:String} {po:Pu D} {ps:Pa D} {pl:Pa (List D)} {ty:Ty}
theorem Y1_ {f:D→List D→Option D} (pa:PlainAttrs ty.s) (slot:Slot ty.s name id) (hty:typeOf (.builtin id)=pure (.type "method_descriptor")) (hm:MtR X id (WC_ X.K f)) (ho:AO X o po) (ha:AA X (e::es) ps)
  (hbase:attributeBase o name X.env (eval o X.env)=eval o X.env)
  (hfew:((backTo cpos (starEach (e::es) X.env)).all (fun x=>!x.1)&&(backToKw cpos (keywordEach [] X.env)).all (fun x=>x.1.isSome)
   && decide ((e::es).length+([]:List Keyword).length+(if ([]:List Keyword).isEmpty then 0 else 1)<30))=true)
  (hline:(apos.endLine==cpos.line)=true) (hs:starEach (e::es) X.env=(false,eval e X.env)::starEach es X.env) (hplain:(backTo cpos (starEach es X.env)).any (·.1)=false) :
  AP X (.Call (.Attribute o name apos) (e::es) [] cpos) (X5_ ty f po ps) :=
 fun G F σ H ρ Q S w=>sem (UZ_ pa slot hty hm zi_ z4_ hbase hfew hline hs hplain) (ho G F σ H ρ _ S (w.bind.imp fun d F1 H1 s1 S1 w1 v hv=>by
  obtain ⟨ht,w2⟩:=Q4_ S1 hv w1
  refine ⟨ht,ha G F1 σ H1 ρ _ _ _ S1 w2 fun ds vs F2 H2 s2 S2 _ r2 w3=>?_⟩
  obtain ⟨res,e,k⟩:=w3.opt
  exact ⟨G,F2,σ,ρ,d,ds,res,S2,(hv.mono s2).or S2,r2,e,fun y F3 H3 s3 S3 r3=>k F3 H3 s3 S3 y r3⟩))
theorem Y3_ {f:D→List D→Option (List D)} (pa:PlainAttrs ty.s) (slot:Slot ty.s name id) (hty:typeOf (.builtin id)=pure (.type "method_descriptor")) (hm:MtR X id (QW_ X.K f)) (ho:AO X o po) (ha:AA X (e::es) pl)
  (hbase:attributeBase o name X.env (eval o X.env)=eval o X.env)
  (hfew:((backTo cpos (starEach (e::es) X.env)).all (fun x=>!x.1)&&(backToKw cpos (keywordEach [] X.env)).all (fun x=>x.1.isSome)
   && decide ((e::es).length+([]:List Keyword).length+(if ([]:List Keyword).isEmpty then 0 else 1)<30))=true)
  (hline:(apos.endLine==cpos.line)=true) (hs:starEach (e::es) X.env=(false,eval e X.env)::starEach es X.env) (hplain:(backTo cpos (starEach es X.env)).any (·.1)=false) :
  AL X (.Call (.Attribute o name apos) (e::es) [] cpos) (WU_ ty f po pl) :=
 fun G F σ H ρ Q S w=>sem (UZ_ pa slot hty hm zi_ z4_ hbase hfew hline hs hplain) (ho G F σ H ρ _ S (w.bind.imp fun d F1 H1 s1 S1 w1 v hv=>by
  obtain ⟨ht,w2⟩:=Q4_ S1 hv w1
  refine ⟨ht,ha G F1 σ H1 ρ _ _ _ S1 w2 fun ds vs F2 H2 s2 S2 _ r2 w3=>?_⟩
  obtain ⟨res,e,k⟩:=w3.opt
  exact ⟨G,F2,σ,ρ,d,ds,res,S2,(hv.mono s2).or S2,r2,e,fun y F3 H3 s3 S3 r3=>k F3 H3 s3 S3 y r3⟩))
end
end L4
set_option Elab.async false
set_option linter.all false
set_option maxRecDepth 100000
namespace L4
open PySem PySem.Spec PyProof.Rows L2 L3
def Itc (x:Str):It:=⟨fun i _=>i<x.cps.size,fun i H v H'=>H'=H∧∃ c,x.cps[i]? = some c∧v=.str ⟨#[c]⟩,fun i _=>x.cps.size≤i⟩
theorem Y9_ {P:Program} {w:World} {K:Fg} {tg:Expr} (it:Addr) (ty:String) (hty:ty = "str_ascii_iterator" ∨ ty = "str_iterator") (x:Str) (t:Tok):Turn P w K tg (Itc x) [it] it (fun i h=>h.IsStrIter it ty x t i) where
 mem:=by simp
 obj:=fun i h st b hb=>by
  have e:b=it:=by simpa using hb
  subst e
  obtain ⟨o,e,c,d⟩:=st
  exact ⟨o,e,fun v z=>by rw [d] at z;cases z⟩
 keep:=fun i h h' st k=>by
  obtain ⟨o,e,r⟩:=st
  exact ⟨o,k it (by simp) o e,r⟩
 item:=by
  intro X hP hw hK hc i pins s σ H E I hf st hg
  subst hP hw hK
  obtain ⟨f0,f1,f2,f3,f4,f5⟩:=hf it (by simp)
  have go:∀ (W:Walks X.prog X.w X.A it [it] [it] x.cps.size (SignAt x) (fun i h=>h.IsStrIter it ty x t i)),(∀ o:Obj,o.cls=.type ty→True)→wpAny (model X.prog X.w) X.A (pyNext (.ref it)) (fun r s1=>∃ u,r=some u ∧
   wpAny (model X.prog X.w) X.A (letOwnedTupleGo tg (.ref it) u) (fun _ s2=>∃ y H',Inv X pins σ H' s2∧RelV y u∧(Itc x).yld i H y H'∧s2.heap.IsStrIter it ty x t (i+1)∧∀ b∈[it],H' b=none) E s1) E s:=fun W _=>by
   refine W.item i s _ _ hg st fun v h' tk hv st' kk=>?_
   obtain ⟨c,u,hc',rfl⟩:=hv
   have I1:Inv X pins σ H { s with heap:=h',toks:=tk }:=I.turned (fun b o hb e=>kk b o (by simpa using hb) e) f0 f1 f3 f4 f5
   obtain ⟨o,e,cl,d⟩:=id st'
   refine ⟨_,rfl,QA_ (s:={ s with heap:=h',toks:=tk }) (n:=ty) e cl d ?_ ⟨.str ⟨#[c]⟩,H,I1,⟨u,rfl⟩,⟨rfl,c,hc',rfl⟩,st',fun b hb=>(hf b hb).1⟩⟩
   rcases hty with rfl|rfl<;>decide
  rcases hty with rfl|rfl
  ·exact go (Walks.strAscii (I.ok.hd hc) it x t) fun _ _=>trivial
  ·exact go (Walks.strWide (I.ok.hd hc) it x t) fun _ _=>trivial
 done:=by
  intro X hP hw hK hc i pins s σ H E I hf st hg
  subst hP hw hK
  obtain ⟨f0,f1,f2,f3,f4,f5⟩:=hf it (by simp)
  have hx:x.cps[i]? = none:=by
   have:x.cps.size≤i:=hg
   simp;omega
  rcases hty with rfl|rfl
  ·exact wpAny_pyNext_ascii_end (I.ok.hd hc) st hx fun h' eb=>⟨rfl,I.turned (t':=s.toks) (fun b o hb e=>eb b o hb e) f0 f1 f3 f4 f5⟩
  ·exact wpAny_pyNext_wide_end (I.ok.hd hc) st hx fun h' eb=>⟨rfl,I.turned (t':=s.toks) (fun b o hb e=>eb b o hb e) f0 f1 f3 f4 f5⟩
 self:=fun _ _ _ _ _ st h=>by
  rcases hty with rfl|rfl
  ·exact wpAny_pyIter_striter_ascii st h
  ·exact wpAny_pyIter_striter_wide st h
def ZN_ (x:Str):List D:=x.cps.toList.map fun c=>.str ⟨#[c]⟩
theorem Y8_ {K:Fg} {F:Hp} (x:Str):Walk K (Itc x) (ZN_ x) F where
 go:=fun i G F2 σ H2 ρ s S hi=>by
  unfold ZN_ at hi
  rw [List.length_map,Array.length_toList] at hi
  exact hi
 yld:=fun i G F2 σ H2 ρ y H3 d s S hd ⟨e,c,hc,q⟩=>by
  subst e q
  unfold ZN_ at hd
  rw [List.getElem?_map,Array.getElem?_toList,hc] at hd
  cases hd
  exact ⟨F2,Same.refl _,S,.str _⟩
 stop:=fun G F2 σ H2 ρ s S=>by
  unfold ZN_
  rw [List.length_map,Array.length_toList]
  exact Nat.le_refl _
end L4
set_option Elab.async false
set_option linter.all false
set_option maxRecDepth 100000
namespace L4
open PySem PySem.Spec PyProof.Rows L2 L3
def seqS:D→Option (List D)
 | .str x=>some (ZN_ x)
 | d=>seqD d
def pItS (p:Pu D):Pu (List D):=fun ρ=>bd (p ρ) fun d=>oM (seqS d)
def zaf_ (K:Fg) (tl:TE):TI:=fun σ H R=>tl σ H fun x H1=>((∃ a,x=.ref a∧(∃ xs,SqL K H1 a xs)∧R (Itl K a) H1)∨∃ a,x=.ref a∧(∃ xs,SqT K H1 a xs)∧R (Itt K a) H1)∨∃ y,x=.str y∧R (Itc y) H1
theorem Vy_ {X:Cx} {tg l:Expr} {tl:TE} (hl:PE X l tl):PI X tg l (zaf_ X.K tl):=by
 intro pins s σ H R I h
 refine thn (hl pins s σ H _ I h) fun v s1 ⟨x,H1,I1,r1,q1⟩=>?_
 rcases q1 with (⟨a,e,⟨xs,hq⟩,q⟩|⟨a,e,⟨xs,hq⟩,q⟩)|⟨x,e,q⟩
 ·subst e
  cases r1
  obtain ⟨its,rv,p,hz⟩:=I1.list hq
  refine wpAny_pyIter_list p.isList ?_
  refine ⟨s1.heap.objs.size,[s1.heap.objs.size],_,_,H1,rfl,I1.kept (t':=s1.toks) fun b o e=>Heap.get?_push_of_some _ e,UJ_ a _,⟨_,Heap.get?_push_size _ rfl,rfl,rfl⟩,fun b hb=>?_,q⟩
  have e:b=s1.heap.objs.size:=by simpa using hb
  subst e
  exact I1.fpOk (Nat.le_refl _) (I1.hok.fresh (Nat.le_refl _))
 ·subst e
  cases r1
  obtain ⟨its,rv,p,hz⟩:=I1.tuple hq
  refine wpAny_pyIter_tuple (show s1.heap.IsTuple a its.toArray from p) ?_
  refine ⟨s1.heap.objs.size,[s1.heap.objs.size],_,_,H1,rfl,I1.kept (t':=s1.toks) fun b o e=>Heap.get?_push_of_some _ e,J9_ a _,⟨_,Heap.get?_push_size _ rfl,rfl,rfl⟩,fun b hb=>?_,q⟩
  have e:b=s1.heap.objs.size:=by simpa using hb
  subst e
  exact I1.fpOk (Nat.le_refl _) (I1.hok.fresh (Nat.le_refl _))
 ·subst e
  obtain ⟨t,rfl⟩:=r1
  have fin:∀ (ty:String) (hty:ty = "str_ascii_iterator" ∨ ty = "str_iterator") (o:Obj),o.isFreed=false→o.cls=.type ty→o.data=.fields #[.str x t,.int 0 0]→PIE X pins σ tg R (.ref s1.heap.objs.size) { s1 with heap:=s1.heap.push o }:=fun ty hty o hfr c d=>by
   refine ⟨s1.heap.objs.size,[s1.heap.objs.size],_,_,H1,rfl,I1.kept (t':=s1.toks) fun b o e=>Heap.get?_push_of_some _ e,Y9_ _ ty hty x t,⟨_,Heap.get?_push_size _ hfr,c,d⟩,fun b hb=>?_,q⟩
   have e:b=s1.heap.objs.size:=by simpa using hb
   subst e
   exact I1.fpOk (Nat.le_refl _) (I1.hok.fresh (Nat.le_refl _))
  cases ha:x.cps.all (· < 128)
  ·exact wpAny_pyIter_wide ha (fin _ (.inr rfl) _ rfl rfl rfl)
  ·exact wpAny_pyIter_ascii ha (fin _ (.inl rfl) _ rfl rfl rfl)
theorem UO_ {X:Cx} {F H:Hp} {v:V} {d:D} {ds:List D} {R:It→Hp→Prop} (s:Same F H) (r:Rep X.K F v d) (hd:seqS d=some ds) (k:∀ J,Walk X.K J ds F→R J H) :
  ((∃ a,v=.ref a∧(∃ xs,SqL X.K H a xs)∧R (Itl X.K a) H)∨∃ a,v=.ref a∧(∃ xs,SqT X.K H a xs)∧R (Itt X.K a) H)∨∃ y,v=.str y∧R (Itc y) H:=by
 cases d with
 | str x =>
  cases hd
  cases r
  exact .inr ⟨x,rfl,k _ (Y8_ x)⟩
 | _=>exact .inl (Qg_ s r hd k)
theorem j6_ {X:Cx} {tg e:Expr} {pp:Pu D} (h:AP X e pp):AI X tg e (pItS pp):=fun G F σ H ρ R S w=>semI (Vy_ zi_) (h G F σ H ρ _ S (w.bind.imp fun d F1 H1 s1 S1 w1 v r1=>by
 obtain ⟨ds,hd,k⟩:=w1.opt
 exact UO_ S1.fh r1 hd (k F1 H1 (Same.refl _) S1)))
def ZI_:List D→Option D
 | [.str x]=>if decide (x.length≤640) then (PySem.intText? x).map PyData.int else none
 | l=>fInt l
def WE_:List V→Hp→VK→Prop:=fun xs H Q=>((∃ i,xs=[.int i]∧Q (.int i) H)∨∃ k,xs=[.bl k]∧Q (.int (if k then 1 else 0)) H)∨∃ x n,xs=[.str x]∧x.length≤640∧PySem.intText? x=some n∧Q (.int n) H
theorem ue_ {X:Cx}:CallR X (.type "int") WE_:=by
 intro pins s σ H xs us Q I r h0
 rcases h0 with h0|⟨x,n,rfl,hl,hn,q⟩
 ·exact YS_ pins s σ H xs us Q I r h0
 ·obtain ⟨u,rfl,ru⟩:=L2.Vals.one r
  obtain ⟨t,rfl⟩:=ru
  exact PySem.W.KIN.call_text hn hl ⟨.int n,H,I.tok _,⟨_,rfl⟩,q⟩
theorem yU_ {K:Fg}:us_ K WE_ ZI_:=by
 intro G F σ H ρ xs ds res Q S o e k
 by_cases hd:∃ x,ds=[.str x]
 ·obtain ⟨x,rfl⟩:=hd
  have e':(if decide (x.length≤640)=true then (PySem.intText? x).map PyData.int else none)=some res:=e
  split at e'
  ·rename_i hl
   rw [decide_eq_true_eq] at hl
   cases hn:PySem.intText? x with
   | none=>rw [hn] at e';cases e'
   | some n =>
    rw [hn] at e'
    cases e'
    obtain ⟨v,r,rfl,ho,hr⟩:=zv_ o
    obtain rfl:=zK_ hr
    exact .inr ⟨x,n,by rw [ho.str],hl,hn,k _ F H (Same.refl _) S (.int _)⟩
  ·cases e'
 ·have e':fInt ds=some res:=by
   rw [←e]
   unfold ZI_
   split
   ·rename_i x;exact absurd ⟨x,rfl⟩ hd
   ·rfl
  exact .inl (W7_ G F σ H ρ xs ds res Q S o e' k)
theorem y5_:∀ l:List (Str×Tok),Vals ((l.map (·.1)).map V.str) (strValues l)
 | []=>.nil
 | (x,t)::l=>.cons ⟨t,rfl⟩ (y5_ l)
theorem JF_ {K:Fg} {F:Hp}:∀ l:List Str,RepL K F (l.map V.str) (l.map PyData.str)
 | []=>.nil
 | x::l=>.cons (.str x) (JF_ l)
section
open Builtin Builtin.Str
theorem Qd_ {prog:Program} {w:World} {A:Around} {E:Value→Shared→Prop} {s:Shared} {x y:Str} {t u:Tok} {Q:Value→Shared→Prop} (hy:(y.length==0)=false)
  (hq:∀ (l:List (Str×Tok)) (k:Nat),l.map (·.1)=Txt.split x y→Q (.ref s.heap.objs.size) { s with toks:=k,heap:=s.heap.push { cls:=.type "list",data:=.seq (strValues l).toArray } })
  (hsz:x.length≤sizeLine) (hsz2:(partsBetween x (occurrences x y 0 x.length (x.length+1)) y.length).length≤sizeLine) :
  wpAny (model prog w) A (call (.builtin "str.split") [.str x t,.str y u]) Q E s:=by
 cases h1:(decide (x.length<y.length)||decide (strKind x<strKind y))
 ·cases hf:(occurrences x y 0 x.length (x.length+1)).isEmpty
  ·refine call_meets F.slot_str_split (typeIs_str _ _ _) F.entry_str_split (F.args_str_split_2 _ _) (meets_str_split_sep x y t u h1 hy hf hsz hsz2) ?_
   show wants Q E _ { s with toks:=_,heap:=s.heap.push { cls:=.type "list",data:=.seq (strsFrom s.toks (partsBetween x (occurrences x y 0 x.length (x.length+1)) y.length)).toArray } }
   rw [strsFrom_eq]
   exact hq (numbered s.toks _) _ ((numbered_texts _ _).trans ((if_neg (ne_true_of_eq_false h1)).trans (if_neg (ne_true_of_eq_false hf))).symm)
  ·exact call_meets F.slot_str_split (typeIs_str _ _ _) F.entry_str_split (F.args_str_split_2 _ _) (meets_str_split_not_found x y t u h1 hy hf)
    (hq [(x,t)] s.toks ((if_neg (ne_true_of_eq_false h1)).trans (if_pos hf)).symm)
 ·exact call_meets F.slot_str_split (typeIs_str _ _ _) F.entry_str_split (F.args_str_split_2 _ _) (meets_str_split_cannot_occur x y t u h1)
   (hq [(x,t)] s.toks (if_pos h1).symm)
def yP_ (x y:Str):Bool:=!(y.length==0)&&decide (x.length≤sizeLine)&&decide ((partsBetween x (occurrences x y 0 x.length (x.length+1)) y.length).length≤sizeLine)&&decide ((Txt.split x y).length≤sizeLine)
end
def ZH_:D→List D→Option (List D)
 | .str x,[.str y]=>if yP_ x y then some ((Txt.split x y).map PyData.str) else none
 | _,_=>none
theorem JR_ {X:Cx}:MtR X "str.split" (QW_ X.K ZH_):=by
 intro pins s σ H x xs v us Q I rx rxs ⟨G,F,σ',ρ,d,ds,res,S,ho,hr,e,k⟩
 unfold ZH_ at e
 split at e
 case h_2=>cases e
 rename_i z y
 split at e
 case isFalse=>cases e
 rename_i hc
 cases e
 unfold yP_ at hc
 rw [Bool.and_eq_true,Bool.and_eq_true,Bool.and_eq_true,decide_eq_true_eq,decide_eq_true_eq,decide_eq_true_eq,Bool.not_eq_true'] at hc
 obtain ⟨⟨⟨h1,h2⟩,h3⟩,h4⟩:=hc
 rw [ho.str] at rx
 obtain ⟨t,rfl⟩:=rx
 cases hr with
 | cons hy hn =>
  cases hn
  cases hy
  obtain ⟨u,rfl,ru⟩:=vals1 rxs
  obtain ⟨t2,rfl⟩:=ru
  refine Qd_ h1 (fun l tk hl=>?_) h2 h3
  have hv:=y5_ l
  rw [hl] at hv
  refine ⟨.ref s.heap.objs.size,upd H s.heap.objs.size (.lst ((Txt.split z y).map V.str)),I.laid (t':=tk) (fun b o q=>Heap.get?_push_of_some _ q) (Nat.le_refl _) ⟨by rw [List.length_map];exact h4,strValues l,0,hv,Heap.get?_push_size _ rfl⟩,rfl,?_⟩
  obtain ⟨S2,r2⟩:=S.newLst (I.hok.fresh (Nat.le_refl _)) (JF_ (Txt.split z y))
  exact k _ F _ (Same.refl _) S2 r2
def strsOf:List D→Option (List Str)
 | []=>some []
 | .str x::r=>(strsOf r).map (x :: ·)
 | _::_=>none
theorem y7_:∀ {ds:List D} {xs:List Str},strsOf ds=some xs→ds=xs.map PyData.str
 | [],_,h=>by cases h;rfl
 | d::r,xs,h=>by
  cases d<;>first|(cases h;done)|skip
  rename_i x
  have h:(strsOf r).map (x :: ·)=some xs:=h
  cases e:strsOf r with
  | none=>rw [e] at h;cases h
  | some ys=>rw [e] at h;cases h;rw [y7_ e];rfl
theorem yr_ {K:Fg} {F:Hp}:∀ {xs:List Str} {vs:List V} {its:List Value},RepL K F vs (xs.map PyData.str)→Vals vs its→∃ l:List (Str×Tok),its=strValues l∧l.map (·.1)=xs
 | [],_,_,r,v=>by cases r;cases v;exact ⟨[],rfl,rfl⟩
 | x::xs,_,_,r,v=>by
  cases r with
  | cons r1 r2 =>
   cases r1
   cases v with
   | cons v1 v2 =>
    obtain ⟨t,rfl⟩:=v1
    obtain ⟨l,e1,e2⟩:=yr_ r2 v2
    exact ⟨(x,t)::l,by rw [e1];rfl,by rw [List.map_cons,e2]⟩
def Ux_:D→List D→Option D
 | .str x,[.list ds]=>match strsOf ds with
  | some xs=>if JoinOk x xs then some (.str (Txt.join x xs)) else none
  | none=>none
 | _,_=>none
theorem Yi_ {X:Cx}:MtR X "str.join" (WC_ X.K Ux_):=by
 intro pins s σ H x xs v us Q I rx rxs ⟨G,F,σ',ρ,d,ds,res,S,ho,hr,e,k⟩
 unfold Ux_ at e
 split at e
 case h_2=>cases e
 rename_i z es
 split at e
 case h_2=>cases e
 rename_i ts hts
 split at e
 case isFalse=>cases e
 rename_i hc
 cases e
 rw [ho.str] at rx
 obtain ⟨t,rfl⟩:=rx
 cases hr with
 | cons hy hn =>
  cases hn
  obtain ⟨u,rfl,ru⟩:=vals1 rxs
  cases hy with
  | lst h1 h2 =>
   cases ru
   obtain ⟨its,rv,p,hz⟩:=I.list (S.fh.seq h1)
   rw [y7_ hts] at h2
   obtain ⟨l,e1,e2⟩:=yr_ h2 rv
   subst e1
   exact SC.join p.isList e2 hc fun t' tk=>⟨.str _,H,I.tok tk,⟨t',rfl⟩,k _ F H (Same.refl _) S (.str _)⟩
end L4
set_option Elab.async false
set_option linter.all false
set_option maxRecDepth 100000
namespace L4
open PySem PySem.Spec PyProof.Rows L2 L3
def cutS (x:Str) (lo hi:Option Int):Str:=if ((Builtin.Str.strSliceIndices lo hi 1 x.length).length==x.length)=true then x else ⟨((Builtin.Str.strSliceIndices lo hi 1 x.length).filterMap (x.cps[·]?)).toArray⟩
def rSlS:V→Option Int→Option Int→Hp→VK→Prop:=fun v lo hi H Q=>∃ x,v=.str x∧(cutS x lo hi).length≤sizeLine∧Q (.str (cutS x lo hi)) H
theorem U1_ {v:Value} {o:Option Int} (h:IsPart v o):∃ p:Option (Int×Tok),v=partValue p∧p.map (·.1)=o:=by
 cases h with
 | none=>exact ⟨none,rfl,rfl⟩
 | int i t=>exact ⟨some (i,t),rfl,rfl⟩
theorem sl_str {X:Cx}:SlR X rSlS:=by
 intro pins s σ H x v vl vu lo hi sl Q I rx hs pl pu h
 obtain ⟨z,rfl,hz,q⟩:=h
 obtain ⟨t,rfl⟩:=rx
 obtain ⟨l,rfl,el⟩:=U1_ pl
 obtain ⟨u,rfl,eu⟩:=U1_ pu
 refine ⟨"str",_,PySem.F.slot_str_getitem.lookup,typeIs_str _ _ _,?_⟩
 refine wpAny_getItem_str_slice (l:=l) (u:=u) (st:=none) hs rfl ?_
 have ep:slicePicked z l u none=Builtin.Str.strSliceIndices lo hi 1 z.length:=by
  unfold slicePicked
  rw [el,eu]
  rfl
 unfold sliceMade
 rw [ep]
 unfold cutS at q hz
 split
 ·rename_i c
  have c':((Builtin.Str.strSliceIndices lo hi 1 z.length).length==z.length)=true:=by
   rw [Bool.and_eq_true] at c;exact c.2
  rw [if_pos c'] at q
  exact ⟨.str z,H,I,⟨t,rfl⟩,q⟩
 ·rename_i c
  have c':¬ ((Builtin.Str.strSliceIndices lo hi 1 z.length).length==z.length)=true:=fun h=>c (by rw [Bool.and_eq_true];exact ⟨rfl,h⟩)
  rw [if_neg c'] at q hz
  exact ⟨hz,.str _,H,I.tok _,⟨_,rfl⟩,q⟩
def V4_ (d:D) (lo hi:Option Int):Option D:=match d with
 | .str x=>if decide ((cutS x lo hi).length≤sizeLine) then some (.str (cutS x lo hi)) else none
 | _=>fCut d lo hi
def VE_ (p:Pu D) (l h:Pu (Option Int)):Pu D:=fun ρ=>bd (p ρ) fun d=>bd (l ρ) fun lo=>bd (h ρ) fun hi=>oM (V4_ d lo hi)
section
variable {X:Cx} {e:Expr} {lo hi:Option Expr} {p:Pu D} {pl ph:Pu (Option Int)} {pos p2:Pos}
theorem Y0_ (he:AO X e p) (hl:APo X lo pl) (hh:APo X hi ph):AP X (.Subscript e (.Slice lo hi none p2) pos) (VE_ p pl ph) :=
 fun G F σ H ρ Q S w=>sem (JH_ (sl_str.or (sl_tup.or (sl_tupA.or Vn_))) zi_ QZ_ QZ_) (he G F σ H ρ _ S (w.bind.imp fun d F1 H1 s1 S1 w1 x hx =>
  hl G F1 σ H1 ρ _ S1 (w1.bind.imp fun lo F2 H2 s2 S2 w2=>hh G F2 σ H2 ρ _ S2 (w2.bind.imp fun hi F3 H3 s3 S3 w3=>by
   obtain ⟨res,hr,k⟩:=w3.opt
   have ox:=(hx.mono (s2.trans s3)).or S3
   cases d<;>try (cases hr;done)
   ·rename_i z
    have hr':(if decide ((cutS z lo hi).length≤sizeLine)=true then some (PyData.str (cutS z lo hi)) else none)=some res:=hr
    split at hr'
    case isFalse=>cases hr'
    rename_i hz
    rw [decide_eq_true_eq] at hz
    cases hr'
    exact .inl ⟨z,ox.str,hz,k F3 H3 (Same.refl _) S3 _ (.str _)⟩
   ·cases hr
    obtain ⟨a,vs,rfl,h1,h2⟩:=ox.list S3.fh
    refine .inr (.inr (.inr ⟨a,vs,rfl,h1,fun q hq=>?_⟩))
    obtain ⟨S4,r4⟩:=S3.newLst hq (YH_ h2 lo hi)
    obtain ⟨F5,s5,S5,r5⟩:=S4.settle r4
    exact k F5 _ s5 S5 _ r5
   ·rename_i ds
    cases hr
    obtain ⟨a,vs,rfl,h1,h2⟩:=ox.tuple S3.fh
    by_cases hw:HT.sIx vs.length 0 lo=0∧HT.sIx vs.length vs.length hi=vs.length
    ·refine .inr (.inr (.inl ⟨a,vs,rfl,h1,hw,k F3 H3 (Same.refl _) S3 _ ?_⟩))
     have:cutD ds lo hi=ds:=by
      unfold cutD
      rw [←h2.length,hw.1,hw.2]
      simp [h2.length]
     rw [this]
     exact ox.tup'
    ·refine .inr (.inl ⟨a,vs,rfl,h1,hw,fun q hq=>?_⟩)
     obtain ⟨s4,S4,r4⟩:=S3.newTup hq (YH_ h2 lo hi)
     exact k _ _ s4 S4 _ r4))))
end
def mulS (x:Str) (n:Int):Str:=if n<1 then Str.empty else if (n==1||x.length==0)=true then x else ⟨(List.replicate n.toNat x.cps).foldl (· ++ ·) #[]⟩
def JQ_ (x:Str) (n:Int):Bool:=decide (-(1000:Int)≤n)&&decide (n≤1000)&&decide (x.length≤1000)&&decide ((mulS x n).length≤sizeLine)
def JL_:D→D→Option D
 | .str x,.int n=>if JQ_ x n then some (.str (mulS x n)) else none
 | x,y=>jy_ x y
def Vr_:R2:=fun x y H Q=>∃ z n,x=.str z∧y=.int n∧JQ_ z n=true∧Q (.str (mulS z n)) H
theorem VJ_ {X:Cx}:OpR X (binaryOp .Mult) Vr_:=by
 intro pins s σ H x y v u Q I rx ry h
 obtain ⟨z,n,rfl,rfl,hc,q⟩:=h
 obtain ⟨t,rfl⟩:=rx
 obtain ⟨t2,rfl⟩:=ry
 unfold JQ_ at hc
 rw [Bool.and_eq_true,Bool.and_eq_true,Bool.and_eq_true,decide_eq_true_eq,decide_eq_true_eq,decide_eq_true_eq,decide_eq_true_eq] at hc
 obtain ⟨⟨⟨h1,h2⟩,h3⟩,h4⟩:=hc
 refine P.mul_str (by simp;omega) (fun a _=>?_) (fun a _=>?_) ?_
 ·have:(1000:Int)<(2^63 - 1) / n:=by
   have:=Int.le_ediv_of_mul_le (a:=1001) (b:=(2^63 - 1:Int)) (c:=n) (by omega) (by omega)
   omega
  omega
 ·have:z.length*n.toNat≤1000*1000:=Nat.mul_le_mul h3 (by omega)
  show decide (z.length*n.toNat>sizeLine)=false
  rw [decide_eq_false_iff_not]
  have:(1000*1000:Nat)≤sizeLine:=by decide
  omega
 ·unfold mulS at q h4
  split
  ·rename_i c
   rw [if_pos c] at q h4
   exact ⟨h4,.str _,H,I.tok _,⟨_,rfl⟩,q⟩
  ·rename_i c
   rw [if_neg c] at q h4
   split
   ·rename_i c2
    rw [if_pos c2] at q
    exact ⟨.str _,H,I,⟨t,rfl⟩,q⟩
   ·rename_i c2
    rw [if_neg c2] at q h4
    exact ⟨h4,.str _,H,I.tok _,⟨_,rfl⟩,q⟩
theorem VI_ {X:Cx}:OpR X (binaryOp .Mult) (fun x y H Q=>rI CMul (fun i j=>.int (i*j)) x y H Q∨Vr_ x y H Q):=op_mul.or VJ_
theorem VM_ {K:Fg}:OpD K (fun x y H Q=>rI CMul (fun i j=>.int (i*j)) x y H Q∨Vr_ x y H Q) JL_:=by
 intro G F σ H ρ x y dx dy res Q S ox oy e k
 by_cases h:∃ z n,dx=.str z∧dy=.int n
 ·obtain ⟨z,n,rfl,rfl⟩:=h
  have e':(if JQ_ z n=true then some (PyData.str (mulS z n)) else none)=some res:=e
  split at e'
  case isFalse=>cases e'
  rename_i hc
  cases e'
  exact .inr ⟨z,n,ox.str,oy.int,hc,k _ F H (Same.refl _) S (.str _)⟩
 ·have e':jy_ dx dy=some res:=by
   rw [←e]
   unfold JL_
   split
   ·rename_i z n;exact absurd ⟨z,n,rfl,rfl⟩ h
   ·rfl
  exact .inl (yC_ G F σ H ρ x y dx dy res Q S ox oy e' k)
end L4
set_option Elab.async false
set_option linter.all false
set_option maxRecDepth 100000
namespace L4
open PySem PySem.Spec PyProof.Rows L2 L3
def JV_:D→D→Option D
 | .str x,.int i=>if decide ((cutS x (some i) none).length≤sizeLine) then some (.str (cutS x (some i) none)) else none
 | _,_=>none
theorem QQ_ {S:Type} {X:Cx} {a b:Expr} {ma mb:Ev S D} {p2 pos:Pos} (ha:AE X a ma) (hb:AE X b mb):AE X (.Subscript a (.Slice (some b) none none p2) pos) (eBin JV_ ma mb) :=
 fun OK x k G F σ H ρ Q hO hX St ok kk=>sem (JH_ sl_str zi_ (UX_ zi_) UY_) (ha OK x _ G F σ H ρ _ hO hX St ok fun d v F1 H1 ρ1 s1 S1 r1 o1=>hb OK x _ G F1 σ H1 ρ1 _ hO hX S1 o1 fun d2 v2 F2 H2 ρ2 s2 S2 r2 o2=>by
  obtain ⟨res,e,o'⟩:=Zk_ hO o2
  unfold JV_ at e
  split at e
  case h_2=>cases e
  rename_i z i
  split at e
  case isFalse=>cases e
  rename_i hz
  rw [decide_eq_true_eq] at hz
  cases e
  cases r2
  cases r1
  exact ⟨i,rfl,z,rfl,hz,kk _ _ F2 H2 ρ2 (s1.trans s2) S2 (.str _) o'⟩)
end L4
set_option Elab.async false
set_option linter.all false
set_option maxRecDepth 100000
set_option maxHeartbeats 8000000
namespace K12
open PySem PySem.Spec PyProof.Rows L2 L3 L4
noncomputable section
def top (i:Nat):Stmt:=PySem.Challenge.pw_passersby_k12_numbers_as_texts.main.body.getD i (.Pass ⟨0,0,0,0⟩)
structure BN (mg:Str→Option Value):Prop where
 range:mg "range" = none
 len:mg "len" = none
 tuple:mg "tuple" = none
 list:mg "list" = none
 max:mg "max" = none
 min:mg "min" = none
 sum:mg "sum" = none
 abs:mg "abs" = none
 repr:mg "repr" = none
 enumerate:mg "enumerate" = none
 isinstance:mg "isinstance" = none
 all:mg "all" = none
 any:mg "any" = none
 int:mg "int" = none
 str:mg "str" = none
 bool:mg "bool" = none
 zip:mg "zip" = none
 sorted:mg "sorted" = none
 set:mg "set" = none
 dict:mg "dict" = none
 reversed:mg "reversed" = none
structure KN (mg:Str→Option Value):Prop where
 FIGURES:∃ u,mg "FIGURES" = some u∧RelV (.str "0123456789") u
 MOST_FIGURES:∃ u,mg "MOST_FIGURES" = some u∧RelV (.int 9) u
section
variable {P:Program} {w:World} {K:Fg} {mg:Str→Option Value} {base:Heap}
def V9_ (s:Stmt):List Stmt:=match s with
 | .ClassDef _ _ _ b _ _ _ _ _ _ _=>b
 | _=>[]
abbrev zI_:Stmt:=(V9_ (top 2)).getD 0 (.Pass ⟨0,0,0,0⟩)
theorem yf_:FnScope ["self", "row", "word"] ["self", "row", "word"] (zb_ zI_):=⟨rfl,rfl,rfl,by decide +kernel,rfl,by decide +kernel,by decide +kernel⟩
theorem YM_ {Cl D f:Addr} {fd:FuncData} (Fn:Fun K "__init__" "NoText.__init__" zI_ f fd) (c:XC K Cl D f) (hm:mg "NoText" = some (.ref Cl)) (hc:PySem.W.nsIn K mainGlobals "NoText" = some (some (.ref Cl))) (kp:PySem.W.keepIn K (.ref Cl)=true) (na:∀ f∈(["row", "word"]:List Str),jX_ K Cl f) (ex:PySem.W.exmOne K (.ref Cl) (.ref Cl)=some true):CCl P w K mg base "NoText" 1 ["row", "word"] :=
 ⟨Cl,D,f,fd,["self", "row", "word"],c,zae_ (k:=0) Fn yf_ rfl c (na _ (by simp)) (na _ (by simp)) (by decide),(Fn.binds fun _ _ _ _ _ _ us hl=>match us,hl with | [_,_,_],_=>rfl),hm,hc,kp,na,ex⟩
abbrev zE_:Stmt:=top 6
abbrev yd_:List Str:=["word"]
theorem Za_:FnScope yd_ ["word"] (zb_ zE_):=⟨rfl,rfl,rfl,by decide +kernel,rfl,by decide +kernel,by decide +kernel⟩
abbrev N_number_of_0:List Str:=["word", "sign"]
theorem uD_:N_number_of_0.Nodup:=by decide +kernel
def z9_ (p_word:D):M D :=
 bd (bd (bd (oM (fLen [p_word])) fun x1=>bd (oM (Zn_ (.int 1) x1)) fun b2=>if b2 then oM (Zn_ x1 (.int 9)) else .ret false) fun b3=>.ret (!b3)) fun b4=>if b4 then
  .ret .none
  else
  bd (bd (bd (bd (bd (oM (seqS p_word)) fun l8=>bd (z8_ (fun d5=>bd (bd (oM (uC_ d5 (.str "0123456789"))) fun b6=>.ret (.bool b6)) fun x7=>.ret (some x7)) l8) fitM) fun l9=>.ret (PyData.list l9)) fun x10=>oM (fAll [x10])) fun b11=>.ret (!b11)) fun b12=>if b12 then
  .ret .none
  else
  bd (bd (bd (oM (jD_ p_word (.int 0))) fun x13=>oM (opEq x13 (.str "0"))) fun b15=>if b15 then bd (oM (fLen [p_word])) fun x14=>oM (opGt x14 (.int 1)) else .ret false) fun b16=>if b16 then
  .ret .none
  else
  bd (oM (ZI_ [p_word])) fun x17=>.ret x17
def jc_:List D→M D:=fun l=>match l with
 | [p_word]=>z9_ p_word
 | _=>.bad
set_option maxHeartbeats 4000000 in
theorem ZD_ {f:Addr} {fd:FuncData} (Fn:Fun K "number_of" "number_of" zE_ f fd) (B:BN mg) (Kn:KN mg):FnOk P w K mg base (CX1 P w) 1 f fd ["word"] (spD K 1 jc_) :=
 ux_ (k:=0) Fn Za_ (fun cdv A outer s H E hr =>
 (zf_ (yo_ (jW_ (YV_ (J3_ (JK_ (zq_ hr)) (JK_ (zq_ hr)) JM_ JM_ (ao zc_) (ao (zj_ zA_ jb_ rfl B.len PySem.boot_len (ze_ (ao (av 0)) zh_ (za_ rfl)) (by decide) (by decide) rfl rfl)) (ao (Y2_ rfl Kn.MOST_FIGURES.choose_spec.1 Kn.MOST_FIGURES.choose_spec.2 (fun _=>.int _) (by decide))) (by with_unfolding_all rfl))))
  (zu_ (zY_ (zs_ jN_)))
  jj_)
  (zf_ (yo_ (jW_ (YV_ (at_b (J5_ (QI_ rfl) W9_ rfl B.all (by decide +kernel) (ze_ (ao (ap_z (yc_ (N':=N_number_of_0) (k:=1) rfl (z3_ (N:=yd_) (sc:=(zb_ zE_)) (by decide +kernel) rfl rfl) (j6_ (av 0)) (fun cl s' H' fp C'=>(jk_ (i:=1) (show 1≤1 by decide) uD_ rfl (by first|exact Or.inl rfl|exact Or.inr rfl) (.inr rfl))) (fun cl s' H' fp C'=>j4_) (fun cl s' H' fp C'=>(ap_b (Y5_ (Ja_ (zq_ hr)) Yc_ (ao (av 1)) (ao (Y2_ rfl Kn.FIGURES.choose_spec.1 Kn.FIGURES.choose_spec.2 (fun _=>.str _) (by decide))) rfl))) (fun _=>rfl)))) zh_ (za_ rfl)) (by decide) (by decide) rfl rfl) (fun _=>rfl))))
  (zu_ (zY_ (zs_ jN_)))
  jj_)
  (zf_ (yo_ (jW_ (UB_ (Vb_ (zU_ (Zl_ (zq_ hr)) j8_ (ao (yb_ (jA_ (zq_ hr)) jz_ (ao (av 0)) (ao zc_) (fun _ _=>rfl))) (ao zH_) rfl) (YU_ (zU_ Uk_ Um_ (ao (zj_ zA_ jb_ rfl B.len PySem.boot_len (ze_ (ao (av 0)) zh_ (za_ rfl)) (by decide) (by decide) rfl rfl)) (ao zc_) rfl)))))
  (zu_ (zY_ (zs_ jN_)))
  jj_)
  (zu_ (zY_ (zs_ (zL_ ue_ yU_ rfl B.int (by decide +kernel) (ze_ (ao (av 0)) zh_ (za_ rfl)) (by decide) (by decide) rfl rfl))))))))
 (fun ds hl=>match ds,hl with | [p_word],_=>by kernel_rfl)
theorem Zo_ {f:Addr} {fd:FuncData} (Fn:Fun K "number_of" "number_of" zE_ f fd) (hmg:mg "number_of" = some (.ref f)) (B:BN mg) (Kn:KN mg):CF P w K mg base "number_of" 1 (spD K 1 jc_) :=
 ⟨f,fd,["word"],ZD_ Fn B Kn,hmg,Fn.kp,(Fn.binds fun _ _ _ _ _ _ us hl=>match us,hl with | [_],_=>rfl)⟩
abbrev zC_:Stmt:=top 7
abbrev uz_:List Str:=["word", "numbers"]
theorem sc_numbers_of:FnScope uz_ ["word"] (zb_ zC_):=⟨rfl,rfl,rfl,by decide +kernel,rfl,by decide +kernel,by decide +kernel⟩
abbrev N_numbers_of_0:List Str:=["word", "numbers", "part"]
theorem uo_:N_numbers_of_0.Nodup:=by decide +kernel
def jf_ (p_word:D):M D :=
 bd (bd (bd (bd (bd (onT .str p_word (oM (ZH_ p_word [(.str ",")]))) fun l1=>.ret (PyData.list l1)) fun x2=>oM (seqS x2)) fun l5=>bd (z8_ (fun d3=>bd (z9_ d3) fun x4=>.ret (some x4)) l5) fitM) fun l6=>.ret (PyData.list l6)) fun x7=>bd (bd (oM (uC_ .none x7)) fun b8=>if b8 then .ret .none else oM (u7_ [x7])) fun x9=>.ret x9
def z6_:List D→M D:=fun l=>match l with
 | [p_word]=>jf_ p_word
 | _=>.bad
set_option maxHeartbeats 4000000 in
theorem y0_ {f:Addr} {fd:FuncData} (Fn:Fun K "numbers_of" "numbers_of" zC_ f fd) (B:BN mg) (Kn:KN mg) (C_number_of:CF P w K mg base "number_of" 1 (spD K 1 jc_)):FnOk P w K mg base (CX1 P w) 2 f fd ["word"] (spD K 1 z6_) :=
 ux_ (k:=1) Fn sc_numbers_of (fun cdv A outer s H E hr =>
 (zf_ (jE_ (sh:=[.dead,.f]) (yL_ (i:=1) sc_numbers_of.nd rfl (by first|exact Or.inl rfl|exact Or.inr rfl) (.inl rfl) (N':=N_numbers_of_0) (k:=1) rfl (z3_ (N:=uz_) (sc:=(zb_ zC_)) (by decide +kernel) rfl rfl) (j6_ (ap_z (Y3_ (ty:=.str) PySem.F.plainAttrs_str PySem.F.slot_str_split PySem.F.type_str_split JR_ (ao (av 0)) (zd_ zH_ zM_ (za_ rfl)) rfl rfl rfl rfl rfl))) (fun cl s' H' fp C'=>(jk_ (i:=2) (show 2≤2 by decide) uo_ rfl (by first|exact Or.inl rfl|exact Or.inr rfl) (.inr rfl))) (fun cl s' H' fp C'=>j4_) (fun cl s' H' fp C'=>(Ju_ C_number_of (hr.mono (by decide)) rfl (zd_ (av 2) zM_ (za_ rfl)) rfl (by decide) rfl rfl)) rfl (fun _=>rfl)))
  (zu_ (zY_ (zs_ (QP_ (zU_ (Ja_ (zq_ hr)) Yc_ (ao jN_) (ao (av 1)) rfl) jN_ (zL_ jt_ yS_ rfl B.tuple (by decide +kernel) (ze_ (ao (av 1)) zh_ (za_ rfl)) (by decide) (by decide) rfl rfl)))))))
 (fun ds hl=>match ds,hl with | [p_word],_=>by kernel_rfl)
theorem yT_ {f:Addr} {fd:FuncData} (Fn:Fun K "numbers_of" "numbers_of" zC_ f fd) (hmg:mg "numbers_of" = some (.ref f)) (B:BN mg) (Kn:KN mg) (C_number_of:CF P w K mg base "number_of" 1 (spD K 1 jc_)):CF P w K mg base "numbers_of" 2 (spD K 1 z6_) :=
 ⟨f,fd,["word"],y0_ Fn B Kn C_number_of,hmg,Fn.kp,(Fn.binds fun _ _ _ _ _ _ us hl=>match us,hl with | [_],_=>rfl)⟩
abbrev zy_:Stmt:=top 8
abbrev uf_:List Str:=["many", "text", "numbers"]
theorem sc_read_counts:FnScope uf_ ["many", "text"] (zb_ zy_):=⟨rfl,rfl,rfl,by decide +kernel,rfl,by decide +kernel,by decide +kernel⟩
abbrev N_read_counts_0:List Str:=["many", "text", "numbers", "number"]
theorem j9_:N_read_counts_0.Nodup:=by decide +kernel
def ju_ (p_many:D) (p_text:D):M D :=
 bd (jf_ p_text) fun x1=>bd (bd (oM (U6_ x1 .none)) fun b11=>if b11 then .ret true else bd (bd (oM (fLen [x1])) fun x2=>oM (opNe x2 p_many)) fun b10=>if b10 then .ret true else bd (bd (bd (bd (oM (seqS x1)) fun l6=>bd (z8_ (fun d3=>bd (bd (oM (opGt d3 (.int 0))) fun b4=>.ret (.bool b4)) fun x5=>.ret (some x5)) l6) fitM) fun l7=>.ret (PyData.list l7)) fun x8=>oM (fAny [x8])) fun b9=>.ret (!b9)) fun b12=>if b12 then
  .exc ⟨"NoText",[("row",(.int 0)),("word",(.int 0))]⟩
  else
  .ret x1
def z0_:List D→M D:=fun l=>match l with
 | [p_many,p_text]=>ju_ p_many p_text
 | _=>.bad
set_option maxHeartbeats 4000000 in
theorem ym_ {f:Addr} {fd:FuncData} (Fn:Fun K "read_counts" "read_counts" zy_ f fd) (B:BN mg) (Kn:KN mg) (C_numbers_of:CF P w K mg base "numbers_of" 2 (spD K 1 z6_)) (X_NoText:CCl P w K mg base "NoText" 1 ["row", "word"]):FnOk P w K mg base (CX1 P w) 3 f fd ["many", "text"] (spD K 2 z0_) :=
 ux_ (k:=2) Fn sc_read_counts (fun cdv A outer s H E hr =>
 (zf_ (jE_ (sh:=[.f,.dead,.f]) (jC_ (i:=2) sc_read_counts.nd rfl (by first|exact Or.inl rfl|exact Or.inr rfl) (zs_ (Ju_ C_numbers_of (hr.mono (by decide)) rfl (zd_ (av 1) zM_ (za_ rfl)) rfl (by decide) rfl rfl)) rfl (.inl rfl)))
  (zf_ (yo_ (jW_ (UB_ (Jr_ (zU_ VH_ j8_ (ao (av 2)) (ao jN_) rfl) (Jr_ (zU_ (yz_ (zq_ hr)) j8_ (ao (zj_ zA_ jb_ rfl B.len PySem.boot_len (ze_ (ao (av 2)) zh_ (za_ rfl)) (by decide) (by decide) rfl rfl)) (ao (av 0)) rfl) (J2_ (YV_ (at_b (J5_ (QH_ rfl) W8_ rfl B.any (by decide +kernel) (ze_ (ao (ap_z (yc_ (N':=N_read_counts_0) (k:=1) rfl (z3_ (N:=uf_) (sc:=(zb_ zy_)) (by decide +kernel) rfl rfl) (j6_ (av 2)) (fun cl s' H' fp C'=>(jk_ (i:=3) (show 3≤3 by decide) j9_ rfl (by first|exact Or.inl rfl|exact Or.inr rfl) (.inr rfl))) (fun cl s' H' fp C'=>j4_) (fun cl s' H' fp C'=>(ap_b (Y5_ Uk_ Um_ (ao (av 3)) (ao zc_) rfl))) (fun _=>rfl)))) zh_ (za_ rfl)) (by decide) (by decide) rfl rfl) (fun _=>rfl))))))))
  (zu_ (QM_ X_NoText (hr.mono (by decide)) rfl (zJ_ (zs_ zc_) (zJ_ (zs_ zc_) ja_ (za_ rfl)) (za_ rfl)) rfl (by decide) (by decide) (za_ rfl) rfl))
  jj_)
  (zu_ (zY_ (zs_ (av 2)))))))
 (fun ds hl=>match ds,hl with | [p_many,p_text],_=>by kernel_rfl)
theorem yh_ {f:Addr} {fd:FuncData} (Fn:Fun K "read_counts" "read_counts" zy_ f fd) (hmg:mg "read_counts" = some (.ref f)) (B:BN mg) (Kn:KN mg) (C_numbers_of:CF P w K mg base "numbers_of" 2 (spD K 1 z6_)) (X_NoText:CCl P w K mg base "NoText" 1 ["row", "word"]):CF P w K mg base "read_counts" 3 (spD K 2 z0_) :=
 ⟨f,fd,["many", "text"],ym_ Fn B Kn C_numbers_of X_NoText,hmg,Fn.kp,(Fn.binds fun _ _ _ _ _ _ us hl=>match us,hl with | [_,_],_=>rfl)⟩
abbrev zr_:Stmt:=top 10
abbrev jY_:List Str:=["numbers"]
theorem uO_:FnScope jY_ ["numbers"] (zb_ zr_):=⟨rfl,rfl,rfl,by decide +kernel,rfl,by decide +kernel,by decide +kernel⟩
abbrev N_shown_counts_0:List Str:=["numbers", "number"]
theorem j1_:N_shown_counts_0.Nodup:=by decide +kernel
def zD_ (p_numbers:D):M D :=
 bd (onT .str (.str ",") (bd (bd (bd (oM (seqS p_numbers)) fun l3=>bd (z8_ (fun d1=>bd (oM (fStr [d1])) fun x2=>.ret (some x2)) l3) fitM) fun l4=>.ret (PyData.list l4)) fun x5=>oM (Ux_ (.str ",") [x5]))) fun x6=>.ret x6
def zW_:List D→M D:=fun l=>match l with
 | [p_numbers]=>zD_ p_numbers
 | _=>.bad
set_option maxHeartbeats 4000000 in
theorem u6_ {f:Addr} {fd:FuncData} (Fn:Fun K "shown_counts" "shown_counts" zr_ f fd) (B:BN mg) (Kn:KN mg):FnOk P w K mg base (CX1 P w) 1 f fd ["numbers"] (spD K 1 zW_) :=
 ux_ (k:=0) Fn uO_ (fun cdv A outer s H E hr =>
 (zu_ (zY_ (zs_ (Y1_ (ty:=.str) PySem.F.plainAttrs_str PySem.F.slot_str_join PySem.F.type_str_join Yi_ (ao zH_) (zd_ (ap_z (yc_ (N':=N_shown_counts_0) (k:=1) rfl (z3_ (N:=jY_) (sc:=(zb_ zr_)) (by decide +kernel) rfl rfl) (j6_ (av 0)) (fun cl s' H' fp C'=>(jk_ (i:=1) (show 1≤1 by decide) j1_ rfl (by first|exact Or.inl rfl|exact Or.inr rfl) (.inr rfl))) (fun cl s' H' fp C'=>j4_) (fun cl s' H' fp C'=>(zL_ jL_ U9_ rfl B.str (by decide +kernel) (ze_ (ao (av 1)) zh_ (za_ rfl)) (by decide) (by decide) rfl rfl)) (fun _=>rfl))) zM_ (za_ rfl)) rfl rfl rfl rfl rfl)))))
 (fun ds hl=>match ds,hl with | [p_numbers],_=>by kernel_rfl)
theorem uS_ {f:Addr} {fd:FuncData} (Fn:Fun K "shown_counts" "shown_counts" zr_ f fd) (hmg:mg "shown_counts" = some (.ref f)) (B:BN mg) (Kn:KN mg):CF P w K mg base "shown_counts" 1 (spD K 1 zW_) :=
 ⟨f,fd,["numbers"],u6_ Fn B Kn,hmg,Fn.kp,(Fn.binds fun _ _ _ _ _ _ us hl=>match us,hl with | [_],_=>rfl)⟩
abbrev zP_:Stmt:=top 12
abbrev Jy_:List Str:=["_law_script", "_law_k", "_law_cell", "_law_great"]
theorem sc__law_feed:FnScope Jy_ ["_law_script", "_law_k"] (zb_ zP_):=⟨rfl,rfl,rfl,by decide +kernel,rfl,by decide +kernel,by decide +kernel⟩
def jw_ (p_law_script:D) (p_law_k:D):M (List D) :=
 bd (bd (bd (oM (fLen [p_law_script])) fun x1=>oM (opGt x1 (.int 0))) fun b4=>if b4 then bd (bd (oM (fLen [p_law_script])) fun x2=>oM (uR_ p_law_k x2)) fun x3=>oM (jD_ p_law_script x3) else .ret (.int 0)) fun x5=>bd (bd (bd (oM (fAbs [x5])) fun x6=>bd (oM (jI_ (.int 10) (.int 18))) fun x7=>oM (opGe x6 x7)) fun b8=>if b8 then oM (fAbs [x5]) else .ret (.int 0)) fun x9=>bd (bd (bd (oM (uR_ x5 (.int 1000003))) fun x10=>bd (oM (jy_ (.int 7919) p_law_k)) fun x11=>oM (zV_ x10 x11)) fun x12=>.ret [x9,x12,(.int 0)]) fun l13=>.ret l13
def je_:List D→M (List D):=fun l=>match l with
 | [p_law_script,p_law_k]=>jw_ p_law_script p_law_k
 | _=>.bad
set_option maxHeartbeats 4000000 in
theorem ZG_ {f:Addr} {fd:FuncData} (Fn:Fun K "_law_feed" "_law_feed" zP_ f fd) (B:BN mg) (Kn:KN mg):FnOk P w K mg base (CX1 P w) 1 f fd ["_law_script", "_law_k"] (spL K 2 je_) :=
 Xs_ (k:=0) Fn sc__law_feed (fun cdv A outer s H E hr =>
 (zf_ (jE_ (sh:=[.dead,.f,.f,.dead]) (jC_ (i:=2) sc__law_feed.nd rfl (by first|exact Or.inl rfl|exact Or.inr rfl) (zs_ (QP_ (zU_ Uk_ Um_ (ao (zj_ zA_ jb_ rfl B.len PySem.boot_len (ze_ (ao (av 0)) zh_ (za_ rfl)) (by decide) (by decide) rfl rfl)) (ao zc_) rfl) (yb_ (jA_ (zq_ hr)) jz_ (ao (av 0)) (ao (zn_ uQ_ uT_ (ao (av 1)) (ao (zj_ zA_ jb_ rfl B.len PySem.boot_len (ze_ (ao (av 0)) zh_ (za_ rfl)) (by decide) (by decide) rfl rfl)))) (fun _ _=>rfl)) zc_)) rfl (.inl rfl)))
  (zf_ (jE_ (sh:=[.dead,.f,.f,.f]) (jC_ (i:=3) sc__law_feed.nd rfl (by first|exact Or.inl rfl|exact Or.inr rfl) (zs_ (QP_ (zU_ X7_ zaa_ (ao (zj_ J0_ Q6_ rfl B.abs (by decide +kernel) (ze_ (ao (av 2)) zh_ (za_ rfl)) (by decide) (by decide) rfl rfl)) (ao (zn_ yA_ yB_ (ao zc_) (ao zc_))) rfl) (zj_ J0_ Q6_ rfl B.abs (by decide +kernel) (ze_ (ao (av 2)) zh_ (za_ rfl)) (by decide) (by decide) rfl rfl) zc_)) rfl (.inl rfl)))
  (zu_ (Wh_ (Vf_ (Z0_ (zd_ (av 3) (zd_ (zn_ zF_ z2_ (ao (zn_ uQ_ uT_ (ao (av 2)) (ao zc_))) (ao (zn_ op_mul yC_ (ao zc_) (ao (av 1))))) (zd_ zc_ zM_ (za_ rfl)) (za_ rfl)) (za_ rfl)) (by decide +kernel))))))))
 (fun ds hl=>match ds,hl with | [p_law_script,p_law_k],_=>by kernel_rfl)
theorem Zr_ {f:Addr} {fd:FuncData} (Fn:Fun K "_law_feed" "_law_feed" zP_ f fd) (hmg:mg "_law_feed" = some (.ref f)) (B:BN mg) (Kn:KN mg):CF P w K mg base "_law_feed" 1 (spL K 2 je_) :=
 ⟨f,fd,["_law_script", "_law_k"],ZG_ Fn B Kn,hmg,Fn.kp,(Fn.binds fun _ _ _ _ _ _ us hl=>match us,hl with | [_,_],_=>rfl)⟩
abbrev zO_:Stmt:=top 13
abbrev Jx_:List Str:=["_law_feed_here", "_law_many", "_law_digit", "_law_turn", "_law_one_here"]
theorem sc__law_next:FnScope Jx_ ["_law_feed_here", "_law_many"] (zb_ zO_):=⟨rfl,rfl,rfl,by decide +kernel,rfl,by decide +kernel,by decide +kernel⟩
def zp_ (p_law_feed_here:List D) (p_law_many:D):M (D×List D) :=
 bd (bd (oM (jD_ (PyData.list p_law_feed_here) (.int 0))) fun x1=>oM (opGt x1 (.int 0))) fun b2=>if b2 then
  bd (bd (oM (jD_ (PyData.list p_law_feed_here) (.int 0))) fun x3=>oM (uR_ x3 p_law_many)) fun x4=>bd (bd (oM (jD_ (PyData.list p_law_feed_here) (.int 0))) fun x5=>oM (U7_ x5 p_law_many)) fun x6=>bd (oM (putD p_law_feed_here (.int 0) x6)) fun l7=>.ret (x4,l7)
  else
  bd (bd (oM (jD_ (PyData.list p_law_feed_here) (.int 2))) fun x8=>oM (zV_ x8 (.int 1))) fun x9=>bd (oM (putD p_law_feed_here (.int 2) x9)) fun l10=>bd (bd (bd (bd (bd (oM (jD_ (PyData.list l10) (.int 1))) fun x11=>bd (oM (jy_ (.int 41) x9)) fun x12=>oM (zV_ x11 x12)) fun x13=>oM (zV_ x13 (.int 3))) fun x15=>bd (bd (oM (jy_ x9 x9)) fun x14=>oM (zV_ x14 (.int 69621))) fun x16=>oM (jy_ x15 x16)) fun x17=>oM (uR_ x17 (.int 998244353))) fun x18=>bd (bd (bd (bd (bd (bd (bd (oM (uR_ x18 (.int 65519))) fun x19=>oM (zV_ x19 (.int 40692))) fun x20=>oM (jy_ x18 x20)) fun x21=>oM (zV_ x21 x9)) fun x22=>oM (uR_ x22 (.int 2147483629))) fun x23=>oM (U7_ x23 (.int 13))) fun x24=>oM (uR_ x24 p_law_many)) fun x25=>.ret (x25,l10)
def zR_:List D→List D→M (D×List D):=fun p_law_feed_here l=>match l with
 | [p_law_many]=>zp_ p_law_feed_here p_law_many
 | _=>.bad
set_option maxHeartbeats 4000000 in
theorem ZF_ {f:Addr} {fd:FuncData} (Fn:Fun K "_law_next" "_law_next" zO_ f fd) (B:BN mg) (Kn:KN mg):FnOk P w K mg base (CX1 P w) 1 f fd ["_law_feed_here", "_law_many"] (sp1 K 2 zR_) :=
 Q7_ (k:=0) Fn sc__law_next (fun cdv A outer s H E hr =>
 (zf_ (yo_ (jW_ (zU_ Uk_ Um_ (ao (yb_ (jA_ (zq_ hr)) jz_ (j5_ (i:=0) rfl (by first|exact Or.inl rfl|exact Or.inr (Or.inl rfl)|exact Or.inr (Or.inr rfl))) (ao zc_) (fun _ _=>rfl))) (ao zc_) rfl))
  (zf_ (jE_ (sh:=[.p,.f,.f,.dead,.dead]) (jC_ (i:=2) sc__law_next.nd rfl (by first|exact Or.inl rfl|exact Or.inr rfl) (zs_ (zn_ uQ_ uT_ (ao (yb_ (jA_ (zq_ hr)) jz_ (j5_ (i:=0) rfl (by first|exact Or.inl rfl|exact Or.inr (Or.inl rfl)|exact Or.inr (Or.inr rfl))) (ao zc_) (fun _ _=>rfl))) (ao (av 1)))) rfl (.inl rfl)))
  (zf_ (jE_ (sh:=[.p,.dead,.f,.dead,.dead]) (YX_ (i:=0) rfl (by first|exact Or.inl rfl|exact Or.inr (Or.inl rfl)|exact Or.inr (Or.inr rfl)) (zs_ zc_) (zs_ (zn_ U5_ Q5_ (ao (yb_ (jA_ (zq_ hr)) jz_ (j5_ (i:=0) rfl (by first|exact Or.inl rfl|exact Or.inr (Or.inl rfl)|exact Or.inr (Or.inr rfl))) (ao zc_) (fun _ _=>rfl))) (ao (av 1)))) (fun _=>rfl) rfl rfl rfl))
  (zu_ (zY_ (zs_ (av 2))))))
  jj_)
  (zf_ (jE_ (sh:=[.p,.f,.dead,.f,.dead]) (jC_ (i:=3) sc__law_next.nd rfl (by first|exact Or.inl rfl|exact Or.inr rfl) (zs_ (zn_ zF_ z2_ (ao (yb_ (jA_ (zq_ hr)) jz_ (j5_ (i:=0) rfl (by first|exact Or.inl rfl|exact Or.inr (Or.inl rfl)|exact Or.inr (Or.inr rfl))) (ao zc_) (fun _ _=>rfl))) (ao zc_))) rfl (.inl rfl)))
  (zf_ (jE_ (sh:=[.p,.f,.dead,.f,.dead]) (YX_ (i:=0) rfl (by first|exact Or.inl rfl|exact Or.inr (Or.inl rfl)|exact Or.inr (Or.inr rfl)) (zs_ zc_) (zs_ (av 3)) (fun _=>rfl) rfl rfl rfl))
  (zf_ (jE_ (sh:=[.p,.f,.dead,.f,.f]) (jC_ (i:=4) sc__law_next.nd rfl (by first|exact Or.inl rfl|exact Or.inr rfl) (zs_ (zn_ uQ_ uT_ (ao (zn_ op_mul yC_ (ao (zn_ zF_ z2_ (ao (zn_ zF_ z2_ (ao (yb_ (jA_ (zq_ hr)) jz_ (j5_ (i:=0) rfl (by first|exact Or.inl rfl|exact Or.inr (Or.inl rfl)|exact Or.inr (Or.inr rfl))) (ao zc_) (fun _ _=>rfl))) (ao (zn_ op_mul yC_ (ao zc_) (ao (av 3)))))) (ao zc_))) (ao (zn_ zF_ z2_ (ao (zn_ op_mul yC_ (ao (av 3)) (ao (av 3)))) (ao zc_))))) (ao zc_))) rfl (.inl rfl)))
  (zu_ (zY_ (zs_ (zn_ uQ_ uT_ (ao (zn_ U5_ Q5_ (ao (zn_ uQ_ uT_ (ao (zn_ zF_ z2_ (ao (zn_ op_mul yC_ (ao (av 4)) (ao (zn_ zF_ z2_ (ao (zn_ uQ_ uT_ (ao (av 4)) (ao zc_))) (ao zc_))))) (ao (av 3)))) (ao zc_))) (ao zc_))) (ao (av 1)))))))))))
 (fun g ds hl=>match ds,hl with | [p_law_many],_=>by kernel_rfl)
theorem Zq_ {f:Addr} {fd:FuncData} (Fn:Fun K "_law_next" "_law_next" zO_ f fd) (hmg:mg "_law_next" = some (.ref f)) (B:BN mg) (Kn:KN mg):CF P w K mg base "_law_next" 1 (sp1 K 2 zR_) :=
 ⟨f,fd,["_law_feed_here", "_law_many"],ZF_ Fn B Kn,hmg,Fn.kp,(Fn.binds fun _ _ _ _ _ _ us hl=>match us,hl with | [_,_],_=>rfl)⟩
abbrev zZ_:Stmt:=top 14
abbrev UE_:List Str:=["_law_feed_here", "_law_some"]
theorem Z3_:FnScope UE_ ["_law_feed_here", "_law_some"] (zb_ zZ_):=⟨rfl,rfl,rfl,by decide +kernel,rfl,by decide +kernel,by decide +kernel⟩
def zT_ (p_law_feed_here:List D) (p_law_some:D):M (D×List D) :=
 bd (oM (fLen [p_law_some])) fun x1=>bd (zp_ p_law_feed_here x1) fun r2=>bd (oM (jD_ p_law_some r2.1)) fun x3=>.ret (x3,r2.2)
def jq_:List D→List D→M (D×List D):=fun p_law_feed_here l=>match l with
 | [p_law_some]=>zT_ p_law_feed_here p_law_some
 | _=>.bad
set_option maxHeartbeats 4000000 in
theorem Jk_ {f:Addr} {fd:FuncData} (Fn:Fun K "_law_one" "_law_one" zZ_ f fd) (B:BN mg) (Kn:KN mg) (C__law_next:CF P w K mg base "_law_next" 1 (sp1 K 2 zR_)):FnOk P w K mg base (CX1 P w) 2 f fd ["_law_feed_here", "_law_some"] (sp1 K 2 jq_) :=
 Q7_ (k:=1) Fn Z3_ (fun cdv A outer s H E hr =>
 (zu_ (zY_ (zal_ (jA_ (zq_ hr)) jz_ (zs_ (av 1)) (uy_ (i:=0) C__law_next (hr.mono (by decide)) rfl rfl (by first|exact Or.inl rfl|exact Or.inr (Or.inl rfl)|exact Or.inr (Or.inr rfl)) (zJ_ (zs_ (zj_ zA_ jb_ rfl B.len PySem.boot_len (ze_ (ao (av 1)) zh_ (za_ rfl)) (by decide) (by decide) rfl rfl)) ja_ (za_ rfl)) rfl (by decide) rfl rfl) (fun _ _=>rfl)))))
 (fun g ds hl=>match ds,hl with | [p_law_some],_=>by kernel_rfl)
theorem Jc_ {f:Addr} {fd:FuncData} (Fn:Fun K "_law_one" "_law_one" zZ_ f fd) (hmg:mg "_law_one" = some (.ref f)) (B:BN mg) (Kn:KN mg) (C__law_next:CF P w K mg base "_law_next" 1 (sp1 K 2 zR_)):CF P w K mg base "_law_one" 2 (sp1 K 2 jq_) :=
 ⟨f,fd,["_law_feed_here", "_law_some"],Jk_ Fn B Kn C__law_next,hmg,Fn.kp,(Fn.binds fun _ _ _ _ _ _ us hl=>match us,hl with | [_,_],_=>rfl)⟩
abbrev zz_:Stmt:=top 15
abbrev uh_:List Str:=["_law_word", "_law_low", "_law_high"]
theorem yg_:FnScope uh_ ["_law_word", "_law_low", "_law_high"] (zb_ zz_):=⟨rfl,rfl,rfl,by decide +kernel,rfl,by decide +kernel,by decide +kernel⟩
abbrev N__law_number_0:List Str:=["_law_word", "_law_low", "_law_high", "_law_sign"]
theorem ua_:N__law_number_0.Nodup:=by decide +kernel
def zX_ (p_law_word:D) (p_law_low:D) (p_law_high:D):M D :=
 bd (bd (oM (opEq p_law_word (.str ""))) fun b8=>if b8 then .ret true else bd (bd (oM (fLen [p_law_word])) fun x1=>oM (opGt x1 (.int 9))) fun b7=>if b7 then .ret true else bd (bd (bd (oM (seqS p_law_word)) fun l4=>bd (z8_ (fun d2=>bd (oM (jo_ d2 (.str "0123456789"))) fun b3=>if b3 then .ret (some d2) else .ret none) l4) fitM) fun l5=>.ret (PyData.list l5)) fun x6=>oM (opNe x6 (PyData.list []))) fun b9=>if b9 then
  .ret .none
  else
  bd (bd (bd (oM (fLen [p_law_word])) fun x10=>oM (opGt x10 (.int 1))) fun b12=>if b12 then bd (oM (jD_ p_law_word (.int 0))) fun x11=>oM (opEq x11 (.str "0")) else .ret false) fun b13=>if b13 then
  .ret .none
  else
  bd (bd (bd (oM (ZI_ [p_law_word])) fun x14=>bd (oM (Zn_ p_law_low x14)) fun b15=>if b15 then oM (Zn_ x14 p_law_high) else .ret false) fun b16=>if b16 then oM (ZI_ [p_law_word]) else .ret .none) fun x17=>.ret x17
def z1_:List D→M D:=fun l=>match l with
 | [p_law_word,p_law_low,p_law_high]=>zX_ p_law_word p_law_low p_law_high
 | _=>.bad
set_option maxHeartbeats 4000000 in
theorem yn_ {f:Addr} {fd:FuncData} (Fn:Fun K "_law_number" "_law_number" zz_ f fd) (B:BN mg) (Kn:KN mg):FnOk P w K mg base (CX1 P w) 1 f fd ["_law_word", "_law_low", "_law_high"] (spD K 3 z1_) :=
 ux_ (k:=0) Fn yg_ (fun cdv A outer s H E hr =>
 (zf_ (yo_ (jW_ (UB_ (Jr_ (zU_ (Zl_ (zq_ hr)) j8_ (ao (av 0)) (ao zH_) rfl) (Jr_ (zU_ Uk_ Um_ (ao (zj_ zA_ jb_ rfl B.len PySem.boot_len (ze_ (ao (av 0)) zh_ (za_ rfl)) (by decide) (by decide) rfl rfl)) (ao zc_) rfl) (J2_ (zU_ (yz_ (zq_ hr)) j8_ (ao (ap_z (yc_ (N':=N__law_number_0) (k:=1) rfl (z3_ (N:=uh_) (sc:=(zb_ zz_)) (by decide +kernel) rfl rfl) (j6_ (av 0)) (fun cl s' H' fp C'=>(jk_ (i:=3) (show 3≤3 by decide) ua_ rfl (by first|exact Or.inl rfl|exact Or.inr rfl) (.inr rfl))) (fun cl s' H' fp C'=>(Wd_ (zU_ (Uj_ (zq_ hr)) Yb_ (ao (av 3)) (ao zH_) rfl))) (fun cl s' H' fp C'=>(av 3)) (fun _=>rfl)))) (ao (ap_z (Z0_ zM_ (by decide +kernel)))) rfl))))))
  (zu_ (zY_ (zs_ jN_)))
  jj_)
  (zf_ (yo_ (jW_ (UB_ (Vb_ (zU_ Uk_ Um_ (ao (zj_ zA_ jb_ rfl B.len PySem.boot_len (ze_ (ao (av 0)) zh_ (za_ rfl)) (by decide) (by decide) rfl rfl)) (ao zc_) rfl) (YU_ (zU_ (Zl_ (zq_ hr)) j8_ (ao (yb_ (jA_ (zq_ hr)) jz_ (ao (av 0)) (ao zc_) (fun _ _=>rfl))) (ao zH_) rfl)))))
  (zu_ (zY_ (zs_ jN_)))
  jj_)
  (zu_ (zY_ (zs_ (QP_ (J3_ (JK_ (zq_ hr)) (JK_ (zq_ hr)) JM_ JM_ (ao (av 1)) (ao (zL_ ue_ yU_ rfl B.int (by decide +kernel) (ze_ (ao (av 0)) zh_ (za_ rfl)) (by decide) (by decide) rfl rfl)) (ao (av 2)) (by with_unfolding_all rfl)) (zL_ ue_ yU_ rfl B.int (by decide +kernel) (ze_ (ao (av 0)) zh_ (za_ rfl)) (by decide) (by decide) rfl rfl) jN_)))))))
 (fun ds hl=>match ds,hl with | [p_law_word,p_law_low,p_law_high],_=>by kernel_rfl)
theorem yi_ {f:Addr} {fd:FuncData} (Fn:Fun K "_law_number" "_law_number" zz_ f fd) (hmg:mg "_law_number" = some (.ref f)) (B:BN mg) (Kn:KN mg):CF P w K mg base "_law_number" 1 (spD K 3 z1_) :=
 ⟨f,fd,["_law_word", "_law_low", "_law_high"],yn_ Fn B Kn,hmg,Fn.kp,(Fn.binds fun _ _ _ _ _ _ us hl=>match us,hl with | [_,_,_],_=>rfl)⟩
abbrev zQ_:Stmt:=top 16
abbrev yM_:List Str:=["_law_many", "_law_text", "_law_found"]
theorem sc__law_due:FnScope yM_ ["_law_many", "_law_text"] (zb_ zQ_):=⟨rfl,rfl,rfl,by decide +kernel,rfl,by decide +kernel,by decide +kernel⟩
abbrev N__law_due_0:List Str:=["_law_many", "_law_text", "_law_found", "_law_word"]
theorem uV_:N__law_due_0.Nodup:=by decide +kernel
def jS_ (p_law_many:D) (p_law_text:D):M D :=
 bd (bd (bd (bd (bd (onT .str p_law_text (oM (ZH_ p_law_text [(.str ",")]))) fun l1=>.ret (PyData.list l1)) fun x2=>oM (seqS x2)) fun l6=>bd (z8_ (fun d3=>bd (bd (oM (jI_ (.int 10) (.int 9))) fun x4=>zX_ d3 (.int 0) x4) fun x5=>.ret (some x5)) l6) fitM) fun l7=>.ret (PyData.list l7)) fun x8=>bd (bd (bd (oM (fLen [x8])) fun x9=>oM (opNe x9 p_law_many)) fun b12=>if b12 then .ret true else bd (oM (uC_ .none x8)) fun b11=>if b11 then .ret true else bd (oM (uE_ [x8])) fun x10=>oM (opEq x10 (.int 0))) fun b13=>if b13 then
  .ret (.tuple [(.str "none"),(.int 0),(.int 0)])
  else
  bd (oM (u7_ [x8])) fun x14=>.ret x14
def jr_:List D→M D:=fun l=>match l with
 | [p_law_many,p_law_text]=>jS_ p_law_many p_law_text
 | _=>.bad
set_option maxHeartbeats 4000000 in
theorem Jl_ {f:Addr} {fd:FuncData} (Fn:Fun K "_law_due" "_law_due" zQ_ f fd) (B:BN mg) (Kn:KN mg) (C__law_number:CF P w K mg base "_law_number" 1 (spD K 3 z1_)):FnOk P w K mg base (CX1 P w) 2 f fd ["_law_many", "_law_text"] (spD K 2 jr_) :=
 ux_ (k:=1) Fn sc__law_due (fun cdv A outer s H E hr =>
 (zf_ (jE_ (sh:=[.f,.dead,.f]) (yL_ (i:=2) sc__law_due.nd rfl (by first|exact Or.inl rfl|exact Or.inr rfl) (.inl rfl) (N':=N__law_due_0) (k:=1) rfl (z3_ (N:=yM_) (sc:=(zb_ zQ_)) (by decide +kernel) rfl rfl) (j6_ (ap_z (Y3_ (ty:=.str) PySem.F.plainAttrs_str PySem.F.slot_str_split PySem.F.type_str_split JR_ (ao (av 1)) (zd_ zH_ zM_ (za_ rfl)) rfl rfl rfl rfl rfl))) (fun cl s' H' fp C'=>(jk_ (i:=3) (show 3≤3 by decide) uV_ rfl (by first|exact Or.inl rfl|exact Or.inr rfl) (.inr rfl))) (fun cl s' H' fp C'=>j4_) (fun cl s' H' fp C'=>(Ju_ C__law_number (hr.mono (by decide)) rfl (zd_ (av 3) (zd_ zc_ (zd_ (zn_ yA_ yB_ (ao zc_) (ao zc_)) zM_ (za_ rfl)) (za_ rfl)) (za_ rfl)) rfl (by decide) rfl rfl)) rfl (fun _=>rfl)))
  (zf_ (yo_ (jW_ (UB_ (Jr_ (zU_ (yz_ (zq_ hr)) j8_ (ao (zj_ zA_ jb_ rfl B.len PySem.boot_len (ze_ (ao (av 2)) zh_ (za_ rfl)) (by decide) (by decide) rfl rfl)) (ao (av 0)) rfl) (Jr_ (zU_ (Ja_ (zq_ hr)) Yc_ (ao jN_) (ao (av 2)) rfl) (J2_ (zU_ (Zl_ (zq_ hr)) j8_ (ao (zj_ (u9_ rfl) Jb_ rfl B.max (by decide +kernel) (ze_ (ao (av 2)) zh_ (za_ rfl)) (by decide) (by decide) rfl rfl)) (ao zc_) rfl))))))
  (zu_ (zY_ (zs_ (Ve_ (zd_ zH_ (zd_ zc_ (zd_ zc_ zM_ (za_ rfl)) (za_ rfl)) (za_ rfl)) (by decide +kernel)))))
  jj_)
  (zu_ (zY_ (zs_ (zL_ jt_ yS_ rfl B.tuple (by decide +kernel) (ze_ (ao (av 2)) zh_ (za_ rfl)) (by decide) (by decide) rfl rfl)))))))
 (fun ds hl=>match ds,hl with | [p_law_many,p_law_text],_=>by kernel_rfl)
theorem Jd_ {f:Addr} {fd:FuncData} (Fn:Fun K "_law_due" "_law_due" zQ_ f fd) (hmg:mg "_law_due" = some (.ref f)) (B:BN mg) (Kn:KN mg) (C__law_number:CF P w K mg base "_law_number" 1 (spD K 3 z1_)):CF P w K mg base "_law_due" 2 (spD K 2 jr_) :=
 ⟨f,fd,["_law_many", "_law_text"],Jl_ Fn B Kn C__law_number,hmg,Fn.kp,(Fn.binds fun _ _ _ _ _ _ us hl=>match us,hl with | [_,_],_=>rfl)⟩
abbrev zN_:Stmt:=top 17
abbrev Jw_:List Str:=["_law_many", "_law_text", "_law_found", "e"]
theorem sc__law_told:FnScope Jw_ ["_law_many", "_law_text"] (zb_ zN_):=⟨rfl,rfl,rfl,by decide +kernel,rfl,by decide +kernel,by decide +kernel⟩
def jv_ (p_law_many:D) (p_law_text:D):M D :=
 bd (tryM (ju_ p_law_many p_law_text) "NoText" "none" ["row", "word"]) fun x1=>.ret x1
def jd_:List D→M D:=fun l=>match l with
 | [p_law_many,p_law_text]=>jv_ p_law_many p_law_text
 | _=>.bad
set_option maxHeartbeats 4000000 in
theorem ZE_ {f:Addr} {fd:FuncData} (Fn:Fun K "_law_told" "_law_told" zN_ f fd) (B:BN mg) (Kn:KN mg) (C_read_counts:CF P w K mg base "read_counts" 3 (spD K 2 z0_)) (X_NoText:CCl P w K mg base "NoText" 1 ["row", "word"]):FnOk P w K mg base (CX1 P w) 4 f fd ["_law_many", "_law_text"] (spD K 2 jd_) :=
 ux_ (k:=3) Fn sc__law_told (fun cdv A outer s H E hr =>
 (zf_ (jE_ (sh:=[.f,.f,.dead,.dead]) (jC_ (i:=2) sc__law_told.nd rfl (by first|exact Or.inl rfl|exact Or.inr rfl) (zs_ jN_) rfl (.inl rfl)))
  (zf_ (We_ (i:=2) (j:=3) (gl:=["row", "word"]) C_read_counts X_NoText (hr.mono (by decide)) rfl rfl (fun _=>(zJ_ (zs_ (av 0)) (zJ_ (zs_ (av 1)) ja_ (za_ rfl)) (za_ rfl))) rfl sc__law_told.nd rfl rfl (by decide) (by first|exact Or.inl rfl|exact Or.inr rfl) rfl rfl rfl (by simp) (by simp) (by decide) (fun _=>j0_ Q2_ (j0_ (Q0_ (jV_ (i:=3) rfl (by first|exact Or.inl rfl|exact Or.inr (Or.inl rfl)|exact Or.inr (Or.inr rfl))) rfl) (j0_ (Q0_ (jV_ (i:=3) rfl (by first|exact Or.inl rfl|exact Or.inr (Or.inl rfl)|exact Or.inr (Or.inr rfl))) rfl) JJ_ (za_ rfl)) (za_ rfl)) (za_ rfl)) rfl (.inl rfl) rfl rfl (by decide) (by decide) (za_ rfl) rfl)
  (zu_ (zY_ (zs_ (av 2)))))))
 (fun ds hl=>match ds,hl with | [p_law_many,p_law_text],_=>by kernel_rfl)
theorem Zp_ {f:Addr} {fd:FuncData} (Fn:Fun K "_law_told" "_law_told" zN_ f fd) (hmg:mg "_law_told" = some (.ref f)) (B:BN mg) (Kn:KN mg) (C_read_counts:CF P w K mg base "read_counts" 3 (spD K 2 z0_)) (X_NoText:CCl P w K mg base "NoText" 1 ["row", "word"]):CF P w K mg base "_law_told" 4 (spD K 2 jd_) :=
 ⟨f,fd,["_law_many", "_law_text"],ZE_ Fn B Kn C_read_counts X_NoText,hmg,Fn.kp,(Fn.binds fun _ _ _ _ _ _ us hl=>match us,hl with | [_,_],_=>rfl)⟩
abbrev uB_:Stmt:=top 18
abbrev Wl_:List Str:=["_law_script", "_law_k", "_law_feed_here", "_law_row", "_law_text", "_law_turn", "_law_many", "_law_at", "_law_sign"]
theorem sc_law:FnScope Wl_ ["_law_script"] (zb_ uB_):=⟨rfl,rfl,rfl,by decide +kernel,rfl,by decide +kernel,by decide +kernel⟩
abbrev N_law_0:List Str:=["_law_script", "_law_k", "_law_feed_here", "_law_row", "_law_text", "_law_turn", "_law_many", "_law_at", "_law_sign", "_law_j"]
theorem Uo_:N_law_0.Nodup:=by decide +kernel
abbrev N_law_1:List Str:=["_law_script", "_law_k", "_law_feed_here", "_law_row", "_law_text", "_law_turn", "_law_many", "_law_at", "_law_sign", "_law_number_here"]
theorem Un_:N_law_1.Nodup:=by decide +kernel
def QK_ (v_law_script:D):M D :=
 .ret (.bool true)
def QJ_ (kn5:D×Unit→M D) (v_law_script:D) (v_law_feed_here:List D) (v_law_row:D) (v_law_text:D):M D :=
 kn5 (v_law_script,())
def y2_ (kn5:D×Unit→M D) (v_law_script:D) (v_law_feed_here:List D) (v_law_row:D) (v_law_text:D) (d_:D) (kn48:D×List D×D×D×Unit→M D):M D :=
 bd (bd (bd (oM (fLen [v_law_row])) fun x49=>bd (oM (fLen [v_law_row])) fun x50=>bd (bd (oM (fLen [v_law_row])) fun x51=>oM (zV_ x51 (.int 1))) fun x52=>.ret [x49,x50,x52,(.int 1)]) fun l53=>.ret (PyData.list l53)) fun x54=>bd (zT_ v_law_feed_here x54) fun r55=>bd (bd (bd (jv_ r55.1 v_law_text) fun x56=>oM (YB_ [x56])) fun x58=>bd (bd (jS_ r55.1 v_law_text) fun x57=>oM (YB_ [x57])) fun x59=>oM (opNe x58 x59)) fun b60=>if b60 then
  .ret (.bool false)
  else
  bd (bd (oM (fLen [v_law_text])) fun x61=>oM (zV_ x61 (.int 1))) fun x62=>bd (zp_ r55.2 x62) fun r63=>bd (bd (bd (oM (JL_ (.str "9") (.int 9))) fun x64=>.ret [(.str ""),(.str "0"),(.str "1"),(.str ","),(.str ",0"),(.str "0,"),(.str " "),(.str "-"),(.str "+"),(.str "_"),(.str "x"),(.str "00"),x64]) fun l65=>.ret (PyData.list l65)) fun x66=>bd (zT_ r63.2 x66) fun r67=>bd (bd (bd (asI r63.1) fun hi68=>oM (V4_ v_law_text none hi68)) fun x69=>oM (zV_ x69 r67.1)) fun x70=>bd (zp_ r67.2 (.int 2)) fun r71=>bd (oM (zV_ r63.1 r71.1)) fun x72=>bd (oM (JV_ v_law_text x72)) fun x73=>bd (oM (zV_ x70 x73)) fun x74=>kn48 (v_law_script,r71.2,v_law_row,x74,())
def y3_ (v_law_script:D) (d_:D) (kn5:D×Unit→M D):M D :=
 bd (jw_ v_law_script d_) fun l6=>bd (zp_ l6 (.int 5)) fun r7=>bd (oM (zV_ (.int 1) r7.1)) fun x8=>bd (oM (ji_ [x8])) fun l9=>bd (j3_ (fun s10 d11=>bd (bd (bd (oM (jI_ (.int 10) (.int 6))) fun x12=>bd (oM (jI_ (.int 10) (.int 9))) fun x13=>.ret [(.int 2),(.int 12),x12,x13]) fun l14=>.ret (PyData.list l14)) fun x15=>bd (zT_ s10.2.1 x15) fun r16=>bd (zp_ r16.2 r16.1) fun r17=>.ret (some r17.1,(s10.1,r17.2,()))) l9 (v_law_script,r7.2,())) fun r18=>bd (fitM r18.1) fun l19=>bd (bd (oM (jD_ (PyData.list l19) (.int 0))) fun x20=>bd (bd (bd (bd (oM (uE_ [(PyData.list l19)])) fun x21=>oM (opEq x21 (.int 0))) fun b22=>.ret (.bool b22)) fun x23=>oM (ZI_ [x23])) fun x24=>oM (uE_ [x20,x24])) fun x25=>bd (oM (putD l19 (.int 0) x25)) fun l26=>bd (onT .str (.str ",") (bd (bd (bd (oM (seqS (PyData.list l26))) fun l29=>bd (z8_ (fun d27=>bd (oM (fStr [d27])) fun x28=>.ret (some x28)) l29) fitM) fun l30=>.ret (PyData.list l30)) fun x31=>oM (Ux_ (.str ",") [x31]))) fun x32=>bd (bd (bd (bd (oM (u7_ [(PyData.list l26)])) fun x33=>zD_ x33) fun x34=>oM (opNe x34 x32)) fun b45=>if b45 then .ret true else bd (bd (bd (bd (oM (jI_ (.int 10) (.int 39))) fun x35=>bd (oM (jD_ (PyData.list l26) (.int 0))) fun x36=>oM (zV_ x35 x36)) fun x37=>.ret (.tuple [x37,(.int 0)])) fun x38=>zD_ x38) fun x43=>bd (bd (bd (bd (oM (jI_ (.int 10) (.int 39))) fun x39=>bd (oM (jD_ (PyData.list l26) (.int 0))) fun x40=>oM (zV_ x39 x40)) fun x41=>oM (fStr [x41])) fun x42=>oM (zV_ x42 (.str ",0"))) fun x44=>oM (opNe x43 x44)) fun b46=>if b46 then
  .ret (.bool false)
  else
  bd (oM (ji_ [(.int 4)])) fun l47=>forS (fun s75 d76 kn=>y2_ kn5 s75.1 s75.2.1 s75.2.2.1 s75.2.2.2.1 d76 kn) l47 (r18.2.1,r18.2.2.1,(PyData.list l26),x32,()) (fun s75=>QJ_ kn5 s75.1 s75.2.1 s75.2.2.1 s75.2.2.2.1)
def QL_ (p_law_script:D):M D :=
 bd (bd (bd (bd (oM (fLen [p_law_script])) fun x1=>oM (YC_ [(.int 20),x1])) fun x2=>oM (zV_ (.int 2) x2)) fun x3=>oM (ji_ [x3])) fun l4=>forS (fun s77 d78 kn=>y3_ s77.1 d78 kn) l4 (p_law_script,()) (fun s77=>QK_ s77.1)
def Zu_:List D→M D:=fun l=>match l with
 | [p_law_script]=>QL_ p_law_script
 | _=>.bad
set_option maxHeartbeats 4000000 in
theorem Q8_ {f:Addr} {fd:FuncData} (Fn:Fun K "law" "law" uB_ f fd) (B:BN mg) (Kn:KN mg) (C__law_feed:CF P w K mg base "_law_feed" 1 (spL K 2 je_)) (C__law_next:CF P w K mg base "_law_next" 1 (sp1 K 2 zR_)) (C__law_one:CF P w K mg base "_law_one" 2 (sp1 K 2 jq_)) (C_shown_counts:CF P w K mg base "shown_counts" 1 (spD K 1 zW_)) (C__law_told:CF P w K mg base "_law_told" 4 (spD K 2 jd_)) (C__law_due:CF P w K mg base "_law_due" 2 (spD K 2 jr_)):FnOk P w K mg base (CX1 P w) 5 f fd ["_law_script"] (spD K 1 Zu_) :=
 ux_ (k:=4) Fn sc_law (fun cdv A outer s H E hr =>
 (zf_ (YY_ (sh:=[.f,.dead,.dead,.dead,.dead,.dead,.dead,.dead,.dead]) PassesOwn.leaving rfl (Vg_ (Z1_ rfl B.range (zd_ (zn_ zF_ z2_ (ao zc_) (ao (zj_ (YO_ rfl) VN_ rfl B.min (by decide +kernel) (ze_ (ao zc_) (ze_ (ao (zj_ zA_ jb_ rfl B.len PySem.boot_len (ze_ (ao (av 0)) zh_ (za_ rfl)) (by decide) (by decide) rfl rfl)) zh_ (za_ rfl)) (za_ rfl)) (by decide) (by decide) rfl rfl))) zM_ (za_ rfl)) rfl)) (jk_ (i:=1) (Nat.zero_le _) sc_law.nd rfl (by first|exact Or.inl rfl|exact Or.inr rfl) (.inl rfl))
  (zf_ (jE_ (sh:=[.f,.dead,.o,.dead,.dead,.dead,.dead,.dead,.dead]) (Wf_ (i:=2) sc_law.nd rfl (by first|exact Or.inl rfl|exact Or.inr rfl) (Vf_ (zak_ C__law_feed (hr.mono (by decide)) rfl (zd_ (av 0) (zd_ (av 1) zM_ (za_ rfl)) (za_ rfl)) rfl (by decide) rfl rfl)) rfl (.inl rfl)))
  (zf_ (jE_ (sh:=[.f,.dead,.o,.o,.dead,.dead,.dead,.dead,.dead]) (ZY_ (i:=3) sc_law.nd rfl (by first|exact Or.inl rfl|exact Or.inr rfl) (.inl rfl) (sh:=[.f,.dead,.o,.dead,.dead,.dead,.dead,.dead,.dead]) (N':=N_law_0) (k:=1) rfl (z3_ (N:=Wl_) (sc:=(zb_ uB_)) (by decide +kernel) rfl rfl) (UC_ rfl B.range (zJ_ (Y4_ zF_ z2_ (zs_ zc_) (uy_ (i:=2) C__law_next (hr.mono (by decide)) rfl rfl (by first|exact Or.inl rfl|exact Or.inr (Or.inl rfl)|exact Or.inr (Or.inr rfl)) (zJ_ (zs_ zc_) ja_ (za_ rfl)) rfl (by decide) rfl rfl)) ja_ (za_ rfl)) rfl) (fun cl s' H' fp C'=>(jk_ (i:=9) (show 9≤9 by decide) Uo_ rfl (by first|exact Or.inl rfl|exact Or.inr rfl) (.inr rfl))) (fun cl s' H' fp C'=>(Wj_ j4_)) (fun cl s' H' fp C'=>(uy_ (i:=2) C__law_next (hr.mono (by decide)) rfl rfl (by first|exact Or.inl rfl|exact Or.inr (Or.inl rfl)|exact Or.inr (Or.inr rfl)) (zJ_ (uy_ (i:=2) C__law_one (hr.mono (by decide)) rfl rfl (by first|exact Or.inl rfl|exact Or.inr (Or.inl rfl)|exact Or.inr (Or.inr rfl)) (zJ_ (zs_ (ap_z (Z0_ (zd_ zc_ (zd_ zc_ (zd_ (zn_ yA_ yB_ (ao zc_) (ao zc_)) (zd_ (zn_ yA_ yB_ (ao zc_) (ao zc_)) zM_ (za_ rfl)) (za_ rfl)) (za_ rfl)) (za_ rfl)) (by decide +kernel)))) ja_ (za_ rfl)) rfl (by decide) rfl rfl) ja_ (za_ rfl)) rfl (by decide) rfl rfl)) rfl (fun _=>rfl)))
  (zf_ (jE_ (sh:=[.f,.dead,.o,.o,.dead,.dead,.dead,.dead,.dead]) (YX_ (i:=3) rfl (by first|exact Or.inl rfl|exact Or.inr (Or.inl rfl)|exact Or.inr (Or.inr rfl)) (zs_ zc_) (zs_ (zj_ (u9_ rfl) Jb_ rfl B.max (by decide +kernel) (ze_ (ao (yb_ (jA_ (zq_ hr)) jz_ (j5_ (i:=3) rfl (by first|exact Or.inl rfl|exact Or.inr (Or.inl rfl)|exact Or.inr (Or.inr rfl))) (ao zc_) (fun _ _=>rfl))) (ze_ (ao (zL_ ue_ yU_ rfl B.int (by decide +kernel) (ze_ (ao (ap_b (Y5_ (Zl_ (zq_ hr)) j8_ (ao (zj_ (u9_ rfl) Jb_ rfl B.max (by decide +kernel) (ze_ (j5_ (i:=3) rfl (by first|exact Or.inl rfl|exact Or.inr (Or.inl rfl)|exact Or.inr (Or.inr rfl))) zh_ (za_ rfl)) (by decide) (by decide) rfl rfl)) (ao zc_) rfl))) zh_ (za_ rfl)) (by decide) (by decide) rfl rfl)) zh_ (za_ rfl)) (za_ rfl)) (by decide) (by decide) rfl rfl)) (fun _=>rfl) rfl rfl rfl))
  (zf_ (XB_ (i:=3) (jE_ (sh:=[.f,.dead,.o,.f,.f,.dead,.dead,.dead,.dead]) (jC_ (i:=4) sc_law.nd rfl (by first|exact Or.inl rfl|exact Or.inr rfl) (zs_ (Y1_ (ty:=.str) PySem.F.plainAttrs_str PySem.F.slot_str_join PySem.F.type_str_join Yi_ (ao zH_) (zd_ (ap_z (yc_ (N':=N_law_1) (k:=1) rfl (z3_ (N:=Wl_) (sc:=(zb_ uB_)) (by decide +kernel) rfl rfl) (j6_ (av 3)) (fun cl s' H' fp C'=>(jk_ (i:=9) (show 9≤9 by decide) Un_ rfl (by first|exact Or.inl rfl|exact Or.inr rfl) (.inr rfl))) (fun cl s' H' fp C'=>j4_) (fun cl s' H' fp C'=>(zL_ jL_ U9_ rfl B.str (by decide +kernel) (ze_ (ao (av 9)) zh_ (za_ rfl)) (by decide) (by decide) rfl rfl)) (fun _=>rfl))) zM_ (za_ rfl)) rfl rfl rfl rfl rfl)) rfl (.inl rfl))))
  (zf_ (yo_ (jW_ (UB_ (Jr_ (zU_ (yz_ (zq_ hr)) j8_ (ao (Ju_ C_shown_counts (hr.mono (by decide)) rfl (zd_ (zL_ jt_ yS_ rfl B.tuple (by decide +kernel) (ze_ (ao (av 3)) zh_ (za_ rfl)) (by decide) (by decide) rfl rfl) zM_ (za_ rfl)) rfl (by decide) rfl rfl)) (ao (av 4)) rfl) (J2_ (zU_ (yz_ (zq_ hr)) j8_ (ao (Ju_ C_shown_counts (hr.mono (by decide)) rfl (zd_ (Ve_ (zd_ (zn_ zF_ z2_ (ao (zn_ yA_ yB_ (ao zc_) (ao zc_))) (ao (yb_ (jA_ (zq_ hr)) jz_ (ao (av 3)) (ao zc_) (fun _ _=>rfl)))) (zd_ zc_ zM_ (za_ rfl)) (za_ rfl)) (by decide +kernel)) zM_ (za_ rfl)) rfl (by decide) rfl rfl)) (ao (zn_ zF_ z2_ (ao (zL_ jL_ U9_ rfl B.str (by decide +kernel) (ze_ (ao (zn_ zF_ z2_ (ao (zn_ yA_ yB_ (ao zc_) (ao zc_))) (ao (yb_ (jA_ (zq_ hr)) jz_ (ao (av 3)) (ao zc_) (fun _ _=>rfl))))) zh_ (za_ rfl)) (by decide) (by decide) rfl rfl)) (ao zH_))) rfl)))))
  (zu_ (zY_ (zs_ Wi_)))
  jj_)
  (zu_ (YY_ (sh:=[.f,.dead,.o,.f,.f,.dead,.dead,.dead,.dead]) PassesOwn.leaving rfl (Vg_ (Z1_ rfl B.range (zd_ zc_ zM_ (za_ rfl)) rfl)) (jk_ (i:=5) (Nat.zero_le _) sc_law.nd rfl (by first|exact Or.inl rfl|exact Or.inr rfl) (.inl rfl))
  (zf_ (jE_ (sh:=[.f,.dead,.o,.f,.f,.dead,.f,.dead,.dead]) (jC_ (i:=6) sc_law.nd rfl (by first|exact Or.inl rfl|exact Or.inr rfl) (uy_ (i:=2) C__law_one (hr.mono (by decide)) rfl rfl (by first|exact Or.inl rfl|exact Or.inr (Or.inl rfl)|exact Or.inr (Or.inr rfl)) (zJ_ (zs_ (ap_z (Z0_ (zd_ (zj_ zA_ jb_ rfl B.len PySem.boot_len (ze_ (ao (av 3)) zh_ (za_ rfl)) (by decide) (by decide) rfl rfl) (zd_ (zj_ zA_ jb_ rfl B.len PySem.boot_len (ze_ (ao (av 3)) zh_ (za_ rfl)) (by decide) (by decide) rfl rfl) (zd_ (zn_ zF_ z2_ (ao (zj_ zA_ jb_ rfl B.len PySem.boot_len (ze_ (ao (av 3)) zh_ (za_ rfl)) (by decide) (by decide) rfl rfl)) (ao zc_)) (zd_ zc_ zM_ (za_ rfl)) (za_ rfl)) (za_ rfl)) (za_ rfl)) (by decide +kernel)))) ja_ (za_ rfl)) rfl (by decide) rfl rfl) rfl (.inl rfl)))
  (zf_ (yo_ (jW_ (zU_ (yz_ (zq_ hr)) j8_ (ao (zj_ (ZR_ (zq_ hr) hr.gd) Ya_ rfl B.repr (by decide +kernel) (ze_ (ao (Ju_ C__law_told (hr.mono (by decide)) rfl (zd_ (av 6) (zd_ (av 4) zM_ (za_ rfl)) (za_ rfl)) rfl (by decide) rfl rfl)) zh_ (za_ rfl)) (by decide) (by decide) rfl rfl)) (ao (zj_ (ZR_ (zq_ hr) hr.gd) Ya_ rfl B.repr (by decide +kernel) (ze_ (ao (Ju_ C__law_due (hr.mono (by decide)) rfl (zd_ (av 6) (zd_ (av 4) zM_ (za_ rfl)) (za_ rfl)) rfl (by decide) rfl rfl)) zh_ (za_ rfl)) (by decide) (by decide) rfl rfl)) rfl))
  (zu_ (zY_ (zs_ Wi_)))
  jj_)
  (zf_ (jE_ (sh:=[.f,.dead,.o,.f,.f,.dead,.dead,.f,.dead]) (jC_ (i:=7) sc_law.nd rfl (by first|exact Or.inl rfl|exact Or.inr rfl) (uy_ (i:=2) C__law_next (hr.mono (by decide)) rfl rfl (by first|exact Or.inl rfl|exact Or.inr (Or.inl rfl)|exact Or.inr (Or.inr rfl)) (zJ_ (zs_ (zn_ zF_ z2_ (ao (zj_ zA_ jb_ rfl B.len PySem.boot_len (ze_ (ao (av 4)) zh_ (za_ rfl)) (by decide) (by decide) rfl rfl)) (ao zc_))) ja_ (za_ rfl)) rfl (by decide) rfl rfl) rfl (.inl rfl)))
  (zf_ (jE_ (sh:=[.f,.dead,.o,.f,.f,.dead,.dead,.f,.f]) (jC_ (i:=8) sc_law.nd rfl (by first|exact Or.inl rfl|exact Or.inr rfl) (uy_ (i:=2) C__law_one (hr.mono (by decide)) rfl rfl (by first|exact Or.inl rfl|exact Or.inr (Or.inl rfl)|exact Or.inr (Or.inr rfl)) (zJ_ (zs_ (ap_z (Z0_ (zd_ zH_ (zd_ zH_ (zd_ zH_ (zd_ zH_ (zd_ zH_ (zd_ zH_ (zd_ zH_ (zd_ zH_ (zd_ zH_ (zd_ zH_ (zd_ zH_ (zd_ zH_ (zd_ (zn_ VI_ VM_ (ao zH_) (ao zc_)) zM_ (za_ rfl)) (za_ rfl)) (za_ rfl)) (za_ rfl)) (za_ rfl)) (za_ rfl)) (za_ rfl)) (za_ rfl)) (za_ rfl)) (za_ rfl)) (za_ rfl)) (za_ rfl)) (za_ rfl)) (by decide +kernel)))) ja_ (za_ rfl)) rfl (by decide) rfl rfl) rfl (.inl rfl)))
  (zu_ (jC_ (i:=4) sc_law.nd rfl (by first|exact Or.inl rfl|exact Or.inr rfl) (Y4_ zF_ z2_ (zs_ (zn_ zF_ z2_ (ao (Y0_ (ao (av 4)) QO_ (QN_ (av 7)))) (ao (av 8)))) (QQ_ (zs_ (av 4)) (Y4_ zF_ z2_ (zs_ (av 7)) (uy_ (i:=2) C__law_next (hr.mono (by decide)) rfl rfl (by first|exact Or.inl rfl|exact Or.inr (Or.inl rfl)|exact Or.inr (Or.inr rfl)) (zJ_ (zs_ zc_) ja_ (za_ rfl)) rfl (by decide) rfl rfl)))) rfl (.inl rfl))))))) (fun _=>rfl)))))))) (fun _=>rfl))
  (zu_ (zY_ (zs_ Wi_)))))
 (fun ds hl=>match ds,hl with | [p_law_script],_=>by kernel_rfl)
theorem zao_ {f:Addr} {fd:FuncData} (Fn:Fun K "law" "law" uB_ f fd) (hmg:mg "law" = some (.ref f)) (B:BN mg) (Kn:KN mg) (C__law_feed:CF P w K mg base "_law_feed" 1 (spL K 2 je_)) (C__law_next:CF P w K mg base "_law_next" 1 (sp1 K 2 zR_)) (C__law_one:CF P w K mg base "_law_one" 2 (sp1 K 2 jq_)) (C_shown_counts:CF P w K mg base "shown_counts" 1 (spD K 1 zW_)) (C__law_told:CF P w K mg base "_law_told" 4 (spD K 2 jd_)) (C__law_due:CF P w K mg base "_law_due" 2 (spD K 2 jr_)):CF P w K mg base "law" 5 (spD K 1 Zu_) :=
 ⟨f,fd,["_law_script"],Q8_ Fn B Kn C__law_feed C__law_next C__law_one C_shown_counts C__law_told C__law_due,hmg,Fn.kp,(Fn.binds fun _ _ _ _ _ _ us hl=>match us,hl with | [_],_=>rfl)⟩
end
end
end K12
set_option Elab.async false
set_option linter.all false
set_option maxRecDepth 100000
namespace L4
open PySem PySem.Spec PyProof.Rows L2 L3
theorem bdR {S T:Type} (s:S) (k:S→M T):bd (.ret s) k=k s:=id rfl
theorem oMS {S:Type} (s:S):oM (some s)=.ret s:=id rfl
theorem Yy_ {S T:Type} {step:T→D→(T→M S)→M S} {R:M S} {P:Nat→T→Prop}:∀ (ds:List D) (i:Nat) (s:T) (k:T→M S),
  (∀ (j:Nat) (s:T) (d:D),d∈ds→i≤j→j<i+ds.length→P j s→∀ kn:T→M S,(∀ s',P (j+1) s'→kn s'=R)→step s d kn=R) →
  P i s→(∀ s',P (i+ds.length) s'→k s'=R)→forC step ds s k=R
 | [],i,s,k,_,hp,hk=>hk s hp
 | d::r,i,s,k,h,hp,hk=>by
  show step s d _=R
  refine h i s d List.mem_cons_self (Nat.le_refl _) (by simp) hp _ fun s' hp'=>?_
  refine Yy_ r (i+1) s' k (fun j s d hd hj hl=>h j s d (List.mem_cons_of_mem _ hd) (by omega) (by simp;omega)) hp' fun s' hs=>hk s' ?_
  have:i+(d::r).length=i+1+r.length:=by simp;omega
  rw [this];exact hs
theorem V0_ {S T:Type} {step:T→D→(T→M S)→M S} {R:M S} {P:Nat→T→Prop} (ds:List D) (i:Nat) (s:T) (k:T→M S)
  (h:∀ (j:Nat) (s:T) (d:D),d∈ds→i≤j→j<i+ds.length→P j s→∀ kn:T→M S,(∀ s',P (j+1) s'→kn s'=R)→step s d kn=R)
  (hp:P i s) (hk:∀ s',P (i+ds.length) s'→k s'=R):forS step ds s k=R:=by
 rw [Jj_]
 exact Yy_ ds i s k h hp hk
theorem j2_ {S:Type} {ds:List S} (h:ds.length≤1000):fitM ds=.ret ds:=if_pos (Zw_ h)
theorem y4_ {α:Type} (xs:List α) (i:Nat) (h:i<xs.length):atI xs (i:Int)=some (xs[i]'h):=by
 unfold atI ixN
 rw [if_pos (Int.natCast_nonneg _),if_pos (by omega)]
 simp [h]
theorem Vc_ {α:Type} (xs:List α) (i:Int) (h0:0≤i) (h:i<xs.length):∃ x∈xs,atI xs i=some x:=by
 obtain ⟨n,rfl⟩:=Int.eq_ofNat_of_zero_le h0
 exact ⟨_,List.getElem_mem _,y4_ xs n (by omega)⟩
def uK_ (s:Str):Bool:=PyData.strOk s&&decide ((reprText s).length≤24)&&PyData.strOk (reprText s)
def Ok (k:Nat):Nat→D→Prop
 | 0,_=>False
 | _+1,.none=>True
 | _+1,.bool _=>True
 | _+1,.int i=>i.natAbs<10^(16+k)
 | _+1,.str s=>uK_ s=true
 | n+1,.list ds=>ds.length≤6+k∧∀ d∈ds,Ok k n d
 | n+1,.tuple ds=>ds.length≤6+k∧∀ d∈ds,Ok k n d
 | _+1,.dict _=>False
theorem Jg_:∀ {ds:List D},(∀ d∈ds,d.canLay0=true)→PyData.canLayAll0 ds=true
 | [],_=>by simp [PyData.canLayAll0]
 | d::r,h=>by
  simp only [PyData.canLayAll0,Bool.and_eq_true]
  exact ⟨h d List.mem_cons_self,Jg_ fun e he=>h e (List.mem_cons_of_mem _ he)⟩
theorem y1_ {n:Nat}:∀ {ds:List D},(∀ d∈ds,d.depth≤n)→PyData.depthAll ds≤n
 | [],_=>by simp [PyData.depthAll]
 | d::r,h=>by
  simp only [PyData.depthAll]
  exact Nat.max_le.mpr ⟨h d List.mem_cons_self,y1_ fun e he=>h e (List.mem_cons_of_mem _ he)⟩
theorem Xd_ {m:Nat} (h:m<10^36):m.log2<1920:=by
 by_cases h0:m=0
 ·subst h0;decide
 ·exact (Nat.log2_lt h0).mpr (Nat.lt_of_lt_of_le h (by decide +kernel))
theorem strOk_iff {s:Str}:PyData.strOk s=true↔∀ c∈s.cps.toList,c<1114112:=by
 unfold PyData.strOk
 rw [←Array.all_toList,List.all_eq_true]
 simp
theorem zt_ (s:String):PyData.strOk (Str.ofString s)=true:=by
 rw [strOk_iff,signs_ofString]
 intro c hc
 obtain ⟨ch,_,rfl⟩:=List.mem_map.mp hc
 have:=ch.valid
 have e:ch.toNat=ch.val.toNat:=rfl
 rw [e]
 rcases this with h|⟨_,h⟩
 ·have h':ch.val.toNat<0xd800:=h
  omega
 ·have h':ch.val.toNat<0x110000:=h
  omega
theorem z7_ {a b:Str} (ha:PyData.strOk a=true) (hb:PyData.strOk b=true):PyData.strOk (a++b)=true:=by
 rw [strOk_iff] at *
 intro c hc
 rcases mem_cps_append.mp hc with h|h
 ·exact ha c h
 ·exact hb c h
theorem ul_ {sep:Str} {ts:List Str} (hs:PyData.strOk sep=true) (h:∀ t∈ts,PyData.strOk t=true):PyData.strOk (Str.join sep ts)=true:=by
 rw [strOk_iff] at *
 intro c hc
 rcases (mem_join sep c ts).mp hc with ⟨t,ht,hc⟩|⟨_,hc⟩
 ·exact strOk_iff.mp (h t ht) c hc
 ·exact hs c hc
theorem Yq_ {ts:List Str}:(Str.join ", " ts).length≤piled ts:=by
 by_cases h:ts=[]
 ·subst h;exact Nat.zero_le _
 ·have:=join_length_add ts h;omega
def lim:Nat→Nat
 | 0=>24
 | n+1=>4+9*(lim n+2)
end L4
set_option Elab.async false
set_option linter.all false
set_option maxRecDepth 100000
namespace L4
open PySem PySem.Spec PyProof.Rows L2 L3
theorem eqI (a b:Int):opEq (.int a) (.int b)=some (a==b):=by
 unfold opEq eqOk
 simp [PyData.canLay0,PyData.depth,PyData.eqv]
theorem neI (a b:Int):opNe (.int a) (.int b)=some (!(a==b)):=by
 unfold opNe eqOk
 simp [PyData.canLay0,PyData.depth,PyData.eqv]
theorem gtI (a b:Int):opGt (.int a) (.int b)=some (decide (b<a)):=id rfl
theorem geI (a b:Int):opGe (.int a) (.int b)=some (decide (b≤a)):=id rfl
theorem addI (a b:Int):zV_ (.int a) (.int b)=some (.int (a+b)):=id rfl
theorem modI (i j:Int) (h:0<j):uR_ (.int i) (.int j)=some (.int (i % j)):=if_pos h
theorem divI (i j:Int) (h:0<j) (h2:j<1073741824):U7_ (.int i) (.int j)=some (.int (i / j)):=if_pos (by simp [h,h2])
theorem mulL (i j:Int) (h : -(2^64)<i) (h2:i<2^64):jy_ (.int i) (.int j)=some (.int (i*j)):=if_pos (by simp only [Qr_,Bool.or_eq_true,Bool.and_eq_true,decide_eq_true_eq];exact .inl ⟨h,h2⟩)
theorem mulR (i j:Int) (h : -(2^64)<j) (h2:j<2^64):jy_ (.int i) (.int j)=some (.int (i*j)):=if_pos (by simp only [Qr_,Bool.or_eq_true,Bool.and_eq_true,decide_eq_true_eq];exact .inr ⟨h,h2⟩)
theorem zaj_ (i:Int):asI (.int i)=.ret (some i):=id rfl
theorem lenT (ds:List D):fLen [.tuple ds]=some (.int ds.length):=id rfl
theorem lenL (ds:List D):fLen [.list ds]=some (.int ds.length):=id rfl
theorem seqT (ds:List D):seqD (.tuple ds)=some ds:=id rfl
theorem seqL (ds:List D):seqD (.list ds)=some ds:=id rfl
theorem tupL (ds:List D):u7_ [.list ds]=some (.tuple ds):=id rfl
theorem tupT (ds:List D):u7_ [.tuple ds]=some (.tuple ds):=id rfl
theorem cutT (ds:List D) (lo hi:Option Int):fCut (.tuple ds) lo hi=some (.tuple (L4.cutD ds lo hi)):=id rfl
theorem zay_ (ds:List D) (lo hi:Option Int):fCut (.list ds) lo hi=some (.list (L4.cutD ds lo hi)):=id rfl
theorem ix3_0 (a b c:D):opIx (.list [a,b,c]) (.int 0)=some a:=id rfl
theorem ix3_1 (a b c:D):opIx (.list [a,b,c]) (.int 1)=some b:=id rfl
theorem ix3_2 (a b c:D):opIx (.list [a,b,c]) (.int 2)=some c:=id rfl
theorem put3_0 (a b c d:D):putD [a,b,c] (.int 0) d=some [d,b,c]:=id rfl
theorem put3_2 (a b c d:D):putD [a,b,c] (.int 2) d=some [a,b,d]:=id rfl
theorem iteB (a b:Bool):(if a=true then (M.ret b) else .ret false)=.ret (a&&b):=by cases a<;>rfl
theorem iteO (a b:Bool):(if a=true then (M.ret true) else .ret b)=.ret (a||b):=by cases a<;>rfl
theorem Wa_ (n m:Nat):((n:Int)==(m:Int))=decide (n=m):=by
 by_cases h:n=m
 ·simp [h]
 ·simp only [h,decide_false];rw [beq_eq_false_iff_ne];omega
def sW (lo hi:Int):D→Bool
 | .int i=>decide (lo≤i)&&decide (i≤hi)
 | _=>false
def sS (w:Str):D→Bool
 | .str s=>s==w
 | _=>false
def Ey (d:D):Prop:=d.canLay0=true∧d.depth≤1000
theorem eqS {d:D} (h:Ey d) (w:String):opEq d (.str w)=some (sS w d):=by
 unfold opEq eqOk
 have hw:PyData.canLay0 (.str w)=true:=by simp [PyData.canLay0,zt_]
 rw [if_pos (by simp [h.1,h.2,hw])]
 cases d<;>simp [PyData.eqv,sS]
end L4
set_option Elab.async false
set_option linter.all false
set_option maxRecDepth 100000
namespace L4
open PySem PySem.Spec PyProof.Rows L2 L3
theorem JU_ {S T ι:Type} {step:T→D→(T→M S)→M S} {e:ι→D} {F:List ι→T} {k:T→M S}:∀ (is pre:List ι),
  (∀ p i q,is=p++i::q→∀ kn:T→M S,step (F (pre++p)) (e i) kn=kn (F (pre++p++[i])))→forC step (is.map e) (F pre) k=k (F (pre++is))
 | [],pre,_=>by simp [forC]
 | i::r,pre,h=>by
  show step (F pre) (e i) _=_
  have h0:=h [] i r rfl (fun s'=>forC step (r.map e) s' k)
  rw [List.append_nil] at h0
  rw [h0]
  have:=JU_ (step:=step) (e:=e) (F:=F) (k:=k) r (pre++[i]) fun p j q hq kn=>by
   have:=h (i::p) j q (by rw [hq];rfl) kn
   simpa using this
  rw [this]
  simp
theorem QB_ {S T ι:Type} {step:T→D→(T→M S)→M S} {e:ι→D} {F:List ι→T} {k:T→M S} (is:List ι)
  (h:∀ p i q,is=p++i::q→∀ kn:T→M S,step (F p) (e i) kn=kn (F (p++[i]))):forS step (is.map e) (F []) k=k (F is):=by
 rw [Jj_]
 have:=JU_ (step:=step) (e:=e) (F:=F) (k:=k) is [] (by simpa using h)
 simpa using this
theorem V1_ {S T:Type} {step:T→D→(T→M S)→M S} {R:M S→Prop} {P:Nat→T→Prop} {k:T→M S}:∀ (ds:List D) (i:Nat) (s:T),
  (∀ (j:Nat) (s:T) (d:D),ds[j]? = some d→P (i+j) s→∀ kn:T→M S,(∀ s',P (i+j+1) s'→R (kn s'))→R (step s d kn)) →
  P i s→(∀ s',P (i+ds.length) s'→R (k s'))→R (forC step ds s k)
 | [],i,s,_,hp,hk=>hk s hp
 | d::r,i,s,h,hp,hk=>by
  show R (step s d _)
  refine h 0 s d rfl hp _ fun s' hp'=>?_
  refine V1_ r (i+1) s' (fun j s d hd hp kn hkn=>h (j+1) s d (by simpa using hd) (by rw [show i+(j+1)=i+1+j by omega];exact hp) kn fun s' q=>hkn s' (by rw [show i+1+j+1=i+(j+1)+1 by omega];exact q)) hp' fun s' hs=>hk s' ?_
  rw [show i+(d::r).length=i+1+r.length by simp;omega];exact hs
theorem jl_ {ι:Type} {step:D→M (Option D)} {e g:ι→D}:∀ (is:List ι),(∀ i∈is,step (e i)=.ret (some (g i)))→z8_ step (is.map e)=.ret (is.map g)
 | [],_=>rfl
 | i::r,h=>by
  rw [List.map_cons,z8_,h i List.mem_cons_self,jl_ r fun d hd=>h d (List.mem_cons_of_mem _ hd)]
  rfl
theorem JY_ {ι:Type} {step:D→M (Option D)} {e:ι→D} {g:ι→Option D}:∀ (is:List ι),(∀ i∈is,step (e i)=.ret (g i))→z8_ step (is.map e)=.ret (is.filterMap g)
 | [],_=>rfl
 | i::r,h=>by
  rw [List.map_cons,z8_,h i List.mem_cons_self,JY_ r fun d hd=>h d (List.mem_cons_of_mem _ hd)]
  cases q:g i<;>simp [jg_,bdR,List.filterMap_cons,q]
theorem ZL_ {T ι:Type} {step:T→D→M (Option D×T)} {P:Nat→T→Prop} {e:ι→D} {R:ι→Prop}:∀ (ds:List D) (i:Nat) (s:T),
  (∀ (j:Nat) (s:T) (d:D),ds[j]? = some d→P (i+j) s→∃ x s',step s d=.ret (some (e x),s')∧P (i+j+1) s'∧R x)→P i s →
  ∃ xs s',j3_ step ds s=.ret (List.map e xs,s')∧P (i+ds.length) s'∧xs.length=ds.length∧∀ x∈xs,R x
 | [],i,s,_,hp=>⟨[],s,rfl,hp,rfl,fun _ h=>by cases h⟩
 | d::r,i,s,h,hp=>by
  obtain ⟨x,s1,e1,p1,r1⟩:=h 0 s d rfl hp
  obtain ⟨xs,s2,e2,p2,l2,r2⟩:=ZL_ r (i+1) s1 (fun j s d hd hp=>by
   have:=h (j+1) s d (by simpa using hd) (by rw [show i+(j+1)=i+1+j by omega];exact hp)
   rw [show i+(j+1)+1=i+1+j+1 by omega] at this
   exact this) p1
  refine ⟨x::xs,s2,?_,?_,by simp [l2],?_⟩
  ·rw [j3_,e1];simp only [jg_,jm_];rw [e2];rfl
  ·rw [show i+(d::r).length=i+1+r.length by simp;omega];exact p2
  ·intro y hy
   cases hy with
   | head=>exact r1
   | tail _ h=>exact r2 y h
theorem QF_ {T ι:Type} {step:T→D→M (Option D×T)} {P:Nat→T→Prop} {e:ι→D} {R:ι→Prop} (ds:List D) (s:T)
  (h:∀ (j:Nat) (s:T) (d:D),ds[j]? = some d→P j s→∃ x s',step s d=.ret (some (e x),s')∧P (j+1) s'∧R x) (hp:P 0 s) :
  ∃ xs s',j3_ step ds s=.ret (List.map e xs,s')∧P ds.length s'∧xs.length=ds.length∧∀ x∈xs,R x:=by
 have:=ZL_ (step:=step) (P:=P) (e:=e) (R:=R) ds 0 s (by simpa using h) hp
 simpa using this
abbrev iN (n:Nat):D:=.int (n:Int)
def rng (lo hi:Nat):List Nat:=(List.range (hi - lo)).map (lo + ·)
theorem Uh_ (lo n:Nat):uu_ (lo:Int) n=((List.range n).map (lo + ·)).map iN:=by
 unfold uu_
 rw [List.map_map]
 apply List.map_congr_left
 intro a _
 show PyData.int _=PyData.int _
 congr 1
theorem UM_ {n:Nat} (h:n≤100000):uM_ (n:Int)=true:=by
 unfold uM_
 simp only [Bool.and_eq_true,decide_eq_true_eq]
 omega
theorem Z4_ (n:Nat) (h:n≤100000):ji_ [.int (n:Int)]=some ((List.range n).map iN):=by
 unfold ji_
 simp only [UM_ h,if_true]
 have:=Uh_ 0 n
 simp only [Int.toNat_natCast]
 rw [show (0:Int)=((0:Nat):Int) from rfl,this]
 simp
mutual
def sz:D→Nat
 | .list ds=>1+szs ds
 | .tuple ds=>1+szs ds
 | .none=>1
 | .bool _=>1
 | .int _=>1
 | .str _=>1
 | .dict _=>1
def szs:List D→Nat
 | []=>0
 | d::r=>sz d+szs r
end
mutual
def Sm:D→Prop
 | .list ds=>Sms ds
 | .tuple ds=>Sms ds
 | .none=>True
 | .bool _=>True
 | .int i=>i.natAbs<10^19
 | .str s=>uK_ s=true
 | .dict _=>False
def Sms:List D→Prop
 | []=>True
 | d::r=>Sm d∧Sms r
end
theorem Vh_:∀ {ds:List D},(∀ d∈ds,Sm d)→Sms ds
 | [],_=>by simp [Sms]
 | e::r,h=>by
  simp only [Sms]
  exact ⟨h e List.mem_cons_self,Vh_ fun d hd=>h d (List.mem_cons_of_mem _ hd)⟩
theorem QU_ {B:Nat}:∀ {ds:List D},(∀ d∈ds,sz d≤B)→szs ds≤ds.length*B
 | [],_=>by simp [szs]
 | e::r,h=>by
  simp only [szs,List.length_cons,Nat.succ_mul]
  have h1:=h e List.mem_cons_self
  have h2:=QU_ (ds:=r) fun d hd=>h d (List.mem_cons_of_mem _ hd)
  omega
mutual
theorem Sm.lay:∀ {d:D},Sm d→d.canLay0=true
 | .none,h=>by simp [PyData.canLay0]
 | .bool _,h=>by simp [PyData.canLay0]
 | .int _,h=>by simp [PyData.canLay0]
 | .str s,h=>by
  have h':uK_ s=true:=by simpa [Sm] using h
  unfold uK_ at h'
  simp only [Bool.and_eq_true] at h'
  simp [PyData.canLay0,h'.1.1]
 | .list ds,h=>by simp only [PyData.canLay0];exact Sms.lay (by simpa [Sm] using h)
 | .tuple ds,h=>by simp only [PyData.canLay0];exact Sms.lay (by simpa [Sm] using h)
 | .dict _,h=>by simp [Sm] at h
theorem Sms.lay:∀ {ds:List D},Sms ds→PyData.canLayAll0 ds=true
 | [],_=>by simp [PyData.canLayAll0]
 | d::r,h=>by
  simp only [Sms] at h
  simp only [PyData.canLayAll0,Bool.and_eq_true]
  exact ⟨Sm.lay h.1,Sms.lay h.2⟩
end
mutual
theorem Sm.show:∀ {d:D},Sm d→d.showable=true
 | .none,h=>by simp [PyData.showable]
 | .bool _,h=>by simp [PyData.showable]
 | .int i,h=>by
  have h':i.natAbs<10^19:=by simpa [Sm] using h
  simp only [PyData.showable,decide_eq_true_eq]
  exact Xd_ (Nat.lt_of_lt_of_le h' (Nat.pow_le_pow_right (by decide) (by decide)))
 | .str s,h=>by simp [PyData.showable]
 | .list ds,h=>by simp only [PyData.showable];exact Sms.show (by simpa [Sm] using h)
 | .tuple ds,h=>by simp only [PyData.showable];exact Sms.show (by simpa [Sm] using h)
 | .dict _,h=>by simp [Sm] at h
theorem Sms.show:∀ {ds:List D},Sms ds→PyData.showableAll ds=true
 | [],_=>by simp [PyData.showableAll]
 | d::r,h=>by
  simp only [Sms] at h
  simp only [PyData.showableAll,Bool.and_eq_true]
  exact ⟨Sm.show h.1,Sms.show h.2⟩
end
mutual
theorem Sm.text:∀ {d:D},Sm d→d.shown.length+2≤30*sz d∧PyData.strOk d.shown=true
 | .none,h=>by refine ⟨?_,by simp only [PyData.shown];exact zt_ _⟩;simp only [PyData.shown,sz];decide
 | .bool b,h=>by
  refine ⟨?_,by cases b<;>simp only [PyData.shown]<;>exact zt_ _⟩
  cases b<;>simp only [PyData.shown,sz]<;>decide
 | .int i,h=>by
  have h':i.natAbs<10^19:=by simpa [Sm] using h
  refine ⟨?_,by simp only [PyData.shown];exact zt_ _⟩
  simp only [PyData.shown,sz]
  have h1:=int_text_length_le10 (a:=i) (k:=19) (by decide) h'
  have h2:(Str.ofString (toString i)).length=(toString i).length:=by
   show (Str.ofString (toString i)).cps.size=_
   rw [←Array.length_toList,signs_ofString,List.length_map,String.length_toList]
  omega
 | .str s,h=>by
  have h':uK_ s=true:=by simpa [Sm] using h
  unfold uK_ at h'
  simp only [Bool.and_eq_true,decide_eq_true_eq] at h'
  simp only [PyData.shown,sz]
  exact ⟨by omega,h'.2⟩
 | .list ds,h=>by
  obtain ⟨h1,h2⟩:=Sms.text (ds:=ds) (by simpa [Sm] using h)
  have h5:(Str.join ", " (PyData.shownAll ds)).length≤piled (PyData.shownAll ds):=Yq_
  have h6:PyData.strOk (Str.join ", " (PyData.shownAll ds))=true:=ul_ (zt_ _) h2
  simp only [PyData.shown,listText_eq_join,sz]
  refine ⟨?_,z7_ (z7_ (zt_ _) h6) (zt_ _)⟩
  rw [strLen_append,strLen_append]
  have e1:((("[" : String):Str)).length=1:=rfl
  have e2:((("]" : String):Str)).length=1:=rfl
  rw [e1,e2];omega
 | .tuple ds,h=>by
  obtain ⟨h1,h2⟩:=Sms.text (ds:=ds) (by simpa [Sm] using h)
  have h5:(Str.join ", " (PyData.shownAll ds)).length≤piled (PyData.shownAll ds):=Yq_
  have h6:PyData.strOk (Str.join ", " (PyData.shownAll ds))=true:=ul_ (zt_ _) h2
  simp only [PyData.shown,tupleText,sz]
  refine ⟨?_,z7_ (z7_ (zt_ _) h6) (zt_ _)⟩
  rw [strLen_append,strLen_append]
  have e1:((("(" : String):Str)).length=1:=rfl
  have e3:(((if (PyData.shownAll ds).length==1 then ",)" else ")" : String):Str)).length≤2:=by split<;>decide
  rw [e1];omega
 | .dict _,h=>by simp [Sm] at h
theorem Sms.text:∀ {ds:List D},Sms ds→piled (PyData.shownAll ds)≤30*szs ds∧∀ t∈PyData.shownAll ds,PyData.strOk t=true
 | [],_=>by simp [PyData.shownAll,piled,szs]
 | d::r,h=>by
  simp only [Sms] at h
  obtain ⟨h1,h2⟩:=Sm.text h.1
  obtain ⟨h3,h4⟩:=Sms.text h.2
  simp only [PyData.shownAll,szs]
  refine ⟨?_,fun t ht=>?_⟩
  ·rw [piled_cons];omega
  ·rcases List.mem_cons.mp ht with rfl|ht
   ·exact h2
   ·exact h4 t ht
end
theorem Wz_ {d:D} (h:Sm d) (hs:sz d≤30000) (hd:d.depth≤60):YB_ [d]=some (.str d.shown):=by
 obtain ⟨t1,t2⟩:=h.text
 show (if Zb_ d then some (PyData.str d.shown) else none)=_
 unfold Zb_
 rw [if_pos]
 simp only [Bool.and_eq_true,decide_eq_true_eq]
 exact ⟨⟨⟨h.show,h.lay⟩,by omega⟩,Nat.le_trans (show d.shown.length≤1000000 by omega) (by decide)⟩
theorem Xb_ {d:D} (h:Sm d):opNe (.str d.shown) (.str d.shown)=some false:=by
 obtain ⟨t1,t2⟩:=h.text
 unfold opNe eqOk
 rw [if_pos]
 ·simp [PyData.eqv]
 ·simp [PyData.canLay0,t2,PyData.depth]
end L4
set_option Elab.async false
set_option linter.all false
set_option maxRecDepth 100000
namespace L4
open PySem PySem.Spec PyProof.Rows L2 L3
theorem VX_ (ds:List D) (k:D):jD_ (.list ds) k=opIx (.list ds) k:=id rfl
theorem zav_ (d:D) (ds:List D):uC_ d (.list ds)=opIn d (.list ds):=id rfl
theorem zau_ (d:D) (ds:List D):uC_ d (.tuple ds)=opIn d (.tuple ds):=id rfl
theorem XG_ (d:D) (ds:List D):jo_ d (.list ds)=un_ d (.list ds):=id rfl
theorem XF_ (d:D) (ds:List D):jo_ d (.tuple ds)=un_ d (.tuple ds):=id rfl
abbrev pD (p:Nat×Nat):D:=.tuple [iN p.1,iN p.2]
theorem VQ_ (a b:Nat):((a:Int)==(b:Int))=decide (a=b):=Wa_ a b
theorem eqN (a b:Nat):opEq (iN a) (iN b)=some (decide (a=b)):=by
 show opEq (.int a) (.int b)=_
 rw [eqI,VQ_]
theorem addN (a b:Nat):zV_ (iN a) (iN b)=some (iN (a+b)):=by
 show some (PyData.int ((a:Int)+(b:Int)))=_
 rw [←Int.natCast_add]
abbrev Mt:=Nat×Nat×Nat×Nat
abbrev mD (m:Mt):D:=.tuple [iN m.1,iN m.2.1,iN m.2.2.1,iN m.2.2.2]
structure Rl where
 n:Nat
 st:List Nat
 ms:List Mt
 sy:List Bool
abbrev Rl.d (r:Rl):D:=.tuple [iN r.n,.tuple (r.st.map iN),.tuple (r.ms.map mD),.tuple (r.sy.map PyData.bool)]
def plt (p q:Nat×Nat):Prop:=p.1<q.1∨p.1=q.1∧p.2<q.2
structure MtOk (n:Nat) (m:Mt):Prop where
 ab:m.1≤m.2.1
 b:m.2.1<n
 c:m.2.2.1<n
 d:m.2.2.2<n
 ne:m.2.2≠(m.1,m.2.1)
 ne':m.2.2≠(m.2.1,m.1)
structure Wf (r:Rl):Prop where
 n1:1≤r.n
 st:∀ s∈r.st,s<r.n
 sy:r.sy.length=r.n
 ms:∀ m∈r.ms,MtOk r.n m
 so:r.ms.Pairwise fun m m'=>plt (m.1,m.2.1) (m'.1,m'.2.1)
def look (ms:List Mt) (p:Nat×Nat):Option (Nat×Nat):=(ms.find? fun m=>decide (m.1=p.1)&&decide (m.2.1=p.2)).map (·.2.2)
def turn (ms:List Mt) (i j:Nat):Nat×Nat:=if i≤j then (look ms (i,j)).getD (i,j) else let t:=(look ms (j,i)).getD (j,i);(t.2,t.1)
end L4
set_option Elab.async false
set_option linter.all false
set_option maxRecDepth 100000
namespace L4
open PySem PySem.Spec PyProof.Rows L2 L3
theorem min2 (a b:Nat):YC_ [.int (a:Int),.int (b:Int)]=some (iN (min a b)):=by
 show some (PyData.int _)=_
 congr 2
 split<;>omega
end L4
set_option Elab.async false
set_option linter.all false
set_option maxRecDepth 100000
namespace L4
open PySem PySem.Spec PyProof.Rows L2 L3
abbrev kvM (m:Mt):D×D:=(pD (m.1,m.2.1),pD m.2.2)
theorem XH_ (p:Nat×Nat):u1_ (pD p)=true:=id rfl
theorem Xn_ (p:Nat×Nat):uc_ (pD p)=false:=id rfl
structure Ahd (n a b:Nat) (ms:List Mt):Prop where
 ok:∀ m∈ms,MtOk n m
 so:ms.Pairwise fun m m'=>plt (m.1,m.2.1) (m'.1,m'.2.1)
 ah:∀ m∈ms,plt (m.1,m.2.1) (a,b)
 le:ms.length≤a*n+b
end L4
set_option Elab.async false
set_option linter.all false
set_option maxRecDepth 100000
namespace L4
open PySem PySem.Spec PyProof.Rows L2 L3
def tab (n:Nat) (f:Nat→Nat):List Nat:=(List.range n).map f
abbrev tabD (n:Nat) (f:Nat→Nat):List D:=(tab n f).map iN
def up (f:Nat→Nat) (i v:Nat):Nat→Nat:=fun r=>if r=i then v else f r
theorem VW_ {n i:Nat} (h:i<n):L2.ixN n (i:Int)=some i:=by
 unfold L2.ixN
 rw [if_pos (by omega),if_pos (by omega)]
 rfl
theorem Qq_ {l:List Nat} {i:Nat} (v:Nat) (h:i<l.length):putD (l.map iN) (.int (i:Int)) (iN v)=some ((l.set i v).map iN):=by
 show (L2.ixN _ (i:Int)).map _=_
 rw [List.length_map,VW_ h]
 show some ((l.map iN).set i (iN v))=_
 rw [←List.map_set]
def cnt (hs:List Nat) (r:Nat):Nat:=hs.count r
def canB (f:Nat→Nat) (m:Mt):Bool:=let w:=if m.1=m.2.1 then 2 else 1;decide (w≤f m.1)&&decide (w≤f m.2.1)
def ledF (f:Nat→Nat) (m:Mt):Nat→Nat :=
 let f1:=up f m.1 (f m.1 - 1)
 let f2:=up f1 m.2.1 (f1 m.2.1 - 1)
 let f3:=up f2 m.2.2.1 (f2 m.2.2.1+1)
 up f3 m.2.2.2 (f3 m.2.2.2+1)
end L4
set_option Elab.async false
set_option linter.all false
set_option maxRecDepth 100000
namespace L4
open PySem PySem.Spec PyProof.Rows L2 L3
theorem allB (bs:List Bool):fAll [.list (bs.map PyData.bool)]=some (bs.all id):=by
 show (boolsOf _).map _=_
 rw [ya_];rfl
theorem anyB (bs:List Bool):fAny [.list (bs.map PyData.bool)]=some (bs.any id):=by
 show (boolsOf _).map _=_
 rw [ya_];rfl
def zaq_ (bs:List Bool):D:=if bs.all id then .str "yes" else if bs.any id then .str "both" else .str "no"
theorem ud_ {α β:Type} (p:α→Bool) (g:α→β):∀ l:List α,(l.filterMap fun k=>if p k=true then some (g k) else none)=(l.filter p).map g
 | []=>rfl
 | a::r=>by
  rw [List.filterMap_cons,List.filter_cons,ud_ p g r]
  cases p a<;>rfl
end L4
set_option Elab.async false
set_option linter.all false
set_option maxRecDepth 100000
namespace L4
open PySem PySem.Spec PyProof.Rows L2 L3
def zam_ (l:List (Nat×Nat)):List Nat:=l.flatMap fun p=>List.replicate p.2 p.1
def zaz_ (f:Nat→Nat) (ms:List Mt):List Nat:=(ms.zipIdx.filter fun p=>canB f p.1).map (·.2)
def zat_ (r:Rl) (hs:List Nat) (i j:Nat):List Nat:=(hs.set i (turn r.ms (hs.getD i 0) (hs.getD j 0)).1).set j (turn r.ms (hs.getD i 0) (hs.getD j 0)).2
def cdOf (r q:Rl) (i j:Nat):Nat×Nat:=((turn r.ms (i / q.n) (j / q.n)).1*q.n+(turn q.ms (i % q.n) (j % q.n)).1,(turn r.ms (i / q.n) (j / q.n)).2*q.n+(turn q.ms (i % q.n) (j % q.n)).2)
def cell (r q:Rl) (i j:Nat):List Mt:=if cdOf r q i j=(i,j) then [] else [(i,j,cdOf r q i j)]
def XV_ (r q:Rl) (i:Nat):List Mt:=(rng i (r.n*q.n)).flatMap (cell r q i)
def Wt_ (r q:Rl):List Mt:=(List.range (r.n*q.n)).flatMap (XV_ r q)
structure Two (r q:Rl):Prop where
 wr:Wf r
 wq:Wf q
 rn:r.n≤40
 qn:q.n≤40
 R:r.n*q.n≤40
 st:r.st.length=q.st.length
 s4:q.st.length≤4
def XQ_ (both a b:Bool):Bool:=if both then a&&b else a||b
def Wu_ (r q:Rl) (both:Bool) (p:Nat):Bool:=XQ_ both (r.sy.getD (p / q.n) false) (q.sy.getD (p % q.n) false)
def Qc_ (r q:Rl):List Nat:=(List.range r.st.length).map fun k=>r.st.getD k 0*q.n+q.st.getD k 0
def side (r q:Rl) (both:Bool):Rl:=⟨r.n*q.n,Qc_ r q,Wt_ r q,(List.range (r.n*q.n)).map (Wu_ r q both)⟩
def zap_ (both:Bool):D:=if both then .str "both" else .str "either"
end L4
set_option Elab.async false
set_option linter.all false
set_option maxRecDepth 100000
namespace K12
open PySem PySem.Spec PyProof.Rows L2 L3 L4
def Fd (T:Nat) (f:List D):Prop:=∃ a b t:Int,f=[.int a,.int b,.int t]∧0≤t∧t≤T
theorem Fd.le {T T':Nat} {f:List D} (h:Fd T f) (hl:T≤T'):Fd T' f:=by
 obtain ⟨a,b,t,e,h0,h1⟩:=h
 exact ⟨a,b,t,e,h0,by omega⟩
theorem JP_ {T:Nat} {f:List D} {m:Int} (h:Fd T f) (hT:T≤1000000) (hm:0<m) (hm2:m<1073741824) :
  ∃ (r:Int) (f':List D),zp_ f (.int m)=.ret (.int r,f')∧0≤r∧r<m∧Fd (T+1) f':=by
 obtain ⟨a,b,t,rfl,h0,h1⟩:=h
 unfold zp_
 simp only [VX_]
 rw [L4.ix3_0,oMS,bdR,L4.gtI,oMS,bdR]
 by_cases ha:0<a
 ·simp only [ha,decide_true,if_true]
  simp only [oMS,bdR,L4.modI _ _ hm,L4.divI _ _ hm hm2,L4.put3_0]
  exact ⟨_,_,rfl,Int.emod_nonneg _ (by omega),Int.emod_lt_of_pos _ hm,_,_,_,rfl,h0,by omega⟩
 ·simp only [ha,decide_false]
  rw [if_neg (by decide)]
  simp only [oMS,bdR,L4.ix3_2,L4.ix3_1,L4.put3_2,L4.addI]
  rw [L4.mulL 41 _ (by decide) (by decide),L4.mulL (t+1) (t+1) (by omega) (by omega)]
  simp only [oMS,bdR,L4.addI]
  have tb:(t+1)*(t+1)≤1000001*1000001:=Int.mul_le_mul (by omega) (by omega) (by omega) (by omega)
  have tb0:0≤(t+1)*(t+1):=Int.mul_nonneg (by omega) (by omega)
  rw [L4.mulR _ ((t+1)*(t+1)+69621) (by omega) (by omega)]
  simp only [oMS,bdR]
  rw [L4.modI _ _ (by decide)]
  simp only [oMS,bdR]
  rw [L4.modI _ _ (by decide)]
  simp only [oMS,bdR,L4.addI]
  have g1:=Int.emod_nonneg ((b+41*(t+1)+3)*((t+1)*(t+1)+69621)) (b:=(998244353:Int)) (by decide)
  have g2:=Int.emod_lt_of_pos ((b+41*(t+1)+3)*((t+1)*(t+1)+69621)) (b:=(998244353:Int)) (by decide)
  rw [L4.mulL _ _ (by omega) (by omega)]
  simp only [oMS,bdR,L4.addI]
  rw [L4.modI _ _ (by decide)]
  simp only [oMS,bdR]
  rw [L4.divI _ _ (by decide) (by decide)]
  simp only [oMS,bdR]
  rw [L4.modI _ _ hm]
  exact ⟨_,_,rfl,Int.emod_nonneg _ (by omega),Int.emod_lt_of_pos _ hm,_,_,_,rfl,by omega,by omega⟩
theorem yX_ {T:Nat} {f:List D} {m:Nat} (h:Fd T f) (hT:T≤1000000) (hm:0<m) (hm2:m≤1000000000) :
  ∃ (r:Nat) (f':List D),zp_ f (.int (m:Int))=.ret (iN r,f')∧r<m∧Fd (T+1) f':=by
 obtain ⟨r,f',e,h1,h2,h3⟩:=JP_ h hT (m:=(m:Int)) (by omega) (by omega)
 obtain ⟨n,rfl⟩:=Int.eq_ofNat_of_zero_le h1
 exact ⟨n,f',e,by omega,h3⟩
theorem V2_ (ns:List Int) (k:Int) (hn:ns.length≤63):∃ f,jw_ (.list (ns.map PyData.int)) (.int k)=.ret f∧Fd 0 f:=by
 unfold jw_
 simp only [VX_]
 have e1:fLen [.list (ns.map PyData.int)]=some (.int ns.length):=by rw [L4.lenL,List.length_map]
 have p18:jI_ (.int 10) (.int 18)=some (.int 1000000000000000000):=id rfl
 have tail:∀ c:Int,∃ f,(bd (bd (bd (oM (fAbs [.int c])) fun x6=>bd (oM (jI_ (.int 10) (.int 18))) fun x7=>oM (opGe x6 x7)) fun b8=>if b8 then oM (fAbs [.int c]) else .ret (.int 0)) fun x9=>bd (bd (bd (oM (uR_ (.int c) (.int 1000003))) fun x10=>bd (oM (jy_ (.int 7919) (.int k))) fun x11=>oM (zV_ x10 x11)) fun x12=>.ret [x9,x12,(.int 0)]) fun l13=>M.ret l13)=.ret f∧Fd 0 f:=fun c=>by
  have a1:fAbs [.int c]=some (.int (if c<0 then -c else c)):=id rfl
  simp only [a1,p18,oMS,bdR,L4.geI]
  rw [L4.modI _ _ (by decide),L4.mulL _ _ (by decide) (by decide)]
  simp only [oMS,bdR,L4.addI]
  generalize (if c<0 then -c else c)=A
  generalize decide ((1000000000000000000:Int)≤A)=B
  cases B
  ·exact ⟨_,rfl,_,_,_,rfl,Int.le_refl _,Int.le_refl _⟩
  ·exact ⟨_,rfl,_,_,_,rfl,Int.le_refl _,Int.le_refl _⟩
 simp only [e1,oMS,bdR,L4.gtI]
 by_cases h:0<(ns.length:Int)
 ·simp only [h,decide_true,if_true]
  rw [L4.modI _ _ h,oMS,bdR]
  have m1:=Int.emod_nonneg k (b:=(ns.length:Int)) (by omega)
  have m2:=Int.emod_lt_of_pos k h
  obtain ⟨x,hx,e⟩:=Vc_ (ns.map PyData.int) (k % ns.length) m1 (by rw [List.length_map];exact m2)
  obtain ⟨i,hi,rfl⟩:=List.mem_map.mp hx
  have e2:opIx (.list (ns.map PyData.int)) (.int (k % ns.length))=some (.int i):=e
  rw [e2,oMS,bdR]
  exact tail i
 ·simp only [h,decide_false]
  rw [if_neg (by decide),bdR]
  exact tail 0
theorem U8_ {T:Nat} {f:List D} {m:List D} (hm:0<m.length) (hm2:m.length<1000) (h:Fd T f) (hT:T≤1000000) :
  ∃ (x:D) (f':List D),zT_ f (.list m)=.ret (x,f')∧x∈m∧Fd (T+1) f':=by
 unfold zT_
 simp only [VX_]
 obtain ⟨r,f',t1,t2,t3,t4⟩:=JP_ h hT (m:=(m.length:Int)) (by omega) (by omega)
 obtain ⟨x,hx,e⟩:=Vc_ m r t2 t3
 have e2:opIx (.list m) (.int r)=some x:=e
 rw [L4.lenL,oMS,bdR,t1,bdR]
 simp only [e2,oMS,bdR]
 exact ⟨x,f',rfl,hx,t4⟩
end K12
set_option Elab.async false
set_option linter.all false
set_option maxRecDepth 100000
namespace K12
open PySem PySem.Spec PyProof.Rows L2 L3 L4
def ch (c:Nat):D:=.str ⟨#[c]⟩
def dig (c:Nat):Bool:=decide (48≤c)&&decide (c≤57)
theorem figs:(Str.ofString "0123456789").cps.toList=[48,49,50,51,52,53,54,55,56,57]:=by decide +kernel
theorem ZC_ (c:Nat):Uw_ ⟨#[c]⟩ (Str.ofString "0123456789")=dig c:=by
 unfold Uw_
 rw [StrLaws.found_one,figs]
 unfold dig
 rw [Bool.eq_iff_iff]
 simp
 omega
theorem Xp_ (c:Nat):uC_ (ch c) (.str "0123456789")=some (dig c):=by
 show some (Uw_ _ _)=_
 rw [ZC_]
theorem Yf_ (c:Nat):jo_ (ch c) (.str "0123456789")=some (!dig c):=by
 show some (!Uw_ _ _)=_
 rw [ZC_]
def okW (x:Str):Bool:=decide (1≤x.length)&&decide (x.length≤9)&&x.cps.toList.all dig && !(decide (x.cps.toList.head? = some 48)&&decide (1<x.length))
def numD (x:Str):D:=if okW x then iN (NumText.digitsVal x.cps.toList) else .none
structure Wd (x:Str):Prop where
 ok:PyData.strOk x=true
 le:x.length≤1000
theorem jG_:(1000:Nat)≤sizeLine:=by decide
theorem Yk_ (x:Str) (h:x.length≤1000):fLen [.str x]=some (iN x.length):=if_pos (Nat.le_trans h jG_)
theorem len_list (x:Str):x.cps.toList.length=x.length:=Array.length_toList
theorem ZJ_:∀ (cs:List Nat) (acc:Nat),(∀ c∈cs,c≤57)→cs.foldl (fun acc c=>acc*10+(c - 48)) acc+1≤(acc+1)*10^cs.length
 | [],acc,_=>by simp
 | c::cs,acc,h=>by
  have hc:=h c List.mem_cons_self
  have ih:=ZJ_ cs (acc*10+(c - 48)) fun d hd=>h d (List.mem_cons_of_mem _ hd)
  rw [List.foldl_cons,List.length_cons,Nat.pow_succ]
  have:(acc*10+(c - 48)+1)*10^cs.length≤((acc+1)*10)*10^cs.length:=Nat.mul_le_mul_right _ (by omega)
  have e:(acc+1)*(10^cs.length*10)=((acc+1)*10)*10^cs.length:=by rw [Nat.mul_comm (10^cs.length) 10,Nat.mul_assoc]
  omega
theorem QR_ {cs:List Nat} (h:∀ c∈cs,dig c=true) (hl:cs.length≤9):NumText.digitsVal cs≤999999999:=by
 have:=ZJ_ cs 0 fun c hc=>by
  have:=h c hc
  unfold dig at this
  rw [Bool.and_eq_true,decide_eq_true_eq,decide_eq_true_eq] at this
  exact this.2
 have h9:10^cs.length≤10^9:=Nat.pow_le_pow_right (by decide) hl
 unfold NumText.digitsVal
 omega
theorem int_is {x:Str} (h:x.cps.toList.all dig=true) (h1:1≤x.length) (h9:x.length≤9):ZI_ [.str x]=some (iN (NumText.digitsVal x.cps.toList)):=by
 rw [List.all_eq_true] at h
 have hd:NumText.AllDigits x.cps.toList:=fun c hc=>by
  have:=h c hc
  unfold dig at this
  rw [Bool.and_eq_true,decide_eq_true_eq,decide_eq_true_eq] at this
  exact this
 have e:=PySem.intText_digits hd (by intro z;have:=len_list x;rw [z] at this;simp at this;omega) (by omega)
 show (if decide (x.length≤640)=true then (PySem.intText? x).map PyData.int else none)=_
 rw [if_pos (by simp;omega),e]
 rfl
theorem yZ_ {x:Str} (h:PyData.strOk x=true):Ey (.str x):=⟨by simpa [PyData.canLay0] using h,by simp [PyData.depth]⟩
theorem UG_ (c:Nat):sS (Str.ofString "0") (ch c)=decide (c=48):=by
 show ((⟨#[c]⟩:Str)==Str.ofString "0")=_
 rw [Bool.eq_iff_iff,beq_iff_eq,decide_eq_true_eq]
 constructor
 ·intro h
  have:(⟨#[c]⟩:Str).cps=(Str.ofString "0").cps:=by rw [h]
  have e:(Str.ofString "0").cps = #[48]:=by decide +kernel
  rw [e] at this
  injection this with this
  injection this
 ·rintro rfl
  decide +kernel
theorem first_is {x:Str} {c:Nat} {r:List Nat} (e:x.cps.toList=c::r) (hl:x.length≤1000):jD_ (.str x) (.int 0)=some (ch c):=by
 show (if x.length≤sizeLine then (atI x.cps.toList 0).map fun c=>PyData.str ⟨#[c]⟩ else none)=_
 rw [if_pos (Nat.le_trans hl jG_),e,y4_ (c::r) 0 (by simp) |> (show atI (c::r) 0=some c from ·)]
 rfl
theorem yO_ {x:Str} (h:PyData.strOk x=true) {c:Nat} (hc:c∈x.cps.toList):PyData.strOk ⟨#[c]⟩=true:=by
 rw [strOk_iff] at h ⊢
 intro d hd
 have:d=c:=by simpa using hd
 rw [this];exact h c hc
theorem leA (a b:Int):Zn_ (.int a) (.int b)=some (decide (a≤b)):=rfl
theorem Ye_ {x:Str} (w:Wd x):z9_ (.str x)=.ret (numD x):=by
 unfold z9_
 have hL:=w.le
 rw [Yk_ x w.le,oMS,bdR,leA,oMS,bdR]
 have e1:(if decide ((1:Int)≤(x.length:Int))=true then oM (Zn_ (iN x.length) (.int 9)) else .ret false:M Bool)=.ret (decide (1≤x.length)&&decide (x.length≤9)):=by
  rw [leA,oMS,iteB]
  congr 2<;>(apply decide_eq_decide.mpr;omega)
 rw [e1,bdR,bdR]
 unfold numD okW
 by_cases h:1≤x.length∧x.length≤9
 ·rw [decide_eq_true h.1,decide_eq_true h.2,if_neg (by decide)]
  have cc:=jl_ (e:=ch) (g:=fun c=>PyData.bool (dig c)) (step:=fun d5=>bd (bd (oM (uC_ d5 (.str "0123456789"))) fun b6=>.ret (.bool b6)) fun x7=>.ret (some x7)) x.cps.toList (fun c _=>by rw [Xp_,oMS,bdR,bdR])
  have es:seqS (.str x)=some (x.cps.toList.map ch):=rfl
  rw [es,oMS,bdR,cc,bdR,j2_ (by rw [List.length_map,len_list];omega),bdR,bdR]
  have ea:fAll [.list (x.cps.toList.map fun c=>PyData.bool (dig c))]=some (x.cps.toList.all dig):=by
   have:=allB (x.cps.toList.map dig)
   rw [List.map_map] at this
   refine this.trans ?_
   rw [List.all_map]
   rfl
  rw [ea,oMS,bdR,bdR]
  cases hd:x.cps.toList.all dig
  ·rw [if_pos (by decide)];rfl
  ·rw [if_neg (by decide)]
   cases hx:x.cps.toList with
   | nil=>have:=len_list x;rw [hx] at this;simp at this;omega
   | cons c r =>
    have ey:Ey (ch c):=yZ_ (yO_ w.ok (by rw [hx];exact List.mem_cons_self))
    rw [first_is hx w.le,oMS,bdR,eqS ey "0",UG_,oMS,bdR,bdR,gtI,oMS,iteB,bdR,int_is (by rw [hx] at hd ⊢;exact hd) h.1 h.2,hx]
    have e2:decide ((1:Int)<(x.length:Int))=decide (1<x.length):=decide_eq_decide.mpr (by omega)
    rw [e2]
    show _=M.ret (if (true&&true&&true && !(decide (some c=some 48)&&decide (1<x.length)))=true then _ else _)
    have e3:decide (some c=some 48)=decide (c=48):=decide_eq_decide.mpr (by simp)
    rw [e3]
    cases decide (c=48)&&decide (1<x.length)
    ·rw [if_neg (by decide),oMS,bdR];rfl
    ·rfl
 ·have hb:(decide (1≤x.length)&&decide (x.length≤9))=false:=by
   rw [Bool.and_eq_false_iff,decide_eq_false_iff_not,decide_eq_false_iff_not]
   omega
  rw [hb,if_pos (by decide)]
  rfl
theorem QD_ (x:Str):sS (Str.ofString "") (.str x)=decide (x.length=0):=by
 show (x==Str.ofString "")=_
 rw [Bool.eq_iff_iff,beq_iff_eq,decide_eq_true_eq]
 constructor
 ·rintro rfl;decide +kernel
 ·intro h
  have e:x.cps = #[]:=Array.eq_empty_of_size_eq_zero h
  have e2:(Str.ofString "").cps = #[]:=by decide +kernel
  cases x
  cases h3:Str.ofString ""
  rw [h3] at e2
  dsimp only at e e2
  rw [e,e2]
theorem zad_ {l:List D} (h:PyData.canLayAll0 l=true) (hd:PyData.depthAll l≤900):opNe (.list l) (.list [])=some (!l.isEmpty):=by
 have e1:PyData.canLay0 (.list l)=true:=by simpa [PyData.canLay0] using h
 have e2:PyData.canLay0 (.list [])=true:=by simp [PyData.canLay0,PyData.canLayAll0]
 have e3:(PyData.list l).depth≤1000:=by simp [PyData.depth];omega
 refine (if_pos (by unfold eqOk;rw [e1,e2,decide_eq_true e3];rfl)).trans ?_
 congr 2
 cases l<;>simp [PyData.eqv,PyData.eqvAll]
theorem Zx_ {x:Str} (w:Wd x):zX_ (.str x) (.int 0) (.int 1000000000)=.ret (numD x):=by
 unfold zX_
 have hL:=w.le
 have es:seqS (.str x)=some (x.cps.toList.map ch):=rfl
 have cc:=JY_ (e:=ch) (g:=fun c=>if (!dig c)=true then some (ch c) else none) (step:=fun d2=>bd (oM (jo_ d2 (.str "0123456789"))) fun b3=>if b3 then .ret (some d2) else .ret none) x.cps.toList (fun c _=>by
  rw [Yf_,oMS,bdR]
  cases dig c<;>rfl)
 rw [ud_] at cc
 have hlay:∀ d∈(x.cps.toList.filter fun c=>!dig c).map ch,d.canLay0=true∧d.depth≤900:=fun d hd=>by
  obtain ⟨c,hc,rfl⟩:=List.mem_map.mp hd
  have:=yZ_ (yO_ w.ok (List.mem_filter.mp hc).1)
  exact ⟨this.1,by simp [ch,PyData.depth]⟩
 have nn:=zad_ (Jg_ fun d hd=>(hlay d hd).1) (y1_ fun d hd=>(hlay d hd).2)
 rw [eqS (yZ_ w.ok) "",QD_,oMS,bdR,Yk_ x w.le,oMS,bdR,gtI,oMS,bdR,es,oMS,bdR,cc,bdR,j2_ (by rw [List.length_map];have:=List.length_filter_le (fun c=>!dig c) x.cps.toList;rw [len_list] at this;omega),bdR,bdR,nn,oMS,iteO,iteO,bdR]
 have ef:(!((x.cps.toList.filter fun c=>!dig c).map ch).isEmpty) = !x.cps.toList.all dig:=by
  congr 1
  generalize x.cps.toList=cs
  rw [Bool.eq_iff_iff,List.isEmpty_iff,List.map_eq_nil_iff,List.filter_eq_nil_iff,List.all_eq_true]
  constructor
  ·intro h c hc
   have:=h c hc
   cases hd:dig c with
   | true=>rfl
   | false=>rw [hd] at this;exact absurd rfl this
  ·intro h c hc
   rw [h c hc];decide
 rw [ef]
 unfold numD okW
 by_cases h:1≤x.length∧x.length≤9
 ·rw [decide_eq_true h.1,decide_eq_true h.2,decide_eq_false (by omega:¬ x.length=0),decide_eq_false (by omega:¬ (9:Int)<(x.length:Int)),Bool.false_or,Bool.false_or]
  cases hd:x.cps.toList.all dig
  ·rw [if_pos (by decide)];rfl
  ·rw [if_neg (by decide)]
   cases hx:x.cps.toList with
   | nil=>have:=len_list x;rw [hx] at this;simp at this;omega
   | cons c r =>
    have ey:Ey (ch c):=yZ_ (yO_ w.ok (by rw [hx];exact List.mem_cons_self))
    rw [bdR,gtI,oMS,bdR,first_is hx w.le,oMS,bdR,eqS ey "0",UG_,oMS,iteB,bdR,int_is (by rw [hx] at hd ⊢;exact hd) h.1 h.2,hx]
    have e2:decide ((1:Int)<(x.length:Int))=decide (1<x.length):=decide_eq_decide.mpr (by omega)
    rw [e2]
    show _=M.ret (if (true&&true&&true && !(decide (some c=some 48)&&decide (1<x.length)))=true then _ else _)
    have e3:decide (some c=some 48)=decide (c=48):=decide_eq_decide.mpr (by simp)
    rw [e3,Bool.and_comm (decide (1<x.length))]
    have hv:NumText.digitsVal (c::r)≤999999999:=QR_ (fun d hd'=>by rw [←hx] at hd';exact List.all_eq_true.mp hd d hd') (by rw [←hx,len_list];exact h.2)
    cases decide (c=48)&&decide (1<x.length)
    ·rw [if_neg (by decide),oMS,bdR,leA,oMS,bdR,leA,oMS,if_pos (by simp),bdR,if_pos (by simp;omega),bdR];rfl
    ·rfl
 ·have hb:(decide (1≤x.length)&&decide (x.length≤9))=false:=by
   rw [Bool.and_eq_false_iff,decide_eq_false_iff_not,decide_eq_false_iff_not]
   omega
  have hb2:(decide (x.length=0)||(decide ((9:Int)<(x.length:Int)) || !x.cps.toList.all dig))=true:=by
   rw [Bool.or_eq_true,Bool.or_eq_true,decide_eq_true_eq,decide_eq_true_eq]
   omega
  rw [hb,hb2,if_pos rfl]
  rfl
end K12
set_option Elab.async false
set_option linter.all false
set_option maxRecDepth 100000
namespace K12
open PySem PySem.Spec PyProof.Rows L2 L3 L4
abbrev comma:Str:=Str.ofString ","
def words (x:Str):List Str:=Txt.split x comma
theorem ZM_:comma.length=1:=by decide +kernel
theorem Jz_ {x:Str} (h:Wd x):∀ w∈words x,Wd w:=fun w hw=>by
 have e:Str.join comma (words x)=x:=StrLaws.join_split x comma
 refine ⟨?_,?_⟩
 ·rw [strOk_iff]
  intro c hc
  have hm:c∈(Str.join comma (words x)).cps.toList:=(mem_join comma c (words x)).mpr (.inl ⟨w,hw,hc⟩)
  rw [e] at hm
  exact strOk_iff.mp h.ok c hm
 ·have:=PySem.join_mem_le comma (words x) w hw
  rw [e] at this
  exact Nat.le_trans this h.le
theorem jF_ {x:Str}:(words x).length≤x.length+2:=by
 unfold words Txt.split
 split
 ·simp
 ·split
  ·simp
  ·rw [length_partsBetween]
   have:=StrLaws.occ_length_le x comma 0 x.length (x.length+1)
   omega
theorem JD_ {x:Str} (h:x.length≤900):onT .str (.str x) (oM (ZH_ (.str x) [.str ","]))=.ret ((words x).map PyData.str):=by
 show oM (if yP_ x comma=true then some ((Txt.split x comma).map PyData.str) else none)=_
 have hp:(Builtin.Str.partsBetween x (Builtin.Str.occurrences x comma 0 x.length (x.length+1)) comma.length).length≤sizeLine:=by
  rw [length_partsBetween]
  have:=StrLaws.occ_length_le x comma 0 x.length (x.length+1)
  have:=jG_
  omega
 have hw:(Txt.split x comma).length≤sizeLine:=by
  have:(Txt.split x comma).length≤x.length+2:=jF_
  have:=jG_
  omega
 rw [if_pos (by
  unfold yP_
  rw [decide_eq_true hp,decide_eq_true hw,decide_eq_true (Nat.le_trans (by omega) jG_)]
  decide +kernel)]
 rfl
def nums (x:Str):List D:=(words x).map numD
def bad (x:Str):Bool:=(words x).any fun w=>!okW w
theorem VS_ (w:Str):(numD w).canLay0=true∧(numD w).depth≤10:=by
 unfold numD
 split<;>simp [PyData.canLay0,PyData.depth]
theorem V5_ (w:Str):PyData.eqv (numD w) .none = !okW w:=by
 unfold numD
 cases okW w<;>simp [PyData.eqv]
theorem Yg_ (x:Str):uC_ .none (.list (nums x))=some (bad x):=by
 show (if inOk .none (nums x) then some ((nums x).any fun y=>PyData.eqv y .none) else none)=_
 rw [if_pos (by
  unfold inOk
  have:PyData.canLayAll0 (nums x)=true:=Jg_ fun d hd=>by
   obtain ⟨w,_,rfl⟩:=List.mem_map.mp hd
   exact (VS_ w).1
  rw [this]
  rfl)]
 congr 1
 unfold nums bad
 rw [List.any_map]
 congr 1
 funext w
 exact V5_ w
theorem Zs_ {x:Str} (h:Wd x) (hl:x.length≤900):jf_ (.str x)=.ret (if bad x then .none else .tuple (nums x)):=by
 unfold jf_
 have es:seqS (.list ((words x).map PyData.str))=some ((words x).map PyData.str):=rfl
 have cc:=jl_ (e:=PyData.str) (g:=numD) (step:=fun d3=>bd (z9_ d3) fun x4=>.ret (some x4)) (words x) (fun w hw=>by rw [Ye_ (Jz_ h w hw),bdR])
 have hwl:=jF_ (x:=x)
 rw [JD_ hl,bdR,bdR,es,oMS,bdR,cc,bdR,j2_ (by rw [List.length_map];omega),bdR,bdR]
 have nn:uC_ .none (.list ((words x).map numD))=some (bad x):=Yg_ x
 rw [nn,oMS,bdR]
 cases bad x
 ·rw [if_neg (by decide),tupL,oMS,bdR,if_neg (by decide)];rfl
 ·rw [if_pos rfl,bdR,if_pos rfl]
def val (w:Str):Nat:=NumText.digitsVal w.cps.toList
theorem uU_ {x:Str} (h:bad x=false):nums x=(words x).map fun w=>iN (val w):=by
 unfold nums
 refine List.map_congr_left fun w hw=>?_
 unfold bad at h
 rw [List.any_eq_false] at h
 have:=h w hw
 unfold numD
 rw [if_pos (by cases e:okW w with|true=>rfl|false=>rw [e] at this;exact absurd rfl this)]
 rfl
theorem UI_ {x:Str} (h:bad x=false):∀ w∈words x,val w≤999999999:=fun w hw=>by
 unfold bad at h
 rw [List.any_eq_false] at h
 have:=h w hw
 have hk:okW w=true:=by cases e:okW w with|true=>rfl|false=>rw [e] at this;exact absurd rfl this
 unfold okW at hk
 rw [Bool.and_eq_true,Bool.and_eq_true,Bool.and_eq_true,decide_eq_true_eq,decide_eq_true_eq,List.all_eq_true] at hk
 exact QR_ hk.1.2 (by rw [len_list];exact hk.1.1.2)
def Xa_:D:=.tuple [.str "none",.int 0,.int 0]
def resD (m:Nat) (x:Str):D:=if (words x).length=m∧bad x=false∧(words x).any (fun w=>decide (0<val w))=true then .tuple (nums x) else Xa_
theorem Z2_:tryM (.exc ⟨"NoText",[("row",.int 0),("word",.int 0)]⟩) "NoText" "none" ["row", "word"]=.ret Xa_:=by kernel_rfl
theorem Vk_ {x:Str} (h:Wd x) (hl:x.length≤900) (m:Nat):jv_ (iN m) (.str x)=.ret (resD m x):=by
 unfold jv_ ju_
 have hwl:=jF_ (x:=x)
 rw [Zs_ h hl,bdR]
 unfold resD
 cases hb:bad x
 ·rw [if_neg (by decide)]
  have e1:U6_ (.tuple (nums x)) .none=some false:=rfl
  rw [e1,oMS,bdR,if_neg (by decide),L4.lenT,oMS,bdR]
  have e2:opNe (.int ((nums x).length:Int)) (iN m)=some (!decide ((words x).length=m)):=by
   unfold nums
   rw [List.length_map]
   show opNe (.int _) (.int _)=_
   rw [neI,VQ_]
  rw [e2,oMS,bdR]
  by_cases hm:(words x).length=m
  ·rw [decide_eq_true hm,if_neg (by decide)]
   have es:seqS (.tuple (nums x))=some ((words x).map fun w=>iN (val w)):=by rw [uU_ hb];rfl
   have cc:=jl_ (e:=fun w=>iN (val w)) (g:=fun w=>PyData.bool (decide (0<val w))) (step:=fun d3=>bd (bd (oM (opGt d3 (.int 0))) fun b4=>.ret (.bool b4)) fun x5=>.ret (some x5)) (words x) (fun w _=>by
    rw [gtI,oMS,bdR,bdR]
    congr 3
    apply decide_eq_decide.mpr
    omega)
   have ea:fAny [.list ((words x).map fun w=>PyData.bool (decide (0<val w)))]=some ((words x).any fun w=>decide (0<val w)):=by
    have:=anyB ((words x).map fun w=>decide (0<val w))
    rw [List.map_map] at this
    refine this.trans ?_
    rw [List.any_map]
    rfl
   rw [es,oMS,bdR,cc,bdR,j2_ (by rw [List.length_map];omega),bdR,bdR,ea,oMS,bdR,bdR]
   cases hp:(words x).any fun w=>decide (0<val w)
   ·rw [if_pos (by decide),Z2_,bdR,if_neg (by simp)]
   ·rw [if_neg (by decide)]
    show bd (.ret _) _=_
    rw [bdR,if_pos ⟨hm,rfl,rfl⟩]
  ·rw [decide_eq_false hm,if_pos (by decide),bdR,if_pos rfl,Z2_,bdR,if_neg (fun z=>hm z.1)]
 ·have e1:U6_ .none .none=some true:=rfl
  rw [if_pos rfl,e1,oMS,bdR,if_pos rfl,bdR,if_pos rfl,Z2_,bdR,if_neg (fun z=>by cases z.2.1)]
theorem Xw_ {x:Str} (h:Wd x) (hl:x.length≤900) (m:Nat) (hm1:1≤m):jS_ (iN m) (.str x)=.ret (resD m x):=by
 unfold jS_
 have hwl:=jF_ (x:=x)
 have es:seqS (.list ((words x).map PyData.str))=some ((words x).map PyData.str):=rfl
 have ep:jI_ (.int 10) (.int 9)=some (.int 1000000000):=id rfl
 have cc:=jl_ (e:=PyData.str) (g:=numD) (step:=fun d3=>bd (bd (oM (jI_ (.int 10) (.int 9))) fun x4=>zX_ d3 (.int 0) x4) fun x5=>.ret (some x5)) (words x) (fun w hw=>by rw [ep,oMS,bdR,Zx_ (Jz_ h w hw),bdR])
 rw [JD_ hl,bdR,bdR,es,oMS,bdR,cc,bdR,j2_ (by rw [List.length_map];omega),bdR,bdR]
 have nn:uC_ .none (.list ((words x).map numD))=some (bad x):=Yg_ x
 have e2:opNe (.int (((words x).map numD).length:Int)) (iN m)=some (!decide ((words x).length=m)):=by
  rw [List.length_map]
  show opNe (.int _) (.int _)=_
  rw [neI,VQ_]
 rw [L4.lenL,oMS,bdR,e2,oMS,bdR]
 unfold resD
 by_cases hm:(words x).length=m
 ·rw [decide_eq_true hm,if_neg (by decide),nn,oMS,bdR]
  cases hb:bad x
  ·rw [if_neg (by decide)]
   have hne:(words x)≠[]:=by intro z;rw [z] at hm;simp at hm;omega
   have em:∃ mx:Nat,uE_ [.list ((words x).map numD)]=some (iN mx)∧(mx=0↔(words x).any (fun w=>decide (0<val w))=false):=by
    have eg:(words x).map numD=(words x).map fun w=>iN (val w):=uU_ hb
    rw [eg]
    generalize words x=ws at hne
    have e1:intsOf (ws.map fun w=>iN (val w))=some (ws.map fun w=>((val w:Nat):Int)):=by
     have:=yG_ (ws.map fun w=>((val w:Nat):Int))
     rw [List.map_map] at this
     exact this
    have e2:uE_ [.list (ws.map fun w=>iN (val w))]=some (.int (maxL (ws.map fun w=>((val w:Nat):Int)))):=by
     rw [show uE_ [.list (ws.map fun w=>iN (val w))]=fMax [.list (ws.map fun w=>iN (val w))] from rfl]
     unfold fMax
     dsimp only
     rw [e1]
     cases ws with
     | nil=>exact absurd rfl hne
     | cons a t=>rfl
    have hsp:=ub_ (ns:=ws.map fun w=>((val w:Nat):Int)) (by simpa using hne)
    obtain ⟨w,hw,ex⟩:=List.mem_map.mp hsp.2
    refine ⟨val w,by rw [e2,←ex],?_⟩
    rw [List.any_eq_false]
    constructor
    ·intro h0 v hv
     have:=hsp.1 _ (List.mem_map.mpr ⟨v,hv,rfl⟩)
     rw [←ex,h0] at this
     rw [decide_eq_true_eq]
     omega
    ·intro h0
     have:=h0 w hw
     rw [decide_eq_true_eq] at this
     omega
   obtain ⟨mx,em,hmx⟩:=em
   have e0:opEq (iN mx) (.int 0)=some (decide (mx=0)):=eqN mx 0
   rw [em,oMS,bdR,e0,oMS,bdR]
   cases hp:(words x).any fun w=>decide (0<val w)
   ·rw [decide_eq_true (hmx.mpr hp),if_pos rfl,if_neg (by simp)]
    rfl
   ·rw [decide_eq_false (fun z=>by rw [hmx.mp z] at hp;cases hp),if_neg (by decide),tupL,oMS,bdR,if_pos ⟨hm,rfl,rfl⟩]
    rfl
  ·rw [if_pos rfl,bdR,if_pos rfl,if_neg (fun z=>by cases z.2.1)]
   rfl
 ·rw [decide_eq_false hm,if_pos (by decide),bdR,if_pos rfl,if_neg (fun z=>hm z.1)]
  rfl
theorem Wy_ {m:Nat} {x:Str} (hl:x.length≤900):Sm (resD m x)∧sz (resD m x)≤2000∧(resD m x).depth≤20:=by
 unfold resD
 have hwl:=jF_ (x:=x)
 split
 ·rename_i c
  rw [uU_ c.2.1]
  refine ⟨Vh_ fun d hd=>?_,?_,?_⟩
  ·obtain ⟨w,hw,rfl⟩:=List.mem_map.mp hd
   have:=UI_ c.2.1 w hw
   show ((val w:Nat):Int).natAbs<10^19
   omega
  ·have e:sz (.tuple ((words x).map fun w=>iN (val w)))=1+szs ((words x).map fun w=>iN (val w)):=by simp [sz]
   have:=QU_ (B:=1) (ds:=(words x).map fun w=>iN (val w)) fun d hd=>by
    obtain ⟨w,hw,rfl⟩:=List.mem_map.mp hd
    simp [sz]
   rw [List.length_map] at this
   omega
  ·have e:(PyData.tuple ((words x).map fun w=>iN (val w))).depth=PyData.depthAll ((words x).map fun w=>iN (val w))+1:=by simp [PyData.depth]
   have:=y1_ (n:=1) (ds:=(words x).map fun w=>iN (val w)) fun d hd=>by
    obtain ⟨w,hw,rfl⟩:=List.mem_map.mp hd
    simp [PyData.depth]
   omega
 ·refine ⟨?_,by decide +kernel,by decide +kernel⟩
  show uK_ _=true∧_∧_∧True
  exact ⟨by decide +kernel,(by decide:(0:Int).natAbs<10^19),(by decide:(0:Int).natAbs<10^19),trivial⟩
end K12
set_option Elab.async false
set_option linter.all false
set_option maxRecDepth 100000
namespace K12
open PySem PySem.Spec PyProof.Rows L2 L3 L4
theorem Jt_ (a b:Str):(a++b).length=a.length+b.length:=by
 show (a++b).cps.size=_
 rw [PySem.Str.cps_append,Array.size_append]
 rfl
theorem YI_ (x:Str) (lo hi:Option Int):(cutS x lo hi).length≤x.length:=by
 unfold cutS
 split
 ·exact Nat.le_refl _
 ·show (List.toArray _).size≤_
  rw [List.size_toArray]
  exact Nat.le_trans (List.length_filterMap_le _ _) (PySem.sliceIndices_le lo hi x.length)
theorem Q9_ {x:Str} (h:PyData.strOk x=true) (lo hi:Option Int):PyData.strOk (cutS x lo hi)=true:=by
 unfold cutS
 split
 ·exact h
 ·rw [strOk_iff] at h ⊢
  intro c hc
  have hc':c∈(Builtin.Str.strSliceIndices lo hi 1 x.length).filterMap (x.cps[·]?):=by simpa using hc
  obtain ⟨i,_,e⟩:=List.mem_filterMap.mp hc'
  refine h c ?_
  rw [←Array.getElem?_toList] at e
  exact List.mem_of_getElem? e
theorem ys_:∀ xs:List Str,strsOf (xs.map PyData.str)=some xs
 | []=>rfl
 | x::r=>by
  show (strsOf (r.map PyData.str)).map (x :: ·)=_
  rw [ys_ r];rfl
def numT (n:Nat):Str:=Str.ofString (toString (n:Int))
def txt (ns:List Nat):Str:=Str.join comma (ns.map numT)
theorem str_is {n:Nat} (h:n<10^40):fStr [iN n]=some (.str (numT n)):=by
 show (if ((n:Int)).natAbs.log2<1920 then some (PyData.str (toString (n:Int))) else none)=_
 refine if_pos ?_
 rw [Int.natAbs_natCast]
 by_cases h0:n=0
 ·subst h0;decide
 ·exact (Nat.log2_lt h0).mpr (Nat.lt_of_lt_of_le h (by decide))
theorem yV_ {n:Nat} {k:Nat} (hk:0<k) (h:n<10^k):(numT n).length≤k:=toString_length_le (by omega) hk (by exact_mod_cast h)
theorem VU_ {ns:List Nat} (h:∀ n∈ns,n<10^40) (hl:ns.length≤10):Ux_ (.str ",") [.list (ns.map fun n=>.str (numT n))]=some (.str (txt ns)):=by
 have e:(ns.map fun n=>PyData.str (numT n))=(ns.map numT).map PyData.str:=by rw [List.map_map];rfl
 rw [e]
 show (match strsOf ((ns.map numT).map PyData.str) with
  | some xs=>if JoinOk comma xs then some (PyData.str (Txt.join comma xs)) else none
  | none=>none)=_
 rw [ys_]
 dsimp only
 rw [if_pos ?_]
 ·unfold Txt.join txt
  rw [StrLaws.glued_eq_join]
 ·unfold JoinOk
  rw [Bool.not_eq_true']
  refine StrLaws.joinFits (B:=40) (fun y hy=>?_) ?_
  ·obtain ⟨n,hn,rfl⟩:=List.mem_map.mp hy
   exact yV_ (by decide) (h n hn)
  ·rw [List.length_map,ZM_];omega
theorem yv_ {ns:List Nat} {d:D} (hd:seqS d=some (ns.map iN)) (h:∀ n∈ns,n<10^40) (hl:ns.length≤10):onT .str (.str ",") (bd (bd (bd (oM (seqS d)) fun l3=>bd (z8_ (fun d1=>bd (oM (fStr [d1])) fun x2=>.ret (some x2)) l3) fitM) fun l4=>.ret (PyData.list l4)) fun x5=>oM (Ux_ (.str ",") [x5]))=.ret (.str (txt ns)):=by
 have cc:=jl_ (e:=iN) (g:=fun n=>PyData.str (numT n)) (step:=fun d1=>bd (oM (fStr [d1])) fun x2=>.ret (some x2)) ns (fun n hn=>by rw [str_is (h n hn),oMS,bdR])
 show (bd (bd (bd (oM (seqS d)) _) _) _)=_
 rw [hd,oMS,bdR,cc,bdR,j2_ (by rw [List.length_map];omega),bdR,bdR,VU_ h hl,oMS]
theorem JE_ {ns:List Nat} (h:∀ n∈ns,n<10^40) (hl:ns.length≤10):zD_ (.tuple (ns.map iN))=.ret (.str (txt ns)):=by
 unfold zD_
 rw [yv_ (ns:=ns) rfl h hl,bdR]
theorem QS_ (ns:List Nat):PyData.strOk (txt ns)=true:=ul_ (zt_ ",") fun t ht=>by
 obtain ⟨n,_,rfl⟩:=List.mem_map.mp ht
 exact zt_ _
theorem yq_ {B:Nat}:∀ {l:List Nat},(∀ x∈l,x≤B)→l.sum≤l.length*B
 | [],_=>by simp
 | x::l,h=>by
  have:=yq_ (l:=l) fun y hy=>h y (List.mem_cons_of_mem _ hy)
  have:=h x List.mem_cons_self
  rw [List.sum_cons,List.length_cons,Nat.succ_mul];omega
theorem Vj_ {ns:List Nat} (h:∀ n∈ns,n<10^9) (hl:ns.length≤5):(txt ns).length≤60:=by
 have:=StrLaws.join_length_le comma (ns.map numT)
 rw [List.map_map,List.length_map,ZM_] at this
 have h2:=yq_ (B:=9) (l:=ns.map ((·.length)∘numT)) fun x hx=>by
  obtain ⟨n,hn,rfl⟩:=List.mem_map.mp hx
  exact yV_ (by decide) (h n hn)
 rw [List.length_map] at h2
 unfold txt
 omega
theorem ne_str {x:Str} (h:PyData.strOk x=true):opNe (.str x) (.str x)=some false:=by
 have e:PyData.canLay0 (.str x)=true:=by simpa [PyData.canLay0] using h
 refine (if_pos (by unfold eqOk;rw [e];simp [PyData.depth])).trans ?_
 simp [PyData.eqv]
theorem add_str {a b:Str} (h:a.length+b.length≤5000):zV_ (.str a) (.str b)=some (.str (a++b)):=if_pos (Nat.le_trans h (by decide))
theorem YZ_ (a b c:Str):a++b++c=a++(b++c):=by
 have e:(a++b++c).cps=(a++(b++c)).cps:=by
  rw [PySem.Str.cps_append,PySem.Str.cps_append,PySem.Str.cps_append,PySem.Str.cps_append,Array.append_assoc]
 cases h1:a++b++c
 cases h2:a++(b++c)
 rw [h1,h2] at e
 exact congrArg Str.mk e
theorem Vi_ (n:Nat):txt [n,0]=numT n++Str.ofString ",0":=by
 show numT n++comma++numT 0=_
 rw [YZ_]
 congr 1
end K12
set_option Elab.async false
set_option linter.all false
set_option maxRecDepth 100000
namespace K12
open PySem PySem.Spec PyProof.Rows L2 L3 L4
def signs:List D:=[(.str ""),(.str "0"),(.str "1"),(.str ","),(.str ",0"),(.str "0,"),(.str " "),(.str "-"),(.str "+"),(.str "_"),(.str "x"),(.str "00"),(.str "999999999")]
theorem Vo_ {y:D} (h:y∈signs):∃ w:Str,y=.str w∧PyData.strOk w=true∧w.length≤9:=by
 unfold signs at h
 simp only [List.mem_cons,List.mem_nil_iff,or_false] at h
 rcases h with rfl|rfl|rfl|rfl|rfl|rfl|rfl|rfl|rfl|rfl|rfl|rfl|rfl<;>exact ⟨_,rfl,zt_ _,by decide +kernel⟩
theorem zac_:JL_ (.str "9") (.int 9)=some (.str "999999999"):=by kernel_rfl
theorem XU_ {T:Nat} {f:List D} {row:List Nat} {x:Str} (hf:Fd T f) (hT:T≤900000) (h1:1≤row.length) (h5:row.length≤5) (hx:PyData.strOk x=true) (hl:x.length≤900) (sc d:D) (kn5:D×Unit→M D) (kn:D×List D×D×D×Unit→M D) :
  ∃ f' x',y2_ kn5 sc f (.list (row.map iN)) (.str x) d kn=kn (sc,f',.list (row.map iN),.str x',())∧Fd (T+4) f'∧PyData.strOk x'=true∧x'.length≤2*x.length+9:=by
 have hw:Wd x:=⟨hx,by omega⟩
 have el:fLen [.list (row.map iN)]=some (iN row.length):=by rw [L4.lenL,List.length_map]
 have ea:zV_ (iN row.length) (.int 1)=some (iN (row.length+1)):=addN _ 1
 obtain ⟨y,f1,e1,hy,hf1⟩:=U8_ (m:=[iN row.length,iN row.length,iN (row.length+1),.int 1]) (by simp) (by simp) hf (by omega)
 have hy':∃ m:Nat,y=iN m∧1≤m:=by
  simp only [List.mem_cons,List.mem_nil_iff,or_false] at hy
  rcases hy with rfl|rfl|rfl|rfl
  ·exact ⟨_,rfl,h1⟩
  ·exact ⟨_,rfl,h1⟩
  ·exact ⟨_,rfl,by omega⟩
  ·exact ⟨1,rfl,Nat.le_refl _⟩
 obtain ⟨m,rfl,hm⟩:=hy'
 obtain ⟨r1,r2,r3⟩:=Wy_ (m:=m) hl
 obtain ⟨a,f2,e2,ha,hf2⟩:=yX_ (m:=x.length+1) hf1 (by omega) (by omega) (by omega)
 obtain ⟨y,f3,e3,hy,hf3⟩:=U8_ (m:=signs) (by decide) (by decide) hf2 (by omega)
 obtain ⟨w,rfl,w1,w2⟩:=Vo_ hy
 obtain ⟨b,f4,e4,hb,hf4⟩:=yX_ (m:=2) hf3 (by omega) (by omega) (by omega)
 have e4:zp_ f3 (.int 2)=.ret (iN b,f4):=e4
 have ea2:zV_ (iN x.length) (.int 1)=some (iN (x.length+1)):=addN _ 1
 have c1:=YI_ x none (some (a:Int))
 have c2:=YI_ x (some ((a+b:Nat):Int)) none
 have s5:(5000:Nat)≤sizeLine:=by decide
 have ec1:V4_ (.str x) none (some (a:Int))=some (.str (cutS x none (some (a:Int)))):=if_pos (by rw [decide_eq_true_eq];omega)
 have ec2:JV_ (.str x) (iN (a+b))=some (.str (cutS x (some ((a+b:Nat):Int)) none)):=if_pos (by rw [decide_eq_true_eq];omega)
 refine ⟨f4,cutS x none (some (a:Int))++w++cutS x (some ((a+b:Nat):Int)) none,?_,hf4.le (by omega),z7_ (z7_ (Q9_ hx _ _) w1) (Q9_ hx _ _),by rw [Jt_,Jt_];omega⟩
 unfold y2_
 rw [el,oMS,bdR,bdR,bdR,ea,oMS,bdR,bdR,bdR,e1,bdR,Vk_ hw hl m,bdR,Wz_ r1 (by omega) (by omega),oMS,bdR,Xw_ hw hl m hm,bdR,Wz_ r1 (by omega) (by omega),oMS,bdR,Xb_ r1,oMS,bdR,if_neg (by decide),Yk_ x (by omega),oMS,bdR,ea2,oMS,bdR,e2,bdR,zac_,oMS,bdR,bdR]
 show bd (zT_ f2 (.list signs)) _=_
 rw [e3,bdR,zaj_,bdR,ec1,oMS,bdR,add_str (by omega),oMS,bdR,e4,bdR,addN,oMS,bdR,ec2,oMS,bdR,add_str (by rw [Jt_];omega),oMS,bdR]
theorem Xc_ {ns:List Nat} (hne:ns≠[]):∃ mx:Nat,uE_ [.list (ns.map iN)]=some (iN mx):=by
 cases ns with
 | nil=>exact absurd rfl hne
 | cons a t =>
  have e1:intsOf ((a::t).map iN)=some ((a::t).map fun (n:Nat)=>(n:Int)):=by
   have:=yG_ ((a::t).map fun (n:Nat)=>(n:Int))
   rw [List.map_map] at this
   exact this
  have e2:uE_ [.list ((a::t).map iN)]=some (.int (maxL ((a::t).map fun (n:Nat)=>(n:Int)))):=by
   rw [show uE_ [.list ((a::t).map iN)]=fMax [.list ((a::t).map iN)] from rfl]
   unfold fMax
   dsimp only
   rw [e1]
   rfl
  have hsp:=ub_ (ns:=(a::t).map fun (n:Nat)=>(n:Int)) (by simp)
  obtain ⟨x,hx,ex⟩:=List.mem_map.mp hsp.2
  exact ⟨x,by rw [e2,←ex]⟩
theorem Xe_ (ns:List Int) (hn:ns.length≤63) (k:Nat) (kn5:D×Unit→M D):y3_ (.list (ns.map PyData.int)) (iN k) kn5=kn5 (.list (ns.map PyData.int),()):=by
 unfold y3_
 obtain ⟨f0,e0,hf0⟩:=V2_ ns k hn
 obtain ⟨r,f1,e1,hr,hf1⟩:=yX_ (m:=5) hf0 (by omega) (by omega) (by omega)
 have e1:zp_ f0 (.int 5)=.ret (iN r,f1):=e1
 have ea:zV_ (.int 1) (iN r)=some (iN (1+r)):=addN 1 r
 have p6:jI_ (.int 10) (.int 6)=some (.int 1000000):=id rfl
 have p9:jI_ (.int 10) (.int 9)=some (.int 1000000000):=id rfl
 have p39:jI_ (.int 10) (.int 39)=some (iN (10^39)):=id rfl
 rw [e0,bdR,e1,bdR,ea,oMS,bdR,Z4_ _ (by omega),oMS,bdR]
 obtain ⟨row,s1,c1,⟨f2,hs1,hf2⟩,l1,r1⟩:=QF_ (P:=fun j (s:D×List D×Unit)=>∃ f,s=(.list (ns.map PyData.int),f,())∧Fd (1+2*j) f) (e:=iN) (R:=fun x=>x<10^9)
  (step:=fun s10 d11=>bd (bd (bd (oM (jI_ (.int 10) (.int 6))) fun x12=>bd (oM (jI_ (.int 10) (.int 9))) fun x13=>.ret [(.int 2),(.int 12),x12,x13]) fun l14=>.ret (PyData.list l14)) fun x15=>bd (zT_ s10.2.1 x15) fun r16=>bd (zp_ r16.2 r16.1) fun r17=>.ret (some r17.1,(s10.1,r17.2,()))) ((List.range (1+r)).map iN) (.list (ns.map PyData.int),f1,())
  (by
   rintro j s d hd ⟨f,rfl,hf⟩
   have hj:j<1+r:=by
    have:=(List.getElem?_eq_some_iff.mp hd).1
    rw [List.length_map,List.length_range] at this;exact this
   dsimp only
   obtain ⟨y,f',e,hy,hf'⟩:=U8_ (m:=[.int 2,.int 12,.int 1000000,.int 1000000000]) (by simp) (by simp) hf (by omega)
   have hy':∃ m:Nat,y=iN m∧1≤m∧m≤1000000000:=by
    simp only [List.mem_cons,List.mem_nil_iff,or_false] at hy
    rcases hy with rfl|rfl|rfl|rfl
    ·exact ⟨2,rfl,by omega,by omega⟩
    ·exact ⟨12,rfl,by omega,by omega⟩
    ·exact ⟨1000000,rfl,by omega,by omega⟩
    ·exact ⟨1000000000,rfl,by omega,by omega⟩
   obtain ⟨m,rfl,m1,m2⟩:=hy'
   obtain ⟨z,f'',ez,hz,hf''⟩:=yX_ (m:=m) hf' (by omega) (by omega) (by omega)
   rw [p6,oMS,bdR,p9,oMS,bdR,bdR,bdR,e,bdR,ez,bdR]
   exact ⟨z,_,rfl,⟨f'',rfl,hf''.le (by omega)⟩,by omega⟩) ⟨f1,rfl,hf1⟩
 subst hs1
 rw [List.length_map,List.length_range] at hf2 l1
 rw [c1,bdR];dsimp only
 have hne:row≠[]:=by intro z;rw [z] at l1;simp at l1;omega
 obtain ⟨mx,em⟩:=Xc_ hne
 have ix0:jD_ (.list (row.map iN)) (.int 0)=some (iN (row.getD 0 0)):=by
  cases row with
  | nil=>exact absurd rfl hne
  | cons a t=>exact y4_ ((a::t).map iN) 0 (by simp)
 have ez:opEq (iN mx) (.int 0)=some (decide (mx=0)):=eqN mx 0
 have ei:ZI_ [.bool (decide (mx=0))]=some (iN (if mx=0 then 1 else 0)):=by
  by_cases h:mx=0
  ·rw [decide_eq_true h,if_pos h];rfl
  ·rw [decide_eq_false h,if_neg h];rfl
 have h00:row.getD 0 0<10^9:=by
  cases row with
  | nil=>exact absurd rfl hne
  | cons a t=>exact r1 a List.mem_cons_self
 have e2m:∃ v:Nat,uE_ [iN (row.getD 0 0),iN (if mx=0 then 1 else 0)]=some (iN v)∧v<10^9:=by
  by_cases h:(((if mx=0 then 1 else 0:Nat):Int))>((row.getD 0 0:Nat):Int)
  ·exact ⟨if mx=0 then 1 else 0,by show some (PyData.int (if _ then _ else _))=_;rw [if_pos h],by split<;>omega⟩
  ·exact ⟨row.getD 0 0,by show some (PyData.int (if _ then _ else _))=_;rw [if_neg h],h00⟩
 obtain ⟨v,e2m,hv⟩:=e2m
 have ep:putD (row.map iN) (.int 0) (iN v)=some ((row.set 0 v).map iN):=Qq_ (i:=0) v (by omega)
 rw [j2_ (by rw [List.length_map];omega),bdR,ix0,oMS,bdR,em,oMS,bdR,ez,oMS,bdR,bdR,ei,oMS,bdR,e2m,oMS,bdR,ep,oMS,bdR]
 have hrow:∀ n∈row.set 0 v,n<10^9:=fun n hn=>by
  rcases List.mem_or_eq_of_mem_set hn with h|h
  ·exact r1 n h
  ·rw [h];exact hv
 have hrl:(row.set 0 v).length=1+r:=by rw [List.length_set];exact l1
 generalize row.set 0 v=R at hrow hrl
 have hbig:∀ n∈R,n<10^40:=fun n hn=>Nat.lt_of_lt_of_le (hrow n hn) (by decide)
 have hR0:R.getD 0 0<10^9:=by
  cases R with
  | nil=>simp at hrl;omega
  | cons a t=>exact hrow a List.mem_cons_self
 have ixR:jD_ (.list (R.map iN)) (.int 0)=some (iN (R.getD 0 0)):=by
  cases R with
  | nil=>simp at hrl;omega
  | cons a t=>exact y4_ ((a::t).map iN) 0 (by simp)
 rw [yv_ (ns:=R) rfl hbig (by omega),bdR,tupL,oMS,bdR,JE_ hbig (by omega),bdR,ne_str (QS_ R),oMS,bdR,if_neg (by decide),p39,oMS,bdR,ixR,oMS,bdR,addN,oMS,bdR,bdR]
 have hb2:∀ n∈[10^39+R.getD 0 0,0],n<10^40:=fun n hn=>by
  simp only [List.mem_cons,List.mem_nil_iff,or_false] at hn
  rcases hn with rfl|rfl
  ·have:(10:Nat)^39+10^9≤10^40:=by decide
   omega
  ·decide
 have es2:zD_ (.tuple [iN (10^39+R.getD 0 0),.int 0])=.ret (.str (txt [10^39+R.getD 0 0,0])):=JE_ hb2 (by simp)
 have hlen2:=yV_ (k:=40) (by decide) (hb2 _ List.mem_cons_self)
 have c0:(Str.ofString ",0").length=2:=by decide +kernel
 rw [es2,bdR,bdR,str_is (hb2 _ List.mem_cons_self),oMS,bdR,add_str (by omega),oMS,bdR,Vi_,ne_str (x:=numT (10^39+R.getD 0 0)++Str.ofString ",0") (z7_ (zt_ _) (zt_ _)),oMS,bdR,if_neg (by decide)]
 have er:ji_ [.int 4]=some ((List.range 4).map iN):=Z4_ 4 (by omega)
 rw [er,oMS,bdR]
 have hT0:=Vj_ hrow (by omega)
 refine V0_ (P:=fun i (s:D×List D×D×D×Unit)=>∃ f x,s=(.list (ns.map PyData.int),f,.list (R.map iN),.str x,())∧Fd (1+2*(1+r)+4*i) f∧PyData.strOk x=true∧x.length+9≤69*2^i) (R:=kn5 (.list (ns.map PyData.int),())) _ 0 _ _ ?_ ⟨f2,txt R,rfl,hf2,QS_ R,by simp;omega⟩ (fun s' hs'=>by
  obtain ⟨f,x,rfl,_⟩:=hs'
  rfl)
 rintro j s d _ _ hj ⟨f,x,rfl,hf,hx,hl⟩ kn hk
 rw [List.length_map,List.length_range] at hj
 have hp:(2:Nat)^j≤2^3:=Nat.pow_le_pow_right (by decide) (by omega)
 obtain ⟨f',x',e,hf',hx',hl'⟩:=XU_ (row:=R) hf (by omega) (by omega) (by omega) hx (by omega) (.list (ns.map PyData.int)) d kn5 kn
 dsimp only
 rw [e]
 refine hk _ ⟨f',x',rfl,hf'.le (by omega),hx',?_⟩
 rw [Nat.pow_succ]
 omega
theorem main:∀ ns:List Int,ns.length≤63→QL_ (.list (ns.map PyData.int))=.ret (.bool true):=by
 intro ns hn
 unfold QL_
 have e1:fLen [.list (ns.map PyData.int)]=some (.int (ns.length:Int)):=by rw [L4.lenL,List.length_map]
 have e2:YC_ [.int 20,.int (ns.length:Int)]=some (iN (min 20 ns.length)):=min2 20 ns.length
 have e3:zV_ (.int 2) (iN (min 20 ns.length))=some (iN (2+min 20 ns.length)):=addN 2 _
 rw [e1,oMS,bdR,e2,oMS,bdR,e3,oMS,bdR,Z4_ _ (by omega),oMS,bdR]
 refine (QB_ (e:=iN) (F:=fun _=>(PyData.list (ns.map PyData.int),())) (List.range (2+min 20 ns.length)) ?_).trans rfl
 intro p k t hpt kn
 dsimp only
 exact Xe_ ns hn k kn
end K12
set_option Elab.async false
set_option linter.all false
set_option maxRecDepth 100000
set_option maxHeartbeats 8000000
namespace K12
open PySem PySem.Spec PyProof.Rows L2 L3 L4
theorem all_mk {l:PySem.W.OpenLaw} {w:World} {K:Fg} {h:Heap} {mg:Str→Option Value} {fa f0 f1 f2 f3 f4 f5 f6 f7 f8 f9 f10 Cl_NoText D_NoText fi_NoText:Addr} (X:K.In h) (G:h.Ns mainGlobals mg) (hfa:mg "law" = some (.ref fa))
  {oc0 kV0 dc0 pm0 cd0 ct0:Value} {od0 an0:Option Addr} {sl0:Array (Option Value)}
  {oc1 kV1 dc1 pm1 cd1 ct1:Value} {od1 an1:Option Addr} {sl1:Array (Option Value)}
  {oc2 kV2 dc2 pm2 cd2 ct2:Value} {od2 an2:Option Addr} {sl2:Array (Option Value)}
  {oc3 kV3 dc3 pm3 cd3 ct3:Value} {od3 an3:Option Addr} {sl3:Array (Option Value)}
  {oc4 kV4 dc4 pm4 cd4 ct4:Value} {od4 an4:Option Addr} {sl4:Array (Option Value)}
  {oc5 kV5 dc5 pm5 cd5 ct5:Value} {od5 an5:Option Addr} {sl5:Array (Option Value)}
  {oc6 kV6 dc6 pm6 cd6 ct6:Value} {od6 an6:Option Addr} {sl6:Array (Option Value)}
  {oc7 kV7 dc7 pm7 cd7 ct7:Value} {od7 an7:Option Addr} {sl7:Array (Option Value)}
  {oc8 kV8 dc8 pm8 cd8 ct8:Value} {od8 an8:Option Addr} {sl8:Array (Option Value)}
  {oc9 kV9 dc9 pm9 cd9 ct9:Value} {od9 an9:Option Addr} {sl9:Array (Option Value)}
  {oc10 kV10 dc10 pm10 cd10 ct10:Value} {od10 an10:Option Addr} {sl10:Array (Option Value)}
  {oc_NoText kV_NoText dc_NoText pm_NoText cd_NoText ct_NoText:Value} {od_NoText an_NoText:Option Addr} {sl_NoText:Array (Option Value)} {nm_NoText qn_NoText:Str} {N_NoText:Addr} {bs_NoText:List Value} {sn_NoText:List Str} {sb_NoText:List Value} {ab_NoText:Bool} {co_NoText:Option Bool} {dd_NoText:Option Addr} {k0_NoText k1_NoText k2_NoText k3_NoText k5_NoText:Option Value}
  {u_FIGURES:Value}
  {u_MOST_FIGURES:Value}
  (a0:PySem.W.nsIn K mainGlobals "number_of" = some (some (.ref f0))) (l0:K.lookup f0=some ⟨oc0,od0,.func (PySem.W.fnOf "number_of" "number_of" (zG_ zE_) (zx_ zE_) (zb_ zE_) .none kV0 dc0 pm0 an0 cd0 ct0),sl0⟩) (c0:PySem.W.codeIn K cd0 "number_of" = true) (k0:PySem.W.keepIn K (.ref f0)=true)
  (a1:PySem.W.nsIn K mainGlobals "numbers_of" = some (some (.ref f1))) (l1:K.lookup f1=some ⟨oc1,od1,.func (PySem.W.fnOf "numbers_of" "numbers_of" (zG_ zC_) (zx_ zC_) (zb_ zC_) .none kV1 dc1 pm1 an1 cd1 ct1),sl1⟩) (c1:PySem.W.codeIn K cd1 "numbers_of" = true) (k1:PySem.W.keepIn K (.ref f1)=true)
  (a2:PySem.W.nsIn K mainGlobals "read_counts" = some (some (.ref f2))) (l2:K.lookup f2=some ⟨oc2,od2,.func (PySem.W.fnOf "read_counts" "read_counts" (zG_ zy_) (zx_ zy_) (zb_ zy_) .none kV2 dc2 pm2 an2 cd2 ct2),sl2⟩) (c2:PySem.W.codeIn K cd2 "read_counts" = true) (k2:PySem.W.keepIn K (.ref f2)=true)
  (a3:PySem.W.nsIn K mainGlobals "shown_counts" = some (some (.ref f3))) (l3:K.lookup f3=some ⟨oc3,od3,.func (PySem.W.fnOf "shown_counts" "shown_counts" (zG_ zr_) (zx_ zr_) (zb_ zr_) .none kV3 dc3 pm3 an3 cd3 ct3),sl3⟩) (c3:PySem.W.codeIn K cd3 "shown_counts" = true) (k3:PySem.W.keepIn K (.ref f3)=true)
  (a4:PySem.W.nsIn K mainGlobals "_law_feed" = some (some (.ref f4))) (l4:K.lookup f4=some ⟨oc4,od4,.func (PySem.W.fnOf "_law_feed" "_law_feed" (zG_ zP_) (zx_ zP_) (zb_ zP_) .none kV4 dc4 pm4 an4 cd4 ct4),sl4⟩) (c4:PySem.W.codeIn K cd4 "_law_feed" = true) (k4:PySem.W.keepIn K (.ref f4)=true)
  (a5:PySem.W.nsIn K mainGlobals "_law_next" = some (some (.ref f5))) (l5:K.lookup f5=some ⟨oc5,od5,.func (PySem.W.fnOf "_law_next" "_law_next" (zG_ zO_) (zx_ zO_) (zb_ zO_) .none kV5 dc5 pm5 an5 cd5 ct5),sl5⟩) (c5:PySem.W.codeIn K cd5 "_law_next" = true) (k5:PySem.W.keepIn K (.ref f5)=true)
  (a6:PySem.W.nsIn K mainGlobals "_law_one" = some (some (.ref f6))) (l6:K.lookup f6=some ⟨oc6,od6,.func (PySem.W.fnOf "_law_one" "_law_one" (zG_ zZ_) (zx_ zZ_) (zb_ zZ_) .none kV6 dc6 pm6 an6 cd6 ct6),sl6⟩) (c6:PySem.W.codeIn K cd6 "_law_one" = true) (k6:PySem.W.keepIn K (.ref f6)=true)
  (a7:PySem.W.nsIn K mainGlobals "_law_number" = some (some (.ref f7))) (l7:K.lookup f7=some ⟨oc7,od7,.func (PySem.W.fnOf "_law_number" "_law_number" (zG_ zz_) (zx_ zz_) (zb_ zz_) .none kV7 dc7 pm7 an7 cd7 ct7),sl7⟩) (c7:PySem.W.codeIn K cd7 "_law_number" = true) (k7:PySem.W.keepIn K (.ref f7)=true)
  (a8:PySem.W.nsIn K mainGlobals "_law_due" = some (some (.ref f8))) (l8:K.lookup f8=some ⟨oc8,od8,.func (PySem.W.fnOf "_law_due" "_law_due" (zG_ zQ_) (zx_ zQ_) (zb_ zQ_) .none kV8 dc8 pm8 an8 cd8 ct8),sl8⟩) (c8:PySem.W.codeIn K cd8 "_law_due" = true) (k8:PySem.W.keepIn K (.ref f8)=true)
  (a9:PySem.W.nsIn K mainGlobals "_law_told" = some (some (.ref f9))) (l9:K.lookup f9=some ⟨oc9,od9,.func (PySem.W.fnOf "_law_told" "_law_told" (zG_ zN_) (zx_ zN_) (zb_ zN_) .none kV9 dc9 pm9 an9 cd9 ct9),sl9⟩) (c9:PySem.W.codeIn K cd9 "_law_told" = true) (k9:PySem.W.keepIn K (.ref f9)=true)
  (a10:PySem.W.nsIn K mainGlobals "law" = some (some (.ref f10))) (l10:K.lookup f10=some ⟨oc10,od10,.func (PySem.W.fnOf "law" "law" (zG_ uB_) (zx_ uB_) (zb_ uB_) .none kV10 dc10 pm10 an10 cd10 ct10),sl10⟩) (c10:PySem.W.codeIn K cd10 "law" = true) (k10:PySem.W.keepIn K (.ref f10)=true)
  (xa_NoText:PySem.W.nsIn K mainGlobals "NoText" = some (some (.ref Cl_NoText))) (xb_NoText:K.lookup Cl_NoText=some (excClassObj nm_NoText qn_NoText Cl_NoText N_NoText bs_NoText (.ref D_NoText::bmV) true sn_NoText sb_NoText ab_NoText co_NoText dd_NoText k0_NoText k1_NoText k2_NoText k3_NoText k5_NoText "ValueError.__new__")) (xc_NoText:PySem.W.findIn K (.ref Cl_NoText) "__init__" = some (some (.ref fi_NoText))) (xd_NoText:K.lookup fi_NoText=some ⟨oc_NoText,od_NoText,.func (PySem.W.fnOf "__init__" "NoText.__init__" (zG_ zI_) (zx_ zI_) (zb_ zI_) .none kV_NoText dc_NoText pm_NoText an_NoText cd_NoText ct_NoText),sl_NoText⟩) (xe_NoText:PySem.W.codeIn K cd_NoText "NoText.__init__" = true) (xf_NoText:PySem.W.keepIn K (.ref fi_NoText)=true) (xg_NoText:PySem.W.keepIn K (.ref Cl_NoText)=true) (xh_NoText:PySem.W.tailIn K bmV (.ref D_NoText::bmV)=true) (xi_NoText:PySem.W.typeIn K (.ref fi_NoText)=some (.type "function")) (xj_NoText:PySem.W.findIn K (.ref Cl_NoText) "__setattr__" = some (some (.builtin "object.__setattr__"))) (xk_NoText:PySem.W.findIn K (.ref Cl_NoText) "__getattribute__" = some (some (.builtin "BaseException.__getattribute__"))) (xl_NoText:PySem.W.findIn K (.ref Cl_NoText) "__getattr__" = some none) (xm_NoText:PySem.W.exmOne K (.ref Cl_NoText) (.ref Cl_NoText)=some true) (xn0_NoText:PySem.W.findIn K (.ref Cl_NoText) "row" = some none) (xn1_NoText:PySem.W.findIn K (.ref Cl_NoText) "word" = some none)
  (z_range:PySem.W.nsIn K mainGlobals "range" = some none)
  (z_len:PySem.W.nsIn K mainGlobals "len" = some none)
  (z_tuple:PySem.W.nsIn K mainGlobals "tuple" = some none)
  (z_list:PySem.W.nsIn K mainGlobals "list" = some none)
  (z_max:PySem.W.nsIn K mainGlobals "max" = some none)
  (z_min:PySem.W.nsIn K mainGlobals "min" = some none)
  (z_sum:PySem.W.nsIn K mainGlobals "sum" = some none)
  (z_abs:PySem.W.nsIn K mainGlobals "abs" = some none)
  (z_repr:PySem.W.nsIn K mainGlobals "repr" = some none)
  (z_enumerate:PySem.W.nsIn K mainGlobals "enumerate" = some none)
  (z_isinstance:PySem.W.nsIn K mainGlobals "isinstance" = some none)
  (z_all:PySem.W.nsIn K mainGlobals "all" = some none)
  (z_any:PySem.W.nsIn K mainGlobals "any" = some none)
  (z_int:PySem.W.nsIn K mainGlobals "int" = some none)
  (z_str:PySem.W.nsIn K mainGlobals "str" = some none)
  (z_bool:PySem.W.nsIn K mainGlobals "bool" = some none)
  (z_zip:PySem.W.nsIn K mainGlobals "zip" = some none)
  (z_sorted:PySem.W.nsIn K mainGlobals "sorted" = some none)
  (z_set:PySem.W.nsIn K mainGlobals "set" = some none)
  (z_dict:PySem.W.nsIn K mainGlobals "dict" = some none)
  (z_reversed:PySem.W.nsIn K mainGlobals "reversed" = some none)
  (g_FIGURES:PySem.W.nsIn K mainGlobals "FIGURES" = some (some u_FIGURES)) (r_FIGURES:RelV (.str "0123456789") u_FIGURES)
  (g_MOST_FIGURES:PySem.W.nsIn K mainGlobals "MOST_FIGURES" = some (some u_MOST_FIGURES)) (r_MOST_FIGURES:RelV (.int 9) u_MOST_FIGURES) :
  ∃ fd:FuncData,(∀ (s:Shared) (v:Value),BindsTo s fd ⟨[v],[]⟩ [("_law_script",v)])∧∀ base:Heap,K.In base→base.Ns mainGlobals mg→FnOk l.prog w K mg base (CX1 l.prog w) 5 fa fd ["_law_script"] (spD K 1 Zu_):=by
 have e:=hfa.symm.trans (PySem.W.mg_of X G a10)
 cases e
 have B:BN mg:=⟨PySem.W.mg_none_of X G z_range,PySem.W.mg_none_of X G z_len,PySem.W.mg_none_of X G z_tuple,PySem.W.mg_none_of X G z_list,PySem.W.mg_none_of X G z_max,PySem.W.mg_none_of X G z_min,PySem.W.mg_none_of X G z_sum,PySem.W.mg_none_of X G z_abs,PySem.W.mg_none_of X G z_repr,PySem.W.mg_none_of X G z_enumerate,PySem.W.mg_none_of X G z_isinstance,PySem.W.mg_none_of X G z_all,PySem.W.mg_none_of X G z_any,PySem.W.mg_none_of X G z_int,PySem.W.mg_none_of X G z_str,PySem.W.mg_none_of X G z_bool,PySem.W.mg_none_of X G z_zip,PySem.W.mg_none_of X G z_sorted,PySem.W.mg_none_of X G z_set,PySem.W.mg_none_of X G z_dict,PySem.W.mg_none_of X G z_reversed⟩
 have Kn:KN mg:=⟨⟨_,PySem.W.mg_of X G g_FIGURES,r_FIGURES⟩,⟨_,PySem.W.mg_of X G g_MOST_FIGURES,r_MOST_FIGURES⟩⟩
 have F0:=jB_ (st:=zE_) l0 c0 k0
 have F1:=jB_ (st:=zC_) l1 c1 k1
 have F2:=jB_ (st:=zy_) l2 c2 k2
 have F3:=jB_ (st:=zr_) l3 c3 k3
 have F4:=jB_ (st:=zP_) l4 c4 k4
 have F5:=jB_ (st:=zO_) l5 c5 k5
 have F6:=jB_ (st:=zZ_) l6 c6 k6
 have F7:=jB_ (st:=zz_) l7 c7 k7
 have F8:=jB_ (st:=zQ_) l8 c8 k8
 have F9:=jB_ (st:=zN_) l9 c9 k9
 have F10:=jB_ (st:=uB_) l10 c10 k10
 refine ⟨PySem.W.fnOf "law" "law" (zG_ uB_) (zx_ uB_) (zb_ uB_) .none kV10 dc10 pm10 an10 cd10 ct10,fun s v=>.of_eq rfl,fun base _ _=>?_⟩
 have X_NoText:CCl l.prog w K mg base "NoText" 1 ["row", "word"]:=YM_ (P:=l.prog) (w:=w) (base:=base) (jB_ (st:=zI_) xd_NoText xe_NoText xf_NoText) ⟨⟨nm_NoText,qn_NoText,N_NoText,bs_NoText,sn_NoText,sb_NoText,ab_NoText,co_NoText,dd_NoText,k0_NoText,k1_NoText,k2_NoText,k3_NoText,k5_NoText,xb_NoText⟩,xh_NoText,xc_NoText,xi_NoText,xj_NoText,xk_NoText,xl_NoText⟩ (PySem.W.mg_of X G xa_NoText) xa_NoText xg_NoText (by intro f hf;simp only [List.mem_cons,List.mem_nil_iff,or_false] at hf;rcases hf with rfl|rfl<;>first|exact xn0_NoText|exact xn1_NoText) xm_NoText
 have C_number_of:=Zo_ (P:=l.prog) (w:=w) (base:=base) F0 (PySem.W.mg_of X G a0) B Kn
 have C_numbers_of:=yT_ (P:=l.prog) (w:=w) (base:=base) F1 (PySem.W.mg_of X G a1) B Kn C_number_of
 have C_read_counts:=yh_ (P:=l.prog) (w:=w) (base:=base) F2 (PySem.W.mg_of X G a2) B Kn C_numbers_of X_NoText
 have C_shown_counts:=uS_ (P:=l.prog) (w:=w) (base:=base) F3 (PySem.W.mg_of X G a3) B Kn
 have C__law_feed:=Zr_ (P:=l.prog) (w:=w) (base:=base) F4 (PySem.W.mg_of X G a4) B Kn
 have C__law_next:=Zq_ (P:=l.prog) (w:=w) (base:=base) F5 (PySem.W.mg_of X G a5) B Kn
 have C__law_one:=Jc_ (P:=l.prog) (w:=w) (base:=base) F6 (PySem.W.mg_of X G a6) B Kn C__law_next
 have C__law_number:=yi_ (P:=l.prog) (w:=w) (base:=base) F7 (PySem.W.mg_of X G a7) B Kn
 have C__law_due:=Jd_ (P:=l.prog) (w:=w) (base:=base) F8 (PySem.W.mg_of X G a8) B Kn C__law_number
 have C__law_told:=Zp_ (P:=l.prog) (w:=w) (base:=base) F9 (PySem.W.mg_of X G a9) B Kn C_read_counts X_NoText
 exact Q8_ F10 B Kn C__law_feed C__law_next C__law_one C_shown_counts C__law_told C__law_due
theorem walk {l:PySem.W.OpenLaw} {q:Program} {loose:List Str} {XP:(Str→Option Value)→Heap→Prop} {YP:World→Heap→Prop} {d:DefRec} {K:Params→Fg} (main:∀ ns:List Int,ns.length≤63→QL_ (.list (ns.map PyData.int))=.ret (.bool true)) (hn:l.most=some 63) (hdf:d.params.defaults=[])
  (hY:∀ (w:World) (h:Heap),YP w h→(K w.params).In h)
  (F:∀ (w:World) (mg:Str→Option Value) (fa:Addr) (h:Heap),(K w.params).In h→h.Ns mainGlobals mg→mg d.name=some (.ref fa) →
   ∃ fd:FuncData,(∀ (s:Shared) (u:Value),BindsTo s fd ⟨[u],[]⟩ [("_law_script",u)])∧∀ base:Heap,(K w.params).In base→base.Ns mainGlobals mg→FnOk l.prog w (K w.params) mg base (CX1 l.prog w) 5 fa fd ["_law_script"] (spD (K w.params) 1 Zu_)) :
  PySem.W.WalkO q loose XP YP l.row.toRowW d [] (fun f vs=>PySem.call f vs) :=
 L2.walk_of (n:=63) (k:=5) (x := "_law_script") (CX:=fun w=>CX1 l.prog w) (sp:=fun w=>spD (K w.params) 1 Zu_) hn (by decide) hdf ⟨rfl,by decide,by decide,rfl⟩ hY F (fun w H a ns hl _ hS=>Ym_ hS (main ns hl)) fun _ _ _ _ _ ⟨_,_,_,_,_,_,_,_,_,_,z⟩=>z
end K12
open PySem PySem.W PyProof.Rows
set_option maxRecDepth 100000 in
set_option maxHeartbeats 0 in
theorem PySem.Challenge.cw_passersby_k12_numbers_as_texts_holds : PySem.Challenge.rw_passersby_k12_numbers_as_texts.Holds := by
 w_on;o_law;k_head;(case hw=>w_witness2)
 k_fill
 refine K12.walk (l:=PySem.Challenge.rw_passersby_k12_numbers_as_texts) K12.main rfl rfl (fun w h Y=>PySem.W.kIn_of Y) ?F
 case F =>
  intro w mg fa h KX G hmg
  refine' K12.all_mk KX G hmg ?a0 ?l0 ?c0 ?k0 ?a1 ?l1 ?c1 ?k1 ?a2 ?l2 ?c2 ?k2 ?a3 ?l3 ?c3 ?k3 ?a4 ?l4 ?c4 ?k4 ?a5 ?l5 ?c5 ?k5 ?a6 ?l6 ?c6 ?k6 ?a7 ?l7 ?c7 ?k7 ?a8 ?l8 ?c8 ?k8 ?a9 ?l9 ?c9 ?k9 ?a10 ?l10 ?c10 ?k10 ?xa_NoText ?xb_NoText ?xc_NoText ?xd_NoText ?xe_NoText ?xf_NoText ?xg_NoText ?xh_NoText ?xi_NoText ?xj_NoText ?xk_NoText ?xl_NoText ?xm_NoText ?xn0_NoText ?xn1_NoText ?z_range ?z_len ?z_tuple ?z_list ?z_max ?z_min ?z_sum ?z_abs ?z_repr ?z_enumerate ?z_isinstance ?z_all ?z_any ?z_int ?z_str ?z_bool ?z_zip ?z_sorted ?z_set ?z_dict ?z_reversed ?g_FIGURES ?r_FIGURES ?g_MOST_FIGURES ?r_MOST_FIGURES
  (case a0=>k_is)
  (case l0=>k_is)
  (case c0=>k_is)
  (case k0=>k_is)
  (case a1=>k_is)
  (case l1=>k_is)
  (case c1=>k_is)
  (case k1=>k_is)
  (case a2=>k_is)
  (case l2=>k_is)
  (case c2=>k_is)
  (case k2=>k_is)
  (case a3=>k_is)
  (case l3=>k_is)
  (case c3=>k_is)
  (case k3=>k_is)
  (case a4=>k_is)
  (case l4=>k_is)
  (case c4=>k_is)
  (case k4=>k_is)
  (case a5=>k_is)
  (case l5=>k_is)
  (case c5=>k_is)
  (case k5=>k_is)
  (case a6=>k_is)
  (case l6=>k_is)
  (case c6=>k_is)
  (case k6=>k_is)
  (case a7=>k_is)
  (case l7=>k_is)
  (case c7=>k_is)
  (case k7=>k_is)
  (case a8=>k_is)
  (case l8=>k_is)
  (case c8=>k_is)
  (case k8=>k_is)
  (case a9=>k_is)
  (case l9=>k_is)
  (case c9=>k_is)
  (case k9=>k_is)
  (case a10=>k_is)
  (case l10=>k_is)
  (case c10=>k_is)
  (case k10=>k_is)
  (case xa_NoText=>k_is)
  (case xb_NoText=>k_is)
  (case xc_NoText=>k_is)
  (case xd_NoText=>k_is)
  (case xe_NoText=>k_is)
  (case xf_NoText=>k_is)
  (case xg_NoText=>k_is)
  (case xh_NoText=>kernel_rfl)
  (case xi_NoText=>k_is)
  (case xj_NoText=>k_is)
  (case xk_NoText=>k_is)
  (case xl_NoText=>k_is)
  (case xm_NoText=>kernel_rfl)
  (case xn0_NoText=>k_is)
  (case xn1_NoText=>k_is)
  (case z_range=>k_is)
  (case z_len=>k_is)
  (case z_tuple=>k_is)
  (case z_list=>k_is)
  (case z_max=>k_is)
  (case z_min=>k_is)
  (case z_sum=>k_is)
  (case z_abs=>k_is)
  (case z_repr=>k_is)
  (case z_enumerate=>k_is)
  (case z_isinstance=>k_is)
  (case z_all=>k_is)
  (case z_any=>k_is)
  (case z_int=>k_is)
  (case z_str=>k_is)
  (case z_bool=>k_is)
  (case z_zip=>k_is)
  (case z_sorted=>k_is)
  (case z_set=>k_is)
  (case z_dict=>k_is)
  (case z_reversed=>k_is)
  (case g_FIGURES=>k_is)
  (case r_FIGURES=>first|exact ⟨_,rfl⟩|rfl)
  (case g_MOST_FIGURES=>k_is)
  (case r_MOST_FIGURES=>first|exact ⟨_,rfl⟩|rfl)
