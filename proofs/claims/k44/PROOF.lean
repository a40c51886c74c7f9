import PyProof.Rows.All
import Wide.All
import OpenK.AllK
import Wide.FinOn
import Lean
import PyProof.EqAt
import PyProof.EqKinds
import PyProof.TupleCall
import PySem.Challenge.RW_passersby_k44_rules_of_so_few
set_option Elab.async false
set_option linter.all false
set_option maxRecDepth 100000
namespace L2
open PySem PySem.Spec PyProof.Rows
abbrev Key:=Sum Int Str
def JV_:Key→Value→Bool
 | .inl k,v=>Value.isInt k v
 | .inr x,v=>Value.isStrOf x v
def keyH (w:World):Key→Int
 | .inl k=>hashInt k
 | .inr x=>hashStr w x
theorem zw_:∀ {k:Key} {v:Value},JV_ k v=true→(∃ i t,k=Sum.inl i∧v=Value.int i t)∨(∃ x t,k=Sum.inr x∧v=Value.str x t)
 | .inl i,v,h=>by
  obtain ⟨t,e⟩:=Value.isInt_shape (k:=i) (v:=v) h
  exact .inl ⟨i,t,rfl,e⟩
 | .inr x,v,h=>by
  obtain ⟨t,e⟩:=Value.isStrOf_shape (x:=x) (v:=v) h
  exact .inr ⟨x,t,rfl,e⟩
theorem UI_ (i:Int) (t:Tok):JV_ (.inl i) (.int i t)=true:=by simp [JV_,Value.isInt]
theorem UH_ (x:Str) (t:Tok):JV_ (.inr x) (.str x t)=true:=by simp [JV_,Value.isStrOf]
theorem Wy_ (a b:Int):decide ((Sum.inl a:Key)=Sum.inl b)=(a==b):=by
 by_cases e:a=b
 ·subst e;simp
 ·have h:¬ (Sum.inl a:Key)=Sum.inl b:=fun q=>e (Sum.inl.inj q)
  rw [decide_eq_false h]
  exact (beq_eq_false_iff_ne.mpr e).symm
theorem Wv_ (a b:Str):decide ((Sum.inr a:Key)=Sum.inr b)=decide (a=b):=by
 by_cases e:a=b
 ·subst e;simp
 ·have h:¬ (Sum.inr a:Key)=Sum.inr b:=fun q=>e (Sum.inr.inj q)
  rw [decide_eq_false h,decide_eq_false e]
theorem Wx_ (a:Int) (b:Str):decide ((Sum.inl a:Key)=Sum.inr b)=false:=decide_eq_false (fun q=>nomatch q)
theorem Ww_ (a:Str) (b:Int):decide ((Sum.inr a:Key)=Sum.inl b)=false:=decide_eq_false (fun q=>nomatch q)
def zv_ (prog:Program) (w:World):PySem.KeyKind prog w Key where
 is:=JV_
 hash:=keyH w
 inj:=fun v a b ha hb=>by
  rcases zw_ ha with ⟨i,t,rfl,rfl⟩|⟨x,t,rfl,rfl⟩
  ·rcases zw_ hb with ⟨j,u,rfl,e⟩|⟨y,u,rfl,e⟩
   ·injection e with e1 _;rw [e1]
   ·exact nomatch e
  ·rcases zw_ hb with ⟨j,u,rfl,e⟩|⟨y,u,rfl,e⟩
   ·exact nomatch e
   ·injection e with e1 _;rw [e1]
 byValue:=fun k v h=>by
  rcases zw_ h with ⟨i,t,rfl,rfl⟩|⟨x,t,rfl,rfl⟩<;>rfl
 pyHash:=fun hv h=>by
  rcases zw_ hv with ⟨i,t,rfl,rfl⟩|⟨x,t,rfl,rfl⟩
  ·exact wpAny_pyHash_int h
  ·exact wpAny_pyHash_str h
 eqBool:=fun hu hv h=>by
  rcases zw_ hu with ⟨i,t,rfl,rfl⟩|⟨x,t,rfl,rfl⟩
  ·rcases zw_ hv with ⟨j,u,rfl,rfl⟩|⟨y,u,rfl,rfl⟩
   ·rw [Wy_] at h;exact wpAny_eqBool_int h
   ·rw [Wx_] at h;exact SeqAt.EqAt.int_str i t y u _ _ _ _ h
  ·rcases zw_ hv with ⟨j,u,rfl,rfl⟩|⟨y,u,rfl,rfl⟩
   ·rw [Ww_] at h;exact SeqAt.EqAt.str_int x t j u _ _ _ _ h
   ·rw [Wv_] at h;exact wpAny_eqBool_str h
 «strs»:=fun k x t v h=>by
  rcases zw_ h with ⟨i,u,rfl,e⟩|⟨y,u,rfl,e⟩
  ·exact nomatch e
  ·injection e with e1 _
   subst e1
   cases v<;>rfl
theorem ZO_ (prog:Program) (w:World) (i:Int) (t:Tok):(zv_ prog w).is (.inl i) (.int i t)=true:=UI_ i t
theorem ZN_ (prog:Program) (w:World) (x:Str) (t:Tok):(zv_ prog w).is (.inr x) (.str x t)=true:=UH_ x t
end L2
namespace L2
open PySem PySem.Spec PyProof.Rows
inductive V where
 | non|bl (b:Bool)|int (i:Int)|str (x:Str)|byt (b:Array UInt8)|flt (b:UInt64)|ref (a:Addr)|ty (n:String)
 deriving DecidableEq
def RelV:V→Value→Prop
 | .non,u=>u=Value.none
 | .bl b,u=>u=Value.bool b
 | .int i,u=>∃ t,u=Value.int i t
 | .str x,u=>∃ t,u=Value.str x t
 | .byt b,u=>∃ t,u=Value.bytes b t
 | .flt b,u=>∃ t,u=Value.float b t
 | .ref a,u=>u=Value.ref a
 | .ty n,u=>u=Value.type n
abbrev Vals:List V→List Value→Prop:=Paired RelV
theorem Vals.length {xs:List V} {us:List Value} (r:Vals xs us):xs.length=us.length:=Paired.length r
theorem Vals.get:∀ {xs:List V} {us:List Value} {i:Nat} {x:V},Vals xs us→xs[i]? = some x→∃ u,us[i]? = some u∧RelV x u
 | _,_,_,_,.nil,e=>by simp at e
 | _,_,0,_,.cons r _,e=>by simp at e;subst e;exact ⟨_,rfl,r⟩
 | _,_,i+1,x,.cons _ t,e=>by
  obtain ⟨u,h1,h2⟩:=Vals.get (i:=i) (x:=x) t (by simpa using e)
  exact ⟨u,by simpa using h1,h2⟩
theorem Vals.set {x:V} {u:Value} (r:RelV x u):∀ {xs:List V} {us:List Value} (i:Nat),Vals xs us→Vals (xs.set i x) (us.set i u)
 | _,_,_,.nil=>.nil
 | _,_,0,.cons _ t=>.cons r t
 | _,_,i+1,.cons q t=>.cons q (Vals.set r i t)
theorem Vals.append:∀ {xs ys:List V} {us ws:List Value},Vals xs us→Vals ys ws→Vals (xs++ys) (us++ws)
 | _,_,_,_,.nil,s=>s
 | _,_,_,_,.cons r t,s=>.cons r (Vals.append t s)
theorem Vals.take:∀ {xs:List V} {us:List Value} (n:Nat),Vals xs us→Vals (xs.take n) (us.take n)
 | _,_,0,_=>.nil
 | _,_,_+1,.nil=>.nil
 | _,_,n+1,.cons r t=>.cons r (Vals.take n t)
theorem Vals.drop:∀ {xs:List V} {us:List Value} (n:Nat),Vals xs us→Vals (xs.drop n) (us.drop n)
 | _,_,0,r=>r
 | _,_,_+1,.nil=>.nil
 | _,_,n+1,.cons _ t=>Vals.drop n t
def RelO:Option V→Option Value→Prop
 | some v,some u=>RelV v u
 | none,none=>True
 | _,_=>False
def KV {κ:Type}:List (κ×V)→List (κ×Value)→Prop:=Paired fun (p:κ×V) (q:κ×Value)=>p.1=q.1∧RelV p.2 q.2
def kV:Key→V
 | .inl i=>.int i
 | .inr x=>.str x
inductive HO where
 | lst (xs:List V)
 | tup (xs:List V)
 | dK (kvs:List (Key×V))|dT (kvs:List (List Key×V))
 | set (S:Int→Bool) (n:Nat)
 | ins (C dx:Addr) (fs:List (Str×V))
 | own (x:Addr)
 | xd (fs:List (Str×V))
 | met (f x:Addr)
 | rng (lo hi:Int)
 | frz (o:Obj) (u:HO)
 | tbl (ps:Array Value)
 | ext (φ:Heap→Prop)
abbrev Hp:=Addr→Option HO
def upd (H:Hp) (a:Addr) (o:HO):Hp:=fun b=>if b=a then some o else H b
theorem zL_ {H:Hp} {a:Addr} {o:HO}:upd H a o a=some o:=by unfold upd;rw [if_pos rfl]
theorem zn_ {H:Hp} {a b:Addr} {o:HO} (h:b≠a):upd H a o b=H b:=by unfold upd;rw [if_neg h]
theorem zl_ {H:Hp} {a b:Addr} {o:HO} (h:H a=some o) (h':H b=none):a≠b:=by
 intro e;subst e;rw [h] at h';cases h'
section
variable (P:Program) (w:World)
def _root_.L2.TupN (h:Heap) (a:Addr):Prop:=∃ o,h.get? a=some o∧o.dict=none
theorem _root_.L2.TupN.new (h:Heap) (items:Array Value):TupN (h.push { cls:=.type "tuple",data:=.seq items }) h.objs.size:=⟨_,Heap.get?_push_size _ rfl,rfl⟩
def ObjOk (H:Hp) (h:Heap) (a:Addr):HO→Prop
 | .lst xs=>xs.length≤sizeLine∧∃ (its:List Value) (n:Nat),Vals xs its∧h.get? a=some { cls:=.type "list",data:=.seq its.toArray n }
 | .tup xs=>xs.length≤sizeLine∧∃ its:List Value,Vals xs its∧IsTup h a its.toArray∧TupN h a
 | .dK kvs=>kvs.length≤sizeLine∧(a==sysModules)=false∧∃ vs,KV kvs vs∧h.DictOf (zv_ P w) a vs
 | .dT kvs=>kvs.length≤sizeLine∧(a==sysModules)=false∧∃ xs:List (List Key×Addr×Value),
   Paired (fun (p:List Key×V) (q:List Key×Addr×Value)=>p.1=q.1∧H q.2.1=some (.tup (p.1.map kV))∧RelV p.2 q.2.2) kvs xs ∧
   ∃ o es ep,h.get? a=some o∧o.ExactDict∧o.data=.dict es ep∧es.toList=xs.map (entryOfKey (tupleKind (zv_ P w)))∧(xs.map (·.1)).Nodup
 | .set S n=>h.SetOf (intKind P w) a S n
 | .ins C dx fs=>H dx=some (.own a)∧fs.length≤1000∧dx≠a∧h.get? a=some (PySem.W.instObj C dx) ∧
   ∃ mA,h.Ns1 dx mA∧(∀ f,RelO (fs.lookup f) (mA f))∧PySem.Within mA (fs.map (·.1))
 | .own _=>∃ o,h.get? a=some o
 | .xd fs=>∃ mA,h.Ns1 a mA∧∀ f,RelO (fs.lookup f) (mA f)
 | .rng lo hi=>∃ t u v,h.get? a=some { cls:=.type "range",data:=.fields #[.int lo t,.int hi u,.int 1 v] }
 | .frz o u=>h.get? a=some o∧ObjOk H h a u
 | .tbl ps=>h.get? a=some { cls:=.none,data:=.fields ps }
 | .met f x=>h.get? a=some (PySem.W.methodObj (.ref f) (.ref x))
 | .ext φ=>φ h∧(∃ o,h.get? a=some o)∧∀ h1 h2:Heap,φ h1→(∀ o,h1.get? a=some o→h2.get? a=some o)→φ h2
def HOk (H:Hp) (h:Heap):Prop:=∀ a o,H a=some o→ObjOk P w H h a o
end
section
variable {P:Program} {w:World} {H H':Hp} {h h':Heap} {a:Addr} {o:HO}
theorem ObjOk.lt (x:ObjOk P w H h a o):a<h.objs.size:=by
 cases o with
 | lst xs=>obtain ⟨_,_,_,_,e⟩:=x;exact Heap.lt_size e
 | tup xs=>obtain ⟨_,_,_,p⟩:=x;exact p.1.lt
 | dK kvs=>obtain ⟨_,_,_,_,o,_,_,e,_⟩:=x;exact Heap.lt_size e
 | dT kvs=>obtain ⟨_,_,_,_,o,_,_,e,_⟩:=x;exact Heap.lt_size e
 | set S n=>obtain ⟨o,_,_,_,e,_⟩:=x;exact Heap.lt_size e
 | ins C dx fs=>obtain ⟨_,_,_,e,_⟩:=x;exact Heap.lt_size e
 | own y=>obtain ⟨_,e⟩:=x;exact Heap.lt_size e
 | xd fs=>obtain ⟨_,⟨_,_,_,e,_⟩,_⟩:=x;exact Heap.lt_size e
 | rng lo hi=>obtain ⟨_,_,_,e⟩:=x;exact Heap.lt_size e
 | frz ob u=>obtain ⟨e,_⟩:=x;exact Heap.lt_size e
 | tbl ps=>exact Heap.lt_size (show h.get? a=some _ from x)
 | met f y=>exact Heap.lt_size (show h.get? a=some _ from x)
 | ext φ=>obtain ⟨_,⟨_,e⟩,_⟩:=x;exact Heap.lt_size e
theorem Paired.mapP {α β:Type} {F G:α→β→Prop}:∀ {l₁:List α} {l₂:List β},Paired F l₁ l₂→(∀ a b,F a b→G a b)→Paired G l₁ l₂
 | _,_,.nil,_=>.nil
 | _,_,.cons r t,f=>.cons (f _ _ r) (Paired.mapP t f)
theorem ObjOk.stay (x:ObjOk P w H h a o) (k:∀ b u,(b=a∨H b=some (.own a))→h.get? b=some u→h'.get? b=some u)
  (ho:∀ b,H b=some (.own a)→H' b=some (.own a)) (ht:∀ b xs,H b=some (.tup xs)→H' b=some (.tup xs)):ObjOk P w H' h' a o:=by
 induction o with
 | lst xs=>obtain ⟨z,its,n,r,e⟩:=x;exact ⟨z,its,n,r,k _ _ (.inl rfl) e⟩
 | tup xs=>obtain ⟨z,its,r,⟨ob,e,c⟩,ob2,e2,c2⟩:=x;exact ⟨z,its,r,⟨ob,k _ _ (.inl rfl) e,c⟩,ob2,k _ _ (.inl rfl) e2,c2⟩
 | dK kvs=>obtain ⟨z,y,vs,r,ob,es,ep,e,c⟩:=x;exact ⟨z,y,vs,r,ob,es,ep,k _ _ (.inl rfl) e,c⟩
 | dT kvs =>
  obtain ⟨z,y,xs,r,ob,es,ep,e,c⟩:=x
  exact ⟨z,y,xs,Paired.mapP r fun p q z=>⟨z.1,ht _ _ z.2.1,z.2.2⟩,ob,es,ep,k _ _ (.inl rfl) e,c⟩
 | set S n=>obtain ⟨ob,es,ep,t,e,c⟩:=x;exact ⟨ob,es,ep,t,k _ _ (.inl rfl) e,c⟩
 | ins C dx fs =>
  obtain ⟨d,z,ne,e,mA,⟨od,es,ep,e2,c⟩,r⟩:=x
  exact ⟨ho _ d,z,ne,k _ _ (.inl rfl) e,mA,⟨od,es,ep,k _ _ (.inr d) e2,c⟩,r⟩
 | own y=>obtain ⟨ob,e⟩:=x;exact ⟨ob,k _ _ (.inl rfl) e⟩
 | xd fs=>obtain ⟨mA,⟨od,es,ep,e,c⟩,r⟩:=x;exact ⟨mA,⟨od,es,ep,k _ _ (.inl rfl) e,c⟩,r⟩
 | rng lo hi=>obtain ⟨t,u,v,e⟩:=x;exact ⟨t,u,v,k _ _ (.inl rfl) e⟩
 | frz ob u ih=>obtain ⟨e,q⟩:=x;exact ⟨k _ _ (.inl rfl) e,ih q⟩
 | tbl ps =>
  have e:h.get? a=some { cls:=.none,data:=.fields ps }:=x
  show h'.get? a=some { cls:=.none,data:=.fields ps }
  exact k a _ (.inl rfl) e
 | met f y =>
  have e:h.get? a=some (PySem.W.methodObj (.ref f) (.ref y)):=x
  show h'.get? a=some (PySem.W.methodObj (.ref f) (.ref y))
  exact k a _ (.inl rfl) e
 | ext φ=>obtain ⟨p,⟨o,e⟩,st⟩:=x;exact ⟨st _ _ p fun o q=>k _ _ (.inl rfl) q,⟨o,k _ _ (.inl rfl) e⟩,st⟩
theorem HOk.lt (x:HOk P w H h) (e:H a=some o):a<h.objs.size:=(x a o e).lt
theorem HOk.fresh (x:HOk P w H h) (e:h.objs.size≤a):H a=none:=by
 cases q:H a with
 | none=>rfl
 | some u=>exact absurd (Nat.lt_of_lt_of_le (x.lt q) e) (Nat.lt_irrefl _)
theorem HOk.kept (x:HOk P w H h) (k:∀ b u,h.get? b=some u→h'.get? b=some u):HOk P w H h':=fun a o e =>
 (x a o e).stay (fun b u _ q=>k b u q) (fun _ q=>q) fun _ _ q=>q
theorem HOk.laid (x:HOk P w H h) (k:∀ b u,h.get? b=some u→h'.get? b=some u) (hp:h.objs.size≤a) (new:ObjOk P w (upd H a o) h' a o):HOk P w (upd H a o) h':=fun b u e=>by
 have hn:=x.fresh hp
 by_cases hb:b=a
 ·subst hb;rw [zL_] at e;cases e;exact new
 ·rw [zn_ hb] at e
  exact (x b u e).stay (fun c v _ q=>k c v q) (fun c q=>by rw [zn_ (zl_ q hn)];exact q) fun c xs q=>by rw [zn_ (zl_ q hn)];exact q
end
def Rd (H:Hp) (a:Addr) (u:HO):Prop:=H a=some u∨∃ o,H a=some (.frz o u)
theorem Rd.ok {P:Program} {w:World} {H:Hp} {h:Heap} {a:Addr} {u:HO} (r:Rd H a u) (x:HOk P w H h):ObjOk P w H h a u:=by
 rcases r with r|⟨o,r⟩
 ·exact x a u r
 ·obtain ⟨_,q⟩:=x a _ r
  exact q
def Mut:Option HO→Prop
 | some (.lst _)=>True
 | some (.dK _)=>True
 | some (.dT _)=>True
 | some (.set _ _)=>True
 | some (.ins _ _ _)=>True
 | some (.ext _)=>True
 | _=>False
section
variable {P:Program} {w:World} {H:Hp} {h h':Heap} {x e:Addr} {o':HO}
theorem HOk.write (ok:HOk P w H h) (mu:Mut (H x)) (he:e=x∨H e=some (.own x)) (k:∀ b u,b≠e→h.get? b=some u→h'.get? b=some u) (heo:∃ u,h'.get? e=some u)
  (new:ObjOk P w (upd H x o') h' x o'):HOk P w (upd H x o') h':=fun b u q=>by
 have nown:∀ c y,H c=some (.own y)→c≠x:=fun c y r z=>by subst z;rw [r] at mu;exact mu
 have ntup:∀ c xs,H c=some (.tup xs)→c≠x:=fun c xs r z=>by subst z;rw [r] at mu;exact mu
 by_cases hb:b=x
 ·subst hb;rw [zL_] at q;cases q;exact new
 ·rw [zn_ hb] at q
  by_cases hbe:b=e
  ·have q':H b=some (.own x):=by
    rcases he with z|z
    ·exact absurd (hbe.trans z) hb
    ·rw [hbe];exact z
   rw [q] at q';cases q'
   obtain ⟨v,hv⟩:=heo
   exact ⟨v,by rw [hbe];exact hv⟩
  ·refine (ok b u q).stay (fun c v hc r=>k c v ?_ r) (fun c r=>by rw [zn_ (nown c b r)];exact r) fun c xs r=>by rw [zn_ (ntup c xs r)];exact r
   rcases hc with rfl|hc
   ·exact hbe
   ·rintro rfl
    rcases he with z|z
    ·exact nown c b hc z
    ·rw [hc] at z;cases z;exact hb rfl
end
structure Un (fs ex:List Addr) (H H':Hp) (h h':Heap):Prop where
 keep:∀ b o,h.get? b=some o→H b=none→b∉fs→b∉ex→h'.get? b=some o
 slot:∀ b o,h.get? b=some o→H b=none→b∈fs→b∉ex→∃ sl,h'.get? b=some { o with slots:=sl }
 free:∀ b o,h.get? b=some o→H b=none→b∉ex→H' b=none
 there:∀ b o,h.get? b=some o→b∉ex→∃ o',h'.get? b=some o'
 tups:∀ b xs,H b=some (.tup xs)→H' b=some (.tup xs)
 frzs:∀ b o u,H b=some (.frz o u)→H' b=some (.frz o u)
 tbls:∀ b ps,H b=some (.tbl ps)→∃ more,H' b=some (.tbl (ps++more))
section
variable {fs fs' ex ex':List Addr} {H H1 H2:Hp} {h h1 h2 h':Heap} {a x e:Addr} {o:HO}
theorem Un.any (u:Un fs ex H H1 h h1) {b:Addr} {ob:Obj} (q:h.get? b=some ob) (n:H b=none) (hx:b∉ex):∃ sl,h1.get? b=some { ob with slots:=sl }:=by
 by_cases hb:b∈fs
 ·exact u.slot b ob q n hb hx
 ·exact ⟨ob.slots,u.keep b ob q n hb hx⟩
theorem Un.kept (k:∀ b u,h.get? b=some u→h'.get? b=some u):Un fs ex H H h h' :=
 ⟨fun b ob q _ _ _=>k b ob q,fun b ob q _ _ _=>⟨ob.slots,k b ob q⟩,fun _ _ _ n _=>n,fun b ob q _=>⟨ob,k b ob q⟩,fun _ _ q=>q,fun _ _ _ q=>q,fun _ ps q=>⟨#[],by rw [q];simp⟩⟩
theorem Un.refl:Un fs ex H H h h:=Un.kept fun _ _ q=>q
theorem Un.laid (k:∀ b u,h.get? b=some u→h'.get? b=some u) (hp:h.objs.size≤a) (hn:H a=none):Un fs ex H (upd H a o) h h' where
 keep:=fun b u q _ _ _=>k b u q
 slot:=fun b u q _ _ _=>⟨u.slots,k b u q⟩
 free:=fun b u q n _=>by rw [zn_ (Nat.ne_of_lt (Nat.lt_of_lt_of_le (Heap.lt_size q) hp))];exact n
 there:=fun b u q _=>⟨u,k b u q⟩
 tups:=fun b xs q=>by rw [zn_ (zl_ q hn)];exact q
 frzs:=fun b u xs q=>by rw [zn_ (zl_ q hn)];exact q
 tbls:=fun b ps q=>⟨#[],by rw [zn_ (zl_ q hn),q];simp⟩
theorem Un.write (mu:Mut (H x)) (he:e=x∨H e=some (.own x)) (k:∀ b u,b≠e→h.get? b=some u→h'.get? b=some u) (heo:∃ u,h'.get? e=some u):Un fs ex H (upd H x o) h h':=by
 have hx:∀ b,H b=none→b≠x:=fun b n z=>by subst z;rw [n] at mu;exact mu
 have hb:∀ b,H b=none→b≠e:=fun b n z=>by
  subst z
  rcases he with r|r
  ·exact hx b n r
  ·rw [n] at r;cases r
 have hm:∀ b u,H b=some u→¬ Mut (some u)→b≠x:=fun b u q nm z=>by subst z;rw [q] at mu;exact nm mu
 refine ⟨fun b u q n _ _=>k b u (hb b n) q,fun b u q n _ _=>⟨u.slots,k b u (hb b n) q⟩,fun b u q n _=>by rw [zn_ (hx b n)];exact n,fun b u q _=>?_,
  fun b xs q=>by rw [zn_ (hm b _ q fun z=>z)];exact q,fun b u xs q=>by rw [zn_ (hm b _ q fun z=>z)];exact q,fun b ps q=>⟨#[],by rw [zn_ (hm b _ q fun z=>z),q];simp⟩⟩
 by_cases hbe:b=e
 ·subst hbe;exact heo
 ·exact ⟨u,k b u hbe q⟩
end
def trk (h:Heap) (H:Hp):List Addr:=(List.range h.objs.size).filter fun a=>(H a).isSome
def hidT (h:Heap) (H:Hp):Heap:=PySem.W.hideAll h (trk h H)
theorem UN_ (h:Heap) (H:Hp):(hidT h H).objs.size=h.objs.size:=PySem.W.hideAll_size _ _
theorem YY_ {h:Heap} {H:Hp} {b:Addr} {o:Obj} (e:h.get? b=some o) (n:H b=none):(hidT h H).get? b=some o :=
 PySem.W.hideAll_get _ e fun hm=>by
  have q:(H b).isSome=true:=(List.mem_filter.mp hm).2
  rw [n] at q;simp at q
theorem Q9_ {h:Heap} {H:Hp} {b:Addr} {o:Obj} (e:(hidT h H).get? b=some o):h.get? b=some o∧H b=none:=by
 have e':h.get? b=some o:=PySem.W.of_hideAll (trk h H) e
 refine ⟨e',?_⟩
 cases q:H b with
 | none=>rfl
 | some x =>
  have hm:b∈trk h H:=List.mem_filter.mpr ⟨List.mem_range.mpr (Heap.lt_size e'),by simp [q]⟩
  have z:(hidT h H).get? b=none:=PySem.W.hideAll_none (trk h H) hm
  rw [z] at e;cases e
end L2
namespace L2
open PySem PySem.Spec PyProof.Rows
structure Mod (K:PySem.W.Frag) (mg:Str→Option Value) (base:Heap):Prop where
 kin:K.In base
 glob:base.Ns mainGlobals mg
 blt:∃ mb,base.Ns builtinsNs mb∧∀ x:Str,x ≠ "__name__" → mb x=bootBuiltins x
 nolimit:base.NoLimit
structure Cx where
 prog:Program
 w:World
 K:PySem.W.Frag
 mg:Str→Option Value
 base:Heap
 A:Around
 N:List Str
 s₀:Shared
 H₀:Hp
 env:Env
 outer:List Env
 stack:List Env
 ex:List Addr
 fn:Str→Bool
 calm:Bool
 pn:List (Addr×Obj)
 xe:Value→Shared→Prop
def frs (l:List Env):List Addr:=l.filterMap (·.frame)
abbrev Cx.fs (X:Cx):List Addr:=frs X.outer
def Vis (sc:Scope) (x:Str):Prop:=sc.names.lookup x=some .local∨sc.names.lookup x=some .cell∨sc.names.lookup x=some .free
def Loc (sc:Scope) (x:Str):Prop:=sc.names.lookup x=some .local∨sc.names.lookup x=some .cell
def Look (env:Env) (h:Heap) (m:Str→Option Value) (x:Str) (u:Value):Prop :=
 (env.kindOf x=some .local∧m x=some u)∨((env.kindOf x=some .cell∨env.kindOf x=some .free)∧∃ c,env.cells.lookup x=some c∧h.IsCell c (some u))
structure Cx.Ok (X:Cx):Prop where
 mod:Mod X.K X.mg X.base
 kind:X.env.scope.kind=.function
 glob:X.env.globals=mainGlobals
 blt:X.env.builtins=builtinsNs
 above:X.s₀.heap.objs.size≤X.env.locals
 inj:∀ x y c,X.env.cells.lookup x=some c→X.env.cells.lookup y=some c→x=y
 has:∀ x,(X.env.kindOf x=some .cell∨X.env.kindOf x=some .free)→∃ c,X.env.cells.lookup x=some c
 cab:∀ x c,X.fn x=true→X.env.cells.lookup x=some c→X.s₀.heap.objs.size≤c
 hd:X.calm=true→X.A.handled=none
 frames:X.A.frames=some X.stack
 stk:X.stack=X.outer∨(X.stack=X.env::X.outer∧X.env.frame=some X.env.locals)
 exf:∀ b∈X.ex,b≠X.env.locals∧∀ x c,X.env.cells.lookup x=some c→c≠b
 bs:∀ b o,X.base.get? b=some o→X.s₀.heap.get? b=some o∧X.H₀ b=none
 bsz:X.base.objs.size≤X.s₀.heap.objs.size
 noex:∀ b o,X.base.get? b=some o→b∉X.ex
 exfs:∀ b∈X.ex,b∉X.fs
 funs:X.s₀.heap.FunFrames X.base X.outer
 frf:∀ b∈X.fs,X.H₀ b=none
structure Inv (X:Cx) (pins:List (Addr×Obj)) (σ:List (Option V)) (H:Hp) (s:Shared):Prop where
 ok:X.Ok
 os:s.os=X.s₀.os
 bare:AllBare s.gens
 base:Un X.fs X.ex X.H₀ H X.s₀.heap s.heap
 loc:∃ m,s.heap.Ns X.env.locals m∧∀ (i:Nat) (x:Str) (v:V),X.N[i]? = some x→σ[i]? = some (some v)→Vis X.env.scope x→∃ u,RelV v u∧Look X.env s.heap m x u
 cell:∀ x c,X.env.cells.lookup x=some c→∃ v,s.heap.IsCell c v
 free:H X.env.locals=none
 freeC:∀ x c,X.env.cells.lookup x=some c→H c=none
 pin:∀ p∈X.pn++pins,s.heap.get? p.1=some p.2∧H p.1=none∧p.1≠X.env.locals∧p.1∉X.fs∧∀ v,p.2.data≠.cell v
 hok:HOk X.prog X.w H s.heap
 len:σ.length=X.N.length
section
variable {X:Cx} {pins:List (Addr×Obj)} {σ:List (Option V)} {H H':Hp} {s:Shared} {h':Heap}
theorem Cx.Ok.nofr (ok:X.Ok) {b:Addr} {o:Obj} (e:X.base.get? b=some o):b∉X.fs:=fun hb=>by
 have:=(ok.funs.mem hb).1
 rw [e] at this;cases this
theorem Inv.bs (I:Inv X pins σ H s):∀ b o,X.base.get? b=some o→s.heap.get? b=some o∧H b=none:=fun b o e =>
 ⟨I.base.keep b o (I.ok.bs b o e).1 (I.ok.bs b o e).2 (I.ok.nofr e) (I.ok.noex b o e),I.base.free b o (I.ok.bs b o e).1 (I.ok.bs b o e).2 (I.ok.noex b o e)⟩
theorem Inv.bk (I:Inv X pins σ H s):∀ b o,X.base.get? b=some o→s.heap.get? b=some o:=fun b o e=>(I.bs b o e).1
theorem Inv.mod (I:Inv X pins σ H s):Mod X.K X.mg X.base:=I.ok.mod
theorem Inv.kIn (I:Inv X pins σ H s):X.K.In s.heap:=I.ok.mod.kin.keeps I.bk
theorem Inv.lt (I:Inv X pins σ H s):X.env.locals<s.heap.objs.size:=let ⟨_,hn,_⟩:=I.loc;hn.lt
theorem Inv.sz (I:Inv X pins σ H s):X.s₀.heap.objs.size≤s.heap.objs.size:=Nat.le_trans I.ok.above (Nat.le_of_lt I.lt)
theorem Inv.nofs (I:Inv X pins σ H s) {a:Addr} (h:s.heap.objs.size≤a):a∉X.fs:=fun hb=>by
 obtain ⟨_,o,ho,_⟩:=I.ok.funs.mem hb
 exact absurd (Nat.lt_of_lt_of_le (Heap.lt_size ho) (Nat.le_trans I.sz h)) (Nat.lt_irrefl _)
theorem Inv.cne (I:Inv X pins σ H s):∀ x c,X.env.cells.lookup x=some c→c≠X.env.locals:=fun x c e z=>by
 obtain ⟨v,o,ho,hd⟩:=I.cell x c e
 obtain ⟨m,⟨o',es,ep,ho',hd',_⟩,_⟩:=I.loc
 rw [z,ho'] at ho;cases ho;rw [hd'] at hd;cases hd
theorem Inv.funs (I:Inv X pins σ H s):s.heap.FunFrames X.base X.outer:=by
 have all:∀ (l:List Env),(∀ b∈frs l,b∈X.fs)→X.s₀.heap.FunFrames X.base l→s.heap.FunFrames X.base l:=by
  intro l
  induction l with
  | nil=>intro _ _;trivial
  | cons env r ih =>
   intro hs hl
   obtain ⟨hk,⟨L,o,hf,hn,ho,hd⟩,hr⟩:=hl
   have hL:L∈X.fs:=hs L (by unfold frs;rw [List.filterMap_cons,hf];exact List.mem_cons_self)
   obtain ⟨sl,e⟩:=I.base.slot L o ho (I.ok.frf L hL) hL fun z=>I.ok.exfs L z hL
   exact ⟨hk,⟨L,_,hf,hn,e,hd⟩,ih (fun b hb=>hs b (by unfold frs;rw [List.filterMap_cons,hf];exact List.mem_cons_of_mem _ hb)) hr⟩
 exact all X.outer (fun _ hb=>hb) I.ok.funs
theorem Inv.stack (I:Inv X pins σ H s):s.heap.FunFrames X.base X.stack:=by
 rcases I.ok.stk with e|⟨e,hf⟩
 ·rw [e];exact I.funs
 ·rw [e]
  obtain ⟨m,hn,_⟩:=I.loc
  refine .cons (by rw [I.ok.kind];decide) hf hn ?_ I.funs
  exact Heap.get?_none_of_le (Nat.le_trans I.ok.bsz I.ok.above)
theorem Inv.stkSub (I:Inv X pins σ H s):∀ b∈frs X.stack,b∈X.env.locals::X.fs:=fun b hb=>by
 rcases I.ok.stk with e|⟨e,hf⟩
 ·rw [e] at hb;exact List.mem_cons_of_mem _ hb
 ·rw [e] at hb
  unfold frs at hb
  rw [List.filterMap_cons,hf] at hb
  exact hb
theorem Inv.stkFree (I:Inv X pins σ H s):∀ b∈frs X.stack,H b=none:=fun b hb=>by
 rcases List.mem_cons.mp (I.stkSub b hb) with e|hb
 ·rw [e];exact I.free
 ·obtain ⟨_,o,ho,_⟩:=I.ok.funs.mem hb
  exact I.base.free b o ho (I.ok.frf b hb) fun z=>I.ok.exfs b z hb
theorem Inv.step {g':Array GenState} {t':Nat} {d':Drawn} {ch:List Addr} (I:Inv X pins σ H s)
  (hch:∀ b∈ch,(b∈X.ex∨X.s₀.heap.objs.size≤b)∧b≠X.env.locals∧(∀ x c,X.env.cells.lookup x=some c→c≠b)∧∀ p∈X.pn++pins,p.1≠b)
  (keep:∀ b o,b≠X.env.locals→b∉X.fs→b∉ch→s.heap.get? b=some o→H b=none→h'.get? b=some o)
  (slot:∀ b o,b≠X.env.locals→b∈X.fs→b∉ch→s.heap.get? b=some o→H b=none→∃ sl,h'.get? b=some { o with slots:=sl }) (free:∀ b o,b∉ch→s.heap.get? b=some o→H b=none→H' b=none)
  (there:∀ b o,b∉ch→s.heap.get? b=some o→∃ o',h'.get? b=some o')
  (tups:∀ b xs,H b=some (.tup xs)→H' b=some (.tup xs)) (frzs:∀ b o u,H b=some (.frz o u)→H' b=some (.frz o u)) (tbls:∀ b ps,H b=some (.tbl ps)→∃ more,H' b=some (.tbl (ps++more)))
  (ns:∀ m,s.heap.Ns X.env.locals m→h'.Ns X.env.locals m) (hok:HOk X.prog X.w H' h') (hg:AllBare g') :
  Inv X pins σ H' { s with heap:=h',gens:=g',drawn:=d',toks:=t' }:=by
 have neL:∀ b o,X.s₀.heap.get? b=some o→b≠X.env.locals:=fun b o e=>Nat.ne_of_lt (Nat.lt_of_lt_of_le (Heap.lt_size e) I.ok.above)
 have neC:∀ b o,X.s₀.heap.get? b=some o→b∉X.ex→b∉ch:=fun b o e hx hb=>by
  rcases (hch b hb).1 with z|z
  ·exact hx z
  ·exact absurd (Nat.lt_of_lt_of_le (Heap.lt_size e) z) (Nat.lt_irrefl _)
 have cellK:∀ x c,X.env.cells.lookup x=some c→∀ v,s.heap.IsCell c v→h'.IsCell c v:=fun x c e v ⟨o,ho,hd⟩=>by
  have nch:c∉ch:=fun z=>(hch c z).2.2.1 x c e rfl
  by_cases hc:c∈X.fs
  ·obtain ⟨sl,q⟩:=slot c o (I.cne x c e) hc nch ho (I.freeC x c e)
   exact ⟨_,q,hd⟩
  ·exact ⟨o,keep c o (I.cne x c e) hc nch ho (I.freeC x c e),hd⟩
 refine ⟨I.ok,I.os,hg,⟨fun b o e n hb hx=>?_,fun b o e n hb hx=>?_,fun b o e n hx=>?_,fun b o e hx=>?_,fun b xs e=>tups b xs (I.base.tups b xs e),fun b o xs e=>frzs b o xs (I.base.frzs b o xs e),fun b ps e=>?_⟩,?_,fun x c e=>?_,?_,fun x c e=>?_,fun p hp=>?_,hok,I.len⟩
 ·exact keep b o (neL b o e) hb (neC b o e hx) (I.base.keep b o e n hb hx) (I.base.free b o e n hx)
 ·obtain ⟨sl,e1⟩:=I.base.slot b o e n hb hx
  obtain ⟨sl',e2⟩:=slot b _ (neL b o e) hb (neC b o e hx) e1 (I.base.free b o e n hx)
  exact ⟨sl',e2⟩
 ·obtain ⟨o',e1⟩:=I.base.there b o e hx
  exact free b o' (neC b o e hx) e1 (I.base.free b o e n hx)
 ·obtain ⟨o',e1⟩:=I.base.there b o e hx
  exact there b o' (neC b o e hx) e1
 ·obtain ⟨m1,e1⟩:=I.base.tbls b ps e
  obtain ⟨m2,e2⟩:=tbls b _ e1
  exact ⟨m1++m2,by rw [e2,Array.append_assoc]⟩
 ·obtain ⟨m,hn,hl⟩:=I.loc
  refine ⟨m,ns m hn,fun i x v e1 e2 e3=>?_⟩
  obtain ⟨u,r,l⟩:=hl i x v e1 e2 e3
  refine ⟨u,r,?_⟩
  rcases l with l|⟨k,c,e,z⟩
  ·exact .inl l
  ·exact .inr ⟨k,c,e,cellK x c e _ z⟩
 ·obtain ⟨v,z⟩:=I.cell x c e
  exact ⟨v,cellK x c e v z⟩
 ·obtain ⟨m,⟨o,_,_,ho,_⟩,_⟩:=I.loc
  exact free _ o (fun z=>(hch _ z).2.1 rfl) ho I.free
 ·obtain ⟨v,o,ho,hd⟩:=I.cell x c e
  exact free c o (fun z=>(hch c z).2.2.1 x c e rfl) ho (I.freeC x c e)
 ·obtain ⟨e,n,ne,nf,d⟩:=I.pin p hp
  have nch:p.1∉ch:=fun z=>(hch p.1 z).2.2.2 p hp rfl
  exact ⟨keep p.1 p.2 ne nf nch e n,free p.1 p.2 nch e n,ne,nf,d⟩
theorem Inv.un {t':Nat} (I:Inv X pins σ H s) (u:Un X.fs [] H H' s.heap h') (hok:HOk X.prog X.w H' h'):Inv X pins σ H' { s with heap:=h',toks:=t' }:=by
 obtain ⟨m,⟨o,es,ep,ho,r⟩,_⟩:=id I.loc
 obtain ⟨sl,hL⟩:=u.any ho I.free (by simp)
 exact I.step (g':=s.gens) (d':=s.drawn) (ch:=[]) (fun _ z=>nomatch z) (fun b o _ hb _ e n=>u.keep b o e n hb (by simp)) (fun b o _ hb _ e n=>u.slot b o e n hb (by simp)) (fun b o _ e n=>u.free b o e n (by simp)) (fun b o _ e=>u.there b o e (by simp)) u.tups u.frzs u.tbls (fun m' hm=>by
  obtain ⟨o',es',ep',ho',r'⟩:=hm
  rw [ho] at ho';cases ho'
  exact ⟨_,es',ep',hL,r'⟩) hok I.bare
theorem Inv.call {g':Array GenState} {t':Nat} {d':Drawn} {ch:List Addr} (I:Inv X pins σ H s) (u:Un (frs X.stack) ch H H' s.heap h') (hok:HOk X.prog X.w H' h') (hg:AllBare g')
  (hch:∀ b∈ch,(b∈X.ex∨X.s₀.heap.objs.size≤b)∧b≠X.env.locals∧(∀ x c,X.env.cells.lookup x=some c→c≠b)∧∀ p∈X.pn++pins,p.1≠b) :
  Inv X pins σ H' { s with heap:=h',gens:=g',drawn:=d',toks:=t' }:=by
 obtain ⟨m,⟨o,es,ep,ho,r⟩,_⟩:=id I.loc
 obtain ⟨sl,hL⟩:=u.any ho I.free fun z=>(hch _ z).2.1 rfl
 exact I.step (ch:=ch) hch (fun b o hL hb hc e n=>u.keep b o e n (fun z=>(List.mem_cons.mp (I.stkSub b z)).elim hL hb) hc) (fun b o _ _ hc e n=>u.any e n hc) (fun b o hc e n=>u.free b o e n hc) (fun b o hc e=>u.there b o e hc) u.tups u.frzs u.tbls (fun m' hm=>by
  obtain ⟨o',es',ep',ho',r'⟩:=hm
  rw [ho] at ho';cases ho'
  exact ⟨_,es',ep',hL,r'⟩) hok hg
theorem Inv.turned {t':Nat} {it:Addr} (I:Inv X pins σ H s) (k:∀ b o,b≠it→s.heap.get? b=some o→h'.get? b=some o) (hn:H it=none) (hL:it≠X.env.locals)
  (h1:it∈X.ex∨X.s₀.heap.objs.size≤it) (h2:∀ x c,X.env.cells.lookup x=some c→c≠it) (h3:∀ p∈X.pn++pins,p.1≠it):Inv X pins σ H { s with heap:=h',toks:=t' }:=by
 have nit:∀ b u,H b=some u→b≠it:=fun b u e z=>by rw [z,hn] at e;cases e
 refine I.step (g':=s.gens) (d':=s.drawn) (ch:=[it]) (fun b hb=>?_) (fun b o _ _ hc e _=>k b o (fun z=>hc (by simp [z])) e) (fun b o _ _ hc e _=>⟨o.slots,k b o (fun z=>hc (by simp [z])) e⟩) (fun _ _ _ _ n=>n)
  (fun b o hc e=>⟨o,k b o (fun z=>hc (by simp [z])) e⟩) (fun _ _ e=>e) (fun _ _ _ e=>e) (fun b ps e=>⟨#[],by rw [e];simp⟩) (fun m hm=>?_) (fun b u e=>?_) I.bare
 ·have e:b=it:=by simpa using hb
  subst e
  exact ⟨h1,hL,h2,h3⟩
 ·obtain ⟨o,es,ep,ho,r⟩:=hm
  exact ⟨o,es,ep,k _ o (Ne.symm hL) ho,r⟩
 ·refine (I.hok b u e).stay (fun c v hc q=>k c v ?_ q) (fun _ q=>q) fun _ _ q=>q
  rcases hc with z|z
  ·rw [z];exact nit b u e
  ·exact nit c _ z
theorem Inv.tok (I:Inv X pins σ H s) (t:Nat):Inv X pins σ H { s with toks:=t }:=I.un (h':=s.heap) (t':=t) Un.refl I.hok
theorem Inv.kept {t':Nat} (I:Inv X pins σ H s) (k:∀ b u,s.heap.get? b=some u→h'.get? b=some u):Inv X pins σ H { s with heap:=h',toks:=t' }:=I.un (Un.kept k) (I.hok.kept k)
theorem Inv.laid {a:Addr} {o:HO} {t':Nat} (I:Inv X pins σ H s) (k:∀ b u,s.heap.get? b=some u→h'.get? b=some u) (hp:s.heap.objs.size≤a) (new:ObjOk X.prog X.w (upd H a o) h' a o) :
  Inv X pins σ (upd H a o) { s with heap:=h',toks:=t' }:=I.un (Un.laid k hp (I.hok.fresh hp)) (I.hok.laid k hp new)
theorem Inv.write {x e:Addr} {o:HO} {t':Nat} (I:Inv X pins σ H s) (mu:Mut (H x)) (he:e=x∨H e=some (.own x)) (k:∀ b u,b≠e→s.heap.get? b=some u→h'.get? b=some u) (heo:∃ u,h'.get? e=some u)
  (new:ObjOk X.prog X.w (upd H x o) h' x o):Inv X pins σ (upd H x o) { s with heap:=h',toks:=t' }:=I.un (Un.write mu he k heo) (I.hok.write mu he k heo new)
theorem Inv.pins_of {pins':List (Addr×Obj)} (I:Inv X pins σ H s) (h:∀ p∈pins',s.heap.get? p.1=some p.2∧H p.1=none∧p.1≠X.env.locals∧p.1∉X.fs∧∀ v,p.2.data≠.cell v):Inv X pins' σ H s :=
 ⟨I.ok,I.os,I.bare,I.base,I.loc,I.cell,I.free,I.freeC,fun p hp=>(List.mem_append.mp hp).elim (fun z=>I.pin p (List.mem_append_left _ z)) (h p),I.hok,I.len⟩
theorem Jk_ {N:List Str} (hN:N.Nodup) {i j:Nat} {x:Str} (a:N[i]? = some x) (b:N[j]? = some x):i=j:=by
 obtain ⟨h1,e1⟩:=List.getElem?_eq_some_iff.mp a
 obtain ⟨h2,e2⟩:=List.getElem?_eq_some_iff.mp b
 exact (List.getElem_inj hN).mp (e1.trans e2.symm)
theorem y3_ {M:Model} {A:Around} {E:Value→Shared→Prop} {i:Nat} {x:Str} {v:V} {u:Value} {Q:Unit→Shared→Prop} (I:Inv X pins σ H s) (hN:X.N.Nodup) (hi:X.N[i]? = some x) (hx:Loc X.env.scope x) (r:RelV v u)
  (h:∀ s',Inv X pins (σ.set i (some v)) H s'→(∃ a,Heap.SameBut a s.heap s'.heap∧(a=X.env.locals∨X.env.cells.lookup x=some a))→Q () s') (hf:X.fn x=true∨X.env.scope.names.lookup x=some .local:=by first|exact .inl rfl|exact .inr rfl|assumption):wpAny M A (storeName X.env x u) Q E s:=by
 obtain ⟨m,hn,hl⟩:=id I.loc
 have hcls:(X.env.scope.kind==.class||(X.env.scope.kind==.module&&X.env.locals != X.env.globals))=false:=by rw [I.ok.kind];rfl
 have hiσ:i<σ.length:=by rw [I.len];exact (List.getElem?_eq_some_iff.mp hi).1
 have cne:=I.cne
 have tracked:∀ {a:Addr} {h':Heap},(∃ o,s.heap.get? a=some o∧H a=none)→Heap.SameBut a s.heap h'→HOk X.prog X.w H h':=fun {a h'} ha hs b ob e=>by
  obtain ⟨_,_,hfree⟩:=ha
  refine (I.hok b ob e).stay (fun c w' hc q=>(hs.2 c ?_).trans q) (fun _ q=>q) fun _ _ q=>q
  rintro rfl
  rcases hc with rfl|hc
  ·rw [hfree] at e;cases e
  ·rw [hfree] at hc;cases hc
 rcases hx with hk|hk
 ·refine wpAny_storeName_local hk hn (fun h' hn' hs=>?_) hcls
  obtain ⟨oL,_,_,hoL,_⟩:=id hn
  refine h _ ⟨I.ok,I.os,I.bare,⟨fun b o e n hb hx=>?_,fun b o e n hb hx=>?_,I.base.free,fun b o e hx=>?_,I.base.tups,I.base.frzs,I.base.tbls⟩,⟨_,hn',fun j y v' e1 e2 e3=>?_⟩,fun y c e=>?_,I.free,I.freeC,fun p hp=>?_,tracked ⟨oL,hoL,I.free⟩ hs,by simpa using I.len⟩ ⟨_,hs,.inl rfl⟩
  ·exact (hs.2 b (Nat.ne_of_lt (Nat.lt_of_lt_of_le (Heap.lt_size e) I.ok.above))).trans (I.base.keep b o e n hb hx)
  ·obtain ⟨sl,e1⟩:=I.base.slot b o e n hb hx
   exact ⟨sl,(hs.2 b (Nat.ne_of_lt (Nat.lt_of_lt_of_le (Heap.lt_size e) I.ok.above))).trans e1⟩
  ·obtain ⟨o',e1⟩:=I.base.there b o e hx
   exact ⟨o',(hs.2 b (Nat.ne_of_lt (Nat.lt_of_lt_of_le (Heap.lt_size e) I.ok.above))).trans e1⟩
  ·by_cases hj:j=i
   ·subst hj
    rw [hi] at e1;cases e1
    rw [List.getElem?_set_self hiσ] at e2
    cases e2
    exact ⟨u,r,.inl ⟨hk,by simp⟩⟩
   ·rw [List.getElem?_set_ne (Ne.symm hj)] at e2
    obtain ⟨u',r',q⟩:=hl j y v' e1 e2 e3
    refine ⟨u',r',?_⟩
    rcases q with ⟨k,e⟩|⟨k,c,e,z⟩
    ·refine .inl ⟨k,?_⟩
     have:y≠x:=fun e=>hj (Jk_ hN e1 (e▸hi))
     simp [this,e]
    ·exact .inr ⟨k,c,e,z.sameBut hs (cne y c e)⟩
  ·obtain ⟨w',z⟩:=I.cell y c e
   exact ⟨w',z.sameBut hs (cne y c e)⟩
  ·obtain ⟨e,n,ne,nf,d⟩:=I.pin p hp
   exact ⟨(hs.2 p.1 ne).trans e,n,ne,nf,d⟩
 ·have hfn:X.fn x=true:=by
   rcases hf with z|z
   ·exact z
   ·rw [z] at hk;cases hk
  obtain ⟨c,hc⟩:=I.ok.has x (.inl hk)
  obtain ⟨w',z⟩:=I.cell x c hc
  refine wpAny_storeName_cell I.ok.kind hk hc z (fun h' hc' hs=>?_)
  obtain ⟨oc,hoc,hocd⟩:=id z
  refine h { s with heap:=h' } ⟨I.ok,I.os,I.bare,⟨fun b o e n hb hx=>?_,fun b o e n hb hx=>?_,I.base.free,fun b o e hx=>?_,I.base.tups,I.base.frzs,I.base.tbls⟩,⟨m,hn.sameBut hs (Ne.symm (cne x c hc)),fun j y v' e1 e2 e3=>?_⟩,fun y c' e=>?_,I.free,I.freeC,fun p hp=>?_,tracked ⟨oc,hoc,I.freeC x c hc⟩ hs,by simpa using I.len⟩ ⟨c,hs,.inr hc⟩
  ·exact (hs.2 b (Nat.ne_of_lt (Nat.lt_of_lt_of_le (Heap.lt_size e) (I.ok.cab x c hfn hc)))).trans (I.base.keep b o e n hb hx)
  ·obtain ⟨sl,e1⟩:=I.base.slot b o e n hb hx
   exact ⟨sl,(hs.2 b (Nat.ne_of_lt (Nat.lt_of_lt_of_le (Heap.lt_size e) (I.ok.cab x c hfn hc)))).trans e1⟩
  ·obtain ⟨o',e1⟩:=I.base.there b o e hx
   exact ⟨o',(hs.2 b (Nat.ne_of_lt (Nat.lt_of_lt_of_le (Heap.lt_size e) (I.ok.cab x c hfn hc)))).trans e1⟩
  ·by_cases hj:j=i
   ·subst hj
    rw [hi] at e1;cases e1
    rw [List.getElem?_set_self hiσ] at e2
    cases e2
    exact ⟨u,r,.inr ⟨.inl hk,c,hc,hc'⟩⟩
   ·rw [List.getElem?_set_ne (Ne.symm hj)] at e2
    obtain ⟨u',r',q⟩:=hl j y v' e1 e2 e3
    refine ⟨u',r',?_⟩
    rcases q with q|⟨k,c',e,z'⟩
    ·exact .inl q
    ·refine .inr ⟨k,c',e,z'.sameBut hs ?_⟩
     rintro rfl
     exact hj (Jk_ hN e1 (I.ok.inj _ _ _ e hc▸hi))
  ·by_cases hcc:c'=c
   ·subst hcc;exact ⟨_,hc'⟩
   ·obtain ⟨w2,z2⟩:=I.cell y c' e
    exact ⟨w2,z2.sameBut hs hcc⟩
  ·obtain ⟨e,n,ne,nf,d⟩:=I.pin p hp
   refine ⟨(hs.2 p.1 ?_).trans e,n,ne,nf,d⟩
   intro q
   rw [q,hoc] at e
   have q':oc=p.2:=Option.some.inj e
   exact d w' (by rw [←q'];exact hocd)
theorem Z5_ {M:Model} {A:Around} {E:Value→Shared→Prop} {i:Nat} {x:Str} {v:V} {u:Value} {Q:Unit→Shared→Prop} (I:Inv X pins σ H s) (hN:X.N.Nodup) (hi:X.N[i]? = some x) (hx:Loc X.env.scope x) (r:RelV v u)
  (h:∀ s',Inv X pins (σ.set i (some v)) H s'→Q () s') (hf:X.fn x=true∨X.env.scope.names.lookup x=some .local:=by first|exact .inl rfl|exact .inr rfl|assumption):wpAny M A (storeName X.env x u) Q E s :=
 y3_ I hN hi hx r (fun s' I' _=>h s' I') hf
theorem Inv.call' {s':Shared} {ch:List Addr} (I:Inv X pins σ H s) (ho:s'.os=s.os) (u:Un (frs X.stack) ch H H' s.heap s'.heap) (hok:HOk X.prog X.w H' s'.heap) (hg:AllBare s'.gens)
  (hch:∀ b∈ch,(b∈X.ex∨X.s₀.heap.objs.size≤b)∧b≠X.env.locals∧(∀ x c,X.env.cells.lookup x=some c→c≠b)∧∀ p∈X.pn++pins,p.1≠b):Inv X pins σ H' s':=by
 obtain ⟨h',g',d',t',o'⟩:=s'
 have e:o'=s.os:=ho
 subst e
 exact I.call (g':=g') (t':=t') (d':=d') u hok hg hch
end
abbrev XK:=Value→Option Addr→Hp→Prop
abbrev St:=List (Option V)
abbrev VK:=V→Hp→Prop
abbrev TE:=St→Hp→VK→Prop
abbrev TT:=St→Hp→(Bool→Hp→Prop)→Prop
abbrev TA:=St→Hp→(List V→Hp→Prop)→Prop
structure Ends where
 nx:St→Hp→Prop
 rt:VK
 bk:St→Hp→Prop:=fun _ _=>False
 ct:St→Hp→Prop:=fun _ _=>False
abbrev TS:=Ends→St→Hp→Prop
def EP (X:Cx) (pins:List (Addr×Obj)) (σ:St) (Q:VK) (u:Value) (s':Shared):Prop:=∃ v H',Inv X pins σ H' s'∧RelV v u∧Q v H'
def TP (X:Cx) (pins:List (Addr×Obj)) (σ:St) (Q:Bool→Hp→Prop) (b:Bool) (s':Shared):Prop:=∃ H',Inv X pins σ H' s'∧Q b H'
def AP (X:Cx) (pins:List (Addr×Obj)) (σ:St) (Q:List V→Hp→Prop) (us:List Value) (s':Shared):Prop:=∃ vs H',Inv X pins σ H' s'∧Vals vs us∧Q vs H'
def SP (X:Cx) (pins:List (Addr×Obj)) (D:Ends) (f:Flow) (s':Shared):Prop :=
 match f with
 | .next=>∃ σ' H',Inv X pins σ' H' s'∧D.nx σ' H'
 | .brk=>∃ σ' H',Inv X pins σ' H' s'∧D.bk σ' H'
 | .cont=>∃ σ' H',Inv X pins σ' H' s'∧D.ct σ' H'
 | .ret u=>∃ v σ' H',Inv X pins σ' H' s'∧RelV v u∧D.rt v H'
def PE (X:Cx) (e:Expr) (t:TE):Prop :=
 ∀ (pins:List (Addr×Obj)) (s:Shared) (σ:St) (H:Hp) (Q:VK),Inv X pins σ H s→t σ H Q→wpAny (model X.prog X.w) X.A (eval e X.env) (EP X pins σ Q) X.xe s
def PT (X:Cx) (e:Expr) (t:TT):Prop :=
 ∀ (pins:List (Addr×Obj)) (s:Shared) (σ:St) (H:Hp) (Q:Bool→Hp→Prop),Inv X pins σ H s→t σ H Q→wpAny (model X.prog X.w) X.A (isTrue e X.env (eval e X.env)) (TP X pins σ Q) X.xe s
def PW (X:Cx) (e:Expr) (t:TT):Prop :=
 ∀ (whole:Sem Value) (pins:List (Addr×Obj)) (s:Shared) (σ:St) (H:Hp) (Q:Bool→Hp→Prop),Inv X pins σ H s→t σ H Q→wpAny (model X.prog X.w) X.A (isTrue e X.env whole) (TP X pins σ Q) X.xe s
def PA (X:Cx) (es:List Expr) (t:TA):Prop :=
 ∀ (pos:Pos) (pins:List (Addr×Obj)) (s:Shared) (σ:St) (H:Hp) (Q:List V→Hp→Prop),Inv X pins σ H s→t σ H Q→wpAny (model X.prog X.w) X.A (spliced (backTo pos (starEach es X.env))) (AP X pins σ Q) X.xe s
def PS (X:Cx) (st:Stmt) (t:TS):Prop :=
 ∀ (pins:List (Addr×Obj)) (s:Shared) (σ:St) (H:Hp) (D:Ends),Inv X pins σ H s→t D σ H→wpAny (model X.prog X.w) X.A (exec st X.env) (SP X pins D) X.xe s
def PSs (X:Cx) (st:List Stmt) (t:TS):Prop :=
 ∀ (pins:List (Addr×Obj)) (s:Shared) (σ:St) (H:Hp) (D:Ends),Inv X pins σ H s→t D σ H→wpAny (model X.prog X.w) X.A (execs st X.env) (SP X pins D) X.xe s
theorem thn {α:Type} {t:Sem α} {Q Q':α→Shared→Prop} {M:Model} {A:Around} {E:Value→Shared→Prop} {s:Shared} (h:wpAny M A t Q E s) (hQ:∀ a s,Q a s→Q' a s):wpAny M A t Q' E s:=wpAny_mono h hQ fun _ _ x=>x
end L2
namespace L2
open PySem PySem.Spec PyProof.Rows
section
variable {X:Cx}
theorem bin {a b:Expr} {ta tb:TE} (ha:PE X a ta) (hb:PE X b tb) {pins:List (Addr×Obj)} {s:Shared} {σ:St} {H:Hp} {R:V→V→Hp→Prop} (I:Inv X pins σ H s) (h:ta σ H fun x H1=>tb σ H1 fun y H2=>R x y H2)
  {α:Type} {Q:α→Shared→Prop} {f:Value→Value→Sem α}
  (hf:∀ v u s2 x y H2,Inv X pins σ H2 s2→RelV x v→RelV y u→R x y H2→wpAny (model X.prog X.w) X.A (f v u) Q X.xe s2) :
  wpAny (model X.prog X.w) X.A (eval a X.env) (fun v s₁=>wpAny (model X.prog X.w) X.A (eval b X.env) (fun u s₂=>wpAny (model X.prog X.w) X.A (f v u) Q X.xe s₂) X.xe s₁) X.xe s:=by
 refine thn (ha pins s σ H _ I h) fun v s1 ⟨x,H1,I1,r1,q1⟩=>?_
 refine thn (hb pins s1 σ H1 _ I1 q1) fun u s2 ⟨y,H2,I2,r2,q2⟩=>?_
 exact hf v u s2 x y H2 I2 r1 r2 q2
def tVar (i:Nat):TE:=fun σ H Q=>∃ v,σ[i]? = some (some v)∧Q v H
def tC (v:V):TE:=fun _ H Q=>Q v H
theorem ux_ {i:Nat} {x:Str} {pos:Pos} (hN:X.N[i]? = some x) (hv:Vis X.env.scope x) (hd:(x==("__debug__" : Str))=false:=by decide) (hcd:(x==("__classdict__" : Str))=false:=by decide):PE X (.Name x pos) (tVar i):=by
 intro pins s σ H Q I h
 obtain ⟨v,e,h⟩:=h
 obtain ⟨m,hn,hl⟩:=I.loc
 obtain ⟨u,r,l⟩:=hl i x v hN e hv
 have fin:EP X pins σ Q u s:=⟨v,H,I,r,h⟩
 rcases l with ⟨hk,hm⟩|⟨hk,c,hc,hcell⟩
 ·exact wpAny_Name (wpAny_loadName_local I.ok.kind hk hn hm fin) hd
 ·rcases hk with hk|hk
  ·exact wpAny_Name (wpAny_loadName_cell I.ok.kind hk hc hcell fin) hd
  ·exact wpAny_Name (wpAny_loadName_free I.ok.kind hk hc hcell fin hcd) hd
theorem VZ_ {i j pos}:PE X (.Constant (.int i) j pos) (tC (.int i)):=fun _ _ _ H _ I h=>wpAny_Constant_int ⟨.int i,H,I.tok _,⟨_,rfl⟩,h⟩
theorem Xj_ {b j pos}:PE X (.Constant (.bool b) j pos) (tC (.bl b)):=fun _ _ _ H _ I h=>Constant_bool ⟨.bl b,H,I,rfl,h⟩
def Gl (X:Cx) (x:Str):Prop:=X.env.kindOf x=some .globalImplicit
theorem Vf_ {E:Value→Shared→Prop} {pins:List (Addr×Obj)} {s:Shared} {σ:St} {H:Hp} {x:Str} {u:Value} {pos:Pos} {Q:Value→Shared→Prop} (I:Inv X pins σ H s) (hg:Gl X x) (hm:X.mg x=some u) (h:Q u s)
  (hd:(x==("__debug__" : Str))=false:=by decide):wpAny (model X.prog X.w) X.A (eval (.Name x pos) X.env) Q E s :=
 Calls.Name_function_global I.ok.kind hg (Calls.loadGlobal_global (by rw [I.ok.glob];exact I.mod.glob.keeps I.bk) hm h) hd
theorem UA_ {E:Value→Shared→Prop} {pins:List (Addr×Obj)} {s:Shared} {σ:St} {H:Hp} {x:Str} {u:Value} {pos:Pos} {Q:Value→Shared→Prop} (I:Inv X pins σ H s) (hg:Gl X x) (hm:X.mg x=none) (hv:bootBuiltins x=some u) (h:Q u s)
  (hn:x ≠ "__name__":=by decide) (hd:(x==("__debug__" : Str))=false:=by decide):wpAny (model X.prog X.w) X.A (eval (.Name x pos) X.env) Q E s:=by
 obtain ⟨mb,h1,h2⟩:=I.mod.blt
 exact Calls.Name_function_global I.ok.kind hg (Calls.loadGlobal_builtin (by rw [I.ok.glob];exact I.mod.glob.keeps I.bk) hm (by rw [I.ok.blt];exact h1.keeps I.bk) ((h2 x hn).trans hv) h) hd
variable {a b:Expr} {ta tb:TE} {pos:Pos}
variable {tA tB':TT} {rest:List Expr}
def tOr (t u:TT):TT:=fun σ H Q=>t σ H fun c H1=>if c=true then Q true H1 else u σ H1 Q
theorem VQ_ (ha:PT X a tA):PW X (.BoolOp .Or [a] pos) tA:=by
 intro wh pins s σ H Q I h
 refine isTrue_or (thn (ha pins s σ H Q I h) fun c s1 e=>?_)
 cases c with
 | false=>exact isTrue_or_nil e
 | true=>exact e
theorem Xg_ (ha:PT X a tA) (hb:PW X (.BoolOp .Or (b::rest) pos) tB'):PW X (.BoolOp .Or (a::b::rest) pos) (tOr tA tB'):=by
 intro wh pins s σ H Q I h
 refine isTrue_or (thn (ha pins s σ H _ I h) fun c s1 ⟨H1,I1,q1⟩=>?_)
 cases c with
 | true=>exact ⟨H1,I1,q1⟩
 | false=>exact hb wh pins s1 σ H1 Q I1 q1
end
end L2
namespace L2
open PySem PySem.Spec PyProof.Rows
def SqL (K:PySem.W.Frag) (H:Hp) (a:Addr) (xs:List V):Prop :=
 Rd H a (.lst xs) ∨
  ∃ (o:Obj) (its:Array Value) (n:Nat),K.lookup a=some o∧o.cls=.type "list" ∧ o.dict=none∧o.data=.seq its n∧its.size≤sizeLine∧Vals xs its.toList
def SqT (K:PySem.W.Frag) (H:Hp) (a:Addr) (xs:List V):Prop :=
 Rd H a (.tup xs) ∨
  ∃ (o:Obj) (its:Array Value) (n:Nat),K.lookup a=some o∧o.cls=.type "tuple" ∧ o.data=.seq its n∧its.size≤sizeLine∧Vals xs its.toList
def absV:Value→Option V
 | .none=>some .non
 | .bool b=>some (.bl b)
 | .int i _=>some (.int i)
 | .str x _=>some (.str x)
 | .bytes b _=>some (.byt b)
 | .float b _=>some (.flt b)
 | .ref a=>some (.ref a)
 | .type n=>some (.ty n)
 | _=>none
theorem RelV.abs {x:V} {u:Value} (r:RelV x u):absV u=some x:=by
 cases x with
 | non=>cases r;rfl
 | bl _=>cases r;rfl
 | int _=>obtain ⟨t,rfl⟩:=r;rfl
 | str _=>obtain ⟨t,rfl⟩:=r;rfl
 | byt _=>obtain ⟨t,rfl⟩:=r;rfl
 | flt _=>obtain ⟨t,rfl⟩:=r;rfl
 | ref _=>cases r;rfl
 | ty _=>cases r;rfl
theorem RelV.inj {x y:V} {u:Value} (r:RelV x u) (q:RelV y u):x=y:=Option.some.inj (r.abs.symm.trans q.abs)
theorem Vals.inj:∀ {xs ys:List V} {us:List Value},Vals xs us→Vals ys us→xs=ys
 | _,_,_,.nil,.nil=>rfl
 | _,_,_,.cons r t,.cons r' t'=>by rw [r.inj r',Vals.inj t t']
section
variable {X:Cx} {pins:List (Addr×Obj)} {σ:St} {H:Hp} {s:Shared} {a:Addr} {xs ys:List V}
theorem SqT.of {K:PySem.W.Frag} (h:H a=some (.tup xs)):SqT K H a xs:=.inl (.inl h)
theorem Inv.list (I:Inv X pins σ H s) (h:SqL X.K H a xs):∃ its:List Value,Vals xs its∧PlainL s.heap a its.toArray∧xs.length≤sizeLine:=by
 rcases h with h|⟨o,its,n,hk,hc,hd,hs,hz,r⟩
 ·obtain ⟨z,its,n,r,e⟩:=h.ok I.hok
  exact ⟨its,r,⟨_,n,e,rfl,rfl,rfl⟩,z⟩
 ·refine ⟨its.toList,r,⟨o,n,I.kIn a o hk,hc,hd,by simpa using hs⟩,?_⟩
  have e:=r.length
  simp only [Array.length_toList] at e
  omega
theorem Inv.tuple (I:Inv X pins σ H s) (h:SqT X.K H a xs):∃ its:List Value,Vals xs its∧IsTup s.heap a its.toArray∧xs.length≤sizeLine:=by
 rcases h with h|⟨o,its,n,hk,hc,hs,hz,r⟩
 ·obtain ⟨z,its,r,p⟩:=h.ok I.hok
  exact ⟨its,r,p.1,z⟩
 ·refine ⟨its.toList,r,⟨o,I.kIn a o hk,hc,n,by simpa using hs⟩,?_⟩
  have e:=r.length
  simp only [Array.length_toList] at e
  omega
theorem Inv.list_inj (I:Inv X pins σ H s) (h:SqL X.K H a xs) (h':SqL X.K H a ys):xs=ys:=by
 obtain ⟨its,r,⟨o,n,e,_,_,d⟩,_⟩:=I.list h
 obtain ⟨its',r',⟨o',n',e',_,_,d'⟩,_⟩:=I.list h'
 rw [e] at e';cases e'
 rw [d] at d'
 injection d' with d1 _
 have:its=its':=by simpa using congrArg Array.toList d1
 subst this
 exact r.inj r'
theorem Inv.tuple_inj (I:Inv X pins σ H s) (h:SqT X.K H a xs) (h':SqT X.K H a ys):xs=ys:=by
 obtain ⟨its,r,⟨o,e,_,n,d⟩,_⟩:=I.tuple h
 obtain ⟨its',r',⟨o',e',_,n',d'⟩,_⟩:=I.tuple h'
 rw [e] at e';cases e'
 rw [d] at d'
 injection d' with d1 _
 have:its=its':=by simpa using congrArg Array.toList d1
 subst this
 exact r.inj r'
end
section
variable {X:Cx} {st:Stmt} {rest:List Stmt} {t u:TS} {e:Expr} {te:TE} {pos:Pos}
def WZ_:TS:=fun D σ H=>D.nx σ H
def tSeq (t u:TS):TS:=fun D σ H=>t { D with nx:=u D } σ H
theorem QX_:PSs X [] WZ_:=fun _ _ σ H _ I h=>wpAny_execs_nil ⟨σ,H,I,h⟩
theorem YE_ (h1:PS X st t) (h2:PSs X rest u):PSs X (st::rest) (tSeq t u):=by
 intro pins s σ H D I h
 refine wpAny_execs_cons (thn (h1 pins s σ H { D with nx:=u D } I h) fun f s1 q=>?_)
 cases f with
 | next =>
  obtain ⟨σ',H',I',q⟩:=q
  exact h2 pins s1 σ' H' D I' q
 | ret v=>exact q
 | brk=>exact q
 | cont=>exact q
theorem QW_ (h1:PS X st t):PSs X [st] t:=by
 intro pins s σ H D I h
 refine wpAny_execs_cons (thn (h1 pins s σ H D I h) fun f s1 q=>?_)
 cases f with
 | next=>exact wpAny_execs_nil q
 | ret v=>exact q
 | brk=>exact q
 | cont=>exact q
theorem Inv.quiet {pins:List (Addr×Obj)} {σ:St} {H:Hp} {s:Shared} (I:Inv X pins σ H s):interactive X.env=false:=by simp [interactive,I.ok.kind]
def W0_ (te:TE):TS:=fun D σ H=>te σ H fun _ H1=>D.nx σ H1
theorem yD_ (he:PE X e te) (hs:swapsWith e none pos.line X.env=pure false:=by rfl):PS X (.Expr e pos) (W0_ te):=by
 intro pins s σ H D I h
 exact wpAny_Expr_any (thn (he pins s σ H _ I h) fun v s1 ⟨x,H1,I1,r1,q1⟩=>⟨σ,H1,I1,q1⟩) I.quiet hs
def tRet (te:TE):TS:=fun D σ H=>te σ H D.rt
theorem Qi_ (he:PE X e te):PS X (.Return (some e) pos) (tRet te):=by
 intro pins s σ H D I h
 exact wpAny_Return_some (thn (he pins s σ H _ I h) fun v s1 ⟨x,H1,I1,r1,q1⟩=>⟨x,σ,H1,I1,r1,q1⟩)
def tIfS (c:TT) (t u:TS):TS:=fun D σ H=>c σ H fun b H1=>if b=true then t D σ H1 else u D σ H1
theorem Xh_ {c:Expr} {a b:List Stmt} {tc:TT} (hc:PT X c tc) (ha:PSs X a t) (hb:PSs X b u):PS X (.If c a b pos) (tIfS tc t u):=by
 intro pins s σ H D I h
 refine wpAny_If (thn (hc pins s σ H _ I h) fun d s1 ⟨H1,I1,q1⟩=>?_)
 cases d with
 | true=>exact ha pins s1 σ H1 D I1 q1
 | false=>exact hb pins s1 σ H1 D I1 q1
end
abbrev TG:=V→St→Hp→(St→Hp→Prop)→Prop
def PG (X:Cx) (target:Expr) (t:TG):Prop :=
 ∀ (pins:List (Addr×Obj)) (s:Shared) (σ:St) (H:Hp) (v:V) (u:Value) (Q:St→Hp→Prop),Inv X pins σ H s→RelV v u→t v σ H Q →
  wpAny (model X.prog X.w) X.A (assign target X.env u) (fun _ s'=>∃ σ' H',Inv X pins σ' H' s'∧Q σ' H') X.xe s
abbrev TSet:=V→V→V→Hp→(Hp→Prop)→Prop
def PSet (X:Cx) (t:TSet):Prop :=
 ∀ (pins:List (Addr×Obj)) (s:Shared) (σ:St) (H:Hp) (o i v:V) (ov iv u:Value) (Q:Hp→Prop),Inv X pins σ H s→RelV o ov→RelV i iv→RelV v u→t o i v H Q →
  wpAny (model X.prog X.w) X.A (setItem ov iv u) (fun _ s'=>∃ H',Inv X pins σ H' s'∧Q H') X.xe s
section
variable {X:Cx} {pos:Pos}
def UQ_ (i:Nat):TG:=fun v σ H Q=>Q (σ.set i (some v)) H
theorem Q0_ {i:Nat} {x:Str} (hN:X.N.Nodup) (hi:X.N[i]? = some x) (hx:Loc X.env.scope x) (hf:X.fn x=true∨X.env.scope.names.lookup x=some .local:=by first|exact .inl rfl|exact .inr rfl|assumption):PG X (.Name x pos) (UQ_ i):=by
 intro pins s σ H v u Q I r h
 exact wpAny_assign_Name (Z5_ I hN hi hx r (fun s' I'=>⟨_,H,I',h⟩) hf)
def gSub (to ti:TE) (t:TSet):TG:=fun v σ H Q=>to σ H fun o H1=>ti σ H1 fun i H2=>t o i v H2 fun H3=>Q σ H3
theorem VV_ {o i:Expr} {to ti:TE} {t:TSet} (ho:PE X o to) (hi:PE X i ti) (hs:PSet X t)
  (ha:∀ v,assign (.Subscript o i pos) X.env v=(do
   let ov ←holding [v] (eval o X.env)
   let iv ←holding [v,ov] (eval i X.env)
   standAt pos
   holding [v,ov,iv] (setItem ov iv v)
   release [v,ov,iv] []):=by intro _;rfl):PG X (.Subscript o i pos) (gSub to ti t):=by
 intro pins s σ H v u Q I r h
 rw [ha]
 refine wpAny_bind (wpAny_holding (thn (ho pins s σ H _ I h) fun ov s1 ⟨x,H1,I1,r1,q1⟩=>?_))
 refine wpAny_bind (wpAny_holding (thn (hi pins s1 σ H1 _ I1 q1) fun iv s2 ⟨y,H2,I2,r2,q2⟩=>?_))
 refine wpAny_bind (wpAny_standAt (wpAny_bind (wpAny_holding (thn (hs pins s2 σ H2 x y v ov iv u _ I2 r1 r2 r q2) fun _ s3 ⟨H3,I3,q3⟩=>?_))))
 exact wpAny_release ⟨σ,H3,I3,q3⟩
def tAsg (te:TE) (g:TG):TS:=fun D σ H=>te σ H fun x H1=>g x σ H1 D.nx
theorem VT_ {tg e:Expr} {te:TE} {g:TG} (he:PE X e te) (hg:PG X tg g) (hs:swapsWithSole [tg] e pos.line X.env=pure false:=by rfl) (hw:swappedStores [tg] e X.env=pure none:=by rfl)
  (h1:(assignEach [tg] X.env).map (·.2)=[assign tg X.env]:=by rfl):PS X (.Assign [tg] e pos) (tAsg te g):=by
 intro pins s σ H D I h
 refine wpAny_Assign_stores (thn (he pins s σ H _ I h) fun v s1 ⟨x,H1,I1,r1,q1⟩=>?_) hs hw
 rw [h1]
 exact thn (hg pins s1 σ H1 x v _ I1 r1 q1) fun _ s2 q=>q
theorem Qg_ {i:Nat} {x:Str} {e:Expr} {te:TE} {pos':Pos} (hN:X.N.Nodup) (hi:X.N[i]? = some x) (hx:Loc X.env.scope x) (he:PE X e te) (hs:swapsWith e (some (.Name x pos')) pos.line X.env=pure false:=by rfl) (hf:X.fn x=true∨X.env.scope.names.lookup x=some .local:=by first|exact .inl rfl|exact .inr rfl|assumption) :
  PS X (.Assign [.Name x pos'] e pos) (tAsg te (UQ_ i)):=by
 intro pins s σ H D I h
 refine wpAny_Assign_Name (thn (he pins s σ H _ I h) fun v s1 ⟨y,H1,I1,r1,q1⟩=>?_) hs
 exact Z5_ I1 hN hi hx r1 (fun s2 I2=>⟨_,H1,I2,q1⟩) hf
end
structure It where
 go:Nat→Hp→Prop
 yld:Nat→Hp→V→Hp→Prop
 stop:Nat→Hp→Prop
def FpOk (X:Cx) (pins:List (Addr×Obj)) (H:Hp) (b:Addr):Prop :=
 H b=none∧b≠X.env.locals∧b∉X.fs∧(b∈X.ex∨X.s₀.heap.objs.size≤b)∧(∀ x c,X.env.cells.lookup x=some c→c≠b)∧∀ p∈X.pn++pins,p.1≠b
theorem Inv.fpOk {X:Cx} {pins:List (Addr×Obj)} {σ:St} {H H':Hp} {s:Shared} {b:Addr} (I:Inv X pins σ H s) (hb:s.heap.objs.size≤b) (hn:H' b=none):FpOk X pins H' b:=by
 refine ⟨hn,Nat.ne_of_gt (Nat.lt_of_lt_of_le I.lt hb),I.nofs hb,.inr (Nat.le_trans I.sz hb),fun x c e z=>?_,fun p hp z=>?_⟩
 ·obtain ⟨v,q⟩:=I.cell x c e
  exact absurd (Nat.lt_of_lt_of_le q.lt (by rw [z];exact hb)) (Nat.lt_irrefl _)
 ·exact absurd (Nat.lt_of_lt_of_le (Heap.lt_size (I.pin p hp).1) (by rw [z];exact hb)) (Nat.lt_irrefl _)
structure Turn (P:Program) (w:World) (K:PySem.W.Frag) (tg:Expr) (J:It) (fp:List Addr) (it:Addr) (tn:Nat→Heap→Prop):Prop where
 mem:it∈fp
 obj:∀ i h,tn i h→∀ b∈fp,∃ o,h.get? b=some o∧∀ v,o.data≠.cell v
 keep:∀ i h h',tn i h→(∀ b∈fp,∀ o,h.get? b=some o→h'.get? b=some o)→tn i h'
 item:∀ (X:Cx),X.prog=P→X.w=w→X.K=K→X.calm=true→∀ (i:Nat) (pins:List (Addr×Obj)) (s:Shared) (σ:St) (H:Hp) (E:Value→Shared→Prop),Inv X pins σ H s→(∀ b∈fp,FpOk X pins H b)→tn i s.heap→J.go i H →
  wpAny (model P w) X.A (pyNext (.ref it)) (fun r s1=>∃ u,r=some u ∧
   wpAny (model P w) X.A (letOwnedTupleGo tg (.ref it) u) (fun _ s2=>∃ x H',Inv X pins σ H' s2∧RelV x u∧J.yld i H x H'∧tn (i+1) s2.heap∧∀ b∈fp,H' b=none) E s1) E s
 done:∀ (X:Cx),X.prog=P→X.w=w→X.K=K→X.calm=true→∀ (i:Nat) (pins:List (Addr×Obj)) (s:Shared) (σ:St) (H:Hp) (E:Value→Shared→Prop),Inv X pins σ H s→(∀ b∈fp,FpOk X pins H b)→tn i s.heap→J.stop i H →
  wpAny (model P w) X.A (pyNext (.ref it)) (fun r s1=>r=none∧Inv X pins σ H s1) E s
 self:∀ (A:Around) (i:Nat) (s:Shared) (Q:Value→Shared→Prop) (E:Value→Shared→Prop),tn i s.heap→Q (.ref it) s→wpAny (model P w) A (pyIter (.ref it)) Q E s
abbrev TI:=St→Hp→(It→Hp→Prop)→Prop
def PIE (X:Cx) (pins:List (Addr×Obj)) (σ:St) (tg:Expr) (R:It→Hp→Prop) (itv:Value) (s2:Shared):Prop :=
 ∃ (it:Addr) (fp:List Addr) (tn:Nat→Heap→Prop) (J:It) (H':Hp),itv=.ref it∧Inv X pins σ H' s2∧Turn X.prog X.w X.K tg J fp it tn∧tn 0 s2.heap∧(∀ b∈fp,FpOk X pins H' b)∧R J H'
def PI (X:Cx) (tg iter:Expr) (wi:TI):Prop :=
 ∀ (pins:List (Addr×Obj)) (s:Shared) (σ:St) (H:Hp) (R:It→Hp→Prop),Inv X pins σ H s→wi σ H R →
  wpAny (model X.prog X.w) X.A (eval iter X.env) (fun v s1=>wpAny (model X.prog X.w) X.A (pyIter v) (PIE X pins σ tg R) X.xe s1) X.xe s
theorem Vj_ {M:Model} {A:Around} {E:Value→Shared→Prop} {s:Shared} {tg:Expr} {it:Addr} {u:Value} {o:Obj} {n:String} {vs:Array Value} {Q:Unit→Shared→Prop} (ho:s.heap.get? it=some o) (hc:o.cls=.type n) (hd:o.data=.fields vs)
  (hn:["enumerate", "zip", "dict_itemiterator", "dict_reverseitemiterator", "odict_iterator", "itertools.zip_longest", "itertools.pairwise"].contains n=false) (hQ:Q () s):wpAny M A (letOwnedTupleGo tg (.ref it) u) Q E s:=by
 unfold letOwnedTupleGo
 cases tg<;>first
  | exact wpAny_pure hQ
  | (cases u<;>first
     | exact wpAny_pure hQ
     | (refine wpAny_bind (wpAny_load ho ?_)
        rw [hc,hd]
        show wpAny M A (if (["enumerate", "zip", "dict_itemiterator", "dict_reverseitemiterator", "odict_iterator", "itertools.zip_longest", "itertools.pairwise"].contains n&&vs[0]? == some (rawInt _))=true then _ else _) Q E s
        rw [if_neg (by intro h;rw [hn,Bool.false_and] at h;cases h)]
        exact wpAny_pure hQ))
def Itl (K:PySem.W.Frag) (a:Addr):It :=
 ⟨fun i H=>∃ xs x,SqL K H a xs∧xs[i]? = some x,fun i H x H'=>H'=H∧∀ xs,SqL K H a xs→xs[i]? = some x,fun i H=>∃ xs,SqL K H a xs∧xs.length≤i⟩
def Itt (K:PySem.W.Frag) (a:Addr):It :=
 ⟨fun i H=>∃ xs x,SqT K H a xs∧xs[i]? = some x,fun i H x H'=>H'=H∧∀ xs,SqT K H a xs→xs[i]? = some x,fun i H=>∃ xs,SqT K H a xs∧xs.length≤i⟩
def Itr (lo:Int) (n:Nat):It:=⟨fun i _=>i<n,fun i H x H'=>H'=H∧x=.int (lo+i),fun i _=>n≤i⟩
theorem J8_ {P:Program} {w:World} {K:PySem.W.Frag} {tg:Expr} (a it:Addr):Turn P w K tg (Itl K a) [it] it (fun i h=>h.IsListIter it a i) where
 mem:=by simp
 obj:=fun i h st b hb=>by
  have e:b=it:=by simpa using hb
  subst e
  obtain ⟨o,e,c,d⟩:=st
  exact ⟨o,e,fun v z=>by rw [d] at z;cases z⟩
 keep:=fun i h h' st k=>st.at fun o e=>k it (by simp) o e
 item:=by
  intro X hP hw hK hc i pins s σ H E I hf st hg
  subst hP hw hK
  obtain ⟨xs,x,hq,hx⟩:=hg
  obtain ⟨its,rv,p,hz⟩:=I.list hq
  obtain ⟨u,hu,ru⟩:=rv.get hx
  obtain ⟨f0,f1,f2,f3,f4,f5⟩:=hf it (by simp)
  refine wpAny_pyNext_list_item st p.isList (x:=u) (by simpa using hu) fun h' st' sb=>?_
  have I1:Inv X pins σ H { s with heap:=h' }:=I.turned (t':=s.toks) (fun b o hb e=>(sb.2 b hb).trans e) f0 f1 f3 f4 f5
  obtain ⟨o,e,c,d⟩:=id st'
  exact ⟨u,rfl,Vj_ (s:={ s with heap:=h' }) e c d (by decide) ⟨x,H,I1,ru,⟨rfl,fun ys hy=>by rw [I.list_inj hy hq];exact hx⟩,st',fun b hb=>(hf b hb).1⟩⟩
 done:=by
  intro X hP hw hK hc i pins s σ H E I hf st hg
  subst hP hw hK
  obtain ⟨xs,hq,hx⟩:=hg
  obtain ⟨its,rv,p,hz⟩:=I.list hq
  obtain ⟨f0,f1,f2,f3,f4,f5⟩:=hf it (by simp)
  have hl:=rv.length
  exact wpAny_pyNext_list_end (I.ok.hd hc) st p.isList (by simp;omega) fun h' eb=>⟨rfl,I.turned (t':=s.toks) (fun b o hb e=>eb b o hb e) f0 f1 f3 f4 f5⟩
 self:=fun _ _ _ _ _ st h=>wpAny_pyIter_listiter st h
theorem Jy_ {P:Program} {w:World} {K:PySem.W.Frag} {tg:Expr} (a it:Addr):Turn P w K tg (Itt K a) [it] it (fun i h=>h.IsTupleIter it a i) where
 mem:=by simp
 obj:=fun i h st b hb=>by
  have e:b=it:=by simpa using hb
  subst e
  obtain ⟨o,e,c,d⟩:=st
  exact ⟨o,e,fun v z=>by rw [d] at z;cases z⟩
 keep:=fun i h h' st k=>st.at fun o e=>k it (by simp) o e
 item:=by
  intro X hP hw hK hc i pins s σ H E I hf st hg
  subst hP hw hK
  obtain ⟨xs,x,hq,hx⟩:=hg
  obtain ⟨its,rv,p,hz⟩:=I.tuple hq
  obtain ⟨u,hu,ru⟩:=rv.get hx
  obtain ⟨f0,f1,f2,f3,f4,f5⟩:=hf it (by simp)
  refine wpAny_pyNext_tuple_item st (show s.heap.IsTuple a its.toArray from p) (x:=u) (by simpa using hu) fun h' st' sb=>?_
  have I1:Inv X pins σ H { s with heap:=h' }:=I.turned (t':=s.toks) (fun b o hb e=>(sb.2 b hb).trans e) f0 f1 f3 f4 f5
  obtain ⟨o,e,c,d⟩:=id st'
  exact ⟨u,rfl,Vj_ (s:={ s with heap:=h' }) e c d (by decide) ⟨x,H,I1,ru,⟨rfl,fun ys hy=>by rw [I.tuple_inj hy hq];exact hx⟩,st',fun b hb=>(hf b hb).1⟩⟩
 done:=by
  intro X hP hw hK hc i pins s σ H E I hf st hg
  subst hP hw hK
  obtain ⟨xs,hq,hx⟩:=hg
  obtain ⟨its,rv,p,hz⟩:=I.tuple hq
  obtain ⟨f0,f1,f2,f3,f4,f5⟩:=hf it (by simp)
  have hl:=rv.length
  exact wpAny_pyNext_tuple_end (I.ok.hd hc) st (show s.heap.IsTuple a its.toArray from p) (by simp;omega) fun h' eb=>⟨rfl,I.turned (t':=s.toks) (fun b o hb e=>eb b o hb e) f0 f1 f3 f4 f5⟩
 self:=fun _ _ _ _ _ st h=>wpAny_pyIter_tupleiter st h
theorem Jz_ {P:Program} {w:World} {K:PySem.W.Frag} {tg:Expr} (it:Addr) (lo:Int) (n:Nat):Turn P w K tg (Itr lo n) [it] it (fun i h=>IsRangeIter h it (lo+(i:Nat)*1) ((n:Int) - (i:Nat)) 1) where
 mem:=by simp
 obj:=fun i h st b hb=>by
  have e:b=it:=by simpa using hb
  subst e
  exact ⟨_,st,fun v z=>by
   have z':Data.fields _=Data.cell v:=z
   cases z'⟩
 keep:=fun i h h' st k=>k it (by simp) _ st
 item:=by
  intro X hP hw hK hc i pins s σ H E I hf st hg
  subst hP hw hK
  obtain ⟨f0,f1,f2,f3,f4,f5⟩:=hf it (by simp)
  have W:=Walks.range (prog:=X.prog) (w:=X.w) (I.ok.hd hc) it lo 1 n
  refine W.item i s _ _ hg st fun v h' tk hv st' kk=>?_
  obtain ⟨t,rfl⟩:=hv
  have I1:Inv X pins σ H { s with heap:=h',toks:=tk }:=I.turned (fun b o hb e=>kk b o (by simpa using hb) e) f0 f1 f3 f4 f5
  refine ⟨_,rfl,Vj_ (s:={ s with heap:=h',toks:=tk }) (n := "range_iterator") st' rfl rfl (by decide) ⟨.int (lo+i),H,I1,⟨t,?_⟩,⟨rfl,rfl⟩,st',fun b hb=>(hf b hb).1⟩⟩
  rw [Int.mul_one]
 done:=by
  intro X hP hw hK hc i pins s σ H E I hf st hg
  subst hP hw hK
  obtain ⟨f0,f1,f2,f3,f4,f5⟩:=hf it (by simp)
  exact wpAny_pyNext_range_end (I.ok.hd hc) st (by have:n≤i:=hg;omega) fun h' eb=>⟨rfl,I.turned (t':=s.toks) (fun b o hb e=>eb b o hb e) f0 f1 f3 f4 f5⟩
 self:=fun _ _ _ _ _ st h=>wpAny_pyIter_rangeiter st h
end L2
namespace L2
open PySem PySem.Spec PyProof.Rows
section
variable {X:Cx} {tg:Expr}
theorem YB_ {pins:List (Addr×Obj)} {σ:St} {H:Hp} {s:Shared} {R:It→Hp→Prop} {E:Value→Shared→Prop} {lo hi:Int} {t u v:Tok} {tk:Nat} (I:Inv X pins σ H s) (h1 : -(2^62)≤lo) (h2:lo<2^62) (h3 : -(2^62)≤hi) (h4:hi<2^62)
  (q:R (Itr lo (hi - lo).toNat) H):wpAny (model X.prog X.w) X.A (pyIter (.ref s.heap.objs.size)) (PIE X pins σ tg R) E { s with heap:=s.heap.push { cls:=.type "range",data:=.fields #[.int lo t,.int hi u,.int 1 v] },toks:=tk }:=by
 refine wpAny_pyIter_range (IsRange.new ..) (small_one h1 h2 h3 h4) ?_
 have I1:Inv X pins σ H { s with heap:=s.heap.push { cls:=.type "range",data:=.fields #[.int lo t,.int hi u,.int 1 v] },toks:=tk }:=I.kept fun b o e=>Heap.get?_push_of_some _ e
 refine ⟨(s.heap.push { cls:=.type "range",data:=.fields #[.int lo t,.int hi u,.int 1 v] }).objs.size,[(s.heap.push { cls:=.type "range",data:=.fields #[.int lo t,.int hi u,.int 1 v] }).objs.size],_,_,H,rfl,
  I1.kept (t':=tk) fun b o e=>Heap.get?_push_of_some _ e,Jz_ _ lo (hi - lo).toNat,?_,fun b hb=>?_,q⟩
 ·have e1:lo+((0:Nat):Int)*1=lo:=by simp
  have e2:(((hi - lo).toNat:Nat):Int) - ((0:Nat):Int)=Builtin.Range.rangeSize lo hi 1:=by rw [rangeSize_one];split<;>omega
  show IsRangeIter _ _ (lo+((0:Nat):Int)*1) ((((hi - lo).toNat:Nat):Int) - ((0:Nat):Int)) 1
  rw [e1,e2]
  exact Heap.get?_push_size _ rfl
 ·have e:b=(s.heap.push { cls:=.type "range",data:=.fields #[.int lo t,.int hi u,.int 1 v] }).objs.size:=by simpa using hb
  subst e
  exact I1.fpOk (Nat.le_refl _) (I1.hok.fresh (Nat.le_refl _))
def XC_ (ta:TA):TI:=fun σ H R=>ta σ H fun vs H1=>∃ j:Int,vs=[.int j] ∧ -(2^62)≤j∧j<2^62∧R (Itr 0 j.toNat) H1
theorem Um_ {a:Expr} {ta:TA} {p pos:Pos} (hg:Gl X "range") (hm:X.mg "range" = none) (ha:PA X [a] ta) (hs:starEach [a] X.env=[(false,eval a X.env)]:=by rfl):PI X tg (.Call (.Name "range" p) [a] [] pos) (XC_ ta):=by
 intro pins s σ H R I h
 refine Call_ (UA_ I hg hm boot_range (PyProof.Rows.callWith_type1 (thn (ha pos pins s σ H _ I h) fun us s1 ⟨vs,H1,I1,r1,q1⟩=>?_) hs rfl))
 obtain ⟨j,e,q1,q2,q⟩:=q1
 subst e
 cases r1 with
 | cons r rr =>
  cases rr
  obtain ⟨t,rfl⟩:=r
  exact call_range_1 (YB_ I1 (by omega) (by omega) q1 q2 (by simpa using q))
def tFor (wi:TI) (g:TG) (tb:TS):TS:=fun D σ H=>wi σ H fun J H1=>∃ W:Nat→Nat→St→Hp→Prop,(∃ m,W 0 m σ H1)∧∀ i m σ H,W i m σ H →
 (J.stop i H∧D.nx σ H)∨(J.go i H∧∃ N:St→Hp→Prop,(∀ σ' H',N σ' H'→∃ m',m'<m∧W (i+1) m' σ' H')∧∀ x H',J.yld i H x H'→g x σ H' fun σ2 H2=>tb { D with nx:=N,ct:=N,bk:=D.nx } σ2 H2)
def Za_ (fp:List Addr) (h:Heap):List (Addr×Obj):=fp.filterMap fun b=>(h.get? b).map fun o=>(b,o)
theorem jL_ {fp:List Addr} {h:Heap} {b:Addr} {o:Obj} (hb:b∈fp) (e:h.get? b=some o):(b,o)∈Za_ fp h:=List.mem_filterMap.mpr ⟨b,hb,by rw [e];rfl⟩
theorem Up_ {fp:List Addr} {h:Heap} {p:Addr×Obj} (hp:p∈Za_ fp h):p.1∈fp∧h.get? p.1=some p.2:=by
 obtain ⟨b,hb,e⟩:=List.mem_filterMap.mp hp
 cases q:h.get? b with
 | none=>rw [q] at e;cases e
 | some o =>
  rw [q] at e
  have e':(b,o)=p:=Option.some.inj e
  subst e'
  exact ⟨hb,q⟩
theorem Inv.pinned {pins:List (Addr×Obj)} {σ:St} {H:Hp} {s:Shared} {fp:List Addr} (I:Inv X pins σ H s) (hf:∀ b∈fp,FpOk X pins H b) (ho:∀ b∈fp,∃ o,s.heap.get? b=some o∧∀ v,o.data≠.cell v):Inv X (pins++Za_ fp s.heap) σ H s :=
 I.pins_of fun p hp=>(List.mem_append.mp hp).elim (fun z=>I.pin p (List.mem_append_right _ z)) fun z=>by
  obtain ⟨hb,e⟩:=Up_ z
  obtain ⟨f0,f1,f2,_⟩:=hf p.1 hb
  obtain ⟨o,e',d⟩:=ho p.1 hb
  rw [e] at e';cases e'
  exact ⟨e,f0,f1,f2,d⟩
theorem Inv.unpinned {pins pl:List (Addr×Obj)} {σ:St} {H:Hp} {s:Shared} (I:Inv X (pins++pl) σ H s):Inv X pins σ H s:=I.pins_of fun p hp=>I.pin p (List.mem_append_right _ (List.mem_append_left _ hp))
theorem VS_ {iter:Expr} {body:List Stmt} {wi:TI} {g:TG} {tb:TS} {pos:Pos} (hp:PassesOwn (model X.prog X.w) X.A X.env X.xe) (hc:X.calm=true) (hi:PI X tg iter wi) (hg:PG X tg g) (hb:PSs X body tb)
  (hs:∀ x,foldedSetIterable iter X.env x=pure x:=by intro _;rfl):PS X (.For tg iter body [] pos) (tFor wi g tb):=by
 intro pins s σ H D I h
 refine wpAny_For (thn (hi pins s σ H _ I h) fun v s1 h1=>thn h1 fun itv s2 h2=>?_) hs
 obtain ⟨it,fp,tn,J,H2,e,I2,T,st2,f2,W,⟨m0,w0⟩,turn⟩:=h2
 subst e
 have stat:∀ {H':Hp},(∀ b∈fp,H' b=none)→∀ b∈fp,FpOk X pins H' b:=fun hn b hb=>⟨hn b hb,(f2 b hb).2⟩
 refine codeAny_forLoop_any (fun n s'=>∃ i σ' H',Inv X pins σ' H' s'∧tn i s'.heap∧(∀ b∈fp,H' b=none)∧W i n σ' H') ?_ m0 ⟨0,σ,H2,I2,st2,fun b hb=>(f2 b hb).1,w0⟩
 rintro n s3 ⟨i,σ3,H3,I3,st3,fr3,w3⟩
 rcases turn i n σ3 H3 w3 with ⟨stop,qn⟩|⟨go,N,hN,step⟩
 ·refine wpAny_passesOwn hp (thn (T.done X rfl rfl rfl hc i pins s3 σ3 H3 X.xe I3 (stat fr3) st3 stop) fun r s4 ⟨hr,I4⟩=>?_)
  subst hr
  exact wpAny_execs_nil ⟨σ3,H3,I4,qn⟩
 ·refine wpAny_passesOwn hp (thn (T.item X rfl rfl rfl hc i pins s3 σ3 H3 X.xe I3 (stat fr3) st3 go) fun r s4 ⟨u,hr,h4⟩=>?_)
  subst hr
  refine wpAny_passesOwn hp (thn h4 fun _ s5 ⟨x,H5,I5,r5,y5,st5,fr5⟩=>?_)
  have I5':=I5.pinned (stat fr5) (T.obj _ _ st5)
  refine wpAny_passesOwn hp (thn (hg _ s5 σ3 H5 x u _ I5' r5 (step x H5 y5)) fun _ s6 ⟨σ6,H6,I6,q6⟩=>?_)
  refine wpAny_passesOwn hp (thn (hb _ s6 σ6 H6 _ I6 q6) fun f s7 q7=>?_)
  have again:∀ {σ7:St} {H7:Hp},Inv X (pins++Za_ fp s5.heap) σ7 H7 s7→N σ7 H7→∃ m,m<n∧∃ i σ' H',Inv X pins σ' H' s7∧tn i s7.heap∧(∀ b∈fp,H' b=none)∧W i m σ' H':=fun {σ7 H7} I7 n7=>by
   obtain ⟨m',hm,w7⟩:=hN σ7 H7 n7
   refine ⟨m',hm,i+1,σ7,H7,I7.unpinned,T.keep _ _ _ st5 fun b hb o e=>(I7.pin (b,o) (List.mem_append_right _ (List.mem_append_right _ (jL_ hb e)))).1,fun b hb=>?_,w7⟩
   obtain ⟨o,e,d⟩:=T.obj _ _ st5 b hb
   exact (I7.pin (b,o) (List.mem_append_right _ (List.mem_append_right _ (jL_ hb e)))).2.1
  cases f with
  | next=>obtain ⟨σ7,H7,I7,n7⟩:=q7;exact again I7 n7
  | cont=>obtain ⟨σ7,H7,I7,n7⟩:=q7;exact again I7 n7
  | brk=>obtain ⟨σ7,H7,I7,q7⟩:=q7;exact ⟨σ7,H7,I7.unpinned,q7⟩
  | ret v=>obtain ⟨x7,σ7,H7,I7,r7,q7⟩:=q7;exact ⟨x7,σ7,H7,I7.unpinned,r7,q7⟩
end
end L2
namespace L2
open PySem PySem.Spec PyProof.Rows
abbrev R2:=V→V→Hp→VK→Prop
def OpR (X:Cx) (f:Value→Value→Sem Value) (r:R2):Prop :=
 ∀ (pins:List (Addr×Obj)) (s:Shared) (σ:St) (H:Hp) (x y:V) (v u:Value) (Q:VK),Inv X pins σ H s→RelV x v→RelV y u→r x y H Q →
  wpAny (model X.prog X.w) X.A (f v u) (EP X pins σ Q) X.xe s
def CallR (X:Cx) (f:Value) (r:List V→Hp→VK→Prop):Prop :=
 ∀ (pins:List (Addr×Obj)) (s:Shared) (σ:St) (H:Hp) (xs:List V) (us:List Value) (Q:VK),Inv X pins σ H s→Vals xs us→r xs H Q →
  wpAny (model X.prog X.w) X.A (call f us) (EP X pins σ Q) X.xe s
def tOp (r:R2) (ta tb:TE):TE:=fun σ H Q=>ta σ H fun x H1=>tb σ H1 fun y H2=>r x y H2 Q
def rI (C:Int→Int→Prop) (g:Int→Int→V):R2:=fun x y H Q=>∃ i j,x=.int i∧y=.int j∧C i j∧Q (g i j) H
def rI0 (g:Int→Int→V):R2:=fun x y H Q=>∃ i j,x=.int i∧y=.int j∧Q (g i j) H
section
variable {X:Cx} {a b c:Expr} {ta tb tc:TE} {pos:Pos}
theorem binT (ha:PE X a ta) (hb:PE X b tb) {pins:List (Addr×Obj)} {s:Shared} {σ:St} {H:Hp} {R:V→V→Hp→Prop} (I:Inv X pins σ H s)
  (h:ta σ H fun x H1=>tb σ H1 fun y H2=>R x y H2) {Q:Value→Shared→Prop} {f:Value→Value→Sem Value}
  (hf:∀ v u s2 x y H2,Inv X pins σ H2 s2→RelV x v→RelV y u→R x y H2→wpAny (model X.prog X.w) X.A (f v u) Q X.xe s2) :
  wpAny (model X.prog X.w) X.A (eval a X.env) (fun v s₁=>wpAny (model X.prog X.w) X.A (eval b X.env) (fun u s₂=>wpAny (model X.prog X.w) X.A (f v u) Q X.xe s₂) X.xe s₁) X.xe s:=by
 refine thn (ha pins s σ H _ I h) fun v s1 ⟨x,H1,I1,r1,q1⟩=>?_
 refine thn (hb pins s1 σ H1 _ I1 q1) fun u s2 ⟨y,H2,I2,r2,q2⟩=>?_
 exact hf v u s2 x y H2 I2 r1 r2 q2
theorem VX_ {op:Operator} {r:R2} (ho:OpR X (binaryOp op) r) (ha:PE X a ta) (hb:PE X b tb):PE X (.BinOp a op b pos) (tOp r ta tb):=by
 intro pins s σ H Q I h
 exact wpAny_BinOp (binT ha hb I h fun v u s2 x y H2 I2 rx ry q=>ho pins s2 σ H2 x y v u Q I2 rx ry q)
theorem opI {f:Value→Value→Sem Value} {C:Int→Int→Prop} {g:Int→Int→Int}
  (rule:∀ (i j:Int) (t u:Tok) (s:Shared) (Q:Value→Shared→Prop) (E:Value→Shared→Prop),C i j→Q (.int (g i j) s.toks) { s with toks:=s.toks+1 }→wpAny (model X.prog X.w) X.A (f (.int i t) (.int j u)) Q E s) :
  OpR X f (rI C fun i j=>.int (g i j)):=by
 intro pins s σ H x y v u Q I rx ry h
 obtain ⟨i,j,rfl,rfl,hc,q⟩:=h
 obtain ⟨t,rfl⟩:=rx
 obtain ⟨t',rfl⟩:=ry
 exact rule i j t t' s _ _ hc ⟨.int (g i j),H,I.tok _,⟨_,rfl⟩,q⟩
theorem opI0 {f:Value→Value→Sem Value} {g:Int→Int→Int}
  (rule:∀ (i j:Int) (t u:Tok) (s:Shared) (Q:Value→Shared→Prop) (E:Value→Shared→Prop),Q (.int (g i j) s.toks) { s with toks:=s.toks+1 }→wpAny (model X.prog X.w) X.A (f (.int i t) (.int j u)) Q E s) :
  OpR X f (rI0 fun i j=>.int (g i j)):=by
 intro pins s σ H x y v u Q I rx ry h
 obtain ⟨i,j,rfl,rfl,q⟩:=h
 obtain ⟨t,rfl⟩:=rx
 obtain ⟨t',rfl⟩:=ry
 exact rule i j t t' s _ _ ⟨.int (g i j),H,I.tok _,⟨_,rfl⟩,q⟩
theorem opB0 {f:Value→Value→Sem Value} {g:Int→Int→Bool}
  (rule:∀ (i j:Int) (t u:Tok) (s:Shared) (Q:Value→Shared→Prop) (E:Value→Shared→Prop),Q (.bool (g i j)) s→wpAny (model X.prog X.w) X.A (f (.int i t) (.int j u)) Q E s) :
  OpR X f (rI0 fun i j=>.bl (g i j)):=by
 intro pins s σ H x y v u Q I rx ry h
 obtain ⟨i,j,rfl,rfl,q⟩:=h
 obtain ⟨t,rfl⟩:=rx
 obtain ⟨t',rfl⟩:=ry
 exact rule i j t t' s _ _ ⟨.bl (g i j),H,I,rfl,q⟩
def CDiv (i j:Int):Prop:=0<j∧j<1073741824
def CPow (i j:Int):Prop:=0≤j∧j≤1000000∧i.natAbs<2^64
def CMul (i j:Int):Prop:=(-(2^64)<i∧i<2^64)∨(-(2^64)<j∧j<2^64)
theorem CMul.ok {i j:Int} (h:CMul i j):IntMulOk i j:=by
 rcases h with ⟨h1,h2⟩|⟨h1,h2⟩
 ·exact .of_left (intBits_le_64 h1 h2)
 ·exact .of_right (intBits_le_64 h1 h2)
theorem op_add:OpR X (binaryOp .Add) (rI0 fun i j=>.int (i+j)):=opI0 fun _ _ _ _ _ _ _ q=>add_int q
theorem Jg_:OpR X (binaryOp .Sub) (rI0 fun i j=>.int (i - j)):=opI0 fun _ _ _ _ _ _ _ q=>sub_int q
theorem j4_:OpR X (binaryOp .Mult) (rI CMul fun i j=>.int (i*j)):=opI fun _ _ _ _ _ _ _ hc q=>mul_int q hc.ok
theorem jW_:OpR X (binaryOp .FloorDiv) (rI CDiv fun i j=>.int (i / j)):=opI fun i j _ _ _ _ _ hc q=>by
 have h1:(0:Int)<j:=hc.1
 have h2:j<1073741824:=hc.2
 exact floordiv_int (by omega) (by rw [Int.fdiv_eq_ediv_of_nonneg i (by omega)];exact q) (.inl (PyProof.noPylong_small (by omega)))
theorem uy_:OpR X (binaryOp .Mod) (rI (fun _ j=>0<j) fun i j=>.int (i % j)):=opI fun i j _ _ _ _ _ hc q=>by
 have h1:(0:Int)<j:=hc
 exact mod_int' (by omega) (by rw [Int.fmod_eq_emod_of_nonneg i (by omega)];exact q)
theorem V7_:OpR X (binaryOp .Pow) (rI CPow fun i j=>.int (i^j.toNat)):=opI fun _ _ _ _ _ _ _ hc q=>pow_int_small hc.1 hc.2.1 hc.2.2 q
end
section
variable {X:Cx} {a b c:Expr} {ta tb tc:TE} {pos:Pos}
theorem Xl_:OpR X (compareOp .LtE) (rI0 fun i j=>.bl (decide (i≤j))):=opB0 fun _ _ _ _ _ _ _ q=>le_int q
theorem Wa_:OpR X (compareOp .Gt) (rI0 fun i j=>.bl (decide (j<i))):=opB0 fun _ _ _ _ _ _ _ q=>gt_int q
theorem Xm_:OpR X (compareOp .GtE) (rI0 fun i j=>.bl (decide (j≤i))):=opB0 fun _ _ _ _ _ _ _ q=>ge_int q
theorem OpR.or {f:Value→Value→Sem Value} {r r':R2} (h:OpR X f r) (h':OpR X f r'):OpR X f (fun x y H Q=>r x y H Q∨r' x y H Q):=by
 intro pins s σ H x y v u Q I rx ry q
 rcases q with q|q
 ·exact h pins s σ H x y v u Q I rx ry q
 ·exact h' pins s σ H x y v u Q I rx ry q
theorem Q2_ {op:CmpOp} {r:R2} (ho:OpR X (compareOp op) r) (ha:PE X a ta) (hb:PE X b tb) (hm:behindInMarks op b=false):PE X (.Compare a [op] [b] pos) (tOp r ta tb):=by
 intro pins s σ H Q I h
 exact wpAny_Compare1 (binT ha hb I h fun v u s2 x y H2 I2 rx ry q=>ho pins s2 σ H2 x y v u Q I2 rx ry q) hm
def WW_ (t:TE):TT:=fun σ H Q=>t σ H fun x H'=>∃ k,x=.bl k∧Q k H'
theorem QV_ {op:CmpOp} {r:R2} (ho:OpR X (compareOp op) r) (ha:PE X a ta) (hb:PE X b tb) (hm:behindInMarks op b=false):PT X (.Compare a [op] [b] pos) (WW_ (tOp r ta tb)):=by
 intro pins s σ H Q I h
 refine wpAny_isTrue_Compare1 (thn (ha pins s σ H _ I h) fun v s1 ⟨x,H1,I1,r1,q1⟩=>thn (hb pins s1 σ H1 _ I1 q1) fun u s2 ⟨y,H2,I2,r2,q2⟩ =>
  thn (ho pins s2 σ H2 x y v u _ I2 r1 r2 q2) fun c s3 ⟨z,H3,I3,r3,k,e,q3⟩=>?_) hm
 subst e
 cases r3
 exact wpAny_truthy_bool ⟨H3,I3,q3⟩
theorem yo_:(sizeLine:Nat)<2^63:=by rw [sizeLine_eq];decide
theorem JK_:OpR X (binaryOp .Add) (fun x y H Q=>∃ i j,x=.str i∧y=.str j∧i.length+j.length≤sizeLine∧Q (.str (i++j)) H):=by
 intro pins s σ H x y v u Q I rx ry h
 obtain ⟨i,j,rfl,rfl,hz,q⟩:=h
 obtain ⟨t,rfl⟩:=rx
 obtain ⟨t',rfl⟩:=ry
 exact add_str (fun t' tk=>⟨.str (i++j),H,I.tok _,⟨_,rfl⟩,q⟩) hz
theorem vals1 {x:V} {us:List Value} (r:Vals [x] us):∃ u,us=[u]∧RelV x u:=by
 cases r with
 | cons r1 r2=>cases r2;exact ⟨_,rfl,r1⟩
theorem vals2 {x y:V} {us:List Value} (r:Vals [x,y] us):∃ u w',us=[u,w']∧RelV x u∧RelV y w':=by
 cases r with
 | cons r1 r2 =>
  cases r2 with
  | cons r3 r4=>cases r4;exact ⟨_,_,rfl,r1,r3⟩
theorem Yd_ (hc:X.calm=true):CallR X (.builtin "max") (fun xs H Q=>∃ i j,xs=[.int i,.int j]∧Q (.int (if j>i then j else i)) H):=by
 intro pins s σ H xs us Q I r h
 obtain ⟨i,j,rfl,q⟩:=h
 obtain ⟨u,w',rfl,⟨t,rfl⟩,⟨t',rfl⟩⟩:=vals2 r
 refine max_two_ints (I.ok.hd hc) fun h' tk k=>⟨_,H,I.kept k,?_,q⟩
 by_cases hj:j>i
 ·rw [if_pos hj,if_pos hj];exact ⟨_,rfl⟩
 ·rw [if_neg hj,if_neg hj];exact ⟨_,rfl⟩
theorem Ye_:CallR X (.type "int") (fun xs H Q=>(∃ i,xs=[.int i]∧Q (.int i) H)∨∃ k,xs=[.bl k]∧Q (.int (if k then 1 else 0)) H):=by
 intro pins s σ H xs us Q I r h
 rcases h with ⟨i,rfl,q⟩|⟨k,rfl,q⟩
 ·obtain ⟨u,rfl,t,rfl⟩:=vals1 r
  exact call_int_int ⟨.int i,H,I,⟨_,rfl⟩,q⟩
 ·obtain ⟨u,rfl,r1⟩:=vals1 r
  cases r1
  exact call_int_bool ⟨.int (if k then 1 else 0),H,I.tok _,⟨_,rfl⟩,q⟩
end
end L2
namespace L2
open PySem PySem.Spec PyProof.Rows
theorem RelO.some_of {v:V} {o:Option Value} (r:RelO (some v) o):∃ u,o=some u∧RelV v u:=by
 cases o with
 | none=>exact (show False from r).elim
 | some u=>exact ⟨u,rfl,r⟩
end L2
namespace L2
open PySem PySem.Spec PyProof.Rows
structure Room (k:Nat) (A:Around):Prop where
 hd:A.handled=none
 dp:A.depth+3*k+5<recursionLimit
 un:A.units+16*k+1200<cLine
 gd:A.guards=some []
theorem Room.mono {j k:Nat} {A:Around} (r:Room k A) (h:j≤k):Room j A:=⟨r.hd,by have:=r.dp;omega,by have:=r.un;omega,r.gd⟩
theorem Room.deeper {k:Nat} {A:Around} (r:Room (k+1) A) (env:Env):Room k (A.deeper env) :=
 ⟨r.hd,by have:=r.dp;show A.depth+1+3*k+5<_;omega,by have:=r.un;show A.units+3+16*k+1200<_;omega,r.gd⟩
theorem Room.depth {k:Nat} {A:Around} (r:Room k A):A.depth<recursionLimit:=by have:=r.dp;omega
def tNil:TA:=fun _ H Q=>Q [] H
def W1_ (ta:TE) (tr:TA):TA:=fun σ H Q=>ta σ H fun x H1=>tr σ H1 fun xs H2=>Q (x::xs) H2
section
variable {X:Cx} {e:Expr} {es:List Expr} {te:TE} {t:TA} {pos:Pos}
theorem Zb_:PA X [] tNil:=fun _ _ _ _ H Q I h=>Calls.spliced_nil ⟨[],H,I,.nil,h⟩
theorem uh_ (ha:PE X e te) (hr:PA X es t) (hs:starEach (e::es) X.env=(false,eval e X.env)::starEach es X.env:=by rfl):PA X (e::es) (W1_ te t):=by
 intro pos pins s σ H Q I h
 rw [hs]
 show wpAny _ _ (spliced ((false,eval e X.env)::backTo pos (starEach es X.env))) _ _ s
 refine Calls.spliced_cons (thn (ha pins s σ H _ I h) fun u s1 ⟨x,H1,I1,r1,q1⟩=>?_)
 exact thn (hr pos pins s1 σ H1 _ I1 q1) fun us s2 ⟨xs,H2,I2,r2,q2⟩=>⟨x::xs,H2,I2,.cons r1 r2,q2⟩
def tTup (t:TA):TE:=fun σ H Q=>t σ H fun xs H1=>xs.length≤sizeLine∧∀ p,H1 p=none→Q (.ref p) (upd H1 p (.tup xs))
def tLst (t:TA):TE:=fun σ H Q=>t σ H fun xs H1=>xs.length≤sizeLine∧∀ p,H1 p=none→Q (.ref p) (upd H1 p (.lst xs))
theorem VW_ {x1} (h:PA X es t):PE X (.Tuple es x1 pos) (tTup t):=by
 intro pins s σ H Q I hq
 refine wpAny_Tuple_spliced (thn (h pos pins s σ H _ I hq) fun us s1 ⟨xs,H1,I1,r,z,q⟩=>⟨by rw [←r.length];exact z,?_⟩)
 have hf:H1 s1.heap.objs.size=none:=I1.hok.fresh (Nat.le_refl _)
 refine ⟨.ref s1.heap.objs.size,upd H1 s1.heap.objs.size (.tup xs),I1.laid (t':=s1.toks) (fun b u e=>Heap.get?_push_of_some _ e) (Nat.le_refl _) ?_,rfl,q _ hf⟩
 exact ⟨z,us,r,⟨_,Heap.get?_push_size _ rfl,rfl,_,rfl⟩,⟨_,Heap.get?_push_size _ rfl,rfl⟩⟩
theorem VY_ (h:PA X es t):PE X (.List es pos) (tLst t):=by
 intro pins s σ H Q I hq
 refine wpAny_List_spliced (thn (h pos pins s σ H _ I hq) fun us s1 ⟨xs,H1,I1,r,z,q⟩=>⟨by rw [←r.length];exact z,?_⟩)
 have hf:H1 s1.heap.objs.size=none:=I1.hok.fresh (Nat.le_refl _)
 refine ⟨.ref s1.heap.objs.size,upd H1 s1.heap.objs.size (.lst xs),I1.laid (t':=s1.toks) (fun b u e=>Heap.get?_push_of_some _ e) (Nat.le_refl _) ?_,rfl,q _ hf⟩
 exact ⟨z,us,0,r,Heap.get?_push_size _ rfl⟩
end
abbrev Sp:=List V→Hp→VK→XK→Prop
abbrev CXT:=List Env→Hp→Shared→XK→Value→Shared→Prop
structure Env0 (P:Program) (w:World) (K:PySem.W.Frag) (mg:Str→Option Value) (base:Heap) (A:Around) (outer:List Env) (s:Shared) (H:Hp):Prop where
 frames:A.frames=some outer
 mod:Mod K mg base
 bs:∀ b o,base.get? b=some o→s.heap.get? b=some o∧H b=none
 bsz:base.objs.size≤s.heap.objs.size
 funs:s.heap.FunFrames base outer
 frf:∀ b∈frs outer,H b=none
 hok:HOk P w H s.heap
 bare:AllBare s.gens
def CE (outer:List Env) (P:Program) (w:World) (H:Hp) (s:Shared) (Q:VK) (u:Value) (s':Shared):Prop :=
 ∃ v H',s'.os=s.os∧AllBare s'.gens∧Un (frs outer) [] H H' s.heap s'.heap∧HOk P w H' s'.heap∧RelV v u∧Q v H'
def CR (CX:CXT) (outer:List Env) (P:Program) (w:World) (H:Hp) (s:Shared) (Q:VK) (E:XK) (r:Result) (s':Shared):Prop :=
 match r with
 | .ok (.ret u)=>CE outer P w H s Q u s'
 | .ok _=>False
 | .error e=>CX outer H s E e s'
structure FnOk (P:Program) (w:World) (K:PySem.W.Frag) (mg:Str→Option Value) (base:Heap) (CX:CXT) (k:Nat) (f:Addr) (fd:FuncData) (ps:List Str) (sp:Sp):Prop where
 len:∀ vs H Q E,sp vs H Q E→vs.length=ps.length
 run:∀ (A:Around) (outer:List Env) (s:Shared) (H:Hp) (args:Args) (us:List Value) (vs:List V) (Q:VK) (E:XK),Room k A→Env0 P w K mg base A outer s H→BindsTo s fd args (ps.zip us)→Vals vs us→sp vs H Q E →
  codeAny (model P w) A (.call (.ref f) args) (CR CX outer P w H s Q E) s
section
variable {X:Cx} {pins:List (Addr×Obj)} {σ:St} {H:Hp} {s s':Shared}
theorem Inv.env0 (I:Inv X pins σ H s):Env0 X.prog X.w X.K X.mg X.base X.A X.stack s H :=
 ⟨I.ok.frames,I.ok.mod,I.bs,Nat.le_trans I.ok.bsz I.sz,I.stack,I.stkFree,I.hok,I.bare⟩
theorem Inv.after {Q:VK} {u:Value} (I:Inv X pins σ H s) (h:CE X.stack X.prog X.w H s Q u s'):EP X pins σ Q u s':=by
 obtain ⟨v,H',os,bare,un,hok,r,q⟩:=h
 obtain ⟨hh,g,d,t,os'⟩:=s'
 obtain rfl:os'=s.os:=os
 exact ⟨v,H',I.call (h':=hh) (g':=g) (d':=d) (t':=t) (ch:=[]) un hok bare (fun b z=>absurd z (by simp)),r,q⟩
end
def W2_ (sp:Sp) (dvs:List V) (E:XK) (t:TA):TE:=fun σ H Q=>t σ H fun vs H1=>sp (vs++dvs) H1 Q E
def Binds (K:PySem.W.Frag) (fd:FuncData) (ps:List Str) (ds:List Value):Prop :=
 ∀ (s:Shared) (us:List Value),K.In s.heap→(us++ds).length=ps.length→BindsTo s fd ⟨us,[]⟩ (ps.zip (us++ds))
theorem Binds.all {K:PySem.W.Frag} {fd:FuncData} {ps:List Str} (h:∀ us:List Value,us.length=ps.length→bindArgs fd ⟨us,[]⟩=pure (ps.zip us)):Binds K fd ps []:=fun s us _ hl=>by
 rw [List.append_nil] at hl ⊢
 exact .of_eq (h us hl)
def Yp_ (CX:CXT) (X:Cx) (E:XK):Prop:=∀ (pins:List (Addr×Obj)) (σ:St) (H:Hp) (s:Shared) (e:Value) (s':Shared),Inv X pins σ H s→CX X.stack H s E e s'→X.xe e s'
section
variable {X:Cx} {CX:CXT} {k:Nat} {f C:Addr} {fd:FuncData} {ps:List Str} {sp:Sp} {dvs:List V} {ds:List Value} {E:XK} {x m:Str} {p pos apos:Pos} {e o:Expr} {es:List Expr} {ta:TE} {t:TA}
theorem VH_ {pins:List (Addr×Obj)} {σ:St} {H:Hp} {s:Shared} {Q:VK} {us:List Value} {vs:List V} (F:FnOk X.prog X.w X.K X.mg X.base CX k f fd ps sp) (hr:Room k X.A) (hb:Binds X.K fd ps ds) (hd:Vals dvs ds) (hx:Yp_ CX X E)
  (I:Inv X pins σ H s) (r:Vals vs us) (h:sp (vs++dvs) H Q E):wpAny (model X.prog X.w) X.A (call (.ref f) us) (EP X pins σ Q) X.xe s:=by
 have r2:Vals (vs++dvs) (us++ds):=r.append hd
 have hl:(us++ds).length=ps.length:=by rw [←r2.length];exact F.len _ _ _ _ h
 refine wpAny_call (codeAny_mono (F.run X.A X.stack s H ⟨us,[]⟩ (us++ds) (vs++dvs) Q E hr I.env0 (hb s us I.kIn hl) r2 h) fun r s' hq=>?_)
 cases r with
 | error e=>exact hx pins σ H s e s' I hq
 | ok fl =>
  cases fl with
  | ret u=>exact I.after hq
  | next=>exact False.elim hq
  | brk=>exact False.elim hq
  | cont=>exact False.elim hq
theorem ZI_ (F:FnOk X.prog X.w X.K X.mg X.base CX k f fd ps sp) (hr:Room k X.A) (hg:Gl X x) (hm:X.mg x=some (.ref f)) (hk:PySem.W.keepIn X.K (.ref f)=true) (hb:Binds X.K fd ps ds) (hd:Vals dvs ds) (hx:Yp_ CX X E)
  (ha:PA X (e::es) t) (hdb:(x==("__debug__" : Str))=false:=by decide) (he:starEach (e::es) X.env=(false,eval e X.env)::starEach es X.env:=by rfl) (hpl:(backTo pos (starEach es X.env)).any (·.1)=false:=by rfl) :
  PE X (.Call (.Name x p) (e::es) [] pos) (W2_ sp dvs E t):=by
 intro pins s σ H Q I h
 refine wpAny_Call_Name_kw (Vf_ I hg hm ?_ hdb)
 refine PySem.W.callWith_K (h₀:=X.base) I.ok.mod.kin hk (thn (ha pos pins s σ H _ I h) fun us s1 ⟨vs,H1,I1,r,q⟩=>⟨I1.kIn,?_⟩) he hpl
 exact VH_ F hr hb hd hx I1 r q
end
structure FnScope (N P:List Str) (sc:Scope):Prop where
 kind:sc.kind=.function
 co:sc.isCoroutine=false
 gen:sc.isGenerator=false
 nd:N.Nodup
 pre:N.take P.length=P
 par:∀ x∈P,sc.names.lookup x=some .local∨sc.names.lookup x=some .cell
 nofree:∀ y∈sc.names,y.2≠.free
theorem Zy_ {kindOf:Str→Option NameKind} {x:Str}:∀ {binds:List (Str×Value)} {m:Str→Option Value},(∀ v,(x,v)∉binds)→bindL kindOf binds m x=m x
 | [],_,_=>rfl
 | (n,v)::r,m,h=>by
  unfold bindL
  rw [Zy_ fun w hw=>h w (List.mem_cons_of_mem _ hw)]
  split
  ·have:x≠n:=by rintro rfl;exact h v List.mem_cons_self
   simp [this]
  ·rfl
theorem ZA_ {kindOf:Str→Option NameKind} {x:Str}:∀ {binds:List (Str×Value)} {m:Str→Option Value},(∀ v,(x,v)∉binds)→bindC kindOf binds m x=m x
 | [],_,_=>rfl
 | (n,v)::r,m,h=>by
  unfold bindC
  rw [ZA_ fun w hw=>h w (List.mem_cons_of_mem _ hw)]
  split
  ·rfl
  ·have:x≠n:=by rintro rfl;exact h v List.mem_cons_self
   simp [this]
theorem Zz_ {kindOf:Str→Option NameKind} {x:Str} {v:Value}:∀ {P:List Str} {vs:List Value} {i:Nat} {m:Str→Option Value},P.Nodup→P[i]? = some x→vs[i]? = some v→kindOf x=some .local →
  bindL kindOf (P.zip vs) m x=some v
 | [],_,_,_,_,h,_,_=>by simp at h
 | _::_,[],_,_,_,_,h,_=>by simp at h
 | p::P,w::vs,0,m,nd,h1,h2,hk=>by
  simp at h1 h2;subst h1;subst h2
  show bindL kindOf ((p,w)::P.zip vs) m p=_
  unfold bindL
  rw [Zy_ fun v hv=>(List.nodup_cons.mp nd).1 (List.of_mem_zip hv).1,if_pos hk]
  simp
 | p::P,w::vs,i+1,m,nd,h1,h2,hk=>by
  show bindL kindOf ((p,w)::P.zip vs) m x=_
  unfold bindL
  exact Zz_ (i:=i) (List.nodup_cons.mp nd).2 (by simpa using h1) (by simpa using h2) hk
theorem ZB_ {kindOf:Str→Option NameKind} {x:Str} {v:Value}:∀ {P:List Str} {vs:List Value} {i:Nat} {m:Str→Option Value},P.Nodup→P[i]? = some x→vs[i]? = some v→kindOf x≠some .local →
  bindC kindOf (P.zip vs) m x=some v
 | [],_,_,_,_,h,_,_=>by simp at h
 | _::_,[],_,_,_,_,h,_=>by simp at h
 | p::P,w::vs,0,m,nd,h1,h2,hk=>by
  simp at h1 h2;subst h1;subst h2
  show bindC kindOf ((p,w)::P.zip vs) m p=_
  unfold bindC
  rw [ZA_ fun v hv=>(List.nodup_cons.mp nd).1 (List.of_mem_zip hv).1,if_neg hk]
  simp
 | p::P,w::vs,i+1,m,nd,h1,h2,hk=>by
  show bindC kindOf ((p,w)::P.zip vs) m x=_
  unfold bindC
  exact ZB_ (i:=i) (List.nodup_cons.mp nd).2 (by simpa using h1) (by simpa using h2) hk
def start (N:List Str) (vs:List V):St:=vs.map some++List.replicate (N.length - vs.length) none
def cxOf (CX:CXT) (P:Program) (w:World) (K:PySem.W.Frag) (mg:Str→Option Value) (base:Heap) (N:List Str) (qual:Str) (scope:Scope) (f:Addr) (cd:Value) (A:Around) (outer:List Env) (s:Shared) (H:Hp) (E:XK):Cx where
 prog:=P
 w:=w
 K:=K
 mg:=mg
 base:=base
 A:=A.deeper (envOfC qual scope s.heap.objs.size f cd)
 N:=N
 s₀:=s
 H₀:=H
 env:=envOfC qual scope s.heap.objs.size f cd
 outer:=outer
 stack:=envOfC qual scope s.heap.objs.size f cd::outer
 ex:=[]
 calm:=true
 fn:=fun _=>true
 pn:=[]
 xe:=fun e s'=>wpAny (model P w) (A.deeper (envOfC qual scope s.heap.objs.size f cd)) (leaving (envOfC qual scope s.heap.objs.size f cd) e) (fun _ s''=>CX outer H s E e s'') (fun e' s''=>CX outer H s E e' s'') s'
theorem Jt_ {sc:Scope} {n:Nat} {x:Str} (h:sc.names.lookup x=some .cell):∃ c,(cellsFrom n sc.names []).lookup x=some c:=by
 have q:=PySem.W.cellsFrom_some sc.names n [] (.inl h)
 exact Option.isSome_iff_exists.mp q
theorem UM_ {CX:CXT} {P:Program} {w:World} {K:PySem.W.Frag} {mg:Str→Option Value} {base:Heap} {N ps:List Str} {qual:Str} {scope:Scope} {f:Addr} {cd:Value} {A:Around} {outer:List Env} {s s1:Shared} {H:Hp} {E:XK} {us:List Value} {vs:List V}
  (S:FnScope N ps scope) (hd:A.handled=none) (e0:Env0 P w K mg base A outer s H) (hl:vs.length=ps.length) (r:Vals vs us)
  (x:InCallC s s.heap.objs.size (bindL (envOfC qual scope s.heap.objs.size f cd).kindOf (ps.zip us) fun _=>none) (cellsFrom (s.heap.objs.size+1) scope.names []) (bindC (envOfC qual scope s.heap.objs.size f cd).kindOf (ps.zip us) fun _=>none) s1) :
  Inv (cxOf CX P w K mg base N qual scope f cd A outer s H E) [] (start N vs) H s1:=by
 have hpl:ps.length≤N.length:=by have:=congrArg List.length S.pre;rw [List.length_take] at this;omega
 obtain ⟨h1,tk,rfl,hk⟩:=x.done
 have noA:∀ b:Addr,b∉(cxOf CX P w K mg base N qual scope f cd A outer s H E).ex:=fun b z=>absurd (show b∈([]:List Addr) from z) (by simp)
 refine ⟨⟨e0.mod,S.kind,rfl,rfl,Nat.le_refl _,fun y z c h1 h2=>?_,fun y hy=>?_,fun y c _ h=>?_,fun _=>hd,Around.frames_deeper e0.frames,.inr ⟨rfl,rfl⟩,fun b z=>absurd z (noA b),e0.bs,e0.bsz,fun b _ _=>noA b,fun b z=>absurd z (noA b),e0.funs,e0.frf⟩,
  rfl,e0.bare,Un.kept hk,⟨_,x.toInCall.ns,fun i y v h1 h2 h3=>?_⟩,fun y c h=>⟨_,x.cell y c h⟩,e0.hok.fresh (Nat.le_refl _),fun y c h=>?_,fun p hp=>absurd (show p∈([]:List (Addr×Obj)) from hp) (by simp),e0.hok.kept hk,?_⟩
 ·exact name_of_addr x.apart (PySem.mem_of_lookup h1) (PySem.mem_of_lookup h2)
 ·have hy:scope.names.lookup y=some .cell∨scope.names.lookup y=some .free:=hy
  rcases hy with hy|hy
  ·exact Jt_ hy
  ·exact absurd rfl (S.nofree _ (PySem.mem_of_lookup hy))
 ·exact Nat.le_of_lt (x.above y c (PySem.mem_of_lookup h))
 ·have hi:i<vs.length:=by
   unfold start at h2
   by_cases hi:i<vs.length
   ·exact hi
   ·rw [List.getElem?_append_right (by simpa using hi)] at h2
    rw [List.getElem?_replicate] at h2
    split at h2<;>cases h2
  have ha:vs[i]? = some v:=by
   unfold start at h2
   rw [List.getElem?_append_left (by simpa using hi),List.getElem?_map] at h2
   cases e:vs[i]? with
   | none=>rw [e] at h2;cases h2
   | some a=>rw [e] at h2;cases h2;rfl
  obtain ⟨u,hu,rv⟩:=r.get ha
  have hp:ps[i]? = some y:=by
   rw [←S.pre,List.getElem?_take_of_lt (by omega)];exact h1
  have ndP:ps.Nodup:=by rw [←S.pre];exact S.nd.sublist (List.take_sublist _ _)
  refine ⟨u,rv,?_⟩
  rcases S.par y (List.mem_of_getElem? hp) with k|k
  ·exact .inl ⟨k,Zz_ ndP hp hu k⟩
  ·obtain ⟨c,e⟩:=Jt_ (n:=s.heap.objs.size+1) k
   refine .inr ⟨.inl k,c,e,?_⟩
   have q:=x.cell y c e
   rw [ZB_ ndP hp hu (by show scope.names.lookup y≠_;rw [k];decide)] at q
   exact q
 ·exact e0.hok.fresh (Nat.le_of_lt (x.above y c (PySem.mem_of_lookup h)))
 ·unfold start
  show _=N.length
  rw [List.length_append,List.length_map,List.length_replicate]
  omega
theorem XG_ {CX:CXT} {P:Program} {w:World} {K:PySem.W.Frag} {mg:Str→Option Value} {base:Heap} {k:Nat} {f:Addr} {name qual:Str} {params:Arguments} {body:List Stmt} {scope:Scope} {dV kV doc pm cdv ct oc:Value} {an od:Option Addr}
  {osl:Array (Option Value)} {N ps:List Str} {sp:Sp} (lk:K.lookup f=some ⟨oc,od,.func (PySem.W.fnOf name qual params body scope dV kV doc pm an cdv ct),osl⟩) (hcd:PySem.W.codeIn K cdv qual=true) (S:FnScope N ps scope)
  (len:∀ vs H Q E,sp vs H Q E→vs.length=ps.length)
  (hbody:∀ (A:Around) (outer:List Env) (s:Shared) (H:Hp) (vs:List V) (Q:VK) (E:XK),Room k (A.deeper (envOfC qual scope s.heap.objs.size f cdv))→sp vs H Q E →
   ∃ t,PSs (cxOf CX P w K mg base N qual scope f cdv A outer s H E) body t∧t { nx:=fun _ H'=>Q .non H',rt:=Q } (start N vs) H) :
  FnOk P w K mg base CX (k+1) f (PySem.W.fnOf name qual params body scope dV kV doc pm an cdv ct) ps sp:=by
 refine ⟨len,fun A outer s H args us vs Q E hr e0 hb r hsp=>?_⟩
 have hl:=len _ _ _ _ hsp
 have KX:K.In s.heap:=e0.mod.kin.keeps fun b o e=>(e0.bs b o e).1
 have lim:s.heap.NoLimit:=e0.mod.nolimit.keeps fun b o e=>(e0.bs b o e).1
 have hkind:∀ y∈ps.zip us,scope.names.lookup y.1=some .local∨(scope.names.lookup y.1=some .cell∧((cellsFrom (s.heap.objs.size+1) scope.names []).lookup y.1).isSome=true):=fun ⟨n,v⟩ hy=>by
  rcases S.par n (List.of_mem_zip hy).1 with q|q
  ·exact .inl q
  ·exact .inr ⟨q,PySem.W.cellsFrom_some _ _ _ (.inl q)⟩
 refine codeAny_call_function hr.depth (KX _ _ lk) rfl S.co S.gen rfl (PySem.W.codeRec_of KX hcd) (hb _ _ _ _ ?_)
 refine wpAny_newFunctionEnv_cells S.kind hkind fun env he s1 x=>?_
 subst he
 refine ⟨lim.keeps x.toInCall.keep,codeAny_func ?_⟩
 obtain ⟨t,ht,hq⟩:=hbody A outer s H vs Q E (hr.deeper _) hsp
 have I:Inv (cxOf CX P w K mg base N qual scope f cdv A outer s H E) [] (start N vs) H s1:=UM_ S hr.hd e0 hl r x
 refine wpAny_mono (ht [] s1 (start N vs) H _ I hq) (fun fl s' hs=>?_) fun e s' hs=>hs
 have fin:∀ {σ':St} {H':Hp} {v:V} {u:Value},Inv (cxOf CX P w K mg base N qual scope f cdv A outer s H E) [] σ' H' s'→RelV v u→Q v H'→CE outer P w H s Q u s' :=
  fun {σ' H' v u} J rv q=>⟨v,H',J.os,J.bare,J.base,J.hok,rv,q⟩
 cases fl with
 | ret u =>
  obtain ⟨v,σ',H',J,rv,q⟩:=hs
  exact fin J rv q
 | next =>
  obtain ⟨σ',H',J,q⟩:=hs
  exact fin (v:=V.non) (u:=Value.none) J rfl q
 | brk =>
  obtain ⟨_,_,_,q⟩:=hs
  exact False.elim q
 | cont =>
  obtain ⟨_,_,_,q⟩:=hs
  exact False.elim q
end L2
namespace L2
open PySem PySem.Spec PyProof.Rows
section
variable {X:Cx} {x:Str} {p pos:Pos} {e:Expr} {es:List Expr} {t:TA} {id T:String} {r:List V→Hp→VK→Prop}
def tCB (r:List V→Hp→VK→Prop) (t:TA):TE:=fun σ H Q=>t σ H fun vs H1=>r vs H1 Q
theorem Je_ (hc:CallR X (.builtin id) r) (hg:Gl X x) (hm:X.mg x=none) (hv:bootBuiltins x=some (.builtin id)) (ha:PA X (e::es) t) (hn:x ≠ "__name__":=by decide) (hdb:(x==("__debug__" : Str))=false:=by decide)
  (he:starEach (e::es) X.env=(false,eval e X.env)::starEach es X.env:=by rfl) (hpl:(backTo pos (starEach es X.env)).any (·.1)=false:=by rfl):PE X (.Call (.Name x p) (e::es) [] pos) (tCB r t):=by
 intro pins s σ H Q I h
 refine wpAny_Call_Name_kw (UA_ I hg hm hv ?_ hn hdb)
 exact PyProof.Rows.callWith_builtin1 (thn (ha pos pins s σ H _ I h) fun us s1 ⟨vs,H1,I1,r1,q1⟩=>hc pins s1 σ H1 vs us Q I1 r1 q1) he hpl
theorem j3_ (hc:CallR X (.type T) r) (hg:Gl X x) (hm:X.mg x=none) (hv:bootBuiltins x=some (.type T)) (ha:PA X (e::es) t) (hn:x ≠ "__name__":=by decide) (hdb:(x==("__debug__" : Str))=false:=by decide)
  (he:starEach (e::es) X.env=(false,eval e X.env)::starEach es X.env:=by rfl) (hpl:(backTo pos (starEach es X.env)).any (·.1)=false:=by rfl):PE X (.Call (.Name x p) (e::es) [] pos) (tCB r t):=by
 intro pins s σ H Q I h
 refine wpAny_Call_Name_kw (UA_ I hg hm hv ?_ hn hdb)
 exact PyProof.Rows.callWith_type1 (thn (ha pos pins s σ H _ I h) fun us s1 ⟨vs,H1,I1,r1,q1⟩=>hc pins s1 σ H1 vs us Q I1 r1 q1) he hpl
end
end L2
namespace HT
open PySem PyProof.Rows
def lexLt:List Int→List Int→Bool
 | [],[]=>false
 | [],_::_=>true
 | _::_,[]=>false
 | x::xs,y::ys=>if x=y then lexLt xs ys else decide (x<y)
theorem lexLt_cons (x y:Int) (xs ys:List Int):lexLt (x::xs) (y::ys)=if x=y then lexLt xs ys else decide (x<y):=rfl
theorem Y2_ (A:Around) (s:Shared) (a:Int) (t:Tok) (c:Int) (u:Tok):∃ e,SeqAt.EqAt A s (.int a t) (.int c u) e∧(e=true↔a=c) :=
 ⟨(a==c),SeqAt.EqAt.int_int a t c u,by simp⟩
theorem rcLt_int (A:Around) (s:Shared) (a:Int) (t:Tok) (c:Int) (u:Tok) (prog:Program) (w:World) (E:Value→Shared→Prop) (Q:Value→Shared→Prop) (h:Q (.bool (decide (a<c))) s) :
  wpAny (model prog w) A (richCompare .Lt (.int a t) (.int c u)) Q E s :=
 (PyProof.Rows.lt_int h:wpAny (model prog w) A (compareOp .Lt (.int a t) (.int c u)) Q E s)
section
variable {prog:Program} {w:World} {A:Around} {E:Value→Shared→Prop} {s:Shared}
theorem cat_tup {t b:Addr} {vs ws:List Value} {Q:Value→Shared→Prop} (ht:IsTup s.heap t vs.toArray) (hb:IsTup s.heap b ws.toArray) (hv:vs≠[])
  (h1:ws=[]→Q (.ref t) s) (h2:ws≠[]→Q (.ref s.heap.objs.size) { s with heap:=s.heap.push { cls:=.type "tuple",data:=.seq (vs++ws).toArray } })
  (hsz:vs.length+ws.length≤sizeLine):wpAny (model prog w) A (binaryOp .Add (.ref t) (.ref b)) Q E s:=by
 obtain ⟨⟨cls,dd,data,sl⟩,ho,hc,n,hd⟩:=id ht
 obtain ⟨⟨cls2,dd2,data2,sl2⟩,ho2,hc2,n2,hd2⟩:=id hb
 simp only at hc hd hc2 hd2
 subst hc hd hc2 hd2
 have e:vs.toArray++ws.toArray=(vs++ws).toArray:=by simp
 by_cases hw:ws=[]
 ·exact concat_meets ⟨_,ho,rfl⟩ ⟨_,ho2,rfl⟩ noFill_tuple_add seq_tuple_add PySem.F.slot_tuple_add PySem.F.entry_tuple_add (PySem.F.args_tuple_add_2 _ _)
   (tuple_addW1 t b vs.toArray ws.toArray n n2 dd dd2 sl sl2 (by simpa using hv) (by simp [hw])) ⟨ho,ho2,h1 hw⟩
 ·refine concat_meets ⟨_,ho,rfl⟩ ⟨_,ho2,rfl⟩ noFill_tuple_add seq_tuple_add PySem.F.slot_tuple_add PySem.F.entry_tuple_add (PySem.F.args_tuple_add_2 _ _)
   (tuple_addW2 t b vs.toArray ws.toArray n n2 dd dd2 sl sl2 (by simpa using hv) (by simpa using hw) (by rw [List.size_toArray,List.size_toArray];exact hsz)) ⟨ho,ho2,?_⟩
  rw [e]
  exact h2 hw
def sIx (n d:Nat):Option Int→Nat
 | none=>d
 | some v=>if v<0 then (v+(n:Int)).toNat else min v.toNat n
theorem VF_ (n d:Nat) (hd:d≤n) (o:Option Int):sIx n d o≤n:=by
 cases o with
 | none=>exact hd
 | some v =>
  show (if v<0 then (v+(n:Int)).toNat else min v.toNat n)≤n
  by_cases hv:v<0
  ·rw [if_pos hv];omega
  ·rw [if_neg hv];exact Nat.min_le_right _ _
theorem U7_ (v:Int) (n d:Nat):(if v<0 then max (v+(n:Int)) 0 else min v (n:Int))=((sIx n d (some v):Nat):Int):=by
 show (if v<0 then max (v+(n:Int)) 0 else min v (n:Int))=(((if v<0 then (v+(n:Int)).toNat else min v.toNat n):Nat):Int)
 by_cases hv:v<0
 ·simp only [if_pos hv];omega
 ·simp only [if_neg hv];omega
theorem J5_ (lo hi:Option Int) (n:Nat):Builtin.Slice.sliceAdjust lo hi 1 (n:Int)=(((sIx n 0 lo:Nat):Int),((sIx n n hi:Nat):Int)):=by
 have h1:¬ ((1:Int)<0):=by omega
 unfold Builtin.Slice.sliceAdjust
 simp only [h1,if_false]
 refine Prod.ext ?_ ?_
 ·cases lo with
  | none=>rfl
  | some v=>exact U7_ v n 0
 ·cases hi with
  | none=>rfl
  | some v=>exact U7_ v n n
theorem JJ_ (i j:Nat):Builtin.Slice.slicePlaces (i:Int) (j:Int) 1=j - i:=by
 unfold Builtin.Slice.slicePlaces
 have h1:(1:Int)>0:=by omega
 simp only [h1,if_true,Int.ediv_one]
 split<;>omega
theorem yg_ {v:Value} {o:Option Int} {Q:Option Int→Shared→Prop} (p:IsPart v o) (h:Q o s):wpAny (model prog w) A (Builtin.Slice.slicePartIndex v) Q E s:=by
 cases p with
 | none=>exact slicePart_none h
 | int i t=>exact slicePart_int h
theorem jA_ {sl:Addr} {vl vu:Value} {lo hi:Option Int} {n:Nat} {Q:Int×Int×Nat→Shared→Prop} (hs:s.heap.IsSliceOf sl vl vu .none) (pl:IsPart vl lo) (pu:IsPart vu hi)
  (h:Q (((sIx n 0 lo:Nat):Int),1,sIx n n hi - sIx n 0 lo) s):wpAny (model prog w) A (Builtin.Slice.sliceApplied (.ref sl) (pure (n:Int))) Q E s:=by
 obtain ⟨os,hos,hcs,hds⟩:=id hs
 unfold Builtin.Slice.sliceApplied Builtin.Slice.sliceFields
 refine wpAny_bind (wpAny_bind (wpAny_field hos hds (x:=vl) rfl (wpAny_bind (wpAny_field hos hds (x:=vu) rfl (wpAny_bind (wpAny_field hos hds (x:=.none) rfl (wpAny_pure ?_)))))))
 refine wpAny_bind (slicePart_none ?_)
 show wpAny _ _ (if ((1:Int)==0)=true then _ else _) _ _ s
 rw [if_neg (by decide)]
 refine wpAny_bind (yg_ pl (wpAny_bind (yg_ pu (wpAny_bind (wpAny_pure ?_)))))
 show wpAny _ _ (match Builtin.Slice.sliceAdjust lo hi 1 (n:Int) with|(lo,hi)=>pure (lo,(1:Int),Builtin.Slice.slicePlaces lo hi 1)) _ _ s
 rw [J5_ lo hi n]
 show wpAny _ _ (pure (((sIx n 0 lo:Nat):Int),(1:Int),Builtin.Slice.slicePlaces ((sIx n 0 lo:Nat):Int) ((sIx n n hi:Nat):Int) 1)) _ _ s
 rw [JJ_]
 exact wpAny_pure h
theorem YF_ (xs:Array Value) (i k:Nat):((List.range k).filterMap fun (m:Nat)=>xs[((i:Int)+(m:Int)*1).toNat]?).toArray=((xs.toList.drop i).take k).toArray:=by
 have e:(fun (m:Nat)=>xs[((i:Int)+(m:Int)*1).toNat]?)=fun m=>xs[i+m]?:=by
  funext m
  have:((i:Int)+(m:Int)*1).toNat=i+m:=by omega
  rw [this]
 rw [e]
 have:=pick_run xs i k
 rw [List.filterMap_map] at this
 have e2:((fun x=>xs[x]?)∘fun x=>i+x)=fun m=>xs[i+m]?:=rfl
 rw [e2] at this
 rw [this]
theorem getItem_tuple_cut {t sl:Addr} {items:Array Value} {vl vu:Value} {lo hi:Option Int} {Q:Value→Shared→Prop} (ht:IsTup s.heap t items) (hs:s.heap.IsSliceOf sl vl vu .none) (pl:IsPart vl lo) (pu:IsPart vu hi)
  (hw:¬ (sIx items.size 0 lo=0∧sIx items.size items.size hi=items.size))
  (h:Q (.ref s.heap.objs.size) { s with heap:=s.heap.push { cls:=.type "tuple",data:=.seq ((items.toList.drop (sIx items.size 0 lo)).take (sIx items.size items.size hi - sIx items.size 0 lo)).toArray } })
  (hsz:items.size≤sizeLine):wpAny (model prog w) A (getItem (.ref t) (.ref sl)) Q E s:=by
 have htake:sizeOk (.seq ((items.toList.drop (sIx items.size 0 lo)).take (sIx items.size items.size hi - sIx items.size 0 lo)).toArray):=by
  show ((items.toList.drop (sIx items.size 0 lo)).take (sIx items.size items.size hi - sIx items.size 0 lo)).toArray.size≤sizeLine
  rw [List.size_toArray,List.length_take,List.length_drop,Array.length_toList]
  omega
 have hj:sIx items.size items.size hi≤items.size:=VF_ _ _ (Nat.le_refl _) hi
 obtain ⟨os,hos,hcs,hds⟩:=id hs
 have hTs:s.TypeIs (.ref sl) "slice":=⟨os,hos,hcs⟩
 unfold getItem
 try with_reducible refine wpAny_holding ?_
 first|refine wpAny_bind (wpAny_pure ?_)|skip
 refine wpAny_bind (wpAny_sequenceKey ht.typeIs (by decide) ?_)
 refine wpAny_bind (wpAny_callSpecial?_slot (name:=Str.ofString "__getitem__") ht.typeIs PyProof.Rows.slot_tuple_getitem
  (wpAny_call_entry PyProof.Rows.slot_tuple_getitem ht.typeIs entry_tuple_getitem ?_ (args_tuple_getitem _ _)))
 show wpAny _ _ (Builtin.Tuple.tupleItemsOf (.ref t) >>= _) _ _ s
 refine wpAny_bind (tupleItemsOf_ ht ?_)
 refine wpAny_bind (wpAny_typeOf hTs ?_)
 rw [if_pos (by decide)]
 refine wpAny_bind (jA_ hs pl pu ?_)
 have hno:¬ ((((sIx items.size 0 lo:Nat):Int)==0&&(1:Int)==1&&(sIx items.size items.size hi - sIx items.size 0 lo)==items.size)=true):=by
  intro q
  rw [Bool.and_eq_true,Bool.and_eq_true] at q
  have q1:((sIx items.size 0 lo:Nat):Int)=0:=eq_of_beq q.1.1
  have q2:sIx items.size items.size hi - sIx items.size 0 lo=items.size:=eq_of_beq q.2
  exact hw ⟨by omega,by omega⟩
 show wpAny _ _ (if (((sIx items.size 0 lo:Nat):Int)==0&&(1:Int)==1&&(sIx items.size items.size hi - sIx items.size 0 lo)==items.size)=true then _ else _) _ _ s
 rw [if_neg hno,YF_]
 first
  | exact wpAny_bind (m:=Builtin.Tuple.tupleExact _) (wpAny_newObj_type (wpAny_pure ⟨_,rfl,wpAny_pure h⟩) htake)
  | exact wpAny_bind (m:=Builtin.Tuple.tupleExact _) (wpAny_newObj_type (wpAny_bind (wpAny_pure (wpAny_pure ⟨_,rfl,wpAny_pure h⟩))) htake)
  | exact wpAny_bind (wpAny_bind (m:=Builtin.Tuple.tupleExact _) (wpAny_newObj_type (wpAny_pure (wpAny_pure ⟨_,rfl,wpAny_pure h⟩)) htake))
  | exact wpAny_bind (wpAny_bind (m:=Builtin.Tuple.tupleExact _) (wpAny_newObj_type (wpAny_pure ⟨_,rfl,wpAny_pure h⟩) htake))
end
end HT
namespace L2
open PySem PySem.Spec PyProof.Rows
abbrev TO:=St→Hp→(Option Int→Hp→Prop)→Prop
def PO (X:Cx) (e:Option Expr) (t:TO):Prop :=
 ∀ (pins:List (Addr×Obj)) (s:Shared) (σ:St) (H:Hp) (Q:Option Int→Hp→Prop),Inv X pins σ H s→t σ H Q →
  wpAny (model X.prog X.w) X.A (evalPart e X.env) (fun u s'=>∃ o H',Inv X pins σ H' s'∧IsPart u o∧Q o H') X.xe s
def QE_:TO:=fun _ H Q=>Q none H
def WY_ (t:TE):TO:=fun σ H Q=>t σ H fun x H1=>∃ i,x=.int i∧Q (some i) H1
theorem intsAre_of {ns:List Int}:∀ {us:List Value},Vals (ns.map V.int) us→IntsAre us ns:=by
 induction ns with
 | nil=>intro us r;rw [List.map_nil] at r;cases r;exact .nil
 | cons n ns ih =>
  intro us r
  rw [List.map_cons] at r
  cases r with
  | cons r1 r2 =>
   obtain ⟨t,e⟩:=r1
   subst e
   exact .cons n t (ih r2)
section
variable {X:Cx} {e:Expr} {te:TE} {lo hi:Option Expr} {tl th:TO} {pos p2:Pos}
theorem QZ_:PO X none QE_:=by
 intro pins s σ H Q I h
 rw [evalPart_none]
 exact wpAny_pure ⟨none,H,I,.none,h⟩
theorem QY_ (h:PE X e te):PO X (some e) (WY_ te):=by
 intro pins s σ H Q I hw
 rw [evalPart_some]
 refine thn (h pins s σ H _ I hw) fun u s1 ⟨x,H1,I1,r1,q1⟩=>?_
 obtain ⟨i,rfl,q⟩:=q1
 obtain ⟨t,rfl⟩:=r1
 exact ⟨some i,H1,I1,.int i t,q⟩
def SlR (X:Cx) (r:V→Option Int→Option Int→Hp→VK→Prop):Prop :=
 ∀ (pins:List (Addr×Obj)) (s:Shared) (σ:St) (H:Hp) (x:V) (v vl vu:Value) (lo hi:Option Int) (sl:Addr) (Q:VK),Inv X pins σ H s→RelV x v→s.heap.IsSliceOf sl vl vu .none→IsPart vl lo→IsPart vu hi→r x lo hi H Q →
  ∃ T id,typeLookup (.type T) "__getitem__" = pure (some (.builtin id))∧s.TypeIs v T∧wpAny (model X.prog X.w) X.A (getItem v (.ref sl)) (EP X pins σ Q) X.xe s
theorem SlR.or {r r':V→Option Int→Option Int→Hp→VK→Prop} (h:SlR X r) (h':SlR X r'):SlR X (fun x lo hi H Q=>r x lo hi H Q∨r' x lo hi H Q):=by
 intro pins s σ H x v vl vu lo hi sl Q I rx hs pl pu q
 rcases q with q|q
 ·exact h pins s σ H x v vl vu lo hi sl Q I rx hs pl pu q
 ·exact h' pins s σ H x v vl vu lo hi sl Q I rx hs pl pu q
def tSl (r:V→Option Int→Option Int→Hp→VK→Prop) (te:TE) (tl th:TO):TE:=fun σ H Q=>te σ H fun x H1=>tl σ H1 fun l H2=>th σ H2 fun u H3=>r x l u H3 Q
theorem YH_ {r:V→Option Int→Option Int→Hp→VK→Prop} (hr:SlR X r) (he:PE X e te) (hl:PO X lo tl) (hu:PO X hi th):PE X (.Subscript e (.Slice lo hi none p2) pos) (tSl r te tl th):=by
 intro pins s σ H Q I h
 refine Subscript_ (thn (he pins s σ H _ I h) fun v s1 ⟨x,H1,I1,r1,q1⟩=>?_)
 refine wpAny_Slice (thn (hl pins s1 σ H1 _ I1 q1) fun vl s2 ⟨l,H2,I2,pl,q2⟩=>thn (hu pins s2 σ H2 _ I2 q2) fun vu s3 ⟨u,H3,I3,pu,q3⟩=>?_)
 rw [evalPart_none]
 refine wpAny_pure ?_
 have I4:Inv X pins σ H3 { s3 with heap:=s3.heap.push { cls:=.type "slice",data:=.fields #[vl,vu,.none] } }:=I3.kept (t':=s3.toks) fun b ob q=>Heap.get?_push_of_some _ q
 obtain ⟨T,id,hT,ht,hg⟩:=hr pins { s3 with heap:=s3.heap.push { cls:=.type "slice",data:=.fields #[vl,vu,.none] } } σ H3 x v vl vu l u s3.heap.objs.size Q I4 r1 (Heap.IsSliceOf.new ..) pl pu q3
 show wpAny (model X.prog X.w) X.A (subscriptTail e (.Slice lo hi none p2) v (.ref s3.heap.objs.size)) (EP X pins σ Q) X.xe { s3 with heap:=s3.heap.push { cls:=.type "slice",data:=.fields #[vl,vu,.none] } }
 exact tail_any (ops:=[.ref s3.heap.objs.size,v]) ht hT hg (by with_unfolding_all rfl)
def cutV (xs:List V) (lo hi:Option Int):List V:=(xs.drop (HT.sIx xs.length 0 lo)).take (HT.sIx xs.length xs.length hi - HT.sIx xs.length 0 lo)
theorem uY_ (xs:List V) (lo hi:Option Int):(cutV xs lo hi).length≤xs.length:=by
 unfold cutV
 rw [List.length_take,List.length_drop]
 omega
def rSlT (K:PySem.W.Frag):V→Option Int→Option Int→Hp→VK→Prop:=fun x lo hi H Q=>∃ a xs,x=.ref a∧SqT K H a xs ∧
 ¬ (HT.sIx xs.length 0 lo=0∧HT.sIx xs.length xs.length hi=xs.length)∧∀ p,H p=none→Q (.ref p) (upd H p (.tup (cutV xs lo hi)))
theorem sl_tup:SlR X (rSlT X.K):=by
 intro pins s σ H x v vl vu lo hi sl Q I rx hs pl pu h
 obtain ⟨a,xs,rfl,hx,hw,q⟩:=h
 cases rx
 obtain ⟨its,r,ht,hz⟩:=I.tuple hx
 have hlen:its.toArray.size=xs.length:=by rw [List.size_toArray];exact r.length.symm
 refine ⟨"tuple",_,PyProof.Rows.slot_tuple_getitem.lookup,ht.typeIs,?_⟩
 refine HT.getItem_tuple_cut ht hs pl pu (by rw [hlen];exact hw) ?_ (by rw [hlen];exact hz)
 rw [hlen]
 refine ⟨.ref s.heap.objs.size,_,I.laid (t':=s.toks) (o:=.tup (cutV xs lo hi)) (fun b ob q=>Heap.get?_push_of_some _ q) (Nat.le_refl _) ?_,rfl,q _ (I.hok.fresh (Nat.le_refl _))⟩
 exact ⟨Nat.le_trans (uY_ xs lo hi) hz,_,(r.drop (HT.sIx xs.length 0 lo)).take (HT.sIx xs.length xs.length hi - HT.sIx xs.length 0 lo),IsTup.new _ _,TupN.new _ _⟩
def Xf_ (K:PySem.W.Frag):R2:=fun x y H Q=>∃ a b xs ys,x=.ref a∧y=.ref b∧SqT K H a xs∧SqT K H b ys∧xs≠[]∧xs.length+ys.length≤sizeLine ∧
 (ys=[]→Q (.ref a) H)∧(ys≠[]→∀ p,H p=none→Q (.ref p) (upd H p (.tup (xs++ys))))
theorem Vals.nil_iff {xs:List V} {us:List Value} (r:Vals xs us):us=[]↔xs=[]:=by
 cases r with
 | nil=>simp
 | cons _ _=>simp
theorem Q4_:OpR X (binaryOp .Add) (Xf_ X.K):=by
 intro pins s σ H x y v u Q I rx ry h
 obtain ⟨a,b,xs,ys,rfl,rfl,ha,hb,hx,hz,q1,q2⟩:=h
 cases rx
 cases ry
 obtain ⟨its,r1,p1,_⟩:=I.tuple ha
 obtain ⟨its2,r2,p2,_⟩:=I.tuple hb
 refine HT.cat_tup p1 p2 (fun z=>hx (r1.nil_iff.mp z)) (fun z=>⟨.ref a,H,I,rfl,q1 (r2.nil_iff.mp z)⟩) (fun z=>?_) (by rw [←r1.length,←r2.length];exact hz)
 refine ⟨.ref s.heap.objs.size,_,I.laid (t':=s.toks) (o:=.tup (xs++ys)) (fun b ob q=>Heap.get?_push_of_some _ q) (Nat.le_refl _) ?_,rfl,q2 (fun w=>z (r2.nil_iff.mpr w)) _ (I.hok.fresh (Nat.le_refl _))⟩
 exact ⟨by rw [List.length_append];exact hz,_,r1.append r2,IsTup.new _ _,TupN.new _ _⟩
end
end L2
namespace L2
open PySem PySem.Spec PyProof.Rows
def ixN (n:Nat) (i:Int):Option Nat:=if 0≤i then (if i<n then some i.toNat else none) else if -(n:Int)≤i then some (i+n).toNat else none
def atI {α:Type} (xs:List α) (i:Int):Option α:=(ixN xs.length i).bind fun j=>xs[j]?
theorem UL_ {n:Nat} {i:Int} {j:Nat} (h:ixN n i=some j):seqIndex? i n=some j∧j<n ∧ -(n:Int)≤i∧i<n:=by
 unfold ixN at h
 by_cases h0:0≤i
 ·rw [if_pos h0] at h
  by_cases h1:i<n
  ·rw [if_pos h1] at h
   have e:i.toNat=j:=Option.some.inj h
   exact ⟨by rw [seqIndex_of h0 h1,e],by omega,by omega,h1⟩
  ·rw [if_neg h1] at h;cases h
 ·rw [if_neg h0] at h
  by_cases h1 : -(n:Int)≤i
  ·rw [if_pos h1] at h
   have e:(i+n).toNat=j:=Option.some.inj h
   exact ⟨by rw [seqIndex_neg (by omega) h1,e],by omega,h1,by omega⟩
  ·rw [if_neg h1] at h;cases h
theorem ZY_ {α:Type} {xs:List α} {i:Int} {v:α} (h:atI xs i=some v):∃ j,seqIndex? i xs.length=some j∧xs[j]? = some v∧j<xs.length ∧ -(xs.length:Int)≤i∧i<xs.length:=by
 unfold atI at h
 cases e:ixN xs.length i with
 | none=>rw [e] at h;cases h
 | some j =>
  rw [e] at h
  obtain ⟨h1,h2,h3,h4⟩:=UL_ e
  exact ⟨j,h1,h,h2,h3,h4⟩
def Yo_ (b:Expr):Prop:=∀ o i,subscripted b false o i=operate [o,i] (getItem o i)
def IxR (X:Cx) (r:R2):Prop :=
 ∀ (value slice:Expr) (pins:List (Addr×Obj)) (s:Shared) (σ:St) (H:Hp) (x y:V) (v u:Value) (Q:VK),Inv X pins σ H s→RelV x v→RelV y u→r x y H Q →
  subscripted slice false v u=operate [v,u] (getItem v u)→wpAny (model X.prog X.w) X.A (subscriptTail value slice v u) (EP X pins σ Q) X.xe s
def MtR (X:Cx) (id:String) (r:V→List V→Hp→VK→Prop):Prop :=
 ∀ (pins:List (Addr×Obj)) (s:Shared) (σ:St) (H:Hp) (x:V) (xs:List V) (v:Value) (us:List Value) (Q:VK),Inv X pins σ H s→RelV x v→Vals xs us→r x xs H Q →
  wpAny (model X.prog X.w) X.A (call (.builtin id) (v::us)) (EP X pins σ Q) X.xe s
section
variable {X:Cx} {a b:Expr} {ta tb:TE} {pos:Pos}
theorem IxR.or {r r':R2} (h:IxR X r) (h':IxR X r'):IxR X (fun x y H Q=>r x y H Q∨r' x y H Q):=by
 intro value slice pins s σ H x y v u Q I rx ry q hs
 rcases q with q|q
 ·exact h value slice pins s σ H x y v u Q I rx ry q hs
 ·exact h' value slice pins s σ H x y v u Q I rx ry q hs
theorem Xi_ {r:R2} (hr:IxR X r) (ha:PE X a ta) (hb:PE X b tb) (hs:Yo_ b):PE X (.Subscript a b pos) (tOp r ta tb):=by
 intro pins s σ H Q I h
 exact Subscript_ (binT ha hb I h fun v u s2 x y H2 I2 rx ry q=>hr a b pins s2 σ H2 x y v u Q I2 rx ry q (hs _ _))
def rIxL (K:PySem.W.Frag):R2:=fun x y H Q=>∃ p xs i v,x=.ref p∧y=.int i∧SqL K H p xs∧atI xs i=some v∧Q v H
def rIxT (K:PySem.W.Frag):R2:=fun x y H Q=>∃ p xs i v,x=.ref p∧y=.int i∧SqT K H p xs∧atI xs i=some v∧Q v H
def rIxS:R2:=fun x y H Q=>∃ z i c,x=.str z∧y=.int i∧z.length≤sizeLine∧atI z.cps.toList i=some c∧Q (.str ⟨#[c]⟩) H
theorem ix_list:IxR X (rIxL X.K):=by
 intro value slice pins s σ H x y v u Q I rx ry h hs
 obtain ⟨p,xs,i,z,rfl,rfl,hq,he,q⟩:=h
 cases rx
 obtain ⟨t,rfl⟩:=ry
 obtain ⟨its,r,pl,hz⟩:=I.list hq
 obtain ⟨j,h1,h2,h3,h4,h5⟩:=ZY_ he
 obtain ⟨w,ew,rw'⟩:=r.get h2
 have hl:=r.length
 have hn:=yo_
 have fin:EP X pins σ Q w s:=⟨z,H,I,rw',q⟩
 by_cases h0:0≤i
 ·have hj:i.toNat=j:=by
   rw [seqIndex_of h0 h5] at h1
   exact Option.some.inj h1
  exact item_listR pl.isList h0 (by omega) (by rw [hj];simpa using ew) fin hs
 ·have hj:(i+(its.toArray.size:Int)).toNat=j:=by
   rw [seqIndex_neg (by omega) h4] at h1
   rw [List.size_toArray,←hl]
   exact Option.some.inj h1
  exact subscriptTail_builtinR (x:=w) pl.isList.typeIs slot_list_getitem.lookup
   (wpAny_getItem_list_neg (Q:=fun r s'=>r=w∧EP X pins σ Q r s') pl.isList (by omega) (by rw [List.size_toArray]<;>omega) (by omega) (by rw [hj];simpa using ew) ⟨rfl,fin⟩) hs
theorem ix_tup:IxR X (rIxT X.K):=by
 intro value slice pins s σ H x y v u Q I rx ry h hs
 obtain ⟨p,xs,i,z,rfl,rfl,hq,he,q⟩:=h
 cases rx
 obtain ⟨t,rfl⟩:=ry
 obtain ⟨its,r,pl,hz⟩:=I.tuple hq
 obtain ⟨j,h1,h2,h3,h4,h5⟩:=ZY_ he
 obtain ⟨w,ew,rw'⟩:=r.get h2
 have hl:=r.length
 have hn:=yo_
 have fin:EP X pins σ Q w s:=⟨z,H,I,rw',q⟩
 exact subscriptTail_builtinR (x:=w) pl.typeIs slot_tuple_getitem.lookup
  (getItem_tuple (j:=j) (Q:=fun r s'=>r=w∧EP X pins σ Q r s') pl (by omega) (by omega) (by rw [List.size_toArray,←hl];exact h1) (by simpa using ew) ⟨rfl,fin⟩) hs
theorem WB_:IxR X rIxS:=by
 intro value slice pins s σ H x y v u Q I rx ry h hs
 obtain ⟨z,i,c,rfl,rfl,hz,he,q⟩:=h
 obtain ⟨t,rfl⟩:=rx
 obtain ⟨t',rfl⟩:=ry
 obtain ⟨j,h1,h2,h3,h4,h5⟩:=ZY_ he
 have hl:z.cps.toList.length=z.length:=by simp [Str.length]
 rw [hl] at h1 h4 h5
 have hn:=yo_
 exact tail_any (typeIs_str s z t) slot_str_getitem.lookup (getItem_str (c:=c) (by
  have e1:decide (i < -(2^63:Int))=false:=decide_eq_false (by omega)
  have e2:decide (i≥2^63)=false:=decide_eq_false (by omega)
  rw [e1,e2,Bool.or_false]) (by rw [h1];simpa using h2) ⟨.str ⟨#[c]⟩,H,I.tok _,⟨_,rfl⟩,q⟩) hs
def rIx (K:PySem.W.Frag):R2:=fun x y H Q=>rIxL K x y H Q∨rIxT K x y H Q∨rIxS x y H Q
theorem WC_:IxR X (rIx X.K):=ix_list.or (ix_tup.or WB_)
theorem JS_ (its:List Value) (n j:Nat) (u:Value):Obj.mapSeq (·.setIfInBounds j u) { cls:=.type "list",data:=.seq its.toArray n }={ cls:=.type "list",data:=.seq (its.set j u).toArray n }:=by
 simp [Obj.mapSeq]
theorem Inv.lst {pins:List (Addr×Obj)} {σ:St} {H:Hp} {s:Shared} {p:Addr} {xs:List V} (I:Inv X pins σ H s) (h:H p=some (.lst xs)) :
  ∃ (its:List Value) (n:Nat),Vals xs its∧s.heap.get? p=some { cls:=.type "list",data:=.seq its.toArray n }∧xs.length≤sizeLine:=by
 obtain ⟨z,its,n,r,e⟩:=I.hok p _ h
 exact ⟨its,n,r,e,z⟩
theorem Inv.lstUpd {pins:List (Addr×Obj)} {σ:St} {H:Hp} {s:Shared} {p:Addr} {xs ys:List V} {its its':List Value} {n n':Nat} {f:Obj→Obj} (I:Inv X pins σ H s) (h:H p=some (.lst xs))
  (ho:s.heap.get? p=some { cls:=.type "list",data:=.seq its.toArray n }) (hf:f { cls:=.type "list",data:=.seq its.toArray n }={ cls:=.type "list",data:=.seq its'.toArray n' }) (r:Vals ys its') (hz:ys.length≤sizeLine) (t:Nat) :
  Inv X pins σ (upd H p (.lst ys)) { s with heap:=s.heap.update p f,toks:=t }:=by
 have e:(s.heap.update p f).get? p=some { cls:=.type "list",data:=.seq its'.toArray n' }:=by
  rw [Heap.get?_update_self f ho (by rw [hf]<;>rfl),hf]
 refine I.write (x:=p) (e:=p) (by rw [h];trivial) (.inl rfl) (fun b u hb q=>(Heap.get?_update_other _ _ (Ne.symm hb)).trans q) ⟨_,e⟩ ?_
 exact ⟨hz,its',n',r,e⟩
def Xc_:V→V→V→Hp→(Hp→Prop)→Prop:=fun o i v H Q=>∃ p xs k j,o=.ref p∧i=.int k∧H p=some (.lst xs)∧ixN xs.length k=some j∧Q (upd H p (.lst (xs.set j v)))
theorem set_list:PSet X Xc_:=by
 intro pins s σ H o i v ov iv u Q I ro ri rv h
 obtain ⟨p,xs,k,j,rfl,rfl,hp,hj,q⟩:=h
 cases ro
 obtain ⟨t,rfl⟩:=ri
 obtain ⟨its,n,r,ho,hz⟩:=I.lst hp
 obtain ⟨h1,h2,h3,h4⟩:=UL_ hj
 have hl:=r.length
 have hn:=yo_
 have I':Inv X pins σ (upd H p (.lst (xs.set j v))) { s with heap:=s.heap.update p (Obj.mapSeq (·.setIfInBounds j u)) } :=
  I.lstUpd hp ho (JS_ its n j u) (r.set rv j) (by rw [List.length_set];exact hz) s.toks
 by_cases h0:0≤k
 ·have hk:k.toNat=j:=by
   rw [seqIndex_of h0 h4] at h1
   exact Option.some.inj h1
  exact PySem.W.ki_setAt ho h0 (by omega) (by rw [List.size_toArray,←hl];exact h4) (by rw [hk];exact ⟨_,I',q⟩)
 ·have hk:(k+(its.toArray.size:Int)).toNat=j:=by
   rw [seqIndex_neg (by omega) h3] at h1
   rw [List.size_toArray,←hl]
   exact Option.some.inj h1
  exact PySem.W.ki_setBack ho (by omega) (by rw [List.size_toArray,←hl];exact h3) (by omega) (by rw [hk];exact ⟨_,I',q⟩)
theorem y6_ (lo hi:Option Int) (n:Nat):(sliceBounds lo hi none n).1=((HT.sIx n 0 lo:Nat):Int)∧(sliceBounds lo hi none n).2.1=((HT.sIx n n hi:Nat):Int)∧(sliceBounds lo hi none n).2.2=1:=by
 refine ⟨?_,?_,rfl⟩
 ·cases lo with
  | none=>simp [sliceBounds,HT.sIx]
  | some i =>
   simp only [sliceBounds,HT.sIx,Option.getD_none,show (1:Int)>0 by decide,if_true]
   by_cases h:i<0
   ·simp only [h,if_true]<;>omega
   ·simp only [h,if_false]<;>omega
 ·cases hi with
  | none=>simp [sliceBounds,HT.sIx]
  | some i =>
   simp only [sliceBounds,HT.sIx,Option.getD_none,show (1:Int)>0 by decide,if_true]
   by_cases h:i<0
   ·simp only [h,if_true]<;>omega
   ·simp only [h,if_false]<;>omega
theorem yA_ (its:List Value) (lo hi:Option Int):slicePick its.toArray lo hi none=((its.drop (HT.sIx its.length 0 lo)).take (HT.sIx its.length its.length hi - HT.sIx its.length 0 lo)).toArray:=by
 obtain ⟨h1,h2,h3⟩:=y6_ lo hi its.toArray.size
 unfold slicePick
 rw [h1,h2,h3]
 simp only [sliceRange_one,pick_run,List.size_toArray]<;>rfl
def rSlL (K:PySem.W.Frag):V→Option Int→Option Int→Hp→VK→Prop:=fun x lo hi H Q=>∃ a xs,x=.ref a∧SqL K H a xs∧∀ p,H p=none→Q (.ref p) (upd H p (.lst (cutV xs lo hi)))
theorem QI_:SlR X (rSlL X.K):=by
 intro pins s σ H x v vl vu lo hi sl Q I rx hs pl pu h
 obtain ⟨a,xs,rfl,hx,q⟩:=h
 cases rx
 obtain ⟨its,r,ht,hz⟩:=I.list hx
 have hlen:=r.length
 refine ⟨"list",_,slot_list_getitem.lookup,ht.isList.typeIs,?_⟩
 refine wpAny_getItem_list_slice ht.isList hs pl pu .none (by simp) ?_ (by rw [List.size_toArray]<;>omega)
 rw [yA_,←hlen]
 refine ⟨.ref s.heap.objs.size,_,I.laid (t':=s.toks) (o:=.lst (cutV xs lo hi)) (fun b ob q=>Heap.get?_push_of_some _ q) (Nat.le_refl _) ?_,rfl,q _ (I.hok.fresh (Nat.le_refl _))⟩
 exact ⟨Nat.le_trans (uY_ xs lo hi) hz,_,0,(r.drop (HT.sIx xs.length 0 lo)).take (HT.sIx xs.length xs.length hi - HT.sIx xs.length 0 lo),Heap.get?_push_size _ rfl⟩
theorem Zx_:CallR X (.builtin "len") (fun xs H Q=>∃ p ys,xs=[.ref p]∧(SqL X.K H p ys∨SqT X.K H p ys)∧Q (.int ys.length) H):=by
 intro pins s σ H xs us Q I r h
 obtain ⟨p,ys,rfl,hq,q⟩:=h
 obtain ⟨u,rfl,rx⟩:=vals1 r
 cases rx
 have hn:=yo_
 rcases hq with hq|hq
 ·obtain ⟨its,r',pl,hz⟩:=I.list hq
  have hlen:=r'.length
  exact Calls.call_len_list pl.isList (by simp only [List.size_toArray]<;>omega) ⟨.int ys.length,H,I.tok _,⟨s.toks+1,by rw [List.size_toArray,hlen]⟩,q⟩
 ·obtain ⟨its,r',pl,hz⟩:=I.tuple hq
  have hlen:=r'.length
  exact len_tuple pl (by simp only [List.size_toArray]<;>omega) ⟨.int ys.length,H,I.tok _,⟨s.toks+1,by rw [List.size_toArray,hlen]⟩,q⟩
theorem Zw_:CallR X (.builtin "len") (fun xs H Q=>∃ z,xs=[.str z]∧z.length≤sizeLine∧Q (.int z.length) H):=by
 intro pins s σ H xs us Q I r h
 obtain ⟨z,rfl,hz,q⟩:=h
 obtain ⟨u,rfl,t,rfl⟩:=vals1 r
 have hn:=yo_
 exact len_str (by omega) ⟨.int z.length,H,I.tok _,⟨_,rfl⟩,q⟩
theorem CallR.or {f:Value} {r r':List V→Hp→VK→Prop} (h:CallR X f r) (h':CallR X f r'):CallR X f (fun xs H Q=>r xs H Q∨r' xs H Q):=by
 intro pins s σ H xs us Q I rs q
 rcases q with q|q
 ·exact h pins s σ H xs us Q I rs q
 ·exact h' pins s σ H xs us Q I rs q
theorem uA_:CallR X (.type "list") (fun xs H Q=>∃ p ys,xs=[.ref p]∧(SqL X.K H p ys∨SqT X.K H p ys)∧∀ l,H l=none→Q (.ref l) (upd H l (.lst ys))):=by
 intro pins s σ H xs us Q I r h
 obtain ⟨p,ys,rfl,hq,q⟩:=h
 obtain ⟨u,rfl,rx⟩:=vals1 r
 cases rx
 have fin:∀ (its:List Value),Vals ys its→ys.length≤sizeLine→∀ (h':Heap) (c':Nat),(∀ b o',s.heap.get? b=some o'→h'.get? b=some o') →
   h'.get? s.heap.objs.size=some { cls:=.type "list",dict:=none,data:=.seq its.toArray c',slots:=#[] }→EP X pins σ Q (.ref s.heap.objs.size) { s with heap:=h' }:=fun its r' hz h' c' kp e =>
  ⟨.ref s.heap.objs.size,_,I.laid (t':=s.toks) kp (Nat.le_refl _) (show ObjOk X.prog X.w _ h' _ (.lst ys) from ⟨hz,its,c',r',e⟩),rfl,q _ (I.hok.fresh (Nat.le_refl _))⟩
 rcases hq with hq|hq
 ·obtain ⟨its,r',pl,hz⟩:=I.list hq
  have hlen:=r'.length
  obtain ⟨o,ho,hc,n,hd⟩:=pl.isList
  exact call_list_seq p (.inl rfl) ho hc hd (fun h' c' kp e=>fin its r' hz h' c' kp e) (by simp only [List.size_toArray]<;>omega)
 ·obtain ⟨its,r',pl,hz⟩:=I.tuple hq
  have hlen:=r'.length
  obtain ⟨o,ho,hc,n,hd⟩:=pl
  exact call_list_seq p (.inr rfl) ho hc hd (fun h' c' kp e=>fin its r' hz h' c' kp e) (by simp only [List.size_toArray]<;>omega)
theorem j9_:CallR X (.type "tuple") (fun xs H Q=>∃ p ys,xs=[.ref p]∧((SqL X.K H p ys∧∀ l,H l=none→Q (.ref l) (upd H l (.tup ys)))∨(SqT X.K H p ys∧Q (.ref p) H))):=by
 intro pins s σ H xs us Q I r h
 obtain ⟨p,ys,rfl,h⟩:=h
 obtain ⟨u,rfl,rx⟩:=vals1 r
 cases rx
 rcases h with ⟨hq,q⟩|⟨hq,q⟩
 ·obtain ⟨its,r',pl,hz⟩:=I.list hq
  have hlen:=r'.length
  refine call_tuple_list pl.isList (fun h' kp=>?_) (by simp only [List.size_toArray]<;>omega)
  have I1:Inv X pins σ H { s with heap:=h' }:=I.kept (t':=s.toks) kp
  have I2:Inv X pins σ (upd H h'.objs.size (.tup ys)) { s with heap:=h'.push { cls:=.type "tuple",data:=.seq its.toArray } } :=
   I1.laid (t':=s.toks) (fun b o e=>Heap.get?_push_of_some _ e) (Nat.le_refl _) (show ObjOk X.prog X.w _ _ _ (.tup ys) from ⟨hz,its,r',IsTup.new _ _,TupN.new _ _⟩)
  exact ⟨.ref h'.objs.size,_,I2,rfl,q _ (I1.hok.fresh (Nat.le_refl _))⟩
 ·obtain ⟨its,r',pl,hz⟩:=I.tuple hq
  exact call_tuple_same pl ⟨.ref p,H,I,rfl,q⟩
def tyV (K:PySem.W.Frag) (T:String) (x:V) (H:Hp):Prop:=match x with
 | .str _=>T = "str"
 | .int _=>T = "int"
 | .ref p=>(T = "list" ∧ ∃ xs,SqL K H p xs)∨(T = "tuple" ∧ ∃ o,K.lookup p=some o∧o.cls=.type "tuple" ∧ o.dict=none) ∨
   (T = "dict" ∧ ((∃ kvs,H p=some (.dK kvs))∨∃ kvs,H p=some (.dT kvs)))∨(T = "set" ∧ ∃ S n,H p=some (.set S n))
 | _=>False
theorem Qb_ {pins:List (Addr×Obj)} {σ:St} {H:Hp} {s:Shared} {T:String} {x:V} {v:Value} (I:Inv X pins σ H s) (r:RelV x v) (ty:tyV X.K T x H) :
  s.TypeIs v T∧∀ a,v=.ref a→∃ ob,s.heap.get? a=some ob∧ob.dict=none:=by
 cases x with
 | str z =>
  obtain ⟨t,rfl⟩:=r
  cases (show T = "str" from ty)
  exact ⟨typeIs_str s z t,fun _ e=>nomatch e⟩
 | int i =>
  obtain ⟨t,rfl⟩:=r
  cases (show T = "int" from ty)
  exact ⟨typeIs_int s i t,fun _ e=>nomatch e⟩
 | ref p =>
  cases r
  rcases ty with ⟨rfl,xs,hq⟩|⟨rfl,o,hk,hc,hd⟩|⟨rfl,hk⟩|⟨rfl,S,n,hk⟩
  ·obtain ⟨its,_,pl,_⟩:=I.list hq
   refine ⟨pl.isList.typeIs,fun a e=>?_⟩
   cases e
   obtain ⟨o,n,e,c,hd,_⟩:=pl
   exact ⟨o,e,hd⟩
  ·refine ⟨⟨o,I.kIn p o hk,hc⟩,fun a e=>?_⟩
   cases e
   exact ⟨o,I.kIn _ o hk,hd⟩
  ·have z:∃ o,s.heap.get? p=some o∧o.ExactDict:=by
    rcases hk with ⟨kvs,hk⟩|⟨kvs,hk⟩
    ·obtain ⟨_,_,_,_,o,_,_,e,ex,_⟩:=I.hok p _ hk
     exact ⟨o,e,ex⟩
    ·obtain ⟨_,_,_,_,o,_,_,e,ex,_⟩:=I.hok p _ hk
     exact ⟨o,e,ex⟩
   obtain ⟨o,e,ex⟩:=z
   refine ⟨⟨o,e,ex.1⟩,fun a e2=>?_⟩
   cases e2
   exact ⟨o,e,ex.2.1⟩
  ·obtain ⟨o,_,_,_,e,ex,_⟩:=I.hok p _ hk
   refine ⟨⟨o,e,ex.1⟩,fun a e2=>?_⟩
   cases e2
   exact ⟨o,e,ex.2.1⟩
 | _=>exact False.elim ty
def tBM0 (K:PySem.W.Frag) (T:String) (r:V→List V→Hp→VK→Prop) (to:TE):TE:=fun σ H Q=>to σ H fun x H1=>tyV K T x H1∧r x [] H1 Q
def tBM (K:PySem.W.Frag) (T:String) (r:V→List V→Hp→VK→Prop) (to:TE) (t:TA):TE:=fun σ H Q=>to σ H fun x H1=>tyV K T x H1∧t σ H1 fun xs H2=>r x xs H2 Q
variable {o e:Expr} {es:List Expr} {to:TE} {t:TA} {name:Str} {apos cpos:Pos} {T id:String} {r:V→List V→Hp→VK→Prop}
theorem Qk_ (pa:PlainAttrs T) (slot:Slot T name id) (hty:typeOf (.builtin id)=pure (.type "method_descriptor")) (hm:MtR X id r) (ho:PE X o to)
  (hbase:attributeBase o name X.env (eval o X.env)=eval o X.env:=by rfl) (hline:(apos.endLine==cpos.line)=true:=by rfl):PE X (.Call (.Attribute o name apos) [] [] cpos) (tBM0 X.K T r to):=by
 intro pins s σ H Q I h
 refine wpAny_Call_method0_late hbase hline (thn (ho pins s σ H _ I h) fun v s1 ⟨x,H1,I1,r1,ty,q1⟩=>?_)
 obtain ⟨h1,h2⟩:=Qb_ I1 r1 ty
 exact ⟨T,id,pa,slot,hty,h1,h2,Calls.callWith_builtin rfl (PySem.evalArgs_none (hm pins s1 σ H1 x [] v [] Q I1 r1 .nil q1))⟩
theorem V0_ (pa:PlainAttrs T) (slot:Slot T name id) (hty:typeOf (.builtin id)=pure (.type "method_descriptor")) (hm:MtR X id r) (ho:PE X o to) (ha:PA X (e::es) t)
  (hbase:attributeBase o name X.env (eval o X.env)=eval o X.env:=by rfl)
  (hfew:((backTo cpos (starEach (e::es) X.env)).all (fun x=>!x.1)&&(backToKw cpos (keywordEach [] X.env)).all (fun x=>x.1.isSome)
   && decide ((e::es).length+([]:List Keyword).length+(if ([]:List Keyword).isEmpty then 0 else 1)<30))=true:=by rfl)
  (hline:(apos.endLine==cpos.line)=true:=by rfl) (hs:starEach (e::es) X.env=(false,eval e X.env)::starEach es X.env:=by rfl) (hplain:(backTo cpos (starEach es X.env)).any (·.1)=false:=by rfl) :
  PE X (.Call (.Attribute o name apos) (e::es) [] cpos) (tBM X.K T r to t):=by
 intro pins s σ H Q I h
 refine wpAny_Call_method_late hbase hfew hline rfl (thn (ho pins s σ H _ I h) fun v s1 ⟨x,H1,I1,r1,ty,q1⟩=>?_)
 obtain ⟨h1,h2⟩:=Qb_ I1 r1 ty
 refine ⟨T,id,pa,slot,hty,h1,h2,?_⟩
 have hA:=ha cpos pins s1 σ H1 _ I1 q1
 rw [hs] at hA ⊢
 refine Calls.callWith_builtin (by show (false||(backTo cpos (starEach es X.env)).any (·.1))=false;rw [hplain]<;>rfl) (Calls.evalArgs_plain ?_)
 exact thn hA fun us s2 ⟨vs,H2,I2,r2,q2⟩=>hm pins s2 σ H2 x vs v us Q I2 r1 r2 q2
end
end L2
namespace L2
open PySem PySem.Spec PyProof.Rows
def MtM (X:Cx) (id:String) (r:V→List V→Hp→VK→Prop):Prop :=
 ∀ (pins:List (Addr×Obj)) (s:Shared) (σ:St) (H:Hp) (x:V) (xs:List V) (v:Value) (us:List Value) (Q:VK),Inv X pins σ H s→RelV x v→Vals xs us→r x xs H Q →
  wpAny (model X.prog X.w) X.A (call (.builtin id) (v::us)) (EP X pins σ Q) X.xe s
theorem Vals.one:∀ {x:V} {us:List Value},Vals [x] us→∃ u,us=[u]∧RelV x u
 | _,_,.cons r .nil=>⟨_,rfl,r⟩
theorem Vals.zero:∀ {us:List Value},Vals [] us→us=[]
 | _,.nil=>rfl
theorem Vals.dropLast {xs:List V} {us:List Value} (h:Vals xs us):Vals xs.dropLast us.dropLast:=by
 induction h with
 | nil=>exact .nil
 | cons r t ih =>
  cases t with
  | nil=>exact .nil
  | cons q t'=>exact .cons r ih
theorem Vals.reverse {xs:List V} {us:List Value} (h:Vals xs us):Vals xs.reverse us.reverse:=by
 induction h with
 | nil=>exact .nil
 | cons r t ih=>rw [List.reverse_cons,List.reverse_cons];exact Vals.append ih (.cons r .nil)
theorem JW_ {α:Type} (l:List α):l.eraseIdx (l.length - 1)=l.dropLast:=by
 induction l with
 | nil=>rfl
 | cons a r ih =>
  cases r with
  | nil=>rfl
  | cons b r =>
   have e:(a::b::r).length - 1=((b::r).length - 1)+1:=by
    have h1:(a::b::r).length=r.length+2:=rfl
    have h2:(b::r).length=r.length+1:=rfl
    omega
   rw [e,List.eraseIdx_cons_succ,ih]
   all_goals rfl
section
variable {X:Cx} {pins:List (Addr×Obj)} {σ:St} {H:Hp} {s:Shared} {l b:Addr} {xs ys zs:List V}
theorem Inv.lset {its its':List Value} {n:Nat} {f:Array Value→Array Value} {t':Nat} (I:Inv X pins σ H s) (hH:H l=some (.lst xs))
  (e:s.heap.get? l=some { cls:=.type "list",data:=.seq its.toArray n }) (hf:f its.toArray=its'.toArray) (hv:Vals ys its') (hz:ys.length≤sizeLine) :
  Inv X pins σ (upd H l (.lst ys)) { s with heap:=s.heap.update l (Obj.mapSeq f),toks:=t' }:=by
 have q:=PySem.IsL.update e f
 rw [hf] at q
 refine I.write (x:=l) (e:=l) (by rw [hH];exact trivial) (.inl rfl) (fun b' u hb hu=>(Heap.get?_update_other s.heap (Obj.mapSeq f) (Ne.symm hb)).trans hu) ⟨_,q⟩ ?_
 exact ⟨hz,its',_,hv,q⟩
theorem Inv.lstM (I:Inv X pins σ H s) (hH:H l=some (.lst xs)):xs.length≤sizeLine∧∃ (its:List Value) (n:Nat),Vals xs its∧xs.length=its.length∧s.heap.get? l=some { cls:=.type "list",data:=.seq its.toArray n }:=by
 obtain ⟨z,its,n,r,e⟩:=I.hok l _ hH
 exact ⟨z,its,n,r,r.length,e⟩
theorem YL_ {n:Nat} (h:n≤sizeLine):Builtin.List.listTooLong n=false:=by
 unfold Builtin.List.listTooLong
 exact decide_eq_false (by omega)
end
section
variable {X:Cx}
def QS_:V→List V→Hp→VK→Prop:=fun x vs H Q=>∃ l xs y,x=.ref l∧vs=[y]∧H l=some (.lst xs)∧xs.length<sizeLine∧Q .non (upd H l (.lst (xs++[y])))
theorem Ur_:MtM X "list.append" QS_:=by
 intro pins s σ H x vs v us Q I rx rv h
 obtain ⟨l,xs,y,rfl,rfl,hH,hz,q⟩:=h
 cases rx
 obtain ⟨u,rfl,ru⟩:=rv.one
 obtain ⟨z,its,n,r,hl,e⟩:=I.lstM hH
 refine call_meets F.slot_list_append ⟨_,e,rfl⟩ F.entry_list_append (F.args_list_append_2 _ _) (PySem.list_append l its.toArray n u (by rw [List.size_toArray];omega)) ⟨e,?_⟩
 refine ⟨.non,_,I.lset (its':=its++[u]) hH e (by simp) (r.append (.cons ru .nil)) ?_,rfl,q⟩
 rw [List.length_append,List.length_singleton]
 omega
def QR_:V→List V→Hp→VK→Prop:=fun x vs H Q=>∃ l b xs zs,x=.ref l∧vs=[.ref b]∧H l=some (.lst xs)∧H b=some (.lst zs)∧xs.length+zs.length≤sizeLine∧Q .non (upd H l (.lst (xs++zs)))
theorem Uq_:MtM X "list.extend" QR_:=by
 intro pins s σ H x vs v us Q I rx rv h
 obtain ⟨l,b,xs,zs,rfl,rfl,hH,hB,hz,q⟩:=h
 cases rx
 obtain ⟨u,rfl,ru⟩:=rv.one
 cases ru
 obtain ⟨z,its,n,r,hl,e⟩:=I.lstM hH
 obtain ⟨z2,its2,n2,r2,hl2,e2⟩:=I.lstM hB
 have hsz:its.toArray.size+its2.toArray.size≤sizeLine:=by rw [List.size_toArray,List.size_toArray];omega
 have hlong:¬ (!its.toArray.isEmpty&&Builtin.List.listTooLong (its.toArray.size+its2.toArray.size))=true:=by
  rw [YL_ hsz,Bool.and_false]
  exact Bool.false_ne_true
 refine call_meets F.slot_list_extend ⟨_,e,rfl⟩ F.entry_list_extend (F.args_list_extend_2 _ _)
  (AutoSeq1.list_extend_list_list_0 l its.toArray n b its2.toArray n2 hlong (by rw [List.size_toArray];omega) (by omega)) ⟨e,e2,?_⟩
 refine ⟨.non,_,I.lset (its':=its++its2) hH e (by simp) (r.append r2) ?_,rfl,q⟩
 rw [List.length_append]
 omega
def rPop:V→List V→Hp→VK→Prop:=fun x vs H Q=>∃ l xs y,x=.ref l∧vs=[]∧H l=some (.lst xs)∧xs[xs.length - 1]? = some y∧Q y (upd H l (.lst xs.dropLast))
theorem Wk_:MtM X "list.pop" rPop:=by
 intro pins s σ H x vs v us Q I rx rv h
 obtain ⟨l,xs,y,rfl,rfl,hH,hy,q⟩:=h
 cases rx
 have hus:=rv.zero
 subst hus
 obtain ⟨z,its,n,r,hl,e⟩:=I.lstM hH
 obtain ⟨u,hu,ru⟩:=r.get hy
 have hy':its.toArray[its.toArray.size - 1]? = some u:=by
  show its.toArray[its.length - 1]? = some u
  rw [←Array.getElem?_toList,←hl]
  exact hu
 refine call_meets F.slot_list_pop ⟨_,e,rfl⟩ F.entry_list_pop (F.args_list_pop_1 _) (MeetsSeq.list_pop_last l its.toArray n u hy' (by rw [List.size_toArray];omega)) ⟨e,?_⟩
 refine ⟨y,_,I.lset (its':=its.dropLast) hH e ?_ r.dropLast ?_,ru,q⟩
 ·show its.toArray.eraseIdxIfInBounds (its.toArray.size - 1)=its.dropLast.toArray
  rw [List.size_toArray,List.eraseIdxIfInBounds_toArray,JW_]
 ·rw [List.length_dropLast]
  omega
def YC_:V→List V→Hp→VK→Prop:=fun x vs H Q=>∃ l xs,x=.ref l∧vs=[]∧H l=some (.lst xs)∧Q .non (upd H l (.lst xs.reverse))
theorem JL_:MtM X "list.reverse" YC_:=by
 intro pins s σ H x vs v us Q I rx rv h
 obtain ⟨l,xs,rfl,rfl,hH,q⟩:=h
 cases rx
 have hus:=rv.zero
 subst hus
 obtain ⟨z,its,n,r,hl,e⟩:=I.lstM hH
 refine call_meets F.slot_list_reverse ⟨_,e,rfl⟩ F.entry_list_reverse (F.args_list_reverse_1 _) (AutoSeq1.list_reverse_list_0 l its.toArray n (by rw [List.size_toArray];omega)) ⟨e,?_⟩
 refine ⟨.non,_,I.lset (its':=its.reverse) hH e (by simp) r.reverse ?_,rfl,q⟩
 rw [List.length_reverse]
 omega
end
end L2
namespace Att
open PySem PySem.W PySem.Calls PyProof.Rows
theorem uT_ {P:Params} {h:Heap}:∀ (ns:List Int) (vs:List Value),WellAll P h vs (ns.map WData.int)→IntsAre vs ns:=by
 intro ns
 induction ns with
 | nil =>
  intro vs w
  rw [List.map_nil] at w
  cases w
  exact .nil
 | cons n ns ih =>
  intro vs w
  rw [List.map_cons] at w
  cases w with
  | cons a b =>
   cases a
   exact .cons _ _ (ih _ b)
theorem Ue_ {l:OpenLaw} {n:Nat} (hn:l.most=some n) {P:Params} {h:Heap} {args:List WData} {vals:List Value}
  (hpre:l.row.toRowW.claim.pre args=true) (hwl:WellAll P h vals args) :
  ∃ a vs ns,vals=[Value.ref a]∧args=[WData.list (ns.map WData.int)]∧h.get? a=some { cls:=.type "list",data:=.seq vs.toArray }∧IntsAre vs ns∧ns.length≤n:=by
 have hsh:WShape.hasAll [] args [.list .int]=true:=(pre_splitW hpre).1
 have hc:l.pre.holds [] { args:=args }=true:=(pre_splitW hpre).2
 obtain ⟨d,r,rfl,h1,h2⟩:=hasAllW_cons hsh
 obtain rfl:=hasAllW_nil h2
 obtain ⟨xs,rfl,h3⟩:=hasW_list h1
 obtain ⟨ns,rfl⟩:=items_int h3
 have hlen:ns.length≤n:=by
  unfold OpenLaw.pre at hc
  have h4:(WTm.not (.lt (.lit (.int (n:Int))) (.len (.arg 0)))).holds [] { args:=[.list (ns.map .int)] }=true:=by
   have h4:=(holds_andW hc).1
   rw [hn] at h4
   exact h4
  have h5:=condW_of h4 (w_not (w_lt w_lit (w_len_list (w_arg rfl))))
  rw [List.length_map] at h5
  refine Nat.le_of_not_lt fun q=>?_
  have q':(n:Int)<((ns.length:Nat):Int):=by omega
  first
   | (rw [decide_eq_true q'] at h5;exact absurd h5 (by decide))
   | (simp at h5;omega)
 cases hwl with
 | cons w1 w2 =>
  cases w2
  cases w1 with
  | list ho hall=>exact ⟨_,_,ns,rfl,rfl,ho,uT_ ns _ hall,hlen⟩
theorem Ul_ (l:OpenLaw) (args:List WData):l.row.toRowW.claim.post args (.bool true) args=true :=
 postW_of (r:=l.row.toRowW) (X:=(true==true))
  (show WShape.has [] (.bool true) .bool=true by first|rfl|decide|simp [WShape.has,WShape.arms,WShape.armsAll])
  (show (WTm.eq .res (.lit (.bool true))).value [] { args:=args,res:=some (.bool true),after:=args }=some (.bool (true==true)) from w_eq_bool (w_res rfl) w_lit) rfl
theorem attach_call {l:OpenLaw} {n:Nat} {q:Program} {loose:List Str} {XP:(Str→Option Value)→Heap→Prop} {YP:World→Heap→Prop} {d:DefRec}
  (hn:l.most=some n) (hdf:d.params.defaults=[])
  (call:∀ (w:World) (s₀ s₁:Shared) (mg mb:Str→Option Value) (fa:Addr) (o:Obj) (pm cd doc:Value) (a:Addr) (vs:List Value) (ns:List Int),
   Ground q loose [] XP w s₀ mg mb s₁.heap→YP w s₁.heap →
   s₁.heap.get? fa=some o→o.data=.func (docDef d.name d.params d.body d.scope pm cd doc)→s₁.heap.CodeRec cd d.name→mg d.name=some (.ref fa) →
   s₁.heap.get? a=some { cls:=.type "list",data:=.seq vs.toArray }→IntsAre vs ns→ns.length≤n→s₁.gens = #[] →
   codeAny (model l.prog w) callerA (.call (.ref fa) ⟨[.ref a],[]⟩) (fun r s'=>r=.ok (.ret (.bool true))∧OldK s₁.heap s'.heap∧s'.os=s₁.os∧AllBare s'.gens) s₁) :
  WalkO q loose XP YP l.row.toRowW d [] (fun f vs=>PySem.call f vs):=by
 intro w s₀ s₁ mg mb G Y fa o pm cd doc dV kV ho hd hcd hD hmg hg args vals as hpre hlay hrd hwl hlo
 obtain rfl:dV=.none:=Dflts.none hD hdf
 obtain rfl:kV=.none:=Dflts.noKw hD
 obtain ⟨a,vs,ns,rfl,rfl,hobj,hints,hlen⟩:=Ue_ hn hpre hwl
 refine enter_call (codeAny_mono (call w s₀ s₁ mg mb fa o pm cd doc a vs ns G Y ho (fd_plain hd) hcd hmg hobj hints hlen hg) fun r s' hq=>?_)
 obtain ⟨rfl,h2,h3,h4⟩:=hq
 exact ⟨.inl ⟨.bool true,.bool true,[],rfl,fun _=>rfl,.bool true,Ul_ l _,fun _=>⟨List.Pairwise.nil,fun _ hm=>(nomatch hm)⟩⟩,h2,h3,h4⟩
end Att
namespace L2
open PySem PySem.Spec PyProof.Rows
theorem y1_:∀ {vs:List Value} {ns:List Int},IntsAre vs ns→Vals (ns.map V.int) vs
 | _,_,.nil=>.nil
 | _,_,.cons n t h=>.cons ⟨t,rfl⟩ (y1_ h)
def Only (H:Hp):Prop:=∀ b,H b=none∨∃ o xs,H b=some (.frz o (.lst xs))
theorem YR_ {P:Program} {w:World} {K:PySem.W.Frag} {mg mb:Str→Option Value} {CX:CXT} {k:Nat} {fa a:Addr} {fd:FuncData} {x:Str} {sp:Sp} {s₁:Shared} {vs:List Value} {ns:List Int}
  (KX:K.In s₁.heap) (hns:s₁.heap.Ns mainGlobals mg) (hb:s₁.heap.Ns builtinsNs mb) (hbb:∀ x:Str,x ≠ "__name__" → mb x=bootBuiltins x) (hlim:s₁.heap.NoLimit) (hg:s₁.gens = #[])
  (ha:s₁.heap.get? a=some { cls:=.type "list",data:=.seq vs.toArray }) (hi:IntsAre vs ns) (hl:ns.length≤sizeLine) (hr:Room k callerA)
  (F:∀ base:Heap,K.In base→base.Ns mainGlobals mg→FnOk P w K mg base CX k fa fd [x] sp) (hbind:∀ (s:Shared) (u:Value),BindsTo s fd ⟨[u],[]⟩ [(x,u)])
  (hsp:∀ H:Hp,Only H→SqL K H a (ns.map V.int)→sp [.ref a] H (fun v _=>v=.bl true) fun _ _ _=>False)
  (hCX:∀ H e s',CX [] H s₁ (fun _ _ _=>False) e s'→False) :
  codeAny (model P w) callerA (.call (.ref fa) ⟨[.ref a],[]⟩) (fun r s'=>r=.ok (.ret (.bool true))∧OldK s₁.heap s'.heap∧s'.os=s₁.os∧AllBare s'.gens) s₁:=by
 have rv:=y1_ hi
 have lenV:=hi.length
 have core:∀ H:Hp,Only H→SqL K H a (ns.map V.int)→HOk P w H s₁.heap→(∀ b,H b≠none→b=a)→(H a≠none→K.lookup a=none) →
   codeAny (model P w) callerA (.call (.ref fa) ⟨[.ref a],[]⟩) (fun r s'=>r=.ok (.ret (.bool true))∧OldK s₁.heap s'.heap∧s'.os=s₁.os∧AllBare s'.gens) s₁:=by
  intro H hO hS hok hA hK
  have base_of:∀ {b:Addr} {o:Obj},s₁.heap.get? b=some o→H b=none→(hidT s₁.heap H).get? b=some o:=fun e n=>YY_ e n
  have noA:∀ {b:Addr} {o:Obj} {es:Array DictEntry} {ep:Nat},s₁.heap.get? b=some o→o.data=.dict es ep→H b=none:=fun {b o es ep} e d=>by
   cases q:H b with
   | none=>rfl
   | some u =>
    have e':b=a:=hA b (by rw [q];simp)
    subst e'
    rw [ha] at e;cases e
    have d':Data.seq vs.toArray _=Data.dict es ep:=d
    cases d'
  have nsK:∀ {b:Addr} {m:Str→Option Value},s₁.heap.Ns b m→(hidT s₁.heap H).Ns b m:=fun {b m} ⟨o,es,ep,e,d,r⟩=>⟨o,es,ep,base_of e (noA e d),d,r⟩
  have hKb:K.In (hidT s₁.heap H):=fun b o e=>base_of (KX b o e) (by
   cases q:H b with
   | none=>rfl
   | some u =>
    have e':b=a:=hA b (by rw [q];simp)
    subst e'
    rw [hK (by rw [q];simp)] at e;cases e)
  have hM:Mod K mg (hidT s₁.heap H):=⟨hKb,nsK hns,⟨mb,nsK hb,hbb⟩,let ⟨mc,h1,h2⟩:=hlim;⟨mc,nsK h1,h2⟩⟩
  have e0:Env0 P w K mg (hidT s₁.heap H) callerA [] s₁ H:=⟨rfl,hM,fun b o e=>Q9_ e,Nat.le_of_eq (UN_ _ _),trivial,fun b hb=>absurd (show b∈([]:List Addr) from hb) (by simp),hok,.of_eq hg⟩
  refine codeAny_mono ((F _ hKb (nsK hns)).run callerA [] s₁ H ⟨[.ref a],[]⟩ [.ref a] [.ref a] _ _ hr e0 (hbind s₁ (.ref a)) (.cons rfl .nil) (hsp H hO hS)) fun r s' h=>?_
  cases r with
  | error e=>exact (hCX H e s' h).elim
  | ok fl =>
   cases fl with
   | next=>exact False.elim h
   | brk=>exact False.elim h
   | cont=>exact False.elim h
   | ret u =>
    obtain ⟨v,H',os,bare,un,hok',r',q⟩:=h
    have q':v=.bl true:=q
    subst q'
    obtain rfl:u=Value.bool true:=r'
    refine ⟨rfl,OldK.of_keep fun b o e=>?_,os,bare⟩
    cases q:H b with
    | none=>exact un.keep b o e q (by intro z;exact absurd (show b∈([]:List Addr) from z) (by simp)) (by simp)
    | some u =>
     rcases hO b with z|⟨ob,xs,z⟩
     ·rw [q] at z;cases z
     ·have z2:=un.frzs b ob _ z
      obtain ⟨e1,_⟩:=hok b _ z
      obtain ⟨e2,_⟩:=hok' b _ z2
      rw [e] at e1;cases e1
      exact e2
 cases hk:K.lookup a with
 | some o =>
  have e:=KX a o hk
  rw [ha] at e
  cases e
  refine core (fun _=>none) (fun _=>.inl rfl) (.inr ⟨_,vs.toArray,_,hk,rfl,rfl,rfl,by rw [List.size_toArray,lenV];exact hl,by simpa using rv⟩) (fun b u z=>by have z':(none:Option HO)=some u:=z;cases z') (fun b z=>absurd rfl z) fun z=>absurd rfl z
 | none =>
  refine core (fun b=>if b=a then some (.frz { cls:=.type "list",data:=.seq vs.toArray } (.lst (ns.map V.int))) else none) (fun b=>?_) (.inl (.inr ⟨{ cls:=.type "list",data:=.seq vs.toArray },if_pos rfl⟩)) (fun b u z=>?_) (fun b z=>?_) fun _=>hk
  ·by_cases hb:b=a
   ·exact .inr ⟨_,_,if_pos hb⟩
   ·exact .inl (if_neg hb)
  ·by_cases hb:b=a
   ·have z':=(if_pos hb).symm.trans z
    cases z'
    subst hb
    exact ⟨ha,by rw [List.length_map];exact hl,vs,_,rv,ha⟩
   ·have z':=(if_neg hb).symm.trans z
    cases z'
  ·by_cases hb:b=a
   ·exact hb
   ·exact absurd (if_neg hb) z
end L2
namespace L2
open PySem PySem.Spec PyProof.Rows
theorem walk_of {l:PySem.W.OpenLaw} {n k:Nat} {q:Program} {loose:List Str} {XP:(Str→Option Value)→Heap→Prop} {YP:World→Heap→Prop} {d:DefRec} {K:Params→PySem.W.Frag} {CX:World→CXT} {sp:World→Sp} {x:Str}
  (hn:l.most=some n) (hn2:n≤sizeLine) (hdf:d.params.defaults=[]) (hr:Room k callerA)
  (hY:∀ (w:World) (h:Heap),YP w h→(K w.params).In h)
  (F:∀ (w:World) (mg:Str→Option Value) (fa:Addr) (h:Heap),(K w.params).In h→h.Ns mainGlobals mg→mg d.name=some (.ref fa) →
   ∃ fd:FuncData,(∀ (s:Shared) (u:Value),BindsTo s fd ⟨[u],[]⟩ [(x,u)]) ∧
    ∀ base:Heap,(K w.params).In base→base.Ns mainGlobals mg→FnOk l.prog w (K w.params) mg base (CX w) k fa fd [x] (sp w))
  (hsp:∀ (w:World) (H:Hp) (a:Addr) (ns:List Int),ns.length≤n→Only H→SqL (K w.params) H a (ns.map V.int)→sp w [.ref a] H (fun v _=>v=.bl true) fun _ _ _=>False)
  (hCX:∀ (w:World) (H:Hp) (s:Shared) (e:Value) (s':Shared),CX w [] H s (fun _ _ _=>False) e s'→False) :
  PySem.W.WalkO q loose XP YP l.row.toRowW d [] (fun f vs=>PySem.call f vs):=by
 refine Att.attach_call hn hdf fun w s₀ s₁ mg mb fa o pm cd doc a vs ns G Y ho hd hcd hmg hobj hints hlen hg=>?_
 have KX:=hY w _ Y
 obtain ⟨fd,hb,hF⟩:=F w mg fa _ KX G.T.g hmg
 exact YR_ KX G.T.g G.T.b G.T.builtins G.T.nolimit hg hobj hints (Nat.le_trans hlen hn2) hr hF hb (fun H hO hS=>hsp w H a ns hlen hO hS) fun H e s'=>hCX w H s₁ e s'
end L2
namespace L2
open PySem PySem.Spec PyProof.Rows
def z6_ (s:Stmt):Arguments:=match s with
 | .FunctionDef _ a _ _ _ _ _ _ _ _=>a
 | _=>{ posonlyargs:=[],args:=[],vararg:=none,kwonlyargs:=[],kw_defaults:=[],kwarg:=none,defaults:=[] }
def zK_ (s:Stmt):List Stmt:=match s with
 | .FunctionDef _ _ b _ _ _ _ _ _ _=>b
 | _=>[]
def ze_ (s:Stmt):Scope:=match s with
 | .FunctionDef _ _ _ _ _ _ sc _ _ _=>sc
 | _=>{ kind:=.function,names:=[],isGenerator:=false,isCoroutine:=false }
structure Fun (K:PySem.W.Frag) (x qual:Str) (st:Stmt) (f:Addr) (fd:FuncData):Prop where
 ex:∃ (oc:Value) (od:Option Addr) (kV doc pm:Value) (an:Option Addr) (cdv ct:Value) (osl:Array (Option Value)),
  fd=PySem.W.fnOf x qual (z6_ st) (zK_ st) (ze_ st) .none kV doc pm an cdv ct∧K.lookup f=some ⟨oc,od,.func fd,osl⟩∧PySem.W.codeIn K cdv qual=true
 kp:PySem.W.keepIn K (.ref f)=true
section
variable {P:Program} {w:World} {K:PySem.W.Frag} {mg:Str→Option Value} {base:Heap}
theorem Fun.binds {x qual:Str} {st:Stmt} {f:Addr} {fd:FuncData} {ps:List Str} (F:Fun K x qual st f fd)
  (h:∀ (kV doc pm:Value) (an:Option Addr) (cdv ct:Value) (us:List Value),us.length=ps.length→bindArgs (PySem.W.fnOf x qual (z6_ st) (zK_ st) (ze_ st) .none kV doc pm an cdv ct) ⟨us,[]⟩=pure (ps.zip us)):Binds K fd ps []:=by
 obtain ⟨oc,od,kV,doc,pm,an,cdv,ct,osl,rfl,lk,hcd⟩:=F.ex
 exact .all (h kV doc pm an cdv ct)
theorem uW_ {x qual:Str} {st:Stmt} {f:Addr} {oc:Value} {od an:Option Addr} {osl:Array (Option Value)} {kV doc pm cdv ct:Value} (l:K.lookup f=some ⟨oc,od,.func (PySem.W.fnOf x qual (z6_ st) (zK_ st) (ze_ st) .none kV doc pm an cdv ct),osl⟩)
  (c:PySem.W.codeIn K cdv qual=true) (k:PySem.W.keepIn K (.ref f)=true):Fun K x qual st f (PySem.W.fnOf x qual (z6_ st) (zK_ st) (ze_ st) .none kV doc pm an cdv ct):=⟨⟨oc,od,kV,doc,pm,an,cdv,ct,osl,rfl,l,c⟩,k⟩
end
theorem iteF {A B:Prop} (h:B):if false=true then A else B:=by
 rw [if_neg Bool.false_ne_true]
 exact h
theorem iteT {A B:Prop} (h:A):if true=true then A else B:=by
 rw [if_pos rfl]
 exact h
def Same (H H':Hp):Prop:=∀ b o,H b=some o→H' b=some o
theorem Same.refl (H:Hp):Same H H:=fun _ _ h=>h
theorem Same.trans {H H1 H2:Hp} (a:Same H H1) (b:Same H1 H2):Same H H2:=fun c o h=>b c o (a c o h)
theorem Same.free {H H':Hp} (e:Same H H') {l:Addr} (h:H' l=Option.none):H l=Option.none:=by
 cases q:H l with
 | none=>rfl
 | some o =>
  rw [e l o q] at h
  cases h
theorem Same.seq {K:PySem.W.Frag} {H H':Hp} {a:Addr} {xs:List V} (e:Same H H') (h:SqL K H a xs):SqL K H' a xs:=by
 rcases h with (h|⟨o,h⟩)|h
 ·exact .inl (.inl (e _ _ h))
 ·exact .inl (.inr ⟨o,e _ _ h⟩)
 ·exact .inr h
end L2
set_option Elab.async false
set_option linter.all false
set_option maxRecDepth 100000
namespace L2
open PySem PySem.Spec PyProof.Rows
def zs_ (X:Cx) (N':List Str) (scope:Scope) (cl:List (Str×Addr)) (s₂:Shared) (H₂:Hp) (fp:List Addr) (C:Addr):Cx :=
 { X with N:=N',s₀:=s₂,H₀:=H₂,env:=compEnvC scope cl C X.env,outer:=X.stack,ex:=fp,fn:=fun _=>false,pn:=[],xe:=fun _ _=>False }
def lobj (ys:List Value) (k:Nat):Obj:={ cls:=.type "list",data:=.seq ys.toArray k }
section
variable {prog:Program} {w:World} {A:Around} {R:Result→Shared→Prop} {s:Shared}
theorem jO_ {elt target iter:Expr} {ifs:List Expr} {scope:Scope} {pos:Pos} {it acc:Value} {env:Env} (I:Nat→Shared→Prop)
  (turn:∀ n s,I n s→wpAny (model prog w) A (pyNext it) (fun r s₁=>match r with
   | none=>R (.ok .next) s₁
   | some v=>wpAny (model prog w) A (letOwnedTupleGo target it v) (fun _ s₁'=>wpAny (model prog w) A (assign target env v) (fun _ s₂ =>
     wpAny (model prog w) A (forIn ifs true fun c r=>if r=true then do let ok ←isTrue c env (eval c env);pure (ForInStep.yield ok) else pure (ForInStep.yield r)) (fun ok s₃ =>
      if ok=true then wpAny (model prog w) A (eval elt env) (fun x s₄ =>
       wpAny (model prog w) A (call (.builtin "list.append") [acc,x]) (fun _ s₅=>∃ m,m<n∧I m s₅) (fun _ _=>False) s₄) (fun _ _=>False) s₃
      else ∃ m,m<n∧I m s₃) (fun _ _=>False) s₂) (fun _ _=>False) s₁') (fun _ _=>False) s₁) (fun _ _=>False) s)
  (n:Nat) (h:I n s) :
  codeAny (model prog w) A (.compLoop (.ListComp elt [⟨target,iter,ifs,0⟩] scope pos) 0 it acc env) R s:=by
 refine codeAny_loop rfl I (fun n s hI=>?_) n h
 show wpAny _ A ((compTurn (.ListComp elt [⟨target,iter,ifs,0⟩] scope pos) 0 it acc env).onRaise (fun x=>do noteFrame x env;theTreesLotGoes x)) _ _ s
 refine wpAny_noted ?_
 rw [compTurn_list]
 refine wpAny_bind (wpAny_standAt (wpAny_bind (wpAny_mono (turn n s hI) (fun r s₁ h₁=>?_) fun _ _ h'=>h'.elim)))
 cases r with
 | none=>exact wpAny_pure h₁
 | some v =>
  refine wpAny_bind (wpAny_mono h₁ (fun _ s₁' h₁'=>?_) fun _ _ h'=>h'.elim)
  refine wpAny_bind (wpAny_mono h₁' (fun _ s₂ h₂=>wpAny_bind (wpAny_mono h₂ (fun ok s₃ h₃=>?_) fun _ _ h'=>h'.elim)) fun _ _ h'=>h'.elim)
  cases ok with
  | false=>exact wpAny_pure ⟨rfl,h₃⟩
  | true =>
   exact wpAny_bind (wpAny_bind (wpAny_mono h₃ (fun x s₄ h₄=>wpAny_bind (wpAny_mono h₄ (fun _ s₅ h₅=>wpAny_pure (wpAny_pure ⟨rfl,h₅⟩)) fun _ _ h'=>h'.elim)) fun _ _ h'=>h'.elim))
end
def PTs (X:Cx) (ifs:List Expr) (t:TT):Prop :=
 ∀ (pins:List (Addr×Obj)) (s:Shared) (σ:St) (H:Hp) (Q:Bool→Hp→Prop),Inv X pins σ H s→t σ H Q →
  wpAny (model X.prog X.w) X.A (forIn ifs true fun c r=>if r=true then do let ok ←isTrue c X.env (eval c X.env);pure (ForInStep.yield ok) else pure (ForInStep.yield r)) (TP X pins σ Q) X.xe s
theorem QU_ {X:Cx}:PTs X [] (fun _ H Q=>Q true H):=fun _ _ _ H _ I h=>wpAny_tests_nil ⟨H,I,h⟩
theorem QT_ {X:Cx} {c:Expr} {t:TT} (h:PT X c t):PTs X [c] t:=fun pins s σ H Q I q=>wpAny_tests_one (h pins s σ H Q I q)
theorem jl_ {env:Env}:∀ {names:List (Str×NameKind)} {x:Str},
  (names.map fun (n,k)=>if (k==NameKind.free&&env.scope.kind==.function&&env.kindOf n==some .cell) then (n,NameKind.cell) else (n,k)).lookup x
   = (names.lookup x).map fun k=>if (k==NameKind.free&&env.scope.kind==.function&&env.kindOf x==some .cell) then NameKind.cell else k
 | [],_=>rfl
 | (n,k)::r,x=>by
  have ih:=@jl_ env r x
  show List.lookup x ((if (k==NameKind.free&&env.scope.kind==.function&&env.kindOf n==some .cell)=true then (n,NameKind.cell) else (n,k))::_)=_
  cases hx:x==n with
  | true =>
   have e:x=n:=by simpa using hx
   subst e
   by_cases hc:(k==NameKind.free&&env.scope.kind==.function&&env.kindOf x==some .cell)=true
   ·rw [if_pos hc];simp only [List.lookup_cons,hx,Option.map_some,if_pos hc]
   ·rw [if_neg hc];simp only [List.lookup_cons,hx,Option.map_some,if_neg hc]
  | false =>
   by_cases hc:(k==NameKind.free&&env.scope.kind==.function&&env.kindOf n==some .cell)=true
   ·rw [if_pos hc];simp only [List.lookup_cons,hx];exact ih
   ·rw [if_neg hc];simp only [List.lookup_cons,hx];exact ih
theorem us_ {env:Env}:∀ (names:List (Str×NameKind)) (acc:List (Str×Addr)),(∀ x∈names,x.2=.free→∃ c,env.cells.lookup x.1=some c) →
  (∀ x c,acc.lookup x=some c→env.cells.lookup x=some c) →
  ∃ cl,(forIn names acc fun (x:Str×NameKind) (cs:List (Str×Addr))=>(if (x.2==NameKind.free)=true then (do let c ←cellOf env x.1;pure (ForInStep.yield ((x.1,c)::cs))) else pure (ForInStep.yield cs):Sem (ForInStep (List (Str×Addr)))))=pure cl ∧
   (∀ x c,cl.lookup x=some c→env.cells.lookup x=some c)∧(∀ x,(acc.lookup x).isSome→(cl.lookup x).isSome)∧∀ x∈names,x.2=.free→(cl.lookup x.1).isSome
 | [],acc,_,ha=>⟨acc,rfl,ha,fun _ h=>h,fun _ h=>nomatch h⟩
 | (n,k)::r,acc,hn,ha=>by
  cases hk:(k==NameKind.free) with
  | true =>
   obtain ⟨c,hc⟩:=hn (n,k) List.mem_cons_self (by simpa using hk)
   have ha':∀ x d,((n,c)::acc).lookup x=some d→env.cells.lookup x=some d:=fun x d e=>by
    rw [List.lookup_cons] at e
    cases q:x==n with
    | true =>
     rw [q] at e
     have:x=n:=by simpa using q
     subst this
     exact hc.trans e
    | false=>rw [q] at e;exact ha x d e
   obtain ⟨cl,e,h1,h2,h3⟩:=us_ r ((n,c)::acc) (fun x hx=>hn x (List.mem_cons_of_mem _ hx)) ha'
   have grow:∀ x,(acc.lookup x).isSome→(((n,c)::acc).lookup x).isSome:=fun x hx=>by
    rw [List.lookup_cons]
    cases q:x==n with
    | true=>rfl
    | false=>exact hx
   refine ⟨cl,?_,h1,fun x hx=>h2 x (grow x hx),fun x hx hf=>?_⟩
   ·rw [List.forIn_cons]
    have q:cellOf env n=pure c:=by
     unfold cellOf
     rw [hc]
    simp only [hk,if_true,q]
    exact e
   ·rcases List.mem_cons.mp hx with rfl|hx
    ·exact h2 _ (by simp [List.lookup_cons])
    ·exact h3 x hx hf
  | false =>
   obtain ⟨cl,e,h1,h2,h3⟩:=us_ r acc (fun x hx=>hn x (List.mem_cons_of_mem _ hx)) ha
   refine ⟨cl,?_,h1,h2,fun x hx hf=>?_⟩
   ·rw [List.forIn_cons]
    simp only [hk,Bool.false_eq_true,if_false]
    exact e
   ·rcases List.mem_cons.mp hx with rfl|hx
    ·exfalso;have:k=.free:=hf;subst this;simp at hk
    ·exact h3 x hx hf
theorem yt_ {env:Env} {scope:Scope} (h:∀ x∈scope.names,x.2=.free→∃ c,env.cells.lookup x.1=some c) :
  ∃ cl,closureFor scope env=pure cl∧(∀ x c,cl.lookup x=some c→env.cells.lookup x=some c)∧∀ x∈scope.names,x.2=.free→(cl.lookup x.1).isSome:=by
 obtain ⟨cl,e,h1,_,h3⟩:=us_ (env:=env) scope.names [] h (fun x c e=>by simp at e)
 refine ⟨cl,?_,h1,h3⟩
 unfold closureFor
 have q:(forIn scope.names [] fun (x:Str×NameKind) (cs:List (Str×Addr))=>(match x with|(name,kind)=>if (kind==NameKind.free)=true then (do let c ←cellOf env name;pure (ForInStep.yield ((name,c)::cs))) else pure (ForInStep.yield cs):Sem (ForInStep (List (Str×Addr)))))=pure cl:=e
 first
  | (simp only [];rw [q];rfl)
  | (show (do let cs ←_;pure cs)=_;rw [q];rfl)
  | (rw [show (forIn scope.names [] _)=pure cl from q];rfl)
structure CompOk (X:Cx) (N':List Str) (k:Nat) (scope:Scope):Prop where
 kind:scope.kind=.function
 len:N'.length=X.N.length+k
 nocell:∀ y∈scope.names,y.2≠.cell
 names:∀ y∈scope.names,y.2=.local→scope.names.lookup y.1=some .local
 outer:∀ (i:Nat) x,i<X.N.length→N'[i]? = some x→(scope.names.lookup x).isSome→(scope.names.lookup x=some .free∨scope.names.lookup x=some .local∨scope.names.lookup x=some .cell)→X.N[i]? = some x∧scope.names.lookup x=some .free
 free:∀ y∈scope.names,y.2=.free→X.env.kindOf y.1=some .cell∨X.env.kindOf y.1=some .free
end L2
set_option Elab.async false
set_option linter.all false
set_option maxRecDepth 100000
namespace L2
open PySem PySem.Spec PyProof.Rows
def QF_ (wi:TI) (k:Nat) (g:TG) (tc:TT) (te:TE):TE:=fun σ H Q=>wi σ H fun J H1=>∃ W:Nat→Nat→List V→St→Hp→Prop,(∃ m,W 0 m [] (σ++List.replicate k none) H1) ∧
 ∀ i m vs σ' H',W i m vs σ' H'→vs.length≤sizeLine ∧
  ((J.stop i H'∧∀ p,H' p=none→Q (.ref p) (upd H' p (.lst vs))) ∨
   (J.go i H'∧∀ x H2,J.yld i H' x H2→g x σ' H2 fun σ3 H3=>tc σ3 H3 fun b H4=>if b=true then te σ3 H4 fun y H5=>∃ m',m'<m∧W (i+1) m' (vs++[y]) σ3 H5 else ∃ m',m'<m∧W (i+1) m' vs σ3 H4))
section
variable {X:Cx} {pins:List (Addr×Obj)} {σ:St} {H2:Hp} {s2:Shared}
theorem HOk.track {P:Program} {w:World} {H:Hp} {h:Heap} {D:Addr} {vs:List V} {ys:List Value} {k:Nat} (x:HOk P w H h) (hn:H D=none) (hl:vs.length≤sizeLine) (r:Vals vs ys) (e:h.get? D=some (lobj ys k)) :
  HOk P w (upd H D (.lst vs)) h:=fun b u q=>by
 by_cases hb:b=D
 ·subst hb
  rw [zL_] at q
  cases q
  exact ⟨hl,ys,k,r,e⟩
 ·rw [zn_ hb] at q
  exact (x b u q).stay (fun _ _ _ z=>z) (fun c z=>by rw [zn_ (zl_ z hn)];exact z) fun c xs z=>by rw [zn_ (zl_ z hn)];exact z
theorem Zt_ {elt tg iter:Expr} {ifs:List Expr} {scope:Scope} {pos:Pos} {N':List Str} {k:Nat} {cl:List (Str×Addr)} {J:It} {fp:List Addr} {it:Addr} {tn:Nat→Heap→Prop} {g:TG} {tc:TT} {te:TE} {E:Value→Shared→Prop}
  {RR:Value→Addr→Result→Shared→Prop} {Q:VK}
  (hc:X.calm=true) (S:CompOk X N' k scope) (hcl:∀ x c,cl.lookup x=some c→X.env.cells.lookup x=some c) (hcf:∀ x∈scope.names,x.2=.free→(cl.lookup x.1).isSome)
  (I:Inv X pins σ H2 s2) (T:Turn X.prog X.w X.K tg J fp it tn) (st:tn 0 s2.heap) (ff:∀ b∈fp,FpOk X pins H2 b)
  (hg:∀ C,PG (zs_ X N' scope cl s2 H2 fp C) tg g) (ht:∀ C,PTs (zs_ X N' scope cl s2 H2 fp C) ifs tc) (he:∀ C,PE (zs_ X N' scope cl s2 H2 fp C) elt te)
  (rd:∃ W:Nat→Nat→List V→St→Hp→Prop,(∃ m,W 0 m [] (σ++List.replicate k none) H2) ∧
   ∀ i m vs σ' H',W i m vs σ' H'→vs.length≤sizeLine ∧
    ((J.stop i H'∧∀ p,H' p=none→Q (.ref p) (upd H' p (.lst vs))) ∨
     (J.go i H'∧∀ x H2,J.yld i H' x H2→g x σ' H2 fun σ3 H3=>tc σ3 H3 fun b H4=>if b=true then te σ3 H4 fun y H5=>∃ m',m'<m∧W (i+1) m' (vs++[y]) σ3 H5 else ∃ m',m'<m∧W (i+1) m' vs σ3 H4)))
  (hRR:∀ D C s' H',Inv X pins σ H' s'→(∃ m,s'.heap.Ns C m)→FpOk X pins H' C→Q (.ref D) H'→RR (.ref D) C (.ok .next) s') :
  wpAny (model X.prog X.w) X.A (newList []) (fun acc s₃=>wpAny (model X.prog X.w) X.A (newFunctionEnv scope X.env.globals cl [] X.env.qual none .none (some X.env)) (fun cenv s₄ =>
   codeAny (model X.prog X.w) X.A (.compStart (.ListComp elt [⟨tg,iter,ifs,0⟩] scope pos) 0 (.ref it) acc { cenv with scope:=relabel scope X.env }) (RR acc cenv.locals) s₄) E s₃) E s2:=by
 obtain ⟨W,⟨m0,w0⟩,turn⟩:=rd
 refine wpAny_newObj_type (wpAny_newFunctionEnv S.nocell (by intro y hy;simp at hy) (fun h₁ hns₁ hsb₁=>?_) S.kind)
 dsimp only at hns₁ hsb₁ ⊢
 generalize hH2:s2.heap.push { cls:=.type "list",dict:=none,data:=.seq ([]:List Value).toArray }=G2 at hns₁ hsb₁ ⊢
 have hCs:G2.objs.size=s2.heap.objs.size+1:=by rw [←hH2,Heap.size_push]
 have hDC:s2.heap.objs.size≠G2.objs.size:=by rw [hCs];exact Nat.ne_of_lt (Nat.lt_succ_self _)
 have hCle:s2.heap.objs.size≤G2.objs.size:=by rw [hCs];exact Nat.le_succ _
 have below:∀ b,b<s2.heap.objs.size→b≠G2.objs.size∧b≠s2.heap.objs.size:=fun b hb=>⟨by rw [hCs];exact Nat.ne_of_lt (Nat.lt_succ_of_lt hb),Nat.ne_of_lt hb⟩
 have old:∀ b o,s2.heap.get? b=some o→h₁.get? b=some o:=fun b o e=>hsb₁.extBut b o (below b (Heap.lt_size e)).1 (Heap.get?_push_of_some _ (hH2▸Heap.get?_push_of_some _ e))
 have hacc:h₁.get? s2.heap.objs.size=some (lobj [] 0):=hsb₁.extBut _ _ hDC (Heap.get?_push_of_some _ (hH2▸Heap.get?_push_size _ rfl))
 generalize hDe:s2.heap.objs.size=D at *
 generalize hCe:G2.objs.size=C at *
 have fpD:FpOk X pins H2 D:=I.fpOk (by rw [hDe];exact Nat.le_refl _) (I.hok.fresh (by rw [hDe];exact Nat.le_refl _))
 have fpC:∀ H',H' C=none→FpOk X pins H' C:=fun H' hn=>I.fpOk (by rw [hDe];exact hCle) hn
 have hfpD:∀ b∈fp,b<D:=fun b hb=>by
  obtain ⟨o,e,_⟩:=T.obj _ _ st b hb
  rw [←hDe];exact Heap.lt_size e
 have nofr:∀ b,D≤b→b∉frs X.stack:=fun b hb hm=>by
  rcases List.mem_cons.mp (I.stkSub b hm) with e|hm
  ·have:=I.lt;rw [hDe] at this;rw [e] at hb;exact absurd (Nat.lt_of_lt_of_le this hb) (Nat.lt_irrefl _)
  ·exact I.nofs (by rw [hDe];exact hb) hm
 let X':=zs_ X N' scope cl s2 H2 fp C
 have cellLt:∀ x c,cl.lookup x=some c→c<D:=fun x c e=>by
  obtain ⟨v,z⟩:=I.cell x c (hcl x c e)
  rw [←hDe];exact z.lt
 have ok':X'.Ok:=by
  refine ⟨I.ok.mod,S.kind,I.ok.glob,I.ok.blt,?_,fun x y c e1 e2=>I.ok.inj x y c (hcl _ _ e1) (hcl _ _ e2),fun x hx=>?_,fun x c hf _=>(nomatch hf),I.ok.hd,I.ok.frames,.inl rfl,fun b hb=>⟨?_,fun x c e z=>?_⟩,I.bs,?_,fun b o e hb=>?_,fun b hb hm=>?_,I.stack,I.stkFree⟩
  ·show s2.heap.objs.size≤C
   rw [hDe];exact hCle
  ·have hx':(relabel scope X.env).names.lookup x=some .cell∨(relabel scope X.env).names.lookup x=some .free:=hx
   have e:=jl_ (env:=X.env) (names:=scope.names) (x:=x)
   have e':(relabel scope X.env).names.lookup x=(scope.names.lookup x).map fun k=>if (k==NameKind.free&&X.env.scope.kind==.function&&X.env.kindOf x==some .cell) then NameKind.cell else k:=e
   rw [e'] at hx'
   cases q:scope.names.lookup x with
   | none=>rw [q] at hx';rcases hx' with z|z<;>cases z
   | some kd =>
    have hmem:=PySem.mem_of_lookup q
    rw [q] at hx'
    have hkd:kd=.free:=by
     by_cases hz:kd=.free
     ·exact hz
     ·exfalso
      have hb:(kd==NameKind.free)=false:=by simpa using hz
      simp only [hb,Bool.false_and,Bool.false_eq_true,if_false,Option.map_some] at hx'
      rcases hx' with z|z
      ·exact S.nocell _ hmem (Option.some.inj z)
      ·exact hz (Option.some.inj z)
    exact Option.isSome_iff_exists.mp (hcf _ hmem hkd)
  ·exact Nat.ne_of_lt (Nat.lt_of_lt_of_le (hfpD b hb) hCle)
  ·exact (ff b hb).2.2.2.2.1 x c (hcl x c e) z
  ·exact Nat.le_trans I.ok.bsz I.sz
  ·obtain ⟨_,_,_,hx,_⟩:=ff b hb
   rcases hx with hx|hx
   ·exact I.ok.noex b o e hx
   ·exact absurd (Nat.lt_of_lt_of_le (Heap.lt_size (I.ok.bs b o e).1) hx) (Nat.lt_irrefl _)
  ·obtain ⟨_,hl,hfs,_⟩:=ff b hb
   rcases List.mem_cons.mp (I.stkSub b hm) with e|hm
   ·exact hl e
   ·exact hfs hm
 have lenσ:(σ++List.replicate k none).length=N'.length:=by rw [List.length_append,List.length_replicate,I.len,S.len]
 have I0:Inv X' [(D,lobj [] 0)] (σ++List.replicate k none) H2 { s2 with heap:=h₁,toks:=s2.toks+([]:List (Str×Value)).length }:=by
  refine ⟨ok',rfl,I.bare,Un.kept old,⟨_,hns₁,fun i x v e1 e2 e3=>?_⟩,fun x c e=>?_,I.hok.fresh (by rw [hDe];exact hCle),fun x c e=>I.freeC x c (hcl x c e),fun p hp=>?_,I.hok.kept old,lenσ⟩
  ·have hi:i<σ.length:=by
    by_cases hi:i<σ.length
    ·exact hi
    ·rw [List.getElem?_append_right (Nat.not_lt.mp hi),List.getElem?_replicate] at e2
     split at e2<;>cases e2
   rw [List.getElem?_append_left hi] at e2
   have e':(relabel scope X.env).names.lookup x=(scope.names.lookup x).map fun k=>if (k==NameKind.free&&X.env.scope.kind==.function&&X.env.kindOf x==some .cell) then NameKind.cell else k:=jl_ (env:=X.env) (names:=scope.names) (x:=x)
   have hsome:∃ kd,scope.names.lookup x=some kd∧(kd=.free∨kd=.local∨kd=.cell):=by
    have e3':(relabel scope X.env).names.lookup x=some .local∨(relabel scope X.env).names.lookup x=some .cell∨(relabel scope X.env).names.lookup x=some .free:=e3
    rw [e'] at e3'
    cases q:scope.names.lookup x with
    | none=>rw [q] at e3';rcases e3' with z|z|z<;>cases z
    | some kd =>
     refine ⟨kd,rfl,?_⟩
     rw [q] at e3'
     by_cases hz:kd=.free
     ·exact .inl hz
     ·have hb:(kd==NameKind.free)=false:=by simpa using hz
      simp only [hb,Bool.false_and,Bool.false_eq_true,if_false,Option.map_some,Option.some.injEq] at e3'
      rcases e3' with z|z|z
      ·exact .inr (.inl z)
      ·exact .inr (.inr z)
      ·exact .inl z
   obtain ⟨kd,hk1,hk2⟩:=hsome
   obtain ⟨hN,hfree⟩:=S.outer i x (by rw [←I.len];exact hi) e1 (by rw [hk1];rfl) (by rcases hk2 with z|z|z<;>subst z<;>simp [hk1])
   have hmem:=PySem.mem_of_lookup hfree
   have hko:=S.free _ hmem rfl
   have hkx:X.env.kindOf x=some .cell∨X.env.kindOf x=some .free:=hko
   obtain ⟨m,hn,hl⟩:=I.loc
   obtain ⟨u,r,lk⟩:=hl i x v hN e2 (by rcases hkx with z|z;exact .inr (.inl z);exact .inr (.inr z))
   refine ⟨u,r,.inr ⟨?_,?_⟩⟩
   ·show (relabel scope X.env).names.lookup x=some .cell∨(relabel scope X.env).names.lookup x=some .free
    rw [e',hfree,Option.map_some]
    split
    ·exact .inl rfl
    ·exact .inr rfl
   ·rcases lk with ⟨kl,_⟩|⟨_,c,ec,hcell⟩
    ·rcases hkx with z|z<;>(rw [z] at kl;cases kl)
    ·obtain ⟨c',ec'⟩:=Option.isSome_iff_exists.mp (hcf _ hmem rfl)
     have q:=hcl _ _ ec'
     rw [ec] at q
     cases q
     exact ⟨c,ec',hcell.keeps old⟩
  ·obtain ⟨v,z⟩:=I.cell x c (hcl x c e)
   exact ⟨v,z.keeps old⟩
  ·have hp':p∈([]:List (Addr×Obj))++[(D,lobj [] 0)]:=hp
   have ep:p=(D,lobj [] 0):=by simpa using hp'
   subst ep
   exact ⟨hacc,fpD.1,hDC,nofr D (Nat.le_refl _),fun v z=>nomatch z⟩
 have stat:∀ {H':Hp} {o:Obj},(∀ b∈fp,H' b=none)→∀ b∈fp,FpOk X' [(D,o)] H' b:=fun {H' o} hn b hb=>by
  refine ⟨hn b hb,Nat.ne_of_lt (Nat.lt_of_lt_of_le (hfpD b hb) hCle),ok'.exfs b hb,.inl hb,fun x c e z=>(ff b hb).2.2.2.2.1 x c (hcl x c e) z,fun p hp=>?_⟩
  have hp':p∈([]:List (Addr×Obj))++[(D,o)]:=hp
  have ep:p=(D,o):=by simpa using hp'
  subst ep
  exact Nat.ne_of_gt (hfpD b hb)
 have loop:∀ s₃:Shared,s₃={ s2 with heap:=h₁,toks:=s2.toks+([]:List (Str×Value)).length } →
   codeAny (model X.prog X.w) X.A (.compLoop (.ListComp elt [⟨tg,iter,ifs,0⟩] scope pos) 0 (.ref it) (.ref D) (compEnvC scope cl C X.env)) (RR (.ref D) C) s₃:=by
  rintro s₃ rfl
  refine jO_ (fun n s'=>∃ i vs ys kk σ' H',Inv X' [(D,lobj ys kk)] σ' H' s'∧tn i s'.heap∧(∀ b∈fp,H' b=none)∧Vals vs ys∧W i n vs σ' H') ?_ m0
   ⟨0,[],[],0,_,H2,I0,T.keep _ _ _ st fun b _ o e=>old b o e,fun b hb=>(ff b hb).1,.nil,w0⟩
  rintro n s3 ⟨i,vs,ys,kk,σ3,H3,I3,st3,fr3,rv,w3⟩
  obtain ⟨hvl,hcase⟩:=turn i n vs σ3 H3 w3
  have pinD:∀ {o:Obj} {σ' H' s'},Inv X' [(D,o)] σ' H' s'→s'.heap.get? D=some o∧H' D=none:=fun J=>⟨(J.pin _ (List.mem_append_right _ List.mem_cons_self)).1,(J.pin _ (List.mem_append_right _ List.mem_cons_self)).2.1⟩
  rcases hcase with ⟨stop,qn⟩|⟨go,step⟩
  ·refine thn (T.done X' rfl rfl rfl hc i _ s3 σ3 H3 (fun _ _=>False) I3 (stat fr3) st3 stop) fun r s4 ⟨hr,I4⟩=>?_
   subst hr
   obtain ⟨gD,nD⟩:=pinD I4
   obtain ⟨m',hm',_⟩:=I4.loc
   have hC4:H3 C=none:=I4.free
   have u0:Un (frs X.stack) fp H2 H3 s2.heap s4.heap:=I4.base
   have neD:∀ b o,s2.heap.get? b=some o→b≠D:=fun b o e=>by rw [←hDe];exact Nat.ne_of_lt (Heap.lt_size e)
   have u1:Un (frs X.stack) fp H2 (upd H3 D (.lst vs)) s2.heap s4.heap :=
    ⟨u0.keep,u0.slot,fun b o e n hx=>by rw [zn_ (neD b o e)];exact u0.free b o e n hx,u0.there,
     fun b xs e=>by have q:=u0.tups b xs e;rw [zn_ (zl_ q nD)];exact q,
     fun b o u e=>by have q:=u0.frzs b o u e;rw [zn_ (zl_ q nD)];exact q,
     fun b ps e=>by obtain ⟨more,q⟩:=u0.tbls b ps e;exact ⟨more,by rw [zn_ (zl_ q nD)];exact q⟩⟩
   have I5:Inv X pins σ (upd H3 D (.lst vs)) s4:=I.call' I4.os u1 (I4.hok.track nD hvl rv gD) I4.bare fun b hb=>⟨(ff b hb).2.2.2.1,(ff b hb).2.1,(ff b hb).2.2.2.2.1,(ff b hb).2.2.2.2.2⟩
   exact hRR D C s4 _ I5 ⟨m',hm'⟩ (fpC _ (by rw [zn_ (Ne.symm hDC)];exact hC4)) (qn D nD)
  ·refine thn (T.item X' rfl rfl rfl hc i _ s3 σ3 H3 (fun _ _=>False) I3 (stat fr3) st3 go) fun r s4 ⟨u,hr,h4⟩=>?_
   subst hr
   refine thn h4 fun _ s5 ⟨x,H5,I5,r5,y5,st5,fr5⟩=>?_
   have I5':=I5.pinned (stat fr5) (T.obj _ _ st5)
   refine thn (hg C _ s5 σ3 H5 x u _ I5' r5 (step x H5 y5)) fun _ s6 ⟨σ6,H6,I6,q6⟩=>?_
   refine thn (ht C _ s6 σ6 H6 _ I6 q6) fun ok s7 ⟨H7,I7,q7⟩=>?_
   have unpin:∀ {σ' H' s'},Inv X' ([(D,lobj ys kk)]++Za_ fp s5.heap) σ' H' s'→Inv X' [(D,lobj ys kk)] σ' H' s'∧tn (i+1) s'.heap∧∀ b∈fp,H' b=none:=fun {σ' H' s'} J =>
    ⟨J.unpinned,T.keep _ _ _ st5 fun b hb o e=>(J.pin (b,o) (List.mem_append_right _ (List.mem_append_right _ (jL_ hb e)))).1,fun b hb=>by
     obtain ⟨o,e,d⟩:=T.obj _ _ st5 b hb
     exact (J.pin (b,o) (List.mem_append_right _ (List.mem_append_right _ (jL_ hb e)))).2.1⟩
   cases ok with
   | false =>
    rw [if_neg Bool.false_ne_true]
    rw [if_neg Bool.false_ne_true] at q7
    obtain ⟨m',hm',w7⟩:=q7
    obtain ⟨J1,J2,J3⟩:=unpin I7
    exact ⟨m',hm',i+1,vs,ys,kk,σ6,H7,J1,J2,J3,rv,w7⟩
   | true =>
    rw [if_pos rfl]
    rw [if_pos rfl] at q7
    refine thn (he C _ s7 σ6 H7 _ I7 q7) fun uy s8 ⟨y,H8,I8,r8,m',hm',w8⟩=>?_
    obtain ⟨J1,J2,J3⟩:=unpin I8
    obtain ⟨gD,nD⟩:=pinD J1
    refine append_at (hsz:=by show ys.toArray.size≤sizeLine;rw [List.size_toArray,←rv.length];exact hvl) gD fun h9 hs9 hD9=>?_
    have J1':Inv X' [] σ6 H8 s8:=J1.pins_of fun p hp=>nomatch hp
    have J9:Inv X' [] σ6 H8 { s8 with heap:=h9 }:=J1'.turned (t':=s8.toks) (it:=D) (fun b o hb e=>hs9.extBut b o hb e) nD hDC (.inr (by show s2.heap.objs.size≤D;rw [hDe];exact Nat.le_refl _)) (fun x c e=>Nat.ne_of_lt (cellLt x c e)) fun p hp=>nomatch hp
    have eo:({ cls:=.type "list",data:=.seq (ys.toArray.push uy) (kk+1) }:Obj)=lobj (ys++[uy]) (kk+1):=by
     unfold lobj
     rw [List.push_toArray]
    refine ⟨m',hm',i+1,vs++[y],ys++[uy],kk+1,σ6,H8,J9.pins_of fun p hp=>?_,T.keep _ _ _ J2 fun b hb o e=>hs9.extBut b o (Nat.ne_of_lt (hfpD b hb)) e,J3,rv.append (.cons r8 .nil),w8⟩
    have ep:p=(D,lobj (ys++[uy]) (kk+1)):=by simpa using hp
    subst ep
    exact ⟨by show h9.get? D=_;rw [hD9,eo],nD,hDC,nofr D (Nat.le_refl _),fun v z=>nomatch z⟩
 exact codeAny_compStart_list (loop _ rfl) (T.self _ 0 _ _ _ (T.keep _ _ _ st fun b _ o e=>old b o e) (loop _ rfl))
end
section
variable {X:Cx}
theorem Q1_ {elt tg iter:Expr} {ifs:List Expr} {scope:Scope} {pos:Pos} {N':List Str} {k:Nat} {wi:TI} {g:TG} {tc:TT} {te:TE}
  (hc:X.calm=true) (S:CompOk X N' k scope) (hcells:∀ x∈scope.names,x.2=.free→∃ c,X.env.cells.lookup x.1=some c) (hi:PI X tg iter wi)
  (hg:∀ cl s H fp C,PG (zs_ X N' scope cl s H fp C) tg g) (ht:∀ cl s H fp C,PTs (zs_ X N' scope cl s H fp C) ifs tc) (he:∀ cl s H fp C,PE (zs_ X N' scope cl s H fp C) elt te)
  (hs:∀ x,foldedSetIterable iter X.env x=pure x:=by intro _;rfl) :
  PE X (.ListComp elt [⟨tg,iter,ifs,0⟩] scope pos) (QF_ wi k g tc te):=by
 intro pins s σ H Q I h
 obtain ⟨cl,hclos,h1,h2⟩:=yt_ (env:=X.env) (scope:=scope) hcells
 rw [eval_ListComp]
 refine wpAny_comprehension_free (use:=none) rfl hs hclos S.kind S.names (thn (hi pins s σ H _ I h) fun xv s1 h1'=>thn h1' fun itv s2 h2'=>?_)
 obtain ⟨it,fp,tn,J,H2,e,I2,T,st2,f2,rd⟩:=h2'
 subst e
 refine Zt_ hc S h1 h2 I2 T st2 f2 (fun C=>hg _ _ _ _ C) (fun C=>ht _ _ _ _ C) (fun C=>he _ _ _ _ C) rd fun D C s' H' I' ⟨m,hm⟩ fC q=>?_
 refine ⟨m,hm,fun h' hs'=>⟨.ref D,H',?_,rfl,q⟩⟩
 exact I'.turned (t':=s'.toks) (it:=C) (fun b o hb e=>hs'.extBut b o hb e) fC.1 fC.2.1 fC.2.2.2.1 fC.2.2.2.2.1 fC.2.2.2.2.2
theorem yk_ {elt tg iter:Expr} {ifs:List Expr} {scope:Scope} {pos pos' spos:Pos} {N':List Str} {k i:Nat} {y:Str} {wi:TI} {g:TG} {tc:TT} {te:TE}
  (hN:X.N.Nodup) (hy:X.N[i]? = some y) (hly:Loc X.env.scope y) (hfn:X.fn y=true∨X.env.scope.names.lookup y=some .local)
  (hc:X.calm=true) (S:CompOk X N' k scope) (hcells:∀ x∈scope.names,x.2=.free→∃ c,X.env.cells.lookup x.1=some c) (hi:PI X tg iter wi)
  (hg:∀ cl s H fp C,PG (zs_ X N' scope cl s H fp C) tg g) (ht:∀ cl s H fp C,PTs (zs_ X N' scope cl s H fp C) ifs tc) (he:∀ cl s H fp C,PE (zs_ X N' scope cl s H fp C) elt te)
  (hsw:swapsWith (.ListComp elt [⟨tg,iter,ifs,0⟩] scope pos) (some (.Name y pos')) spos.line X.env=pure true)
  (hs:∀ x,foldedSetIterable iter X.env x=pure x:=by intro _;rfl) :
  PS X (.Assign [.Name y pos'] (.ListComp elt [⟨tg,iter,ifs,0⟩] scope pos) spos) (tAsg (QF_ wi k g tc te) (UQ_ i)):=by
 intro pins s σ H D₀ I h
 obtain ⟨cl,hclos,h1,h2⟩:=yt_ (env:=X.env) (scope:=scope) hcells
 rw [exec_Assign_Name_used _ _ _ _ hsw]
 refine wpAny_bind (wpAny_standAt (wpAny_bind ?_))
 show wpAny _ X.A (do let _ ←comprehension (.ListComp elt [⟨tg,iter,ifs,0⟩] scope pos) scope X.env _ (newList []) false (eval iter X.env) (some (assign (.Name y pos') X.env))) _ _ s
 refine wpAny_bind (wpAny_mono (wpAny_comprehension_free (use:=some (assign (.Name y pos') X.env)) (Q:=fun _ s'=>SP X pins D₀ .next s') rfl hs hclos S.kind S.names
  (thn (hi pins s σ H _ I h) fun xv s1 h1'=>thn h1' fun itv s2 h2'=>?_)) (fun _ s' hq=>wpAny_pure (wpAny_pure hq)) fun _ _ e=>e)
 obtain ⟨it,fp,tn,J,H2,e,I2,T,st2,f2,rd⟩:=h2'
 subst e
 refine Zt_ (Q:=fun x H1=>UQ_ i x σ H1 D₀.nx) hc S h1 h2 I2 T st2 f2 (fun C=>hg _ _ _ _ C) (fun C=>ht _ _ _ _ C) (fun C=>he _ _ _ _ C) rd fun D C s' H' I' ⟨m,hm⟩ fC q=>?_
 show wpAny _ X.A (assign (.Name y pos') X.env (.ref D)) _ _ _
 refine wpAny_assign_Name (y3_ I' hN hy hly (show RelV (.ref D) (.ref D) from rfl) (fun s'' I'' ⟨a,hsb,ha⟩=>?_) hfn)
 have hCa:C≠a:=by
  rcases ha with rfl|ha
  ·exact fC.2.1
  ·exact fun z=>fC.2.2.2.2.1 y a ha z.symm
 refine ⟨m,hm.sameBut hsb hCa,fun h' hs'=>⟨_,H',?_,q⟩⟩
 exact I''.turned (t':=s''.toks) (it:=C) (fun b o hb e=>hs'.extBut b o hb e) fC.1 fC.2.1 fC.2.2.2.1 fC.2.2.2.2.1 fC.2.2.2.2.2
end
end L2
set_option Elab.async false
set_option linter.all false
set_option maxRecDepth 100000
namespace L2
open PySem PySem.Spec PyProof.Rows
section
variable {κ:Type} [DecidableEq κ]
def valV (kvs:List (κ×V)) (k:κ):Option V:=(kvs.find? fun kv=>decide (kv.1=k)).map (·.2)
theorem Z2_ {p:κ×V} {r:List (κ×V)} {k:κ} (e:p.1=k):valV (p::r) k=some p.2:=by simp [valV,List.find?_cons,e]
theorem Z3_ {p:κ×V} {r:List (κ×V)} {k:κ} (e:¬ p.1=k):valV (p::r) k=valV r k:=by simp [valV,List.find?_cons,e]
theorem RelO.getD {o:Option V} {u:Option Value} {d:V} {d':Value} (r:RelO o u) (rd:RelV d d'):RelV (o.getD d) (u.getD d'):=by
 cases o with
 | none=>cases u with
  | none=>exact rd
  | some _=>exact (show False from r).elim
 | some _=>cases u with
  | none=>exact (show False from r).elim
  | some _=>exact r
theorem KV.val {kvs:List (κ×V)} {vs:List (κ×Value)} (r:KV kvs vs) (k:κ):RelO (valV kvs k) (valueAt vs k):=by
 unfold KV at r
 induction r with
 | nil=>exact True.intro
 | @cons p q ps qs h t ih =>
  obtain ⟨h1,h2⟩:=h
  by_cases e:p.1=k
  ·have e':q.1=k:=h1.symm.trans e
   have b:valueAt (q::qs) k=some q.2:=by simp [valueAt,List.find?_cons,e']
   rw [Z2_ e,b];exact h2
  ·have e':¬ q.1=k:=fun z=>e (h1.trans z)
   have b:valueAt (q::qs) k=valueAt qs k:=by simp [valueAt,List.find?_cons,e']
   rw [Z3_ e,b];exact ih
end
theorem YV_ {P:Program} {w:World} {k:Key} {u:Value} (r:RelV (kV k) u):(zv_ P w).is k u=true:=by
 cases k with
 | inl i=>obtain ⟨t,e⟩:=(show ∃ t,u=Value.int i t from r);subst e;exact ZO_ P w i t
 | inr x=>obtain ⟨t,e⟩:=(show ∃ t,u=Value.str x t from r);subst e;exact ZN_ P w x t
theorem Zl_ {P:Program} {w:World}:∀ {ks:List Key} {us:List Value},Vals (ks.map kV) us→ItemsAre (zv_ P w) ks us
 | [],_,r=>by rw [List.map_nil] at r;cases r;exact .nil
 | k::ks,_,r=>by
  rw [List.map_cons] at r
  cases r with
  | cons h t=>exact .cons (YV_ h) (Zl_ t)
abbrev KT (H:Hp):List (List Key×V)→List (List Key×Addr×Value)→Prop:=Paired fun p q=>p.1=q.1∧H q.2.1=some (.tup (p.1.map kV))∧RelV p.2 q.2.2
theorem KT.val {H:Hp} {kvs:List (List Key×V)} {xs:List (List Key×Addr×Value)} (r:KT H kvs xs) (k:List Key):RelO (valV kvs k) ((atKey xs k).map (·.2)):=by
 induction r with
 | nil=>exact True.intro
 | @cons p q ps qs h t ih =>
  obtain ⟨h1,_,h2⟩:=h
  by_cases e:p.1=k
  ·have e':q.1=k:=h1.symm.trans e
   have b:atKey (q::qs) k=some q.2:=by simp [atKey,List.find?_cons,e']
   rw [Z2_ e,b];exact h2
  ·have e':¬ q.1=k:=fun z=>e (h1.trans z)
   have b:atKey (q::qs) k=atKey qs k:=by simp [atKey,List.find?_cons,e']
   rw [Z3_ e,b];exact ih
section
variable {P:Program} {w:World} {H:Hp} {h:Heap} {a:Addr}
theorem VJ_ {u:HO} (ok:HOk P w H h) (e:Rd H a u):ObjOk P w H h a u:=e.ok ok
theorem U1_ {kvs:List (Key×V)} (ok:HOk P w H h) (e:Rd H a (.dK kvs)):kvs.length≤sizeLine∧(a==sysModules)=false∧∃ vs,KV kvs vs∧h.DictOf (zv_ P w) a vs :=
 show ObjOk P w H h a (.dK kvs) from VJ_ ok e
theorem WK_ {kvs:List (Key×V)} (ok:HOk P w H h) (e:H a=some (.dK kvs)):kvs.length≤sizeLine∧(a==sysModules)=false∧∃ vs,KV kvs vs∧h.DictOf (zv_ P w) a vs:=U1_ ok (.inl e)
theorem Jm_ {ks:List Key} (ok:HOk P w H h) (e:H a=some (.tup (ks.map kV))):(tupleKind (zv_ P w)).is h ks a:=by
 obtain ⟨_,its,r,⟨o,h1,h2,n,h3⟩,_⟩:=(show ObjOk P w H h a (.tup (ks.map kV)) from ok a _ e)
 exact ⟨o,its.toArray,n,h1,h2,h3,by simpa using Zl_ r⟩
theorem UZ_ {kvs:List (List Key×V)} (ok:HOk P w H h) (e:Rd H a (.dT kvs)):kvs.length≤sizeLine∧(a==sysModules)=false ∧
  ∃ xs,KT H kvs xs∧h.DictOfH (tupleKind (zv_ P w)) a xs:=by
 obtain ⟨z,y,xs,r,o,es,ep,h1,h2,h3,h4,h5⟩:=(show ObjOk P w H h a (.dT kvs) from VJ_ ok e)
 refine ⟨z,y,xs,r,o,es,ep,h1,h2,h3,h4,fun x hx=>?_,h5⟩
 have all:∀ {l:List (List Key×V)} {m:List (List Key×Addr×Value)},KT H l m→∀ x∈m,(tupleKind (zv_ P w)).is h x.1 x.2.1:=by
  intro l m q
  induction q with
  | nil=>intro x hx;exact nomatch hx
  | @cons p q ps qs hq t ih =>
   intro x hx
   rcases List.mem_cons.mp hx with e|hx
   ·subst e
    exact Jm_ ok (by rw [←hq.1];exact hq.2.1)
   ·exact ih x hx
 exact all r x hx
theorem WJ_ {kvs:List (List Key×V)} (ok:HOk P w H h) (e:H a=some (.dT kvs)):kvs.length≤sizeLine∧(a==sysModules)=false ∧
  ∃ xs,KT H kvs xs∧h.DictOfH (tupleKind (zv_ P w)) a xs:=UZ_ ok (.inl e)
end
def DGet (H:Hp) (a:Addr) (y:V) (r:Option V):Prop :=
 (∃ kvs k,Rd H a (.dK kvs)∧y=kV k∧r=valV kvs k)∨∃ kvs k b,Rd H a (.dT kvs)∧y=.ref b∧H b=some (.tup (k.map kV))∧r=valV kvs k
theorem DGet.k {H:Hp} {a:Addr} {kvs:List (Key×V)} {k:Key} (e:H a=some (.dK kvs)):DGet H a (kV k) (valV kvs k):=.inl ⟨kvs,k,.inl e,rfl,rfl⟩
theorem DGet.t {H:Hp} {a b:Addr} {kvs:List (List Key×V)} {k:List Key} (e:H a=some (.dT kvs)) (eb:H b=some (.tup (k.map kV))):DGet H a (.ref b) (valV kvs k):=.inr ⟨kvs,k,b,.inl e,rfl,eb,rfl⟩
section
variable {X:Cx} {pins:List (Addr×Obj)} {σ:St} {H:Hp} {s:Shared} {a:Addr} {y v:V} {u r:Value} {o:Option V} {A:Around} {E:Value→Shared→Prop}
theorem U3_ {Q:Value→Shared→Prop} (hu:A.units+1<cLine) (I:Inv X pins σ H s) (g:DGet H a y (some v)) (ry:RelV y u) (h:∀ w' s',Inv X pins σ H s'→RelV v w'→Q w' s') :
  wpAny (model X.prog X.w) A (getItem (.ref a) u) Q E s:=by
 rcases g with ⟨kvs,k,e,ey,l⟩|⟨kvs,k,b,e,ey,eb,l⟩
 ·subst ey
  obtain ⟨z,hd,vs,rel,dd⟩:=U1_ I.hok e
  obtain ⟨w',hw,rw'⟩:=RelO.some_of (v:=v) (o:=valueAt vs k) (by rw [l];exact rel.val k)
  exact wpAny_getItem_of (YV_ ry) dd.mapOf hw (h w' _ (I.tok _) rw')
 ·subst ey
  cases (show u=Value.ref b from ry)
  obtain ⟨z,hd,xs,rel,dd⟩:=UZ_ I.hok e
  obtain ⟨w',hw,rw'⟩:=RelO.some_of (v:=v) (o:=(atKey xs k).map (·.2)) (by rw [l];exact rel.val k)
  obtain ⟨p,hp,hp2⟩:=Option.map_eq_some_iff.mp hw
  refine wpAny_getItem_heap (tupleKind_room_in1 hu) (Jm_ I.hok eb) dd hp ?_
  rw [hp2]
  exact h w' _ (I.tok _) rw'
end
theorem ZW_ {X:Cx} {pins:List (Addr×Obj)} {σ:St} {H:Hp} {s:Shared} {a:Addr} {y:V} {o:Option V} (I:Inv X pins σ H s) (g:DGet H a y o):s.TypeIs (.ref a) "dict":=by
 rcases g with ⟨kvs,k,e,_,_⟩|⟨kvs,k,b,e,_,_,_⟩
 ·obtain ⟨_,_,vs,_,dd⟩:=U1_ I.hok e
  exact dd.typeIs
 ·obtain ⟨_,_,xs,_,dd⟩:=UZ_ I.hok e
  exact dd.typeIs
structure M2 (X:Cx) (o:Expr) (m:Str) (apos:Pos) (e f:Expr) (cpos:Pos):Prop where
 base:attributeBase o m X.env (eval o X.env)=eval o X.env
 few:((backTo cpos (starEach [e,f] X.env)).all (fun x=>!x.1)&&(backToKw cpos (keywordEach [] X.env)).all (fun x=>x.1.isSome)
  && decide (([e,f]:List Expr).length+([]:List Keyword).length+(if ([]:List Keyword).isEmpty then 0 else 1)<30))=true
 line:(apos.endLine==cpos.line)=true
 trees:backTo cpos (starEach [e,f] X.env)=[(false,eval e X.env),(false,eval f X.env)]
def IsD (H:Hp) (a:Addr):Prop:=(∃ kvs,Rd H a (.dK kvs))∨∃ kvs,Rd H a (.dT kvs)
theorem WE_ {X:Cx} {pins:List (Addr×Obj)} {σ:St} {H:Hp} {s:Shared} {a:Addr} (I:Inv X pins σ H s) (d:IsD H a) :
  s.TypeIs (.ref a) "dict" ∧ (∀ b,Value.ref a=.ref b→∃ ob,s.heap.get? b=some ob∧ob.dict=none)∧(a==sysModules)=false:=by
 rcases d with ⟨kvs,e⟩|⟨kvs,e⟩
 ·obtain ⟨_,hd,vs,_,dd⟩:=U1_ I.hok e
  refine ⟨dd.typeIs,fun b q=>?_,hd⟩
  cases q
  obtain ⟨ob,_,_,h1,h2,_⟩:=dd
  exact ⟨ob,h1,h2.2.1⟩
 ·obtain ⟨_,hd,xs,_,dd⟩:=UZ_ I.hok e
  refine ⟨dd.typeIs,fun b q=>?_,hd⟩
  cases q
  obtain ⟨ob,_,_,h1,h2,_⟩:=dd
  exact ⟨ob,h1,h2.2.1⟩
section
variable {X:Cx} {pins:List (Addr×Obj)} {σ:St} {H:Hp} {s:Shared} {a:Addr} {y d:V} {u r:Value} {o:Option V} {A:Around} {E:Value→Shared→Prop}
theorem WL_ {Q:Value→Shared→Prop} (hu:A.units+1<cLine) (I:Inv X pins σ H s) (g:DGet H a y o) (ry:RelV y u) (rd:RelV d r) (h:∀ w' s',Inv X pins σ H s'→RelV (o.getD d) w'→Q w' s') :
  wpAny (model X.prog X.w) A (call (.builtin "dict.get") [.ref a,u,r]) Q E s:=by
 rcases g with ⟨kvs,k,e,ey,l⟩|⟨kvs,k,b,e,ey,eb,l⟩
 ·subst ey
  obtain ⟨z,hd,vs,rel,dd⟩:=U1_ I.hok e
  refine call_meetsIn PySem.F.slot_dict_get dd.typeIs PySem.F.entry_dict_get (PySem.F.args_dict_get_3 _ _ _) (meets_dict_get_default (zv_ X.prog X.w) a (YV_ ry) hd r) ⟨_,dd.mapOf,h _ _ (I.tok _) ?_⟩
  rw [l]
  exact (rel.val k).getD rd
 ·subst ey
  cases (show u=Value.ref b from ry)
  obtain ⟨z,hd,xs,rel,dd⟩:=UZ_ I.hok e
  refine call_meetsIn PySem.F.slot_dict_get dd.typeIs PySem.F.entry_dict_get (PySem.F.args_dict_get_3 _ _ _) (meetsH_dict_get_default (tupleKind (zv_ X.prog X.w)) a b hd r) ⟨tupleKind_room_in1 hu,k,xs,Jm_ I.hok eb,dd,h _ _ (I.tok _) ?_⟩
  rw [l]
  exact (rel.val k).getD rd
end
end L2
set_option Elab.async false
set_option linter.all false
set_option maxRecDepth 100000
namespace L3
open PySem PySem.Spec PyProof.Rows L2
abbrev D:=PyData
abbrev Fg:=PySem.W.Frag
def keyD:Key→D
 | .inl i=>.int i
 | .inr x=>.str x
def keyT (k:List Key):D:=.tuple (k.map keyD)
mutual
inductive Rep (K:Fg) (F:Hp):V→D→Prop
 | non:Rep K F .non .none
 | bl (b):Rep K F (.bl b) (.bool b)
 | int (i):Rep K F (.int i) (.int i)
 | str (x):Rep K F (.str x) (.str x)
 | tup {a vs ds}:F a=some (.tup vs)→RepL K F vs ds→Rep K F (.ref a) (.tuple ds)
 | lst {a vs ds}:SqL K F a vs→RepL K F vs ds→Rep K F (.ref a) (.list ds)
 | dct {a kvs es}:F a=some (.dT kvs)→es.map (·.1)=kvs.map (fun p=>keyT p.1)→RepL K F (kvs.map (·.2)) (es.map (·.2))→Rep K F (.ref a) (.dict es)
 | dck {a kvs es}:F a=some (.dK kvs)→es.map (·.1)=kvs.map (fun p=>keyD p.1)→RepL K F (kvs.map (·.2)) (es.map (·.2))→Rep K F (.ref a) (.dict es)
inductive RepL (K:Fg) (F:Hp):List V→List D→Prop
 | nil:RepL K F [] []
 | cons {v d vs ds}:Rep K F v d→RepL K F vs ds→RepL K F (v::vs) (d::ds)
end
theorem jJ_ {K:Fg} {F F':Hp} {a:Addr} {xs:List V} (e:Same F F') (h:SqT K F a xs):SqT K F' a xs:=by
 rcases h with (h|⟨o,h⟩)|h
 ·exact .inl (.inl (e _ _ h))
 ·exact .inl (.inr ⟨o,e _ _ h⟩)
 ·exact .inr h
mutual
theorem Rep.mono {K:Fg} {F F':Hp} (e:Same F F'):∀ {v d},Rep K F v d→Rep K F' v d
 | _,_,.non=>.non
 | _,_,.bl b=>.bl b
 | _,_,.int b=>.int b
 | _,_,.str b=>.str b
 | _,_,.tup h r=>.tup (e _ _ h) (RepL.mono e r)
 | _,_,.lst h r=>.lst (e.seq h) (RepL.mono e r)
 | _,_,.dct h k r=>.dct (e _ _ h) k (RepL.mono e r)
 | _,_,.dck h k r=>.dck (e _ _ h) k (RepL.mono e r)
theorem RepL.mono {K:Fg} {F F':Hp} (e:Same F F'):∀ {vs ds},RepL K F vs ds→RepL K F' vs ds
 | _,_,.nil=>.nil
 | _,_,.cons h r=>.cons (Rep.mono e h) (RepL.mono e r)
end
theorem RepL.length {K:Fg} {F:Hp}:∀ {vs ds},RepL K F vs ds→vs.length=ds.length
 | _,_,.nil=>rfl
 | _,_,.cons _ r=>by simp [RepL.length r]
theorem RepL.get {K:Fg} {F:Hp}:∀ {vs ds} {i:Nat} {d:D},RepL K F vs ds→ds[i]? = some d→∃ v,vs[i]? = some v∧Rep K F v d
 | _,_,_,_,.nil,e=>by simp at e
 | _,_,0,_,.cons h _,e=>by simp at e;subst e;exact ⟨_,rfl,h⟩
 | _,_,i+1,d,.cons _ r,e=>by
  obtain ⟨v,h1,h2⟩:=RepL.get (i:=i) (d:=d) r (by simpa using e)
  exact ⟨v,by simpa using h1,h2⟩
theorem RepL.append {K:Fg} {F:Hp}:∀ {vs ds us es},RepL K F vs ds→RepL K F us es→RepL K F (vs++us) (ds++es)
 | _,_,_,_,.nil,s=>s
 | _,_,_,_,.cons h r,s=>.cons h (RepL.append r s)
theorem RepL.take {K:Fg} {F:Hp}:∀ {vs ds} (n:Nat),RepL K F vs ds→RepL K F (vs.take n) (ds.take n)
 | _,_,0,_=>.nil
 | _,_,_+1,.nil=>.nil
 | _,_,n+1,.cons h r=>.cons h (RepL.take n r)
theorem RepL.drop {K:Fg} {F:Hp}:∀ {vs ds} (n:Nat),RepL K F vs ds→RepL K F (vs.drop n) (ds.drop n)
 | _,_,0,r=>r
 | _,_,_+1,.nil=>.nil
 | _,_,n+1,.cons _ r=>RepL.drop n r
theorem RepL.set {K:Fg} {F:Hp} {v:V} {d:D} (h:Rep K F v d):∀ {vs ds} (i:Nat),RepL K F vs ds→RepL K F (vs.set i v) (ds.set i d)
 | _,_,_,.nil=>.nil
 | _,_,0,.cons _ r=>.cons h r
 | _,_,i+1,.cons q r=>.cons q (RepL.set h i r)
theorem RepL.ints {K:Fg} {F:Hp}:∀ (ns:List Int),RepL K F (ns.map V.int) (ns.map PyData.int)
 | []=>.nil
 | n::r=>.cons (.int n) (RepL.ints r)
theorem Uf_ {h:Heap}:∀ {k:Key} {u:Value},RelV (kV k) u→∃ as,Reads h u (keyD k) as
 | .inl i,u,r=>by obtain ⟨t,rfl⟩:=(show ∃ t,u=Value.int i t from r);exact ⟨_,.int i t⟩
 | .inr i,u,r=>by obtain ⟨t,rfl⟩:=(show ∃ t,u=Value.str i t from r);exact ⟨_,.str i t⟩
theorem yi_ {h:Heap}:∀ {k:List Key} {us:List Value},Vals (k.map kV) us→∃ as,ReadsAll h us (k.map keyD) as
 | [],_,r=>by rw [List.map_nil] at r;cases r;exact ⟨_,.nil⟩
 | k::ks,_,r=>by
  rw [List.map_cons] at r
  cases r with
  | cons a b =>
   obtain ⟨as,ha⟩:=Uf_ a
   obtain ⟨bs,hb⟩:=yi_ b
   exact ⟨_,.cons ha hb⟩
theorem JH_ {P:Program} {w:World} {h:Heap} {k:Key} {u:Value} (r:(zv_ P w).is k u=true):∃ as,Reads h u (keyD k) as:=by
 rcases zw_ (k:=k) (v:=u) r with ⟨i,t,rfl,rfl⟩|⟨i,t,rfl,rfl⟩
 ·exact ⟨_,.int i t⟩
 ·exact ⟨_,.str i t⟩
theorem ZJ_ {P:Program} {w:World} {h:Heap}:∀ {es:List DictEntry} {vs:List (Key×Value)},Pairs (zv_ P w) es vs→(∃ as,ReadsAll h (es.map (·.key)) (vs.map fun p=>keyD p.1) as)∧es.map (·.val)=vs.map (·.2):=by
 intro es vs r
 induction r with
 | nil=>exact ⟨⟨_,.nil⟩,rfl⟩
 | cons a b _ ih =>
  obtain ⟨⟨bs,hb⟩,e⟩:=ih
  obtain ⟨as,ha⟩:=JH_ (h:=h) a
  exact ⟨⟨_,.cons ha hb⟩,by rw [List.map_cons,List.map_cons,b,e]⟩
theorem YT_ {X:Cx} {pins:List (Addr×Obj)} {σ:L2.St} {H:Hp} {s:Shared} (I:Inv X pins σ H s) {knd}:∀ {kvs:List (List Key×V)} {xs:List (List Key×Addr×Value)},KT H kvs xs →
  (∃ as,ReadsAll s.heap ((xs.map (entryOfKey (prog:=X.prog) (w:=X.w) knd)).map (·.key)) (kvs.map fun p=>keyT p.1) as)∧Vals (kvs.map (·.2)) ((xs.map (entryOfKey (prog:=X.prog) (w:=X.w) knd)).map (·.val)):=by
 intro kvs xs r
 induction r with
 | nil=>exact ⟨⟨_,.nil⟩,.nil⟩
 | @cons p q ps qs h t ih =>
  obtain ⟨⟨bs,hb⟩,e⟩:=ih
  obtain ⟨h1,h2,h3⟩:=h
  obtain ⟨its,rv,⟨o,e1,e2,n',e3⟩,hz⟩:=I.tuple (SqT.of h2)
  obtain ⟨as,ra⟩:=yi_ (h:=s.heap) rv
  exact ⟨⟨_,.cons (.tuple e1 e2 e3 (by simpa using ra)) hb⟩,.cons h3 e⟩
theorem Vg_ {κ:Type} {kvs:List (κ×V)} {vs:List (κ×Value)} (r:KV kvs vs):Vals (kvs.map (·.2)) (vs.map (·.2))∧kvs.map (·.1)=vs.map (·.1):=by
 unfold KV at r
 induction r with
 | nil=>exact ⟨.nil,rfl⟩
 | cons h t ih=>exact ⟨.cons h.2 ih.1,by rw [List.map_cons,List.map_cons,h.1,ih.2]⟩
section
variable {X:Cx} {pins:List (Addr×Obj)} {σ:L2.St} {H:Hp} {s:Shared}
mutual
theorem Qd_ (I:Inv X pins σ H s):∀ {v d},Rep X.K H v d→∀ {u},RelV v u→∃ as,Reads s.heap u d as
 | _,_,.non,_,r=>by cases r;exact ⟨_,.none⟩
 | _,_,.bl b,_,r=>by cases r;exact ⟨_,.bool b⟩
 | _,_,.int i,_,r=>by obtain ⟨t,rfl⟩:=r;exact ⟨_,.int i t⟩
 | _,_,.str x,_,r=>by obtain ⟨t,rfl⟩:=r;exact ⟨_,.str x t⟩
 | _,_,.tup hq rl,_,r=>by
  cases r
  obtain ⟨its,rv,⟨o,e1,e2,n',e3⟩,hz⟩:=I.tuple (SqT.of hq)
  obtain ⟨as,ra⟩:=yj_ I rl rv
  exact ⟨_,.tuple e1 e2 e3 (by simpa using ra)⟩
 | _,_,.lst hq rl,_,r=>by
  cases r
  obtain ⟨its,rv,⟨o,n',e1,e2,e3,e4⟩,hz⟩:=I.list hq
  obtain ⟨as,ra⟩:=yj_ I rl rv
  exact ⟨_,.list e1 e2 e4 (by simpa using ra)⟩
 | _,_,.dct hq hk rl,_,r=>by
  cases r
  obtain ⟨z,y,xs,kt,o,es,ep,h1,h2,h3,h4,_⟩:=WJ_ I.hok hq
  obtain ⟨⟨as,ra⟩,vl⟩:=YT_ I (knd:=tupleKind (zv_ X.prog X.w)) kt
  obtain ⟨bs,rb⟩:=yj_ I rl vl
  exact ⟨_,.dict h1 h2.1 h3 (by rw [h4,hk];exact ra) (by rw [h4];exact rb)⟩
 | _,_,.dck hq hk rl,_,r=>by
  cases r
  obtain ⟨z,y,vs,kv,o,es,ep,h1,h2,h3,h4,h5,_⟩:=WK_ I.hok hq
  obtain ⟨vl,ek⟩:=Vg_ kv
  obtain ⟨⟨as,ra⟩,ev⟩:=ZJ_ (h:=s.heap) h5
  obtain ⟨bs,rb⟩:=yj_ I rl vl
  refine ⟨_,.dict h1 h2.1 h3 (as:=as) (bs:=bs) ?_ (by rw [ev];exact rb)⟩
  rw [hk]
  have e:=congrArg (List.map keyD) ek
  rw [List.map_map,List.map_map] at e
  exact e▸ra
theorem yj_ (I:Inv X pins σ H s):∀ {vs ds},RepL X.K H vs ds→∀ {us},Vals vs us→∃ as,ReadsAll s.heap us ds as
 | _,_,.nil,_,r=>by cases r;exact ⟨_,.nil⟩
 | _,_,.cons h t,_,r=>by
  cases r with
  | cons r rr =>
   obtain ⟨as,ra⟩:=Qd_ I h r
   obtain ⟨bs,rb⟩:=yj_ I t rr
   exact ⟨_,.cons ra rb⟩
end
end
theorem ju_ {X:Cx} {pins:List (Addr×Obj)} {σ:L2.St} {H:Hp} {s:Shared} (I:Inv X pins σ H s) :
  (∀ {v d},Rep X.K H v d→∀ {u},RelV v u→∃ as,Reads s.heap u d as)∧(∀ {vs ds},RepL X.K H vs ds→∀ {us},Vals vs us→∃ as,ReadsAll s.heap us ds as) :=
 ⟨fun {v d} h {u} r=>Qd_ I h r,fun {vs ds} h {us} r=>yj_ I h r⟩
inductive OC where
 | l (ds:List D)
 | t (es:List (D×D))
 | k (es:List (D×D))
inductive AV where
 | fz (d:D)
 | ol (c:OC)
 | op (c:OC)
abbrev En:=List (Option AV)
inductive RV where
 | fz (d:D)
 | fr (c:OC)
 | bor (i:Nat)
structure Gh where
 P:Nat→Option Addr
 O:Hp
 B:Hp
def Held (K:Fg) (F H:Hp) (a:Addr):OC→Prop
 | .l ds=>∃ vs,H a=some (.lst vs)∧RepL K F vs ds
 | .t es=>∃ kvs,H a=some (.dT kvs)∧es.map (·.1)=kvs.map (fun p=>keyT p.1)∧RepL K F (kvs.map (·.2)) (es.map (·.2))
 | .k es=>∃ kvs,H a=some (.dK kvs)∧es.map (·.1)=kvs.map (fun p=>keyD p.1)∧RepL K F (kvs.map (·.2)) (es.map (·.2))
structure OwnAt (K:Fg) (G:Gh) (F H:Hp) (a:Addr) (c:OC):Prop where
 nf:F a=none
 no:G.O a=none
 he:Held K F H a c
def own (ρ:En) (i:Nat) (c:OC):Prop:=ρ[i]? = some (some (.ol c))∨ρ[i]? = some (some (.op c))
structure StOk (K:Fg) (G:Gh) (F:Hp) (σ:L2.St) (H:Hp) (ρ:En):Prop where
 fh:Same F H
 oh:Same G.O H
 fo:∀ b o,G.O b=some o→F b=none∧∀ vs,o≠.tup vs
 ln:σ.length=ρ.length
 fz:∀ (i:Nat) (d:D),ρ[i]? = some (some (AV.fz d))→∃ v,σ[i]? = some (some v)∧Rep K F v d
 ow:∀ (i:Nat) (c:OC),own ρ i c→∃ a:Addr,σ[i]? = some (some (V.ref a))∧OwnAt K G F H a c
 dj:∀ (i j:Nat) (c e:OC) (a:Addr),own ρ i c→own ρ j e→σ[i]? = some (some (V.ref a))→σ[j]? = some (some (V.ref a))→i=j
 pp:∀ (i:Nat) (a:Addr),G.P i=some a→σ[i]? = some (some (V.ref a))∧∃ c,ρ[i]? = some (some (AV.op c))
 pq:∀ (i:Nat) (c:OC),ρ[i]? = some (some (AV.op c))→∃ a,G.P i=some a
 fb:Same G.B F
def RVR (K:Fg) (G:Gh) (F:Hp) (σ:L2.St) (H:Hp) (ρ:En) (v:V):RV→Prop
 | .fz d=>Rep K F v d
 | .fr c=>∃ a,v=.ref a∧OwnAt K G F H a c∧∀ (i:Nat) (e:OC),own ρ i e→σ[i]? ≠ some (some (V.ref a))
 | .bor i=>∃ c,own ρ i c∧σ[i]? = some (some v)
theorem Held.mono {K:Fg} {F F' H:Hp} {a:Addr} {c:OC} (e:Same F F') (h:Held K F H a c):Held K F' H a c:=by
 cases c with
 | l ds=>obtain ⟨vs,h1,h2⟩:=h;exact ⟨vs,h1,h2.mono e⟩
 | t es=>obtain ⟨vs,h1,h2,h3⟩:=h;exact ⟨vs,h1,h2,h3.mono e⟩
 | k es=>obtain ⟨vs,h1,h2,h3⟩:=h;exact ⟨vs,h1,h2,h3.mono e⟩
theorem Held.some {K:Fg} {F H:Hp} {a:Addr} {c:OC} (h:Held K F H a c):∃ o,H a=some o:=by
 cases c with
 | l ds=>obtain ⟨vs,h1,h2⟩:=h;exact ⟨_,h1⟩
 | t es=>obtain ⟨vs,h1,h2⟩:=h;exact ⟨_,h1⟩
 | k es=>obtain ⟨vs,h1,h2⟩:=h;exact ⟨_,h1⟩
theorem Held.at {K:Fg} {F H H':Hp} {a:Addr} {c:OC} (h:Held K F H a c) (e:H' a=H a):Held K F H' a c:=by
 cases c with
 | l ds=>obtain ⟨vs,h1,h2⟩:=h;exact ⟨vs,e.trans h1,h2⟩
 | t es=>obtain ⟨vs,h1,h2⟩:=h;exact ⟨vs,e.trans h1,h2⟩
 | k es=>obtain ⟨vs,h1,h2⟩:=h;exact ⟨vs,e.trans h1,h2⟩
theorem jK_ {F:Hp} {p:Addr} {o:HO} (h:F p=none):Same F (upd F p o):=fun b u e=>by
 rw [zn_ (zl_ e h)]
 exact e
theorem j1_ {F H:Hp} {p:Addr} {o:HO} (s:Same F H) (h:F p=none):Same F (upd H p o):=fun b u e=>by
 rw [zn_ (zl_ e h)]
 exact s b u e
section
variable {K:Fg} {G:Gh} {F H:Hp} {σ:L2.St} {ρ:En}
theorem StOk.lay (S:StOk K G F σ H ρ) {p:Addr} {o:HO} (hp:H p=none):StOk K G F σ (upd H p o) ρ:=by
 have fp:F p=none:=S.fh.free hp
 have op:G.O p=none:=S.oh.free hp
 refine ⟨j1_ S.fh fp,j1_ S.oh op,S.fo,S.ln,S.fz,fun i c h=>?_,S.dj,S.pp,S.pq,S.fb⟩
 obtain ⟨a,e,oa⟩:=S.ow i c h
 refine ⟨a,e,oa.nf,oa.no,oa.he.at ?_⟩
 obtain ⟨u,hu⟩:=oa.he.some
 exact zn_ (zl_ hu hp)
theorem StOk.fresh_ne (S:StOk K G F σ H ρ) {p:Addr} (hp:H p=none):∀ (i:Nat) (e:OC),own ρ i e→σ[i]? ≠ some (some (V.ref p)):=fun i e h q=>by
 obtain ⟨a,e1,oa⟩:=S.ow i e h
 rw [e1] at q
 injection q with q;injection q with q;injection q with q
 subst q
 obtain ⟨u,hu⟩:=oa.he.some
 rw [hp] at hu;cases hu
theorem StOk.freeze (S:StOk K G F σ H ρ) {a:Addr} {o:HO} (ha:H a=some o) (fa:F a=none) (oa:G.O a=none) (ne:∀ (i:Nat) (e:OC),own ρ i e→σ[i]? ≠ some (some (V.ref a))):StOk K G (upd F a o) σ H ρ:=by
 have sm:Same F (upd F a o):=jK_ fa
 refine ⟨fun b u e=>?_,S.oh,fun b u e=>?_,S.ln,fun i d h=>?_,fun i c h=>?_,S.dj,S.pp,S.pq,S.fb.trans sm⟩
 ·by_cases hb:b=a
  ·subst hb;rw [zL_] at e;cases e;exact ha
  ·rw [zn_ hb] at e;exact S.fh b u e
 ·rw [zn_ (zl_ e oa)];exact S.fo b u e
 ·obtain ⟨v,e,r⟩:=S.fz i d h;exact ⟨v,e,r.mono sm⟩
 ·obtain ⟨b,e,ob⟩:=S.ow i c h
  refine ⟨b,e,?_,ob.no,ob.he.mono sm⟩
  rw [zn_ (fun z=>ne i c h (by rw [e,z]))]
  exact ob.nf
theorem StOk.newTup (S:StOk K G F σ H ρ) {p:Addr} {vs:List V} {ds:List D} (hp:H p=none) (r:RepL K F vs ds) :
  Same F (upd F p (.tup vs))∧StOk K G (upd F p (.tup vs)) σ (upd H p (.tup vs)) ρ∧Rep K (upd F p (.tup vs)) (.ref p) (.tuple ds):=by
 have fp:F p=none:=S.fh.free hp
 refine ⟨jK_ fp,(S.lay hp).freeze zL_ fp (S.oh.free hp) (S.fresh_ne hp),?_⟩
 exact .tup zL_ (r.mono (jK_ fp))
theorem StOk.newLst (S:StOk K G F σ H ρ) {p:Addr} {vs:List V} {ds:List D} (hp:H p=none) (r:RepL K F vs ds) :
  StOk K G F σ (upd H p (.lst vs)) ρ∧RVR K G F σ (upd H p (.lst vs)) ρ (.ref p) (.fr (.l ds)) :=
 ⟨S.lay hp,p,rfl,⟨S.fh.free hp,S.oh.free hp,vs,zL_,r⟩,S.fresh_ne hp⟩
theorem StOk.settle (S:StOk K G F σ H ρ) {v:V} {ds:List D} (r:RVR K G F σ H ρ v (.fr (.l ds))) :
  ∃ F',Same F F'∧StOk K G F' σ H ρ∧Rep K F' v (.list ds):=by
 obtain ⟨a,rfl,oa,ne⟩:=r
 obtain ⟨vs,h1,h2⟩:=oa.he
 exact ⟨upd F a (.lst vs),jK_ oa.nf,S.freeze h1 oa.nf oa.no ne,.lst (.inl (.inl zL_)) (h2.mono (jK_ oa.nf))⟩
theorem uU_ {α:Type} (l:List α) (i:Nat) (x y:α) (h:l[i]? = some y):(l.set i x)[i]? = some x:=by
 rw [List.getElem?_set_self (List.getElem?_eq_some_iff.mp h).1]
def OC.d:OC→D
 | .l ds=>.list ds
 | .t es=>.dict es
 | .k es=>.dict es
theorem UO_ {a:Addr} {c:OC} (h:Held K F H a c):∃ o,H a=some o∧∀ F',Same F F'→F' a=some o→Rep K F' (.ref a) c.d:=by
 cases c with
 | l ds=>obtain ⟨vs,h1,h2⟩:=h;exact ⟨_,h1,fun F' s e=>.lst (.inl (.inl e)) (h2.mono s)⟩
 | t es=>obtain ⟨vs,h1,h2,h3⟩:=h;exact ⟨_,h1,fun F' s e=>.dct e h2 (h3.mono s)⟩
 | k es=>obtain ⟨vs,h1,h2,h3⟩:=h;exact ⟨_,h1,fun F' s e=>.dck e h2 (h3.mono s)⟩
theorem StOk.settleC (S:StOk K G F σ H ρ) {i:Nat} {oc:OC} (hi:ρ[i]? = some (some (.ol oc))) {v:V} (hv:σ[i]? = some (some v)) :
  ∃ F',Same F F'∧StOk K G F' σ H (ρ.set i (some (.fz oc.d)))∧Rep K F' v oc.d:=by
 obtain ⟨a,e,oa⟩:=S.ow i _ (.inl hi)
 rw [hv] at e
 injection e with e;injection e with e
 subst e
 obtain ⟨vo,h1,hrep⟩:=UO_ oa.he
 have sm:Same F (upd F a vo):=jK_ oa.nf
 have rp:Rep K (upd F a vo) (.ref a) oc.d:=hrep _ sm zL_
 have ne:∀ j,j≠i→(ρ.set i (some (.fz oc.d)))[j]? = ρ[j]?:=fun j hj=>List.getElem?_set_ne (Ne.symm hj)
 have at_i:(ρ.set i (some (.fz oc.d)))[i]? = some (some (.fz oc.d)):=uU_ _ _ _ _ hi
 have ownj:∀ j c,own (ρ.set i (some (.fz oc.d))) j c→j≠i∧own ρ j c:=fun j c h=>by
  have hj:j≠i:=by
   rintro rfl
   rcases h with h|h<;>(rw [at_i] at h;cases h)
  refine ⟨hj,?_⟩
  rcases h with h|h
  ·exact .inl (by rw [←ne j hj];exact h)
  ·exact .inr (by rw [←ne j hj];exact h)
 refine ⟨upd F a vo,sm,⟨fun b u e=>?_,S.oh,fun b u e=>?_,by simpa using S.ln,fun j d h=>?_,fun j c h=>?_,fun j k c e b h1 h2=>S.dj j k c e b (ownj j c h1).2 (ownj k e h2).2,fun j b h=>?_,fun j c h=>?_,S.fb.trans sm⟩,rp⟩
 ·by_cases hb:b=a
  ·subst hb;rw [zL_] at e;cases e;exact h1
  ·rw [zn_ hb] at e;exact S.fh b u e
 ·rw [zn_ (zl_ e oa.no)];exact S.fo b u e
 ·by_cases hj:j=i
  ·subst hj
   rw [at_i] at h
   cases h
   exact ⟨_,hv,rp⟩
  ·rw [ne j hj] at h
   obtain ⟨w,e,r⟩:=S.fz j d h
   exact ⟨w,e,r.mono sm⟩
 ·obtain ⟨hj,h'⟩:=ownj j c h
  obtain ⟨b,e,ob⟩:=S.ow j c h'
  refine ⟨b,e,?_,ob.no,ob.he.mono sm⟩
  rw [zn_ (fun z=>hj (S.dj j i _ _ a h' (.inl hi) (by rw [e,z]) hv))]
  exact ob.nf
 ·obtain ⟨q,c,q'⟩:=S.pp j b h
  refine ⟨q,c,?_⟩
  have hj:j≠i:=by rintro rfl;rw [hi] at q';cases q'
  rw [ne j hj];exact q'
 ·have hj:j≠i:=by rintro rfl;rw [at_i] at h;cases h
  rw [ne j hj] at h
  exact S.pq j c h
theorem StOk.store (S:StOk K G F σ H ρ) {j:Nat} {v:V} {av:AV} (hj:∀ c,ρ[j]? ≠ some (some (.op c))) (hl:j<ρ.length)
  (h:(∃ d,av=.fz d∧Rep K F v d)∨∃ c,av=.ol c∧RVR K G F σ H ρ v (.fr c)):StOk K G F (σ.set j (some v)) H (ρ.set j (some av)):=by
 have hls:j<σ.length:=by rw [S.ln];exact hl
 have ne:∀ i,i≠j→(ρ.set j (some av))[i]? = ρ[i]?:=fun i hi=>List.getElem?_set_ne (Ne.symm hi)
 have nes:∀ i,i≠j→(σ.set j (some v))[i]? = σ[i]?:=fun i hi=>List.getElem?_set_ne (Ne.symm hi)
 have atj:(ρ.set j (some av))[j]? = some (some av):=List.getElem?_set_self hl
 have atjs:(σ.set j (some v))[j]? = some (some v):=List.getElem?_set_self hls
 have owni:∀ i c,i≠j→own (ρ.set j (some av)) i c→own ρ i c:=fun i c hi h=>by
  unfold own at h ⊢
  rw [ne i hi] at h
  exact h
 refine ⟨S.fh,S.oh,S.fo,by simpa using S.ln,fun i d q=>?_,fun i c q=>?_,fun i k c e a q1 q2 e1 e2=>?_,fun i a q=>?_,fun i c q=>?_,S.fb⟩
 ·by_cases hi:i=j
  ·subst hi
   rw [atj] at q
   rcases h with ⟨d',rfl,r⟩|⟨c,rfl,_⟩
   ·cases q;exact ⟨v,atjs,r⟩
   ·cases q
  ·rw [ne i hi] at q
   obtain ⟨w,e,r⟩:=S.fz i d q
   exact ⟨w,by rw [nes i hi];exact e,r⟩
 ·by_cases hi:i=j
  ·subst hi
   rcases h with ⟨d',rfl,r⟩|⟨c',rfl,a,rfl,oa,_⟩
   ·rcases q with q|q<;>(rw [atj] at q;cases q)
   ·rcases q with q|q
    ·rw [atj] at q;cases q;exact ⟨a,atjs,oa⟩
    ·rw [atj] at q;cases q
  ·obtain ⟨a,e,oa⟩:=S.ow i c (owni i c hi q)
   exact ⟨a,by rw [nes i hi];exact e,oa⟩
 ·by_cases hi:i=j
  ·by_cases hk:k=j
   ·rw [hi,hk]
   ·exfalso
    subst hi
    rw [nes k hk] at e2
    rw [atjs] at e1
    injection e1 with e1;injection e1 with e1
    subst e1
    rcases h with ⟨d',rfl,r⟩|⟨c',rfl,a',e,oa,nn⟩
    ·rcases q1 with q|q<;>(rw [atj] at q;cases q)
    ·injection e with e;subst e
     exact nn k _ (owni k _ hk q2) e2
  ·by_cases hk:k=j
   ·exfalso
    subst hk
    rw [nes i hi] at e1
    rw [atjs] at e2
    injection e2 with e2;injection e2 with e2
    subst e2
    rcases h with ⟨d',rfl,r⟩|⟨c',rfl,a',e,oa,nn⟩
    ·rcases q2 with q|q<;>(rw [atj] at q;cases q)
    ·injection e with e;subst e
     exact nn i _ (owni i _ hi q1) e1
   ·rw [nes i hi] at e1
    rw [nes k hk] at e2
    exact S.dj i k _ _ a (owni i _ hi q1) (owni k _ hk q2) e1 e2
 ·obtain ⟨q1,c,q2⟩:=S.pp i a q
  have hi:i≠j:=by rintro rfl;exact hj c q2
  exact ⟨by rw [nes i hi];exact q1,c,by rw [ne i hi];exact q2⟩
 ·have hi:i≠j:=by
   rintro rfl
   rw [atj] at q
   rcases h with ⟨d',rfl,r⟩|⟨c',rfl,_⟩<;>cases q
  rw [ne i hi] at q
  exact S.pq i c q
theorem StOk.change (S:StOk K G F σ H ρ) {j:Nat} {a:Addr} {c c':OC} {o:HO} (hj:own ρ j c) (ha:σ[j]? = some (some (.ref a))) (hh:Held K F (upd H a o) a c') :
  StOk K G F σ (upd H a o) (ρ.set j ((ρ[j]?.join).map fun | .op _=>.op c'|_=>.ol c')):=by
 obtain ⟨b,e,ob⟩:=S.ow j c hj
 rw [ha] at e
 injection e with e;injection e with e;injection e with e
 subst e
 have hl:j<ρ.length:=by rcases hj with h|h<;>exact (List.getElem?_eq_some_iff.mp h).1
 generalize hav:((ρ[j]?.join).map fun (x:AV)=>match x with | .op _=>AV.op c'|_=>AV.ol c')=av
 have ne:∀ i,i≠j→(ρ.set j av)[i]? = ρ[i]?:=fun i hi=>List.getElem?_set_ne (Ne.symm hi)
 have atj:(ρ.set j av)[j]? = some av:=List.getElem?_set_self hl
 have owni:∀ i e,i≠j→own (ρ.set j av) i e→own ρ i e:=fun i c hi h=>by
  unfold own at h ⊢
  rw [ne i hi] at h
  exact h
 have kind:(ρ[j]? = some (some (.ol c))∧av=some (.ol c'))∨(ρ[j]? = some (some (.op c))∧av=some (.op c')):=by
  rcases hj with h|h
  ·exact .inl ⟨h,by rw [←hav,h];rfl⟩
  ·exact .inr ⟨h,by rw [←hav,h];rfl⟩
 have ownj:∀ e,own (ρ.set j av) j e→e=c':=fun e h=>by
  unfold own at h
  rw [atj] at h
  rcases kind with ⟨_,k⟩|⟨_,k⟩<;>rw [k] at h<;>rcases h with h|h<;>cases h<;>rfl
 refine ⟨j1_ S.fh ob.nf,j1_ S.oh ob.no,S.fo,by simpa using S.ln,fun i d q=>?_,fun i e q=>?_,fun i k c1 e1 b q1 q2=>?_,fun i b q=>?_,fun i e q=>?_,S.fb⟩
 ·by_cases hi:i=j
  ·subst hi
   rw [atj] at q
   rcases kind with ⟨_,k⟩|⟨_,k⟩<;>rw [k] at q<;>cases q
  ·rw [ne i hi] at q;exact S.fz i d q
 ·by_cases hi:i=j
  ·subst hi
   have:=ownj e q
   subst this
   exact ⟨a,ha,ob.nf,ob.no,hh⟩
  ·have q':=owni i e hi q
   obtain ⟨b',e',ob'⟩:=S.ow i e q'
   refine ⟨b',e',ob'.nf,ob'.no,ob'.he.at (zn_ fun z=>hi (S.dj i j _ _ a q' hj (by rw [e',z]) ha))⟩
 ·have o1:∃ e,own ρ i e:=by
   by_cases hi:i=j
   ·exact ⟨c,hi▸hj⟩
   ·exact ⟨_,owni i _ hi q1⟩
  have o2:∃ e,own ρ k e:=by
   by_cases hk:k=j
   ·exact ⟨c,hk▸hj⟩
   ·exact ⟨_,owni k _ hk q2⟩
  exact S.dj i k _ _ b o1.choose_spec o2.choose_spec
 ·obtain ⟨q1,e,q2⟩:=S.pp i b q
  refine ⟨q1,?_⟩
  by_cases hi:i=j
  ·subst hi
   rcases kind with ⟨k1,k⟩|⟨k1,k⟩
   ·rw [k1] at q2;cases q2
   ·exact ⟨c',by rw [atj,k]⟩
  ·exact ⟨e,by rw [ne i hi];exact q2⟩
 ·by_cases hi:i=j
  ·subst hi
   rcases kind with ⟨k1,k⟩|⟨k1,k⟩
   ·rw [atj,k] at q;cases q
   ·exact S.pq i c k1
  ·rw [ne i hi] at q;exact S.pq i e q
end
end L3
set_option Elab.async false
set_option linter.all false
set_option maxRecDepth 100000
namespace L4
open PySem PySem.Spec PyProof.Rows L2 L3
def TbOf (h:Heap) (e b:Addr):Prop:=∃ oe vs,h.get? e=some oe∧oe.data=.fields vs∧vs[1]? = some (.ref b)
structure Ent (fs:List Addr) (h h':Heap) (e T:Addr) (oe:Obj) (ts:Array Value):Prop where
 keep:∀ b o,h.get? b=some o→b∉fs→b≠e→h'.get? b=some o
 slot:∀ b o,h.get? b=some o→b≠e→∃ sl,h'.get? b=some { o with slots:=sl }
 new:h.objs.size≤T
 exc:h'.get? e=some (oe.mapFields (·.setIfInBounds 1 (.ref T)))
 way:∃ oT,h'.get? T=some oT∧oT.data=.fields ts
section
variable {M:Model} {A:Around} {E:Value→Shared→Prop} {s:Shared} {base:Heap} {env:Env} {outer:List Env} {L e:Addr} {oe:Obj} {vs:Array Value}
theorem ys_ {top:Value} {nx:Bool} {Q:Unit→Shared→Prop} (hA:A.frames=some (env::outer)) (hF:s.heap.FunFrames base (env::outer)) (hL:env.frame=some L)
  (he:s.heap.get? e=some oe) (hd:oe.data=.fields vs) (hz:1<vs.size)
  (k:∀ h' T ts,Ent (frs (env::outer)) s.heap h' e T oe ts→3<ts.size→ts[3]? = some (rawInt L)→Q () { s with heap:=h' }) :
  wpAny M A (do let a ←frameOf env;let pl ←entryPlaceOf L nx;let b ←EntryCells.newEntry top a .none (rawInt L) .none pl;setField (.ref e) 1 b) Q E s:=by
 have ne:e∉frs (env::outer):=fun z=>by
  obtain ⟨_,o,q,r⟩:=hF.mem z
  rw [he] at q;cases q
  exact r vs hd
 refine wpAny_bind (wpAny_frameOf_fun hA hF hL fun h1 so=>wpAny_bind (wpAny_entryPlaceOf fun pl ip=>?_))
 simp only [EntryCells.newEntry,newFields]
 refine wpAny_bind (wpAny_newObj_type ?_ (ip.sizeOk5 _ _ _ _ _))
 generalize hts:([top,.ref L,.none,rawInt L,.none]++(if pl.isEmpty then List.replicate 6 Value.none else pl)).toArray=ts
 have z3:3<ts.size:=by
  rw [←hts,List.size_toArray,List.length_append]
  simp only [List.length_cons,List.length_nil]
  omega
 have g3:ts[3]? = some (rawInt L):=by rw [←hts];simp
 generalize htb:({ cls:=.type "traceback",dict:=none,data:=.fields ts }:Obj)=tb
 have fr:tb.isFreed=false:=by rw [←htb];rfl
 have e1:h1.get? e=some oe:=by rw [so.2.1 e ne];exact he
 have lt:e<h1.objs.size:=Heap.lt_size e1
 refine wpAny_setField (Heap.get?_push_of_some tb e1) hd hz ?_
 have hd':=Obj.data_mapFields hd (·.setIfInBounds 1 (Value.ref h1.objs.size))
 have up:∀ b,b≠e→((h1.push tb).update e (Obj.mapFields (·.setIfInBounds 1 (.ref h1.objs.size)))).get? b=(h1.push tb).get? b:=fun b hb=>Heap.get?_update_other _ _ (Ne.symm hb)
 refine k _ h1.objs.size ts ⟨fun b o q nf nb=>?_,fun b o q nb=>?_,by rw [so.1];exact Nat.le_refl _,?_,⟨tb,?_,?_⟩⟩ z3 g3
 ·exact (up b nb).trans (Heap.get?_push_of_some _ ((so.2.1 b nf).trans q))
 ·obtain ⟨sl,q'⟩:=so.2.2 b o q
  exact ⟨sl,(up b nb).trans (Heap.get?_push_of_some _ q')⟩
 ·exact Heap.get?_update_self _ (Heap.get?_push_of_some tb e1) (Obj.isFreed_of_fields hd')
 ·exact (up _ (Nat.ne_of_gt lt)).trans (Heap.get?_push_size h1 fr)
 ·rw [←htb]
end
def XO (e C:Addr) (dd:Option Addr):Heap→Prop:=fun h=>∃ oe,h.get? e=some oe∧oe.cls=.ref C∧oe.dict=dd∧PySem.W.notCls oe=true
def XD (dx:Addr) (fs:List (Str×V)):Heap→Prop:=fun h=>∃ mA,h.Ns1 dx mA∧PySem.Within mA (fs.map (·.1))∧∀ f,RelO (fs.lookup f) (mA f)
structure XS (H:Hp) (h:Heap) (lo:Nat) (e C:Addr) (dd:Option Addr):Prop where
 yg:lo≤e
 trk:H e=some (.ext (XO e C dd))
 obj:∃ oe vs,h.get? e=some oe∧oe.cls=.ref C∧oe.dict=dd∧oe.data=.fields vs∧1<vs.size ∧
  (vs[1]? = some .none∨∃ T oT ts,vs[1]? = some (.ref T)∧T≠e∧lo≤T∧H T=none∧h.get? T=some oT∧oT.data=.fields ts∧ts[3]? = some .none)
structure Mv (fs:List Addr) (h h':Heap) (e:Addr):Prop where
 keep:∀ b o,h.get? b=some o→b∉fs→b≠e→¬ TbOf h e b→h'.get? b=some o
 slot:∀ b o,h.get? b=some o→b≠e→¬ TbOf h e b→∃ sl,h'.get? b=some { o with slots:=sl }
 there:∀ b o,h.get? b=some o→∃ o',h'.get? b=some o'
theorem U2_ (f:Array Value→Array Value) (o:Obj):(o.mapFields f).dict=o.dict:=by
 obtain ⟨c,d,dt,sl⟩:=o
 cases dt<;>rfl
theorem Xq_ {L:Addr}:¬ ((Value.none==rawInt L)=true):=by simp [rawInt]
section
variable {M:Model} {A:Around} {E:Value→Shared→Prop} {s:Shared} {base:Heap} {env:Env} {outer:List Env} {L e C:Addr} {dd:Option Addr} {H:Hp} {lo:Nat} {P:Program} {w:World}
theorem yq_ {oe:Obj} {vs:Array Value} {h0:Heap} {T:Addr} {ts:Array Value} {Q:Unit→Shared→Prop} (en:Ent (frs (env::outer)) h0 s.heap e T oe ts) (hd:oe.data=.fields vs) (hz:1<vs.size) (z3:3<ts.size) (hh:e<h0.objs.size)
  (k:∀ h',(∀ b,b≠T→h'.get? b=s.heap.get? b)→(∃ oT tz,h'.get? T=some oT∧oT.data=.fields tz∧tz[3]? = some .none)→Q () { s with heap:=h' }):wpAny M A (setFlight (.ref e) none) Q E s:=by
 obtain ⟨oT,q1,q2⟩:=en.way
 have d':=Obj.data_mapFields hd (·.setIfInBounds 1 (Value.ref T))
 simp only [setFlight]
 refine wpAny_bind (wpAny_field en.exc d' (x:=.ref T) (by simp [hz]) ?_)
 rw [if_pos (by simp)]
 refine wpAny_setField q1 q2 z3 (k _ (fun b hb=>Heap.get?_update_other _ _ (Ne.symm hb)) ⟨_,_,Heap.get?_update_self _ q1 (Obj.isFreed_of_fields (Obj.data_mapFields q2 _)),Obj.data_mapFields q2 _,by simp [z3]⟩)
theorem YK_ {Q:Unit→Shared→Prop} (hA:A.frames=some (env::outer)) (hF:s.heap.FunFrames base (env::outer)) (hL:env.frame=some L) (hk:HOk P w H s.heap) (xs:XS H s.heap lo e C dd)
  (k:∀ h',Mv (frs (env::outer)) s.heap h' e→XS H h' lo e C dd→Q () { s with heap:=h' }) :
  wpAny M A (noteFrame (.ref e) env) (fun _ s2=>wpAny M A (setFlight (.ref e) none) Q E s2) E s:=by
 obtain ⟨oe,vs,he,hc,hdd,hd,hz,tb⟩:=xs.obj
 have elt:e<s.heap.objs.size:=Heap.lt_size he
 have hlo:lo≤s.heap.objs.size:=Nat.le_trans xs.yg (Nat.le_of_lt elt)
 simp only [noteFrame,hL]
 rcases tb with tb|⟨T,oT,ts,tb,hTe,hTl,hTn,hT,hTd,t3⟩
 ·refine wpAny_bind (wpAny_field he hd tb ?_)
  rw [if_neg (by decide)]
  refine ys_ hA hF hL he hd hz fun h1 T1 t1 en z3 g3=>?_
  refine yq_ (s:={ s with heap:=h1 }) en hd hz z3 elt fun h2 same way=>?_
  have nT:∀ b o,s.heap.get? b=some o→b≠T1:=fun b o q=>Nat.ne_of_lt (Nat.lt_of_lt_of_le (Heap.lt_size q) en.new)
  have d1:=Obj.data_mapFields hd (·.setIfInBounds 1 (Value.ref T1))
  refine k h2 ⟨fun b o q nf nb _=>?_,fun b o q nb _=>?_,fun b o q=>?_⟩ ⟨xs.yg,xs.trk,_,_,?_,?_,?_,d1,by simpa using hz,.inr ?_⟩
  ·rw [same b (nT b o q)];exact en.keep b o q nf nb
  ·obtain ⟨sl,z⟩:=en.slot b o q nb
   exact ⟨sl,by rw [same b (nT b o q)];exact z⟩
  ·by_cases nb:b=e
   ·subst nb;exact ⟨_,by rw [same _ (nT _ o q)];exact en.exc⟩
   ·obtain ⟨sl,z⟩:=en.slot b o q nb
    exact ⟨_,by rw [same b (nT b o q)];exact z⟩
  ·rw [same e (nT e _ he)];exact en.exc
  ·rw [Obj.cls_mapFields];exact hc
  ·rw [U2_];exact hdd
  ·obtain ⟨o1,tz,w1,w2,w3⟩:=way
   exact ⟨T1,o1,tz,by simp [hz],fun z=>nT e _ he z.symm,Nat.le_trans hlo en.new,hk.fresh en.new,w1,w2,w3⟩
 ·refine wpAny_bind (wpAny_field he hd tb ?_)
  rw [if_pos (by simp)]
  refine wpAny_bind (wpAny_field hT hTd t3 ?_)
  rw [if_neg Xq_]
  have z3':3<ts.size:=(Array.getElem?_eq_some_iff.mp t3).1
  refine wpAny_bind (wpAny_setField hT hTd z3' ?_)
  have off:∀ b,b≠T→(s.heap.update T (Obj.mapFields (·.setIfInBounds 3 Value.none))).get? b=s.heap.get? b:=fun b hb=>Heap.get?_update_other _ _ (Ne.symm hb)
  have hF':(s.heap.update T (Obj.mapFields (·.setIfInBounds 3 Value.none))).FunFrames base (env::outer):=hF.of_keeps fun b o q r=>⟨o,(off b fun z=>by subst z;rw [hT] at q;cases q;exact r ts hTd).trans q,rfl⟩
  have he':(s.heap.update T (Obj.mapFields (·.setIfInBounds 3 Value.none))).get? e=some oe:=(off e (Ne.symm hTe)).trans he
  have zz:(s.heap.update T (Obj.mapFields (·.setIfInBounds 3 Value.none))).objs.size=s.heap.objs.size:=Heap.size_update ..
  refine ys_ (s:={ s with heap:=s.heap.update T (Obj.mapFields (·.setIfInBounds 3 Value.none)) }) hA hF' hL he' hd hz fun h1 T1 t1 en z3 g3=>?_
  refine yq_ (s:={ s with heap:=h1 }) en hd hz z3 (by rw [zz];exact elt) fun h2 same way=>?_
  have nw:s.heap.objs.size≤T1:=by have:=en.new;rw [zz] at this;exact this
  have nT:∀ b o,s.heap.get? b=some o→b≠T1:=fun b o q=>Nat.ne_of_lt (Nat.lt_of_lt_of_le (Heap.lt_size q) nw)
  have isT:TbOf s.heap e T:=⟨oe,vs,he,hd,tb⟩
  have nTT:∀ b,¬ TbOf s.heap e b→b≠T:=fun b z q=>z (q▸isT)
  have d1:=Obj.data_mapFields hd (·.setIfInBounds 1 (Value.ref T1))
  have T0:(s.heap.update T (Obj.mapFields (·.setIfInBounds 3 Value.none))).get? T=some (oT.mapFields (·.setIfInBounds 3 Value.none)):=Heap.get?_update_self _ hT (Obj.isFreed_of_fields (Obj.data_mapFields hTd _))
  refine k h2 ⟨fun b o q nf nb nt=>?_,fun b o q nb nt=>?_,fun b o q=>?_⟩ ⟨xs.yg,xs.trk,_,_,?_,?_,?_,d1,by simpa using hz,.inr ?_⟩
  ·rw [same b (nT b o q)];exact en.keep b o ((off b (nTT b nt)).trans q) nf nb
  ·obtain ⟨sl,z⟩:=en.slot b o ((off b (nTT b nt)).trans q) nb
   exact ⟨sl,by rw [same b (nT b o q)];exact z⟩
  ·by_cases nb:b=e
   ·subst nb;exact ⟨_,by rw [same _ (nT _ o q)];exact en.exc⟩
   ·by_cases nt:b=T
    ·subst nt
     obtain ⟨sl,z⟩:=en.slot b _ T0 nb
     exact ⟨_,by rw [same b (nT b o q)];exact z⟩
    ·obtain ⟨sl,z⟩:=en.slot b o ((off b nt).trans q) nb
     exact ⟨_,by rw [same b (nT b o q)];exact z⟩
  ·rw [same e (nT e _ he)];exact en.exc
  ·rw [Obj.cls_mapFields];exact hc
  ·rw [U2_];exact hdd
  ·obtain ⟨o1,tz,w1,w2,w3⟩:=way
   exact ⟨T1,o1,tz,by simp [hz],fun z=>nT e _ he z.symm,Nat.le_trans hlo nw,hk.fresh nw,w1,w2,w3⟩
theorem JU_ {Q:Unit→Shared→Prop} (hA:A.frames=some (env::outer)) (hF:s.heap.FunFrames base (env::outer)) (hL:env.frame=some L) (hk:HOk P w H s.heap) (xs:XS H s.heap lo e C dd)
  (k:∀ h',Mv (frs (env::outer)) s.heap h' e→XS H h' lo e C dd→Q () { s with heap:=h' }):wpAny M A (leaving env (.ref e)) Q E s:=by
 unfold leaving
 exact wpAny_bind (YK_ hA hF hL hk xs k)
end
end L4
set_option Elab.async false
set_option linter.all false
set_option maxRecDepth 100000
namespace L4
open PySem PySem.Spec PyProof.Rows L2 L3
section
variable {fs:List Addr} {h h':Heap} {e C:Addr} {dd:Option Addr} {H:Hp} {lo:Nat} {P:Program} {w:World}
theorem XO.ok {H':Hp} (x:XO e C dd h):ObjOk P w H' h e (.ext (XO e C dd)):=by
 obtain ⟨oe,q,r⟩:=x
 exact ⟨⟨oe,q,r⟩,⟨oe,q⟩,fun h1 h2 ⟨o,z,r⟩ k=>⟨o,k o z,r⟩⟩
theorem XS.xo (xs:XS H h lo e C dd):XO e C dd h:=by
 obtain ⟨oe,vs,q,c,d,z,_⟩:=xs.obj
 exact ⟨oe,q,c,d,by unfold PySem.W.notCls;rw [z]⟩
theorem XS.tb (xs:XS H h lo e C dd) {b:Addr} (t:TbOf h e b):H b=none∧lo≤b∧b≠e∧∃ oT ts,h.get? b=some oT∧oT.data=.fields ts:=by
 obtain ⟨oe,vs,q,c,d,z,_,k⟩:=xs.obj
 obtain ⟨oe',vs',q',z',k'⟩:=t
 rw [q] at q';cases q'
 rw [z] at z';cases z'
 rcases k with k|⟨T,oT,ts,k,ne,l,n,g,gd,_⟩
 ·rw [k] at k';cases k'
 ·rw [k] at k'
  cases k'
  exact ⟨n,l,ne,oT,ts,g,gd⟩
theorem Mv.hok (m:Mv fs h h' e) (ok:HOk P w H h) (xs:XS H h lo e C dd) (xs':XS H h' lo e C dd) (hf:∀ b∈fs,H b=none):HOk P w H h':=fun a o q=>by
 by_cases ae:a=e
 ·subst ae
  rw [xs.trk] at q;cases q
  exact xs'.xo.ok
 ·refine (ok a o q).stay (fun b u hb z=>?_) (fun _ z=>z) fun _ _ z=>z
  have hbH:∃ v,H b=some v:=by
   rcases hb with rfl|hb
   ·exact ⟨o,q⟩
   ·exact ⟨_,hb⟩
  obtain ⟨v,hv⟩:=hbH
  refine m.keep b u z (fun y=>by rw [hf b y] at hv;cases hv) (fun y=>?_) fun y=>by rw [(xs.tb y).1] at hv;cases hv
  subst y
  rcases hb with rfl|hb
  ·exact ae rfl
  ·rw [xs.trk] at hb;cases hb
end
def CX1 (P:Program) (w:World):CXT:=fun outer H s E e s'=>∃ a C dd H',e=.ref a∧s'.os=s.os∧AllBare s'.gens∧Un (frs outer) [] H H' s.heap s'.heap∧HOk P w H' s'.heap∧XS H' s'.heap s.heap.objs.size a C dd∧E (.ref C) dd H'
theorem Vd_ {P:Program} {w:World} {K:Fg} {mg:Str→Option Value} {base:Heap} {N:List Str} {qual:Str} {scope:Scope} {f:Addr} {cd:Value} {A:Around} {outer:List Env} {s:Shared} {H:Hp} {E:XK}
  {pins:List (Addr×Obj)} {σ:L2.St} {H':Hp} {s':Shared} {a C:Addr} {dd:Option Addr} (I:Inv (cxOf (CX1 P w) P w K mg base N qual scope f cd A outer s H E) pins σ H' s') (xs:XS H' s'.heap s.heap.objs.size a C dd) (hE:E (.ref C) dd H') :
  (cxOf (CX1 P w) P w K mg base N qual scope f cd A outer s H E).xe (.ref a) s':=by
 have hF:=I.stack
 have hS:=I.stkFree
 refine JU_ (base:=base) (L:=s.heap.objs.size) (P:=P) (w:=w) (s:=s') I.ok.frames hF rfl I.hok xs fun h1 m xs1=>?_
 have un:Un (frs outer) [] H H' s.heap s'.heap:=I.base
 have lt:∀ b o,s.heap.get? b=some o→b<s.heap.objs.size:=fun b o q=>Heap.lt_size q
 have ne:∀ b o,s.heap.get? b=some o→b≠a:=fun b o q=>Nat.ne_of_lt (Nat.lt_of_lt_of_le (lt b o q) xs.yg)
 have nt:∀ b o,s.heap.get? b=some o→¬ TbOf s'.heap a b:=fun b o q z=>absurd (Nat.lt_of_lt_of_le (lt b o q) (xs.tb z).2.1) (Nat.lt_irrefl _)
 refine ⟨a,C,dd,H',rfl,I.os,I.bare,⟨fun b o q n hb hx=>?_,fun b o q n hb hx=>?_,un.free,fun b o q hx=>?_,un.tups,un.frzs,un.tbls⟩,m.hok I.hok xs xs1 hS,xs1,hE⟩
 ·refine m.keep b o (un.keep b o q n hb hx) (fun z=>?_) (ne b o q) (nt b o q)
  rcases List.mem_cons.mp (I.stkSub b z) with y|y
  ·exact absurd (lt b o q) (by rw [y];exact Nat.lt_irrefl _)
  ·exact hb y
 ·obtain ⟨sl,z⟩:=un.slot b o q n hb hx
  obtain ⟨sl',z'⟩:=m.slot b _ z (ne b o q) (nt b o q)
  exact ⟨sl',z'⟩
 ·obtain ⟨o',z⟩:=un.there b o q hx
  exact m.there b o' z
end L4
set_option Elab.async false
set_option linter.all false
set_option maxRecDepth 100000
namespace L4
open PySem PySem.Spec PyProof.Rows L2 L3
structure Ex where
 cls:Str
 fs:List (Str×D)
inductive M (S:Type) where
 | ret (s:S)
 | exc (x:Ex)
 | bad
def M.on {S T:Type} (m:M S) (x:Ex→M T) (k:S→M T):M T:=match m with
 | .ret s=>k s
 | .exc e=>x e
 | .bad=>.bad
def bd {S T:Type} (m:M S) (k:S→M T):M T:=m.on .exc k
def oM {S:Type} (o:Option S):M S:=match o with
 | some s=>.ret s
 | none=>.bad
section
variable {S T U:Type}
@[simp] theorem uc_ (s:S) (k:S→M T):bd (.ret s) k=k s:=rfl
end
abbrev Pu (α:Type):=En→M α
def XR (K:Fg) (F H:Hp) (C:Addr) (dd:Option Addr) (x:Ex):Prop:=PySem.W.nsIn K mainGlobals x.cls=some (some (.ref C)) ∧
 ((x.fs=[]∧dd=none)∨∃ dx fv,dd=some dx∧H dx=some (.ext (XD dx fv))∧Paired (fun (p:Str×V) (q:Str×D)=>p.1=q.1∧Rep K F p.2 q.2) fv x.fs)
structure GOk (G:Gh) (F H:Hp):Prop where
 fh:Same F H
 oh:Same G.O H
 fo:∀ b o,G.O b=some o→F b=none∧∀ vs,o≠.tup vs
 fb:Same G.B F
def XW (X:Cx) (G:Gh) (F:Hp) (ρ:En) (x:Ex):Prop:=∀ F' H' s' a C dd pins σ,GOk G F' H'→Inv X pins σ H' s'→XS H' s'.heap X.s₀.heap.objs.size a C dd→XR X.K F' H' C dd x→X.xe (.ref a) s'
theorem XW.mono {X:Cx} {G:Gh} {F F':Hp} {ρ:En} {x:Ex} (s:Same F F') (h:XW X G F ρ x):XW X G F' ρ x:=h
def W (X:Cx) (G:Gh) (F:Hp) (σ:L2.St) (ρ:En) {α:Type} (m:M α) (C:α→Hp→Hp→Prop):Prop:=match m with
 | .ret a=>∀ F' H',Same F F'→StOk X.K G F' σ H' ρ→C a F' H'
 | .exc x=>XW X G F ρ x
 | .bad=>False
section
variable {X:Cx} {G:Gh} {F F' H:Hp} {σ:L2.St} {ρ:En} {α β:Type} {m:M α} {k:α→M β} {C C':α→Hp→Hp→Prop}
theorem W.up {C:β→Hp→Hp→Prop} {m:M β} (s:Same F F') (h:W X G F σ ρ m C):W X G F' σ ρ m C:=by
 cases m with
 | ret a=>exact fun F2 H2 s2 S2=>h F2 H2 (s.trans s2) S2
 | exc x=>exact XW.mono (X:=X) (G:=G) (ρ:=ρ) (x:=x) s h
 | bad=>exact h
theorem W.bind {C:β→Hp→Hp→Prop} (h:W X G F σ ρ (bd m k) C):W X G F σ ρ m fun a F' H'=>W X G F' σ ρ (k a) C:=by
 cases m with
 | ret a=>exact fun F2 H2 s2 S2=>W.up s2 h
 | exc x=>exact h
 | bad=>exact h
theorem W.imp (h:W X G F σ ρ m C) (w:∀ a F' H',Same F F'→StOk X.K G F' σ H' ρ→C a F' H'→C' a F' H'):W X G F σ ρ m C':=by
 cases m with
 | ret a=>exact fun F2 H2 s2 S2=>w a F2 H2 s2 S2 (h F2 H2 s2 S2)
 | exc x=>exact h
 | bad=>exact h
theorem W.opt {o:Option α} (h:W X G F σ ρ (oM o) C):∃ a,o=some a∧∀ F' H',Same F F'→StOk X.K G F' σ H' ρ→C a F' H':=by
 cases o with
 | none=>exact h.elim
 | some a=>exact ⟨a,rfl,h⟩
end
@[irreducible] def tSem (X:Cx) (e:Expr):TE:=fun σ H Q=>∀ (pins:List (Addr×Obj)) (s:Shared),Inv X pins σ H s→wpAny (model X.prog X.w) X.A (eval e X.env) (EP X pins σ Q) X.xe s
@[irreducible] def JB_ (X:Cx) (e:Expr):TT:=fun σ H Q=>∀ (pins:List (Addr×Obj)) (s:Shared),Inv X pins σ H s→wpAny (model X.prog X.w) X.A (isTrue e X.env (eval e X.env)) (TP X pins σ Q) X.xe s
@[irreducible] def J9_ (X:Cx) (e:Expr):TT:=fun σ H Q=>∀ (whole:Sem Value) (pins:List (Addr×Obj)) (s:Shared),Inv X pins σ H s→wpAny (model X.prog X.w) X.A (isTrue e X.env whole) (TP X pins σ Q) X.xe s
@[irreducible] def yy_ (X:Cx) (es:List Expr):TA:=fun σ H Q=>∀ (pos:Pos) (pins:List (Addr×Obj)) (s:Shared),Inv X pins σ H s→wpAny (model X.prog X.w) X.A (spliced (backTo pos (starEach es X.env))) (AP X pins σ Q) X.xe s
section
variable {X:Cx} {e:Expr} {es:List Expr} {σ:L2.St} {H:Hp}
theorem zu_:PE X e (tSem X e):=fun pins s σ H Q I h=>by unfold tSem at h;exact h pins s I
theorem Jb_:PT X e (JB_ X e):=fun pins s σ H Q I h=>by unfold JB_ at h;exact h pins s I
theorem Qf_:PW X e (J9_ X e):=fun wh pins s σ H Q I h=>by unfold J9_ at h;exact h wh pins s I
theorem z7_:PA X es (yy_ X es):=fun pos pins s σ H Q I h=>by unfold yy_ at h;exact h pos pins s I
theorem sem {t:TE} {Q:VK} (h:PE X e t) (q:t σ H Q):tSem X e σ H Q:=by unfold tSem;exact fun pins s I=>h pins s σ H Q I q
theorem semT {t:TT} {Q:Bool→Hp→Prop} (h:PT X e t) (q:t σ H Q):JB_ X e σ H Q:=by unfold JB_;exact fun pins s I=>h pins s σ H Q I q
theorem semW {t:TT} {Q:Bool→Hp→Prop} (h:PW X e t) (q:t σ H Q):J9_ X e σ H Q:=by unfold J9_;exact fun wh pins s I=>h wh pins s σ H Q I q
theorem semA {t:TA} {Q:List V→Hp→Prop} (h:PA X es t) (q:t σ H Q):yy_ X es σ H Q:=by unfold yy_;exact fun pos pins s I=>h pos pins s σ H Q I q
end
def ownL (ρ:En) (i:Nat):Option (List D):=match ρ[i]? with
 | some (some (.ol (.l ds)))=>some ds
 | some (some (.op (.l ds)))=>some ds
 | _=>none
theorem uC_ {ρ:En} {i:Nat} {ds:List D} (h:ownL ρ i=some ds):own ρ i (.l ds):=by
 unfold ownL at h
 split at h
 ·rename_i q;cases h;exact .inl q
 ·rename_i q;cases h;exact .inr q
 ·cases h
def VO (K:Fg) (F:Hp) (σ:L2.St) (ρ:En) (v:V) (d:D):Prop:=Rep K F v d∨∃ i c,own ρ i c∧σ[i]? = some (some v)∧d=c.d
inductive VOs (K:Fg) (F:Hp) (σ:L2.St) (ρ:En):List V→List D→Prop
 | nil:VOs K F σ ρ [] []
 | cons {v d vs ds}:VO K F σ ρ v d→VOs K F σ ρ vs ds→VOs K F σ ρ (v::vs) (d::ds)
theorem VO.mono {K:Fg} {F F':Hp} {σ:L2.St} {ρ:En} {v:V} {d:D} (s:Same F F') (h:VO K F σ ρ v d):VO K F' σ ρ v d:=h.imp (Rep.mono s) id
theorem VOs.mono {K:Fg} {F F':Hp} {σ:L2.St} {ρ:En} (s:Same F F'):∀ {vs ds},VOs K F σ ρ vs ds→VOs K F' σ ρ vs ds
 | _,_,.nil=>.nil
 | _,_,.cons h t=>.cons (h.mono s) (t.mono s)
def OR (K:Fg) (F H:Hp) (v:V) (d:D):Prop:=Rep K F v d∨∃ a c,v=.ref a∧d=c.d∧Held K F H a c
inductive ORs (K:Fg) (F H:Hp):List V→List D→Prop
 | nil:ORs K F H [] []
 | cons {v d vs ds}:OR K F H v d→ORs K F H vs ds→ORs K F H (v::vs) (d::ds)
theorem VO.or {K:Fg} {G:Gh} {F H:Hp} {σ:L2.St} {ρ:En} {v:V} {d:D} (S:StOk K G F σ H ρ) (h:VO K F σ ρ v d):OR K F H v d:=by
 rcases h with h|⟨i,c,ho,hv,rfl⟩
 ·exact .inl h
 ·obtain ⟨a,e1,oa⟩:=S.ow i _ ho
  rw [hv] at e1
  injection e1 with e1;injection e1 with e1
  exact .inr ⟨a,c,e1,rfl,oa.he⟩
theorem VOs.ors {K:Fg} {G:Gh} {F H:Hp} {σ:L2.St} {ρ:En} (S:StOk K G F σ H ρ):∀ {vs ds},VOs K F σ ρ vs ds→ORs K F H vs ds
 | _,_,.nil=>.nil
 | _,_,.cons h t=>.cons (h.or S) (t.ors S)
section
variable {K:Fg} {F H:Hp} {v:V} {ds:List D}
theorem OR.rep {d:D} (s:Same F H) (h:OR K F H v d):Rep K H v d:=by
 rcases h with h|⟨a,c,rfl,rfl,h1⟩
 ·exact h.mono s
 ·obtain ⟨o,e,r⟩:=UO_ h1;exact r H s e
theorem OR.list (s:Same F H) (h:OR K F H v (.list ds)):∃ a vs,v=.ref a∧SqL K H a vs∧RepL K F vs ds:=by
 rcases h with h|⟨a,c,e,e2,h1⟩
 ·cases h with
  | lst h1 h2=>exact ⟨_,_,rfl,s.seq h1,h2⟩
 ·cases c<;>cases e2
  obtain ⟨vs,h1,h2⟩:=h1
  exact ⟨a,vs,e,.inl (.inl h1),h2⟩
theorem OR.tuple (s:Same F H) (h:OR K F H v (.tuple ds)):∃ a vs,v=.ref a∧SqT K H a vs∧RepL K F vs ds:=by
 rcases h with h|⟨a,c,e,e2,h1⟩
 ·cases h with
  | tup h1 h2=>exact ⟨_,_,rfl,SqT.of (s _ _ h1),h2⟩
 ·cases c<;>cases e2
theorem OR.tup' (h:OR K F H v (.tuple ds)):Rep K F v (.tuple ds):=by
 rcases h with h|⟨a,c,e,e2,h1⟩
 ·exact h
 ·cases c<;>cases e2
theorem OR.int {i:Int} (h:OR K F H v (.int i)):v=.int i:=by
 rcases h with h|⟨a,c,e,e2,h1⟩
 ·cases h;rfl
 ·cases c<;>cases e2
theorem OR.bool {i:Bool} (h:OR K F H v (.bool i)):v=.bl i:=by
 rcases h with h|⟨a,c,e,e2,h1⟩
 ·cases h;rfl
 ·cases c<;>cases e2
theorem OR.str {i:Str} (h:OR K F H v (.str i)):v=.str i:=by
 rcases h with h|⟨a,c,e,e2,h1⟩
 ·cases h;rfl
 ·cases c<;>cases e2
theorem zy_ {vs:List V} {d:D} {ds:List D} (h:ORs K F H vs (d::ds)):∃ v r,vs=v::r∧OR K F H v d∧ORs K F H r ds:=by
 cases h with|cons a b=>exact ⟨_,_,rfl,a,b⟩
theorem zT_ {vs:List V} (h:ORs K F H vs []):vs=[]:=by cases h;rfl
end
def AP (X:Cx) (e:Expr) (p:Pu D):Prop :=
 ∀ (G:Gh) (F:Hp) (σ:L2.St) (H:Hp) (ρ:En) (Q:VK),StOk X.K G F σ H ρ→W X G F σ ρ (p ρ) (fun d F' H'=>∀ v,Rep X.K F' v d→Q v H')→tSem X e σ H Q
def AO (X:Cx) (e:Expr) (p:Pu D):Prop :=
 ∀ (G:Gh) (F:Hp) (σ:L2.St) (H:Hp) (ρ:En) (Q:VK),StOk X.K G F σ H ρ→W X G F σ ρ (p ρ) (fun d F' H'=>∀ v,VO X.K F' σ ρ v d→Q v H')→tSem X e σ H Q
def AT (X:Cx) (e:Expr) (p:Pu Bool):Prop :=
 ∀ (G:Gh) (F:Hp) (σ:L2.St) (H:Hp) (ρ:En) (Q:Bool→Hp→Prop),StOk X.K G F σ H ρ→W X G F σ ρ (p ρ) (fun d F' H'=>Q d H')→JB_ X e σ H Q
def AW (X:Cx) (e:Expr) (p:Pu Bool):Prop :=
 ∀ (G:Gh) (F:Hp) (σ:L2.St) (H:Hp) (ρ:En) (Q:Bool→Hp→Prop),StOk X.K G F σ H ρ→W X G F σ ρ (p ρ) (fun d F' H'=>Q d H')→J9_ X e σ H Q
def AB (X:Cx) (e:Expr) (p:Pu Bool):Prop :=
 ∀ (G:Gh) (F:Hp) (σ:L2.St) (H:Hp) (ρ:En) (Q:VK),StOk X.K G F σ H ρ→W X G F σ ρ (p ρ) (fun d F' H'=>Q (.bl d) H')→tSem X e σ H Q
def AA {α:Type} (X:Cx) (es:List Expr) (m:(List D→M α)→En→M α):Prop :=
 ∀ (G:Gh) (F:Hp) (σ:L2.St) (H:Hp) (ρ:En) (Q:List V→Hp→Prop) (k:List D→M α) (C:α→Hp→Hp→Prop),StOk X.K G F σ H ρ→W X G F σ ρ (m k ρ) C →
  (∀ ds vs F' H',Same F F'→StOk X.K G F' σ H' ρ→vs.length=es.length→RepL X.K F' vs ds→W X G F' σ ρ (k ds) C→Q vs H')→yy_ X es σ H Q
def AAo {α:Type} (X:Cx) (es:List Expr) (m:(List D→M α)→En→M α):Prop :=
 ∀ (G:Gh) (F:Hp) (σ:L2.St) (H:Hp) (ρ:En) (Q:List V→Hp→Prop) (k:List D→M α) (C:α→Hp→Hp→Prop),StOk X.K G F σ H ρ→W X G F σ ρ (m k ρ) C →
  (∀ ds vs F' H',Same F F'→StOk X.K G F' σ H' ρ→VOs X.K F' σ ρ vs ds→W X G F' σ ρ (k ds) C→Q vs H')→yy_ X es σ H Q
def Frs (K:Fg) (G:Gh) (F:Hp) (σ:L2.St) (H:Hp) (ρ:En) (v:V) (c:OC):Prop:=∃ a,v=.ref a∧OwnAt K G F H a c∧∀ (i:Nat) (e:OC),own ρ i e→σ[i]? ≠ some (some (V.ref a))
def AL (X:Cx) (e:Expr) (p:Pu (List D)):Prop :=
 ∀ (G:Gh) (F:Hp) (σ:L2.St) (H:Hp) (ρ:En) (Q:VK),StOk X.K G F σ H ρ→W X G F σ ρ (p ρ) (fun ds F' H'=>∀ v,Frs X.K G F' σ H' ρ v (.l ds)→Q v H')→tSem X e σ H Q
def pVar (i:Nat):Pu D:=fun ρ=>match ρ[i]? with
 | some (some (.fz d))=>.ret d
 | _=>.bad
def V2_ (i:Nat):Pu D:=fun ρ=>match ρ[i]? with
 | some (some (.ol c))=>.ret c.d
 | some (some (.op c))=>.ret c.d
 | _=>.bad
def pCon (d:D):Pu D:=fun _=>.ret d
def pBin (f:D→D→Option D) (a b:Pu D):Pu D:=fun ρ=>bd (a ρ) fun x=>bd (b ρ) fun y=>oM (f x y)
def V6_ (f:D→D→Option Bool) (a b:Pu D):Pu Bool:=fun ρ=>bd (a ρ) fun x=>bd (b ρ) fun y=>oM (f x y)
abbrev Pa (α:Type):=(List D→M α)→En→M α
def pNil {α:Type}:Pa α:=fun k _=>k []
def V4_ {α:Type} (a:Pu D) (r:Pa α):Pa α:=fun k ρ=>bd (a ρ) fun x=>r (fun xs=>k (x::xs)) ρ
def fitM {S:Type} (ds:List S):M (List S):=if ds.length≤sizeLine then .ret ds else .bad
def pTup (ps:Pa D):Pu D:=fun ρ=>ps (fun ds=>.ret (.tuple ds)) ρ
def pLst (ps:Pa (List D)):Pu (List D):=fun ρ=>ps (fun ds=>.ret ds) ρ
theorem Uz_ {n:Nat} (h:n≤1000):n≤sizeLine:=Nat.le_trans h (by decide)
def V5_ (f:List D→Option D) (ps:Pa D):Pu D:=fun ρ=>ps (fun ds=>oM (f ds)) ρ
def Jf_ (f:List D→Option (List D)) (ps:Pa (List D)):Pu (List D):=fun ρ=>ps (fun ds=>oM (f ds)) ρ
def pB (p:Pu Bool):Pu D:=fun ρ=>bd (p ρ) fun b=>.ret (.bool b)
def pZ (p:Pu (List D)):Pu D:=fun ρ=>bd (p ρ) fun ds=>.ret (.list ds)
def pOr (a b:Pu Bool):Pu Bool:=fun ρ=>bd (a ρ) fun t=>if t then .ret true else b ρ
def OpD (K:Fg) (r:R2) (f:D→D→Option D):Prop :=
 ∀ (G:Gh) (F:Hp) (σ:L2.St) (H:Hp) (ρ:En) (x y:V) (dx dy:D) (res:D) (Q:VK),StOk K G F σ H ρ→OR K F H x dx→OR K F H y dy→f dx dy=some res →
  (∀ v F' H',Same F F'→StOk K G F' σ H' ρ→Rep K F' v res→Q v H')→r x y H Q
def OpB (K:Fg) (r:R2) (f:D→D→Option Bool):Prop :=
 ∀ (G:Gh) (F:Hp) (σ:L2.St) (H:Hp) (ρ:En) (x y:V) (dx dy:D) (res:Bool) (Q:VK),StOk K G F σ H ρ→OR K F H x dx→OR K F H y dy→f dx dy=some res→Q (.bl res) H→r x y H Q
def y0_ (K:Fg) (r:List V→Hp→VK→Prop) (f:List D→Option D):Prop :=
 ∀ (G:Gh) (F:Hp) (σ:L2.St) (H:Hp) (ρ:En) (xs:List V) (ds:List D) (res:D) (Q:VK),StOk K G F σ H ρ→ORs K F H xs ds→f ds=some res →
  (∀ v F' H',Same F F'→StOk K G F' σ H' ρ→Rep K F' v res→Q v H')→r xs H Q
def Qa_ (K:Fg) (r:List V→Hp→VK→Prop) (f:List D→Option (List D)):Prop :=
 ∀ (G:Gh) (F:Hp) (σ:L2.St) (H:Hp) (ρ:En) (xs:List V) (ds:List D) (res:List D) (Q:VK),StOk K G F σ H ρ→ORs K F H xs ds→f ds=some res →
  (∀ v F' H',Same F F'→StOk K G F' σ H' ρ→Frs K G F' σ H' ρ v (.l res)→Q v H')→r xs H Q
section
variable {X:Cx} {e a b c:Expr} {es rest:List Expr} {p pa pb:Pu D} {ta tb tc:Pu Bool} {ps:Pa D} {pb':Pa Bool} {pl:Pa (List D)} {α:Type} {pα:Pa α} {qs:Pu (List D)} {pos:Pos}
theorem zb_ {i:Nat} {x:Str} (hN:X.N[i]? = some x) (hv:Vis X.env.scope x) (hd:(x==("__debug__" : Str))=false:=by decide) (hcd:(x==("__classdict__" : Str))=false:=by decide):AP X (.Name x pos) (pVar i) :=
 fun G F σ H ρ Q S w=>sem (ux_ hN hv hd hcd)<|by
  unfold pVar at w
  split at w
  ·rename_i d q
   obtain ⟨v,e1,r1⟩:=S.fz i d q
   exact ⟨v,e1,w F H (Same.refl _) S v r1⟩
  ·exact w.elim
theorem uu_ {i:Nat} {x:Str} (hN:X.N[i]? = some x) (hv:Vis X.env.scope x) (hd:(x==("__debug__" : Str))=false:=by decide) (hcd:(x==("__classdict__" : Str))=false:=by decide):AO X (.Name x pos) (V2_ i) :=
 fun G F σ H ρ Q S w=>sem (ux_ hN hv hd hcd)<|by
  have go:∀ c:OC,own ρ i c→W X G F σ ρ (.ret c.d) (fun d F' H'=>∀ v,VO X.K F' σ ρ v d→Q v H')→tVar i σ H Q:=fun ds ho w=>by
   obtain ⟨a,e1,oa⟩:=S.ow i _ ho
   exact ⟨_,e1,w F H (Same.refl _) S _ (.inr ⟨i,ds,ho,e1,rfl⟩)⟩
  unfold V2_ at w
  split at w
  ·rename_i ds q;exact go ds (.inl q) w
  ·rename_i ds q;exact go ds (.inr q) w
  ·exact w.elim
theorem ao (h:AP X e p):AO X e p:=fun G F σ H ρ Q S w=>h G F σ H ρ Q S (w.imp fun d F' H' _ _ q v r=>q v (.inl r))
theorem Qw_ {v:V} {d:D} (h:PE X e (tC v)) (r:∀ F,Rep X.K F v d):AP X e (pCon d) :=
 fun G F σ H ρ Q S w=>sem h (w F H (Same.refl _) S v (r F))
theorem zf_ {i j}:AP X (.Constant (.int i) j pos) (pCon (.int i)):=Qw_ VZ_ fun _=>.int _
theorem J4_ {i j}:AP X (.Constant (.bool i) j pos) (pCon (.bool i)):=Qw_ Xj_ fun _=>.bl _
theorem Ju_ {r:R2} {Q:VK} {G:Gh} {F H:Hp} {σ:L2.St} {ρ:En} {α:Type} {f:D→D→M α} {C:α→Hp→Hp→Prop} (ha:AO X a pa) (hb:AO X b pb) (S:StOk X.K G F σ H ρ) (w:W X G F σ ρ (bd (pa ρ) fun x=>bd (pb ρ) fun y=>f x y) C)
  (k:∀ x y dx dy F' H',Same F F'→StOk X.K G F' σ H' ρ→OR X.K F' H' x dx→OR X.K F' H' y dy→W X G F' σ ρ (f dx dy) C→r x y H' Q):tOp r (tSem X a) (tSem X b) σ H Q :=
 ha G F σ H ρ _ S (w.bind.imp fun dx F1 H1 s1 S1 w1 x hx=>hb G F1 σ H1 ρ _ S1 (w1.bind.imp fun dy F2 H2 s2 S2 w2 y hy=>k x y dx dy F2 H2 (s1.trans s2) S2 ((hx.mono s2).or S2) (hy.or S2) w2))
theorem zh_ {op:Operator} {r:R2} {f:D→D→Option D} (ho:OpR X (binaryOp op) r) (hf:OpD X.K r f) (ha:AO X a pa) (hb:AO X b pb):AP X (.BinOp a op b pos) (pBin f pa pb) :=
 fun G F σ H ρ Q S w=>sem (VX_ ho zu_ zu_) (Ju_ ha hb S w fun x y dx dy F' H' s' S' hx hy w'=>by
  obtain ⟨res,e,k⟩:=w'.opt
  exact hf G F' σ H' ρ x y dx dy res Q S' hx hy e fun v F2 H2 s2 S2 r2=>k F2 H2 s2 S2 v r2)
theorem ut_ {r:R2} {f:D→D→Option D} (hr:IxR X r) (hf:OpD X.K r f) (ha:AO X a pa) (hb:AO X b pb) (hs:Yo_ b):AP X (.Subscript a b pos) (pBin f pa pb) :=
 fun G F σ H ρ Q S w=>sem (Xi_ hr zu_ zu_ hs) (Ju_ ha hb S w fun x y dx dy F' H' s' S' hx hy w'=>by
  obtain ⟨res,e,k⟩:=w'.opt
  exact hf G F' σ H' ρ x y dx dy res Q S' hx hy e fun v F2 H2 s2 S2 r2=>k F2 H2 s2 S2 v r2)
theorem QA_ {op:CmpOp} {r:R2} {f:D→D→Option Bool} (ho:OpR X (compareOp op) r) (hf:OpB X.K r f) (ha:AO X a pa) (hb:AO X b pb) (hm:behindInMarks op b=false):AB X (.Compare a [op] [b] pos) (V6_ f pa pb) :=
 fun G F σ H ρ Q S w=>sem (Q2_ ho zu_ zu_ hm) (Ju_ ha hb S w fun x y dx dy F' H' s' S' hx hy w'=>by
  obtain ⟨res,e,k⟩:=w'.opt
  exact hf G F' σ H' ρ x y dx dy res Q S' hx hy e (k F' H' (Same.refl _) S'))
theorem jU_ {op:CmpOp} {r:R2} {f:D→D→Option Bool} (ho:OpR X (compareOp op) r) (hf:OpB X.K r f) (ha:AO X a pa) (hb:AO X b pb) (hm:behindInMarks op b=false):AT X (.Compare a [op] [b] pos) (V6_ f pa pb) :=
 fun G F σ H ρ Q S w=>semT (QV_ ho zu_ zu_ hm) (Ju_ (Q:=fun x H'=>∃ k,x=.bl k∧Q k H') ha hb S w fun x y dx dy F' H' s' S' hx hy w'=>by
  obtain ⟨res,e,k⟩:=w'.opt
  exact hf G F' σ H' ρ x y dx dy res _ S' hx hy e ⟨res,rfl,k F' H' (Same.refl _) S'⟩)
theorem ap_b (h:AB X e ta):AP X e (pB ta):=fun G F σ H ρ Q S w=>h G F σ H ρ Q S (w.bind.imp fun b F' H' s1 S1 w1=>w1 F' H' (Same.refl _) S1 _ (.bl b))
theorem ap_z (h:AL X e qs):AP X e (pZ qs):=fun G F σ H ρ Q S w=>h G F σ H ρ Q S (w.bind.imp fun ds F' H' s1 S1 w1 v fr=>by
 obtain ⟨F2,s2,S2,r2⟩:=S1.settle (v:=v) (ds:=ds) fr
 exact w1 F2 H' s2 S2 v r2)
theorem zg_:AA (α:=α) X [] pNil:=fun G F σ H ρ Q k C S w kk=>semA Zb_ (kk [] [] F H (Same.refl _) S rfl .nil w)
theorem zc_ (h:AP X e p) (hr:AA X es pα) (hs:starEach (e::es) X.env=(false,eval e X.env)::starEach es X.env):AA X (e::es) (V4_ p pα) :=
 fun G F σ H ρ Q k C S w kk=>semA (uh_ zu_ z7_ hs) (h G F σ H ρ _ S (w.bind.imp fun d F1 H1 s1 S1 w1 v r1 =>
  hr G F1 σ H1 ρ _ _ C S1 w1 fun ds vs F2 H2 s2 S2 hl r2 w2=>kk (d::ds) (v::vs) F2 H2 (s1.trans s2) S2 (by simp [hl]) (.cons (r1.mono s2) r2) w2))
theorem zI_:AAo (α:=α) X [] pNil:=fun G F σ H ρ Q k C S w kk=>semA Zb_ (kk [] [] F H (Same.refl _) S .nil w)
theorem zr_ (h:AO X e p) (hr:AAo X es pα) (hs:starEach (e::es) X.env=(false,eval e X.env)::starEach es X.env):AAo X (e::es) (V4_ p pα) :=
 fun G F σ H ρ Q k C S w kk=>semA (uh_ zu_ z7_ hs) (h G F σ H ρ _ S (w.bind.imp fun d F1 H1 s1 S1 w1 v r1 =>
  hr G F1 σ H1 ρ _ _ C S1 w1 fun ds vs F2 H2 s2 S2 r2 w2=>kk (d::ds) (v::vs) F2 H2 (s1.trans s2) S2 (.cons (r1.mono s2) r2) w2))
theorem W.fit {α:Type} {G:Gh} {F:Hp} {σ:L2.St} {ρ:En} {ds:List α} {C:List α→Hp→Hp→Prop} (h:W X G F σ ρ (fitM ds) C):ds.length≤sizeLine∧∀ F' H',Same F F'→StOk X.K G F' σ H' ρ→C ds F' H':=by
 unfold fitM at h
 split at h
 ·exact ⟨by assumption,h⟩
 ·exact h.elim
theorem jG_ {x1} (h:AA X es ps) (hz:es.length≤1000):AP X (.Tuple es x1 pos) (pTup ps) :=
 fun G F σ H ρ Q S w=>sem (VW_ z7_) (h G F σ H ρ _ _ _ S w fun ds vs F1 H1 s1 S1 hl r1 w1=>by
  refine ⟨by rw [hl];exact Uz_ hz,fun q hq=>?_⟩
  obtain ⟨s2,S2,r2⟩:=S1.newTup hq r1
  exact w1 _ _ s2 S2 _ r2)
theorem jj_ (h:AA X es pl) (hz:es.length≤1000):AL X (.List es pos) (pLst pl) :=
 fun G F σ H ρ Q S w=>sem (VY_ z7_) (h G F σ H ρ _ _ _ S w fun ds vs F1 H1 s1 S1 hl r1 w1=>by
  refine ⟨by rw [hl];exact Uz_ hz,fun q hq=>?_⟩
  obtain ⟨S2,r2⟩:=S1.newLst hq r1
  exact w1 _ _ (Same.refl _) S2 _ r2)
theorem yR_ {r:List V→Hp→VK→Prop} {Q:VK} {G:Gh} {F H:Hp} {σ:L2.St} {ρ:En} {f:List D→M α} {C:α→Hp→Hp→Prop} (ha:AAo X es pα) (S:StOk X.K G F σ H ρ) (w:W X G F σ ρ (pα f ρ) C)
  (k:∀ xs ds F' H',Same F F'→StOk X.K G F' σ H' ρ→ORs X.K F' H' xs ds→W X G F' σ ρ (f ds) C→r xs H' Q):tCB r (yy_ X es) σ H Q :=
 ha G F σ H ρ _ _ C S w fun ds xs F1 H1 s1 S1 hx w1=>k xs ds F1 H1 s1 S1 (hx.ors S1) w1
theorem z4_ {x:Str} {p:Pos} {id:String} {r:List V→Hp→VK→Prop} {f:List D→Option D} (hc:CallR X (.builtin id) r) (hf:y0_ X.K r f) (hg:Gl X x) (hm:X.mg x=none) (hv:bootBuiltins x=some (.builtin id)) (ha:AAo X (e::es) ps)
  (hn:x ≠ "__name__") (hdb:(x==("__debug__" : Str))=false) (he:starEach (e::es) X.env=(false,eval e X.env)::starEach es X.env) (hpl:(backTo pos (starEach es X.env)).any (·.1)=false):AP X (.Call (.Name x p) (e::es) [] pos) (V5_ f ps) :=
 fun G F σ H ρ Q S w=>sem (Je_ hc hg hm hv z7_ hn hdb he hpl) (yR_ ha S w fun xs ds F' H' s' S' hx w'=>by
  obtain ⟨res,e,k⟩:=w'.opt
  exact hf G F' σ H' ρ xs ds res Q S' hx e fun v F2 H2 s2 S2 r2=>k F2 H2 s2 S2 v r2)
theorem Jv_ {x:Str} {p:Pos} {id:String} {r:List V→Hp→VK→Prop} {f:List D→Option (List D)} (hc:CallR X (.builtin id) r) (hf:Qa_ X.K r f) (hg:Gl X x) (hm:X.mg x=none) (hv:bootBuiltins x=some (.builtin id)) (ha:AAo X (e::es) pl)
  (hn:x ≠ "__name__") (hdb:(x==("__debug__" : Str))=false) (he:starEach (e::es) X.env=(false,eval e X.env)::starEach es X.env) (hpl:(backTo pos (starEach es X.env)).any (·.1)=false):AL X (.Call (.Name x p) (e::es) [] pos) (Jf_ f pl) :=
 fun G F σ H ρ Q S w=>sem (Je_ hc hg hm hv z7_ hn hdb he hpl) (yR_ ha S w fun xs ds F' H' s' S' hx w'=>by
  obtain ⟨res,e,k⟩:=w'.opt
  exact hf G F' σ H' ρ xs ds res Q S' hx e fun v F2 H2 s2 S2 r2=>k F2 H2 s2 S2 v r2)
theorem u6_ {x:Str} {p:Pos} {T:String} {r:List V→Hp→VK→Prop} {f:List D→Option D} (hc:CallR X (.type T) r) (hf:y0_ X.K r f) (hg:Gl X x) (hm:X.mg x=none) (hv:bootBuiltins x=some (.type T)) (ha:AAo X (e::es) ps)
  (hn:x ≠ "__name__") (hdb:(x==("__debug__" : Str))=false) (he:starEach (e::es) X.env=(false,eval e X.env)::starEach es X.env) (hpl:(backTo pos (starEach es X.env)).any (·.1)=false):AP X (.Call (.Name x p) (e::es) [] pos) (V5_ f ps) :=
 fun G F σ H ρ Q S w=>sem (j3_ hc hg hm hv z7_ hn hdb he hpl) (yR_ ha S w fun xs ds F' H' s' S' hx w'=>by
  obtain ⟨res,e,k⟩:=w'.opt
  exact hf G F' σ H' ρ xs ds res Q S' hx e fun v F2 H2 s2 S2 r2=>k F2 H2 s2 S2 v r2)
theorem ZD_ {x:Str} {p:Pos} {T:String} {r:List V→Hp→VK→Prop} {f:List D→Option (List D)} (hc:CallR X (.type T) r) (hf:Qa_ X.K r f) (hg:Gl X x) (hm:X.mg x=none) (hv:bootBuiltins x=some (.type T)) (ha:AAo X (e::es) pl)
  (hn:x ≠ "__name__") (hdb:(x==("__debug__" : Str))=false) (he:starEach (e::es) X.env=(false,eval e X.env)::starEach es X.env) (hpl:(backTo pos (starEach es X.env)).any (·.1)=false):AL X (.Call (.Name x p) (e::es) [] pos) (Jf_ f pl) :=
 fun G F σ H ρ Q S w=>sem (j3_ hc hg hm hv z7_ hn hdb he hpl) (yR_ ha S w fun xs ds F' H' s' S' hx w'=>by
  obtain ⟨res,e,k⟩:=w'.opt
  exact hf G F' σ H' ρ xs ds res Q S' hx e fun v F2 H2 s2 S2 r2=>k F2 H2 s2 S2 v r2)
theorem WO_ (ha:AT X a ta):AW X (.BoolOp .Or [a] pos) ta:=fun G F σ H ρ Q S w=>semW (VQ_ Jb_) (ha G F σ H ρ Q S w)
theorem XJ_ (ha:AT X a ta) (hb:AW X (.BoolOp .Or (b::rest) pos) tb):AW X (.BoolOp .Or (a::b::rest) pos) (pOr ta tb) :=
 fun G F σ H ρ Q S w=>semW (Xg_ Jb_ Qf_) (ha G F σ H ρ _ S (w.bind.imp fun t F1 H1 s1 S1 w1=>by
  cases t with
  | true=>refine iteT ?_;exact w1 F1 H1 (Same.refl _) S1
  | false=>refine iteF ?_;exact hb G F1 σ H1 ρ Q S1 w1))
theorem XK_ (h:AW X e ta):AT X e ta:=fun G F σ H ρ Q S w=>semT (fun pins s σ H Q I h=>Qf_ _ pins s σ H Q I h) (h G F σ H ρ Q S w)
end
end L4
set_option Elab.async false
set_option linter.all false
set_option maxRecDepth 100000
namespace L4
open PySem PySem.Spec PyProof.Rows L2 L3
def YM_ (i j:Int):Bool:=(decide (-(2^64)<i)&&decide (i<2^64))||(decide (-(2^64)<j)&&decide (j<2^64))
def jk_:D→D→Option D
 | .int i,.int j=>some (.int (i+j))
 | .str a,.str b=>if a.length+b.length≤sizeLine then some (.str (a++b)) else none
 | .tuple a,.tuple b=>if a.length+b.length≤sizeLine then some (.tuple (a++b)) else none
 | .list a,.list b=>if a.length+b.length≤sizeLine then some (.list (a++b)) else none
 | _,_=>none
def yE_:D→D→Option D
 | .int i,.int j=>some (.int (i - j))
 | _,_=>none
def jn_:D→D→Option D
 | .int i,.int j=>if YM_ i j then some (.int (i*j)) else none
 | _,_=>none
def ya_:D→D→Option D
 | .int i,.int j=>if decide (0<j)&&decide (j<1073741824) then some (.int (i / j)) else none
 | _,_=>none
def uO_:D→D→Option D
 | .int i,.int j=>if 0<j then some (.int (i % j)) else none
 | _,_=>none
def YJ_:D→D→Option D
 | .int i,.int j=>if decide (0≤j)&&decide (j≤1000000)&&decide (i.natAbs<2^64) then some (.int (i^j.toNat)) else none
 | _,_=>none
def opLe:D→D→Option Bool
 | .int i,.int j=>some (decide (i≤j))
 | _,_=>none
def opGt:D→D→Option Bool
 | .int i,.int j=>some (decide (j<i))
 | _,_=>none
def opGe:D→D→Option Bool
 | .int i,.int j=>some (decide (j≤i))
 | _,_=>none
def VO_ (K:Fg):R2:=fun x y H Q=>∃ a b xs ys,x=.ref a∧y=.ref b∧SqT K H a xs∧SqT K H b ys∧xs.length+ys.length≤sizeLine ∧
 (xs=[]→Q (.ref b) H)∧(xs≠[]→ys=[]→Q (.ref a) H)∧(xs≠[]→ys≠[]→∀ p,H p=none→Q (.ref p) (upd H p (.tup (xs++ys))))
theorem op_cat0 {X:Cx}:OpR X (binaryOp .Add) (VO_ X.K):=by
 intro pins s σ H x y v u Q I rx ry h
 obtain ⟨a,b,xs,ys,rfl,rfl,ha,hb,hz,q0,q1,q2⟩:=h
 by_cases hx:xs=[]
 ·cases rx
  cases ry
  obtain ⟨its,r1,p1,_⟩:=I.tuple ha
  obtain ⟨its2,r2,p2,_⟩:=I.tuple hb
  have hv:its=[]:=r1.nil_iff.mpr hx
  obtain ⟨⟨cls,dd,data,sl⟩,ho,hc,n,hd⟩:=id p1
  obtain ⟨⟨cls2,dd2,data2,sl2⟩,ho2,hc2,n2,hd2⟩:=id p2
  simp only at hc hd hc2 hd2
  subst hc hd hc2 hd2
  exact concat_meets ⟨_,ho,rfl⟩ ⟨_,ho2,rfl⟩ noFill_tuple_add seq_tuple_add PySem.F.slot_tuple_add PySem.F.entry_tuple_add (PySem.F.args_tuple_add_2 _ _)
   (tuple_addW0 a b its.toArray its2.toArray n n2 dd dd2 sl sl2 (by simp [hv])) ⟨ho,ho2,⟨.ref b,H,I,rfl,q0 hx⟩⟩
 ·exact Q4_ pins s σ H _ _ v u Q I rx ry ⟨a,b,xs,ys,rfl,rfl,ha,hb,hx,hz,q1 hx,q2 hx⟩
section
variable {K:Fg} {X:Cx}
theorem okI {C:Int→Int→Prop} {g:Int→Int→V} {f:D→D→Option D} (h:∀ dx dy res,f dx dy=some res→∃ i j,dx=.int i∧dy=.int j∧C i j∧∀ K F,Rep K F (g i j) res):OpD K (rI C g) f:=by
 intro G F σ H ρ x y dx dy res Q S ox oy e k
 obtain ⟨i,j,rfl,rfl,hc,hr⟩:=h dx dy res e
 exact ⟨i,j,ox.int,oy.int,hc,k _ F H (Same.refl _) S (hr K F)⟩
theorem okB {g:Int→Int→Bool} {f:D→D→Option Bool} (h:∀ dx dy res,f dx dy=some res→∃ i j,dx=.int i∧dy=.int j∧res=g i j):OpB K (rI0 fun i j=>.bl (g i j)) f:=by
 intro G F σ H ρ x y dx dy res Q S ox oy e k
 obtain ⟨i,j,rfl,rfl,rfl⟩:=h dx dy res e
 exact ⟨i,j,ox.int,oy.int,k⟩
theorem Ji_:OpD K (rI0 fun i j=>.int (i - j)) yE_:=by
 intro G F σ H ρ x y dx dy res Q S ox oy e k
 cases dx<;>cases dy<;>cases e
 exact ⟨_,_,ox.int,oy.int,k _ F H (Same.refl _) S (.int _)⟩
theorem Xn_:OpB K (rI0 fun i j=>.bl (decide (i≤j))) opLe:=okB fun dx dy res e=>by
 cases dx<;>cases dy<;>cases e
 exact ⟨_,_,rfl,rfl,rfl⟩
theorem Wg_:OpB K (rI0 fun i j=>.bl (decide (j<i))) opGt:=okB fun dx dy res e=>by
 cases dx<;>cases dy<;>cases e
 exact ⟨_,_,rfl,rfl,rfl⟩
theorem Xp_:OpB K (rI0 fun i j=>.bl (decide (j≤i))) opGe:=okB fun dx dy res e=>by
 cases dx<;>cases dy<;>cases e
 exact ⟨_,_,rfl,rfl,rfl⟩
theorem uP_:OpD K (rI CDiv fun i j=>.int (i / j)) ya_:=okI fun dx dy res e=>by
 cases dx<;>cases dy<;>try (cases e)
 rename_i i j
 dsimp only [ya_] at e
 split at e
 ·rename_i hc
  cases e
  simp only [Bool.and_eq_true,decide_eq_true_eq] at hc
  exact ⟨i,j,rfl,rfl,hc,fun _ _=>.int _⟩
 ·cases e
theorem uz_:OpD K (rI (fun _ j=>0<j) fun i j=>.int (i % j)) uO_:=okI fun dx dy res e=>by
 cases dx<;>cases dy<;>try (cases e)
 rename_i i j
 dsimp only [uO_] at e
 split at e
 ·rename_i hc
  cases e
  exact ⟨i,j,rfl,rfl,hc,fun _ _=>.int _⟩
 ·cases e
theorem Wc_:OpD K (rI CPow fun i j=>.int (i^j.toNat)) YJ_:=okI fun dx dy res e=>by
 cases dx<;>cases dy<;>try (cases e)
 rename_i i j
 dsimp only [YJ_] at e
 split at e
 ·rename_i hc
  cases e
  simp only [Bool.and_eq_true,decide_eq_true_eq] at hc
  exact ⟨i,j,rfl,rfl,⟨hc.1.1,hc.1.2,hc.2⟩,fun _ _=>.int _⟩
 ·cases e
theorem uw_ {F:Hp} {vs:List V} {ds:List D} (r:RepL K F vs ds):vs=[]↔ds=[]:=by cases r<;>simp
def VN_ (K:Fg):R2:=fun x y H Q=>∃ l b xs zs,x=.ref l∧y=.ref b∧SqL K H l xs∧SqL K H b zs∧xs.length+zs.length≤sizeLine∧∀ p,H p=none→Q (.ref p) (upd H p (.lst (xs++zs)))
theorem Q5_:OpR X (binaryOp .Add) (VN_ X.K):=by
 intro pins s σ H x y v u Q I rx ry h
 obtain ⟨l,b,xs,zs,rfl,rfl,hH,hB,hz,q⟩:=h
 cases rx
 cases ry
 obtain ⟨its,r,pl,_⟩:=I.list hH
 obtain ⟨its2,r2,pl2,_⟩:=I.list hB
 obtain ⟨⟨cls,dd,data,sl⟩,ho,hc,n,hd⟩:=id pl.isList
 obtain ⟨⟨cls2,dd2,data2,sl2⟩,ho2,hc2,n2,hd2⟩:=id pl2.isList
 simp only at hc hd hc2 hd2
 subst hc hd hc2 hd2
 have e:its.toArray++its2.toArray=(its++its2).toArray:=by simp
 refine concat_meets ⟨_,ho,rfl⟩ ⟨_,ho2,rfl⟩ noFill_list_add seq_list_add PySem.F.slot_list_add PySem.F.entry_list_add (PySem.F.args_list_add_2 _ _) (list_addW l b its.toArray its2.toArray n n2 dd dd2 sl sl2 (by rw [List.size_toArray,List.size_toArray,←r.length,←r2.length];exact hz)) ⟨ho,ho2,?_⟩
 rw [e]
 exact ⟨.ref _,_,I.laid (t':=s.toks) (o:=.lst (xs++zs)) (fun b ob q=>Heap.get?_push_of_some _ q) (Nat.le_refl _) ⟨by rw [List.length_append];exact hz,_,0,r.append r2,Heap.get?_push_size _ rfl⟩,rfl,q _ (I.hok.fresh (Nat.le_refl _))⟩
def Xb_:R2:=fun x y H Q=>∃ i j,x=.str i∧y=.str j∧i.length+j.length≤sizeLine∧Q (.str (i++j)) H
def VP_ (K:Fg):R2:=fun x y H Q=>rI0 (fun i j=>.int (i+j)) x y H Q∨(Xb_ x y H Q∨(VO_ K x y H Q∨VN_ K x y H Q))
theorem zZ_:OpR X (binaryOp .Add) (VP_ X.K):=op_add.or (OpR.or JK_ (op_cat0.or Q5_))
theorem jp_:OpD K (VP_ K) jk_:=by
 intro G F σ H ρ x y dx dy res Q S ox oy e k
 cases dx<;>cases dy<;>try (cases e)
 ·exact .inl ⟨_,_,ox.int,oy.int,k _ F H (Same.refl _) S (.int _)⟩
 ·dsimp only [jk_] at e
  split at e
  ·rename_i hz
   cases e
   exact .inr (.inl ⟨_,_,ox.str,oy.str,hz,k _ F H (Same.refl _) S (.str _)⟩)
  ·cases e
 ·dsimp only [jk_] at e
  split at e
  ·rename_i hz
   cases e
   obtain ⟨a,vs,rfl,h1,h2⟩:=ox.list S.fh
   obtain ⟨b,us,rfl,g1,g2⟩:=oy.list S.fh
   refine .inr (.inr (.inr ⟨a,b,vs,us,rfl,rfl,h1,g1,by rw [h2.length,g2.length];exact hz,fun p hp=>?_⟩))
   obtain ⟨S2,r2⟩:=S.newLst hp (h2.append g2)
   obtain ⟨F2,s3,S3,r3⟩:=S2.settle r2
   exact k _ F2 _ s3 S3 r3
  ·cases e
 ·dsimp only [jk_] at e
  split at e
  ·rename_i hz
   cases e
   obtain ⟨a,vs,rfl,h1,h2⟩:=ox.tuple S.fh
   obtain ⟨b,us,rfl,g1,g2⟩:=oy.tuple S.fh
   refine .inr (.inr (.inl ⟨a,b,vs,us,rfl,rfl,h1,g1,by rw [h2.length,g2.length];exact hz,fun z=>?_,fun _ z=>?_,fun _ _ p hp=>?_⟩))
   ·have z':=(uw_ h2).mp z
    subst z'
    exact k _ F H (Same.refl _) S oy.tup'
   ·have z':=(uw_ g2).mp z
    subst z'
    exact k _ F H (Same.refl _) S (by rw [List.append_nil];exact ox.tup')
   ·obtain ⟨s2,S2,r2⟩:=S.newTup hp (h2.append g2)
    exact k _ _ _ s2 S2 r2
  ·cases e
theorem j5_:OpD K (rI CMul fun i j=>.int (i*j)) jn_:=okI fun dx dy res e=>by
 cases dx<;>cases dy<;>try (cases e)
 rename_i i j
 dsimp only [jn_] at e
 split at e
 ·rename_i hc
  cases e
  unfold YM_ at hc
  simp only [Bool.or_eq_true,Bool.and_eq_true,decide_eq_true_eq] at hc
  exact ⟨i,j,rfl,rfl,hc,fun _ _=>.int _⟩
 ·cases e
end
def eqOk (d e:D):Bool:=d.canLay0&&e.canLay0&&decide (d.depth≤1000)
def opEq (d e:D):Option Bool:=if eqOk d e then some (PyData.eqv d e) else none
def opNe (d e:D):Option Bool:=if eqOk d e then some (!PyData.eqv d e) else none
def inOk (d:D) (xs:List D):Bool:=PyData.canLayAll0 xs&&d.canLay0&&decide (d.depth≤1000)
def XB_ (i j:Str):Bool:=!(Builtin.Str.occurrences j i 0 j.length 1).isEmpty
def opIn (d c:D):Option Bool:=match c with
 | .list xs=>if inOk d xs then some (xs.any fun y=>PyData.eqv y d) else none
 | .tuple xs=>if inOk d xs then some (xs.any fun y=>PyData.eqv y d) else none
 | .str j=>match d with
  | .str i=>some (XB_ i j)
  | _=>none
 | _=>none
def isNone:D→Bool
 | .none=>true
 | _=>false
def rD2 (K:Fg) (f:D→D→Option Bool):R2:=fun x y H Q=>∃ d e b,Rep K H x d∧Rep K H y e∧f d e=some b∧Q (.bl b) H
theorem Zg_ {K:Fg} {f:D→D→Option Bool}:OpB K (rD2 K f) f:=by
 intro G F σ H ρ x y dx dy res Q S ox oy e k
 exact ⟨dx,dy,res,ox.rep S.fh,oy.rep S.fh,e,k⟩
section
variable {X:Cx}
theorem Ql_ (hu:X.A.units+1100<cLine):OpR X (compareOp .Eq) (rD2 X.K opEq):=by
 intro pins s σ H x y v u Q I rx ry ⟨d,e,b,r1,r2,ho,q⟩
 obtain ⟨as,ra⟩:=(ju_ I).1 r1 rx
 obtain ⟨bs,rb⟩:=(ju_ I).1 r2 ry
 unfold opEq at ho
 split at ho
 case isFalse=>cases ho
 rename_i hc
 cases ho
 simp only [eqOk,Bool.and_eq_true,decide_eq_true_eq] at hc
 exact SeqAt.compareEq_reads ra rb hc.1.1 hc.1.2 (by have:=Nat.min_le_left d.depth e.depth;omega) ⟨.bl _,H,I,rfl,q⟩
theorem ym_ (hu:X.A.units+1100<cLine):OpR X (compareOp .NotEq) (rD2 X.K opNe):=by
 intro pins s σ H x y v u Q I rx ry ⟨d,e,b,r1,r2,ho,q⟩
 obtain ⟨as,ra⟩:=(ju_ I).1 r1 rx
 obtain ⟨bs,rb⟩:=(ju_ I).1 r2 ry
 unfold opNe at ho
 split at ho
 case isFalse=>cases ho
 rename_i hc
 cases ho
 simp only [eqOk,Bool.and_eq_true,decide_eq_true_eq] at hc
 exact SeqAt.compareNe_reads ra rb hc.1.1 hc.1.2 (by have:=Nat.min_le_left d.depth e.depth;omega) ⟨.bl _,H,I,rfl,q⟩
end
def opIx:D→D→Option D
 | .list ds,.int i=>atI ds i
 | .tuple ds,.int i=>atI ds i
 | .str z,.int i=>if z.length≤sizeLine then (atI z.cps.toList i).map fun c=>.str ⟨#[c]⟩ else none
 | _,_=>none
theorem Yh_ {K:Fg} {F:Hp} {vs:List V} {ds:List D} {i:Int} {d:D} (r:RepL K F vs ds) (h:atI ds i=some d):∃ v,atI vs i=some v∧Rep K F v d:=by
 unfold atI at h ⊢
 rw [r.length]
 cases q:ixN ds.length i with
 | none=>rw [q] at h;cases h
 | some j =>
  rw [q] at h
  exact r.get (i:=j) h
theorem Xo_ {K:Fg}:OpD K (rIx K) opIx:=by
 intro G F σ H ρ x y dx dy res Q S ox oy e k
 cases dx<;>cases dy<;>try (cases e)
 ·dsimp only [opIx] at e
  split at e
  ·rename_i hz
   obtain ⟨c,hc,rfl⟩:=Option.map_eq_some_iff.mp e
   exact .inr (.inr ⟨_,_,c,ox.str,oy.int,hz,hc,k _ F H (Same.refl _) S (.str _)⟩)
  ·cases e
 ·obtain ⟨a,vs,rfl,h1,h2⟩:=ox.list S.fh
  obtain ⟨v,e1,e2⟩:=Yh_ h2 e
  exact .inl ⟨a,vs,_,v,rfl,oy.int,h1,e1,k v F H (Same.refl _) S e2⟩
 ·obtain ⟨a,vs,rfl,h1,h2⟩:=ox.tuple S.fh
  obtain ⟨v,e1,e2⟩:=Yh_ h2 e
  exact .inr (.inl ⟨a,vs,_,v,rfl,oy.int,h1,e1,k v F H (Same.refl _) S e2⟩)
end L4
set_option Elab.async false
set_option linter.all false
set_option maxRecDepth 100000
namespace L4
open PySem PySem.Spec PyProof.Rows L2 L3
theorem Vals.one {v:V} {us:List Value} (h:Vals [v] us):∃ u,us=[u]∧RelV v u:=by
 cases h with|cons a b=>cases b;exact ⟨_,rfl,a⟩
def fLen:List D→Option D
 | [.list ds]=>some (.int ds.length)
 | [.tuple ds]=>some (.int ds.length)
 | [.str z]=>if z.length≤sizeLine then some (.int z.length) else none
 | _=>none
def yr_:List D→Option D
 | [.list ds]=>some (.tuple ds)
 | [.tuple ds]=>some (.tuple ds)
 | _=>none
def fAbs:List D→Option D
 | [.int i]=>some (.int (if i<0 then -i else i))
 | _=>none
def rLen (K:Fg):List V→Hp→VK→Prop:=fun xs H Q=>(∃ p ys,xs=[.ref p]∧(SqL K H p ys∨SqT K H p ys)∧Q (.int ys.length) H)∨∃ z,xs=[.str z]∧z.length≤sizeLine∧Q (.int z.length) H
theorem jF_ {X:Cx}:CallR X (.builtin "len") (rLen X.K):=CallR.or Zx_ Zw_
theorem Zd_ {K:Fg}:y0_ K (rLen K) fLen:=by
 intro G F σ H ρ xs ds res Q S o e k
 unfold fLen at e
 split at e
 ·rename_i es
  cases e
  obtain ⟨v,r,rfl,ho,hr⟩:=zy_ o
  obtain rfl:=zT_ hr
  obtain ⟨a,vs,rfl,h1,h2⟩:=ho.list S.fh
  exact .inl ⟨a,vs,rfl,.inl h1,k _ F H (Same.refl _) S (by rw [h2.length];exact .int _)⟩
 ·rename_i es
  cases e
  obtain ⟨v,r,rfl,ho,hr⟩:=zy_ o
  obtain rfl:=zT_ hr
  obtain ⟨a,vs,rfl,h1,h2⟩:=ho.tuple S.fh
  exact .inl ⟨a,vs,rfl,.inr h1,k _ F H (Same.refl _) S (by rw [h2.length];exact .int _)⟩
 ·split at e
  ·rename_i hz
   cases e
   obtain ⟨v,r,rfl,ho,hr⟩:=zy_ o
   obtain rfl:=zT_ hr
   exact .inr ⟨_,by rw [ho.str],hz,k _ F H (Same.refl _) S (.int _)⟩
  ·cases e
 ·cases e
theorem Jh_ {K:Fg}:y0_ K (fun xs H Q=>∃ p ys,xs=[.ref p]∧((SqL K H p ys∧∀ l,H l=none→Q (.ref l) (upd H l (.tup ys)))∨(SqT K H p ys∧Q (.ref p) H))) yr_:=by
 intro G F σ H ρ xs ds res Q S o e k
 unfold yr_ at e
 split at e
 ·rename_i es
  cases e
  obtain ⟨v,r,rfl,ho,hr⟩:=zy_ o
  obtain rfl:=zT_ hr
  obtain ⟨a,vs,rfl,h1,h2⟩:=ho.list S.fh
  refine ⟨a,vs,rfl,.inl ⟨h1,fun l hl=>?_⟩⟩
  obtain ⟨s2,S2,r2⟩:=S.newTup hl h2
  exact k _ _ _ s2 S2 r2
 ·rename_i es
  cases e
  obtain ⟨v,r,rfl,ho,hr⟩:=zy_ o
  obtain rfl:=zT_ hr
  have ho:=ho.tup'
  cases ho with
  | tup h1 h2=>exact ⟨_,_,rfl,.inr ⟨SqT.of (S.fh _ _ h1),k _ F H (Same.refl _) S (show Rep K F _ _ from .tup h1 h2)⟩⟩
 ·cases e
def y8_ (d:D):Bool:=d.showable&&d.canLay0&&decide (d.depth≤1000)&&decide (d.shown.length≤sizeLine)
def Zs_:List D→Option D
 | [d]=>if y8_ d then some (.str d.shown) else none
 | _=>none
def VK_ (K:Fg):List V→Hp→VK→Prop:=fun xs H Q=>∃ v d,xs=[v]∧Rep K H v d∧y8_ d=true∧Q (.str d.shown) H
theorem yF_ {K:Fg}:y0_ K (VK_ K) Zs_:=by
 intro G F σ H ρ xs ds res Q S o e k
 unfold Zs_ at e
 split at e
 ·rename_i d
  split at e
  ·rename_i hc
   cases e
   obtain ⟨v,r,rfl,ho,hr⟩:=zy_ o
   obtain rfl:=zT_ hr
   exact ⟨v,d,rfl,ho.rep S.fh,hc,k _ F H (Same.refl _) S (.str _)⟩
  ·cases e
 ·cases e
theorem ua_ {X:Cx} (hu:X.A.units+1100<cLine) (hg:X.A.guards=some []):CallR X (.builtin "repr") (VK_ X.K):=by
 intro pins s σ H xs us Q I r h0
 obtain ⟨v,d,rfl,rp,hc,q⟩:=h0
 obtain ⟨u,rfl,ru⟩:=Vals.one r
 obtain ⟨as,ra⟩:=(ju_ I).1 rp ru
 simp only [y8_,Bool.and_eq_true,decide_eq_true_eq] at hc
 have big:∀ a,v=.ref a→wpAny (model X.prog X.w) X.A (call (.builtin "repr") [u]) (EP X pins σ Q) X.xe s:=fun a e=>by
  subst e
  cases ru
  exact repr_of_reads' ra hc.1.1.1 (PyData.noDict_hsm (PyData.hasDict_of_canLay d hc.1.1.2)) hg (by omega) (fun _ _ e=>e) (fun h' u tk hk=>⟨.str _,H,I.kept hk,⟨_,rfl⟩,q⟩) hc.2
 cases rp with
 | non=>cases ru;exact PySem.P.repr_of_none ⟨.str _,H,I.tok _,⟨_,rfl⟩,q⟩
 | bl b=>cases ru;exact PySem.P.repr_of_bool ⟨.str _,H,I.tok _,⟨_,rfl⟩,q⟩
 | int i=>obtain ⟨t,rfl⟩:=ru;exact PySem.P.repr_of_int (by simpa [PyData.showable] using hc.1.1.1) ⟨.str _,H,I.tok _,⟨_,rfl⟩,q⟩
 | str x=>obtain ⟨t,rfl⟩:=ru;exact PySem.P.repr_of_str ⟨.str _,H,I.tok _,⟨_,rfl⟩,q⟩ hc.2
 | tup h1 h2=>exact big _ rfl
 | lst h1 h2=>exact big _ rfl
 | dct h1 h2 h3=>exact big _ rfl
 | dck h1 h2 h3=>exact big _ rfl
def intsOf:List D→Option (List Int)
 | []=>some []
 | .int i::r=>match intsOf r with
  | some l=>some (i::l)
  | none=>none
 | _=>none
theorem jE_:∀ {ds:List D} {ns:List Int},intsOf ds=some ns→ds=ns.map PyData.int
 | [],ns,h=>by cases h;rfl
 | .int i::r,ns,h=>by
  dsimp only [intsOf] at h
  split at h
  ·rename_i l e;cases h;rw [jE_ e];rfl
  ·cases h
 | .none::_,_,h=>by cases h
 | .bool _::_,_,h=>by cases h
 | .str _::_,_,h=>by cases h
 | .list _::_,_,h=>by cases h
 | .tuple _::_,_,h=>by cases h
 | .dict _::_,_,h=>by cases h
theorem jC_ {K:Fg} {F:Hp}:∀ {vs:List V} {ns:List Int},RepL K F vs (ns.map PyData.int)→vs=ns.map V.int
 | _,[],h=>by cases h;rfl
 | _,n::r,h=>by
  cases h with
  | cons a b=>cases a;rw [jC_ b];rfl
theorem uf_:∀ {ns:List Int} {us:List Value},Vals (ns.map V.int) us→∃ ps:List (Int×Tok),us=ps.map (fun p=>Value.int p.1 p.2)∧ps.map Prod.fst=ns
 | [],_,h=>by cases h;exact ⟨[],rfl,rfl⟩
 | n::r,_,h=>by
  cases h with
  | cons a b =>
   obtain ⟨t,rfl⟩:=a
   obtain ⟨ps,rfl,e⟩:=uf_ b
   exact ⟨(n,t)::ps,rfl,by simp [e]⟩
def VA_ (ns:List Int):Bool:=ns.all (fun i=>decide (i.natAbs≤2^40))&&decide (ns.length≤2^20)
def fSum:List D→Option D
 | [.list ds]=>match intsOf ds with
  | some ns=>if VA_ ns then some (.int ns.sum) else none
  | none=>none
 | _=>none
def maxL:List Int→Int
 | []=>0
 | n::r=>r.foldl max n
def fMax:List D→Option D
 | [.list ds]=>match intsOf ds with
  | some (n::r)=>some (.int (maxL (n::r)))
  | _=>none
 | [.int i,.int j]=>some (.int (if j>i then j else i))
 | _=>none
def QQ_ (K:Fg) (f:List Int→Option Int):List V→Hp→VK→Prop:=fun xs H Q=>∃ a ns i,xs=[.ref a]∧SqL K H a (ns.map V.int)∧f ns=some i∧Q (.int i) H
def gMax:List Int→Option Int
 | []=>none
 | ns=>some (maxL ns)
theorem uD_ {ps:List (Int×Tok)} {i:Nat}:numAt ps.toArray i=(ps.map Prod.fst).getD i 0:=by
 unfold numAt
 rw [List.getElem?_toArray,List.getD_eq_getElem?_getD,List.getElem?_map]
theorem Wd_ {K:Fg}:y0_ K (fun xs H Q=>QQ_ K gMax xs H Q∨∃ i j,xs=[.int i,.int j]∧Q (.int (if j>i then j else i)) H) fMax:=by
 intro G F σ H ρ xs ds res Q S o e k
 unfold fMax at e
 split at e
 ·rename_i es
  split at e
  case h_2=>cases e
  rename_i n r' hns
  cases e
  obtain ⟨v,r,rfl,ho,hr⟩:=zy_ o
  obtain rfl:=zT_ hr
  obtain ⟨a,vs,rfl,h1,h2⟩:=ho.list S.fh
  rw [jE_ hns] at h2
  rw [jC_ h2] at h1
  exact .inl ⟨a,_,_,rfl,h1,rfl,k _ F H (Same.refl _) S (show Rep K F _ _ from .int _)⟩
 ·cases e
  obtain ⟨v,r,rfl,ho,hr⟩:=zy_ o
  obtain ⟨v2,r2,rfl,ho2,hr2⟩:=zy_ hr
  obtain rfl:=zT_ hr2
  exact .inr ⟨_,_,by rw [ho.int,ho2.int],k _ F H (Same.refl _) S (show Rep K F _ _ from .int _)⟩
 ·cases e
theorem US_ (r:List Int):∀ n:Int,n≤r.foldl max n∧(∀ i∈r,i≤r.foldl max n)∧(r.foldl max n=n∨r.foldl max n∈r):=by
 induction r with
 | nil=>intro n;exact ⟨Int.le_refl _,fun i hi=>(nomatch hi),.inl rfl⟩
 | cons a r ih =>
  intro n
  obtain ⟨h1,h2,h3⟩:=ih (max n a)
  rw [List.foldl_cons]
  refine ⟨by omega,fun i hi=>?_,?_⟩
  ·rcases List.mem_cons.mp hi with rfl|hi
   ·omega
   ·exact h2 i hi
  ·rcases h3 with h3|h3
   ·rw [h3]
    by_cases hna:n≤a
    ·right;rw [show max n a=a by omega];exact List.mem_cons_self
    ·left;omega
   ·right;exact List.mem_cons_of_mem _ h3
theorem Zi_ {ns:List Int} (h:ns≠[]):(∀ i∈ns,i≤maxL ns)∧maxL ns∈ns:=by
 cases ns with
 | nil=>exact absurd rfl h
 | cons n r =>
  obtain ⟨h1,h2,h3⟩:=US_ r n
  refine ⟨fun i hi=>?_,?_⟩
  ·rcases List.mem_cons.mp hi with rfl|hi
   ·exact h1
   ·exact h2 i hi
  ·rcases h3 with h3|h3
   ·show r.foldl max n∈_;rw [h3];exact List.mem_cons_self
   ·exact List.mem_cons_of_mem _ h3
theorem Yb_ {X:Cx} (hc:X.calm=true):CallR X (.builtin "max") (QQ_ X.K gMax):=by
 intro pins s σ H xs us Q I r h0
 obtain ⟨a,ns,i,rfl,hq,e,q⟩:=h0
 obtain ⟨u,rfl,ru⟩:=Vals.one r
 cases ru
 obtain ⟨its,rv,pl,hz⟩:=I.list hq
 obtain ⟨ps,rfl,rfl⟩:=uf_ rv
 have hne:ps≠[]:=by rintro rfl;cases e
 have hne':ps.map Prod.fst≠[]:=by simpa using hne
 have ei:i=maxL (ps.map Prod.fst):=by
  cases hp:ps.map Prod.fst with
  | nil=>exact absurd hp hne'
  | cons n r=>rw [hp] at e;cases e;rfl
 subst ei
 have hl:s.heap.IsList a (intItems ps.toArray):=by
  have:=pl.isList
  unfold intItems
  simpa using this
 have hpos:0<ps.length:=List.length_pos_iff.mpr hne
 refine max_intList (I.ok.hd hc) hl (by simpa using hpos) fun v h' tk hv hk=>?_
 obtain ⟨t,rfl⟩:=intItems_at hv
 refine ⟨.int _,H,I.kept hk,⟨_,rfl⟩,?_⟩
 have b:=argBest_gt (numAt ps.toArray) (ps.toArray.size - 1)
 generalize argBest (fun i j=>decide (numAt ps.toArray i>numAt ps.toArray j)) (ps.toArray.size - 1)=m at b hv
 have hm:m<ps.length:=by
  have h0:=b.1
  simp at h0
  omega
 have hsp:=Zi_ hne'
 have e1:numAt ps.toArray m=maxL (ps.map Prod.fst):=by
  refine Int.le_antisymm ?_ ?_
  ·refine hsp.1 _ ?_
   rw [uD_,List.getD_eq_getElem?_getD,List.getElem?_eq_getElem (by simpa using hm)]
   exact List.getElem_mem _
  ·obtain ⟨j,hj,ej⟩:=List.getElem_of_mem hsp.2
   have h0:=b.2 j (by simp at hj ⊢;omega)
   rw [uD_,List.getD_eq_getElem?_getD,List.getElem?_eq_getElem hj] at h0
   rw [←ej]
   exact h0
 rw [e1]
 exact q
end L4
set_option Elab.async false
set_option linter.all false
set_option maxRecDepth 100000
namespace L4
open PySem PySem.Spec PyProof.Rows L2 L3
section
variable {K:Fg} {G:Gh} {F H:Hp} {σ:L2.St} {ρ ρ':En}
theorem _root_.L3.StOk.weak (S:StOk K G F σ H ρ) (hl:ρ'.length=ρ.length) (h:∀ (i:Nat) (av:AV),ρ'[i]? = some (some av)→ρ[i]? = some (some av)) (hp:∀ (i:Nat) (c:OC),ρ[i]? = some (some (AV.op c))→ρ'[i]? = some (some (AV.op c))):StOk K G F σ H ρ':=by
 have ow':∀ j c,own ρ' j c→own ρ j c:=fun j c q=>q.imp (h _ _) (h _ _)
 refine ⟨S.fh,S.oh,S.fo,S.ln.trans hl.symm,fun j d q=>S.fz j d (h _ _ q),fun j c q=>S.ow j c (ow' j c q),fun j k c e a h1 h2=>S.dj j k c e a (ow' j c h1) (ow' k e h2),fun j a q=>?_,fun j c q=>S.pq j c (h _ _ q),S.fb⟩
 obtain ⟨q1,c,q2⟩:=S.pp j a q
 exact ⟨q1,c,hp _ _ q2⟩
theorem ue_ {k:Nat} {i:Nat} {av:AV} (h:(ρ++List.replicate k none)[i]? = some (some av)):ρ[i]? = some (some av):=by
 by_cases hi:i<ρ.length
 ·rw [List.getElem?_append_left hi] at h;exact h
 ·rw [List.getElem?_append_right (Nat.not_lt.mp hi),List.getElem?_replicate] at h
  split at h<;>cases h
theorem _root_.L3.StOk.grow (S:StOk K G F σ H ρ) (k:Nat):StOk K G F (σ++List.replicate k none) H (ρ++List.replicate k none):=by
 have ap:∀ {i:Nat} {v:V},σ[i]? = some (some v)→(σ++List.replicate k none)[i]? = some (some v):=fun {i v} e=>by
  rw [List.getElem?_append_left (List.getElem?_eq_some_iff.mp e).1];exact e
 have apr:∀ {i:Nat} {v:AV},ρ[i]? = some (some v)→(ρ++List.replicate k none)[i]? = some (some v):=fun {i v} e=>by
  rw [List.getElem?_append_left (List.getElem?_eq_some_iff.mp e).1];exact e
 have ow':∀ i c,own (ρ++List.replicate k none) i c→own ρ i c:=fun i c h=>by
  rcases h with h|h
  ·exact .inl (ue_ h)
  ·exact .inr (ue_ h)
 refine ⟨S.fh,S.oh,S.fo,by simp [S.ln],fun i d h=>?_,fun i c h=>?_,fun i j c e a h1 h2 e1 e2=>?_,fun i a h=>?_,fun i c h=>S.pq i c (ue_ h),S.fb⟩
 ·obtain ⟨v,e,r⟩:=S.fz i d (ue_ h);exact ⟨v,ap e,r⟩
 ·obtain ⟨a,e,oa⟩:=S.ow i c (ow' i c h);exact ⟨a,ap e,oa⟩
 ·have o1:=ow' i c h1
  have o2:=ow' j e h2
  obtain ⟨a1,q1,_⟩:=S.ow i c o1
  obtain ⟨a2,q2,_⟩:=S.ow j e o2
  rw [ap q1] at e1;rw [ap q2] at e2
  injection e1 with e1;injection e2 with e2
  exact S.dj i j c e a o1 o2 (by rw [q1,e1]) (by rw [q2,e2])
 ·obtain ⟨e,c,q⟩:=S.pp i a h;exact ⟨ap e,c,apr q⟩
theorem _root_.L3.StOk.shrink (S:StOk K G F σ H ρ) {n:Nat} (hn:n≤ρ.length) (hp:∀ i a,G.P i=some a→i<n):StOk K G F (σ.take n) H (ρ.take n):=by
 have tk:∀ {i:Nat} {v:AV},(ρ.take n)[i]? = some (some v)→i<n∧ρ[i]? = some (some v):=fun {i v} e=>by
  have hi:i<n:=by
   have:=(List.getElem?_eq_some_iff.mp e).1
   rw [List.length_take] at this;omega
  rw [List.getElem?_take_of_lt hi] at e
  exact ⟨hi,e⟩
 have ow':∀ i c,own (ρ.take n) i c→i<n∧own ρ i c:=fun i c h=>by
  rcases h with h|h
  ·exact ⟨(tk h).1,.inl (tk h).2⟩
  ·exact ⟨(tk h).1,.inr (tk h).2⟩
 refine ⟨S.fh,S.oh,S.fo,by simp [S.ln],fun i d h=>?_,fun i c h=>?_,fun i j c e a h1 h2 e1 e2=>?_,fun i a h=>?_,fun i c h=>S.pq i c (tk h).2,S.fb⟩
 ·obtain ⟨v,e,r⟩:=S.fz i d (tk h).2;exact ⟨v,by rw [List.getElem?_take_of_lt (tk h).1];exact e,r⟩
 ·obtain ⟨a,e,oa⟩:=S.ow i c (ow' i c h).2;exact ⟨a,by rw [List.getElem?_take_of_lt (ow' i c h).1];exact e,oa⟩
 ·rw [List.getElem?_take_of_lt (ow' i c h1).1] at e1
  rw [List.getElem?_take_of_lt (ow' j e h2).1] at e2
  exact S.dj i j c e a (ow' i c h1).2 (ow' j e h2).2 e1 e2
 ·obtain ⟨e,c,q⟩:=S.pp i a h
  exact ⟨by rw [List.getElem?_take_of_lt (hp i a h)];exact e,c,by rw [List.getElem?_take_of_lt (hp i a h)];exact q⟩
end
theorem JA_ {α:Type} {l l':List α} {n:Nat} (h:∀ j,j<n→l'[j]? = l[j]?) (hl:l.length=n):l'.take n=l:=by
 apply List.ext_getElem?
 intro i
 by_cases hi:i<n
 ·rw [List.getElem?_take_of_lt hi,h i hi]
 ·rw [List.getElem?_eq_none_iff.mpr (by rw [List.length_take];omega),List.getElem?_eq_none_iff.mpr (by omega)]
inductive Kd where
 | dead|f|o|p|t|k
@[reducible] def SOf:List Kd→Type
 | []=>Unit
 | .dead::r=>SOf r
 | .f::r=>D×SOf r
 | .o::r=>List D×SOf r
 | .p::r=>List D×SOf r
 | .t::r=>List (D×D)×SOf r
 | .k::r=>List (D×D)×SOf r
def rd:(sh:List Kd)→En→Option (SOf sh)
 | [],[]=>some ()
 | .dead::r,x::ρ=>match x with
  | some (.op _)=>none
  | _=>rd r ρ
 | .f::r,x::ρ=>match x with
  | some (.fz d)=>match rd r ρ with
   | some s=>some (d,s)
   | none=>none
  | _=>none
 | .o::r,x::ρ=>match x with
  | some (.ol (.l ds))=>match rd r ρ with
   | some s=>some (ds,s)
   | none=>none
  | _=>none
 | .p::r,x::ρ=>match x with
  | some (.op (.l ds))=>match rd r ρ with
   | some s=>some (ds,s)
   | none=>none
  | _=>none
 | .t::r,x::ρ=>match x with
  | some (.ol (.t ds))=>match rd r ρ with
   | some s=>some (ds,s)
   | none=>none
  | _=>none
 | .k::r,x::ρ=>match x with
  | some (.ol (.k ds))=>match rd r ρ with
   | some s=>some (ds,s)
   | none=>none
  | _=>none
 | _,_=>none
def wr:(sh:List Kd)→SOf sh→En
 | [],_=>[]
 | .dead::r,s=>none::wr r s
 | .f::r,s=>some (.fz s.1)::wr r s.2
 | .o::r,s=>some (.ol (.l s.1))::wr r s.2
 | .p::r,s=>some (.op (.l s.1))::wr r s.2
 | .t::r,s=>some (.ol (.t s.1))::wr r s.2
 | .k::r,s=>some (.ol (.k s.1))::wr r s.2
theorem ZH_:∀ (sh:List Kd) (ρ:En) (s:SOf sh),rd sh ρ=some s→(wr sh s).length=ρ.length∧(∀ (i:Nat) (av:AV),(wr sh s)[i]? = some (some av)→ρ[i]? = some (some av))∧(∀ (i:Nat) (c:OC),ρ[i]? = some (some (AV.op c))→(wr sh s)[i]? = some (some (AV.op c)))
 | [],[],s,h=>⟨rfl,fun i av q=>by simpa [wr] using q,fun i c q=>by simp at q⟩
 | [],_::_,s,h=>by cases h
 | .dead::r,[],s,h=>by cases h
 | .f::r,[],s,h=>by cases h
 | .o::r,[],s,h=>by cases h
 | .p::r,[],s,h=>by cases h
 | .t::r,[],s,h=>by cases h
 | .k::r,[],s,h=>by cases h
 | .dead::r,x::ρ,s,h=>by
  dsimp only [rd] at h
  split at h
  ·cases h
  ·rename_i hx
   obtain ⟨h1,h2,h3⟩:=ZH_ r ρ s h
   refine ⟨by simp [wr,h1],fun i av q=>?_,fun i c q=>?_⟩
   ·cases i with
    | zero=>simp [wr] at q
    | succ i=>simpa using h2 i av (by simpa [wr] using q)
   ·cases i with
    | zero=>simp at q;exact absurd q (hx c)
    | succ i=>simpa [wr] using h3 i c (by simpa using q)
 | .f::r,x::ρ,s,h=>by
  dsimp only [rd] at h
  split at h
  ·split at h
   ·rename_i s' e
    cases h
    obtain ⟨h1,h2,h3⟩:=ZH_ r ρ s' e
    refine ⟨by simp [wr,h1],fun i av q=>?_,fun i c q=>?_⟩
    ·cases i with
     | zero=>simpa [wr] using q
     | succ i=>simpa using h2 i av (by simpa [wr] using q)
    ·cases i with
     | zero=>simp at q
     | succ i=>simpa [wr] using h3 i c (by simpa using q)
   ·cases h
  ·cases h
 | .o::r,x::ρ,s,h=>by
  dsimp only [rd] at h
  split at h
  ·split at h
   ·rename_i s' e
    cases h
    obtain ⟨h1,h2,h3⟩:=ZH_ r ρ s' e
    refine ⟨by simp [wr,h1],fun i av q=>?_,fun i c q=>?_⟩
    ·cases i with
     | zero=>simpa [wr] using q
     | succ i=>simpa using h2 i av (by simpa [wr] using q)
    ·cases i with
     | zero=>simp at q
     | succ i=>simpa [wr] using h3 i c (by simpa using q)
   ·cases h
  ·cases h
 | .p::r,x::ρ,s,h=>by
  dsimp only [rd] at h
  split at h
  ·split at h
   ·rename_i s' e
    cases h
    obtain ⟨h1,h2,h3⟩:=ZH_ r ρ s' e
    refine ⟨by simp [wr,h1],fun i av q=>?_,fun i c q=>?_⟩
    ·cases i with
     | zero=>simpa [wr] using q
     | succ i=>simpa using h2 i av (by simpa [wr] using q)
    ·cases i with
     | zero=>simpa [wr] using q
     | succ i=>simpa [wr] using h3 i c (by simpa using q)
   ·cases h
  ·cases h
 | .t::r,x::ρ,s,h=>by
  dsimp only [rd] at h
  split at h
  ·split at h
   ·rename_i s' e
    cases h
    obtain ⟨h1,h2,h3⟩:=ZH_ r ρ s' e
    refine ⟨by simp [wr,h1],fun i av q=>?_,fun i c q=>?_⟩
    ·cases i with
     | zero=>simpa [wr] using q
     | succ i=>simpa using h2 i av (by simpa [wr] using q)
    ·cases i with
     | zero=>simp at q
     | succ i=>simpa [wr] using h3 i c (by simpa using q)
   ·cases h
  ·cases h
 | .k::r,x::ρ,s,h=>by
  dsimp only [rd] at h
  split at h
  ·split at h
   ·rename_i s' e
    cases h
    obtain ⟨h1,h2,h3⟩:=ZH_ r ρ s' e
    refine ⟨by simp [wr,h1],fun i av q=>?_,fun i c q=>?_⟩
    ·cases i with
     | zero=>simpa [wr] using q
     | succ i=>simpa using h2 i av (by simpa [wr] using q)
    ·cases i with
     | zero=>simp at q
     | succ i=>simpa [wr] using h3 i c (by simpa using q)
   ·cases h
  ·cases h
theorem _root_.L3.StOk.rd {K:Fg} {G:Gh} {F H:Hp} {σ:L2.St} {ρ:En} {sh:List Kd} {s:SOf sh} (S:StOk K G F σ H ρ) (h:L4.rd sh ρ=some s):StOk K G F σ H (wr sh s):=by
 obtain ⟨h1,h2,h3⟩:=ZH_ sh ρ s h
 exact S.weak h1 h2 h3
def rdk {S:Type} (sh:List Kd) (k:SOf sh→M S) (ρ:En):M S:=match rd sh ρ with
 | some s=>k s
 | none=>.bad
abbrev Ev (S α:Type):=(Ex→En→M S)→(α→En→M S)→En→M S
structure KS (S:Type) where
 nx:En→M S
 rt:D→En→M S
 rl:List D→En→M S
 bk:En→M S
 ct:En→M S
 x:Ex→En→M S
def KOk {S:Type} (OK:M S→Prop):Prop:=¬ OK .bad
def XL {S:Type} (X:Cx) (OK:M S→Prop) (x:Ex→En→M S) (G:Gh):Prop:=∀ F ρ e,OK (x e ρ)→XW X G F ρ e
def AE {S:Type} (X:Cx) (e:Expr) (m:Ev S D):Prop :=
 ∀ (OK:M S→Prop) (x:Ex→En→M S) (k:D→En→M S) (G:Gh) (F:Hp) (σ:L2.St) (H:Hp) (ρ:En) (Q:VK),KOk OK→XL X OK x G→StOk X.K G F σ H ρ→OK (m x k ρ) →
  (∀ d v F' H' ρ',Same F F'→StOk X.K G F' σ H' ρ'→Rep X.K F' v d→OK (k d ρ')→Q v H')→tSem X e σ H Q
def AEt {S:Type} (X:Cx) (e:Expr) (m:Ev S Bool):Prop :=
 ∀ (OK:M S→Prop) (x:Ex→En→M S) (k:Bool→En→M S) (G:Gh) (F:Hp) (σ:L2.St) (H:Hp) (ρ:En) (Q:Bool→Hp→Prop),KOk OK→XL X OK x G→StOk X.K G F σ H ρ→OK (m x k ρ) →
  (∀ d F' H' ρ',Same F F'→StOk X.K G F' σ H' ρ'→OK (k d ρ')→Q d H')→JB_ X e σ H Q
def AEa {S:Type} (X:Cx) (es:List Expr) (m:Ev S (List D)):Prop :=
 ∀ (OK:M S→Prop) (x:Ex→En→M S) (k:List D→En→M S) (G:Gh) (F:Hp) (σ:L2.St) (H:Hp) (ρ:En) (Q:List V→Hp→Prop),KOk OK→XL X OK x G→StOk X.K G F σ H ρ→OK (m x k ρ) →
  (∀ ds vs F' H' ρ',Same F F'→StOk X.K G F' σ H' ρ'→vs.length=es.length→RepL X.K F' vs ds→OK (k ds ρ')→Q vs H')→yy_ X es σ H Q
def AEl {S:Type} (X:Cx) (e:Expr) (m:Ev S (List D)):Prop :=
 ∀ (OK:M S→Prop) (x:Ex→En→M S) (k:List D→En→M S) (G:Gh) (F:Hp) (σ:L2.St) (H:Hp) (ρ:En) (Q:VK),KOk OK→XL X OK x G→StOk X.K G F σ H ρ→OK (m x k ρ) →
  (∀ ds v F' H' ρ',Same F F'→StOk X.K G F' σ H' ρ'→Frs X.K G F' σ H' ρ' v (.l ds)→OK (k ds ρ')→Q v H')→tSem X e σ H Q
def ePu {S α:Type} (p:Pu α):Ev S α:=fun x k ρ=>(p ρ).on (fun e=>x e ρ) (fun a=>k a ρ)
section
variable {S α:Type} {X:Cx} {OK:M S→Prop} {x:Ex→En→M S} {k:α→En→M S} {G:Gh} {F:Hp} {σ:L2.St} {ρ:En} {p:Pu α} {C:α→Hp→Hp→Prop}
theorem W.of (hO:KOk OK) (hX:XL X OK x G) (h:OK (ePu p x k ρ)) (w:∀ a F' H',Same F F'→StOk X.K G F' σ H' ρ→OK (k a ρ)→C a F' H'):W X G F σ ρ (p ρ) C:=by
 unfold ePu at h
 cases hp:p ρ with
 | ret a=>rw [hp] at h;exact fun F' H' s S'=>w a F' H' s S' h
 | exc e=>rw [hp] at h;exact hX F ρ e h
 | bad=>rw [hp] at h;exact hO h
end
section
variable {S:Type} {X:Cx} {e a b c:Expr} {es rest:List Expr} {p:Pu D} {pt:Pu Bool} {ps:Pu (List D)} {pos:Pos}
theorem zH_ (h:AP X e p):AE (S:=S) X e (ePu p):=fun OK x k G F σ H ρ Q hO hX St ok kk=>h G F σ H ρ Q St (W.of hO hX ok fun d F' H' s S' o v r=>kk d v F' H' ρ s S' r o)
theorem ZE_ (h:AT X e pt):AEt (S:=S) X e (ePu pt):=fun OK x k G F σ H ρ Q hO hX St ok kk=>h G F σ H ρ Q St (W.of hO hX ok fun d F' H' s S' o=>kk d F' H' ρ s S' o)
theorem jt_ (h:AL X e ps):AEl (S:=S) X e (ePu ps):=fun OK x k G F σ H ρ Q hO hX St ok kk=>h G F σ H ρ Q St (W.of hO hX ok fun d F' H' s S' o v r=>kk d v F' H' ρ s S' r o)
def eBin (f:D→D→Option D) (a b:Ev S D):Ev S D:=fun x k ρ=>a x (fun d ρ1=>b x (fun d2 ρ2=>(oM (f d d2)).on (fun e=>x e ρ2) (fun r=>k r ρ2)) ρ1) ρ
def eNil:Ev S (List D):=fun _ k ρ=>k [] ρ
def XH_ (m:Ev S D) (ms:Ev S (List D)):Ev S (List D):=fun x k ρ=>m x (fun d ρ1=>ms x (fun ds ρ2=>k (d::ds) ρ2) ρ1) ρ
theorem yl_ {α:Type} {OK:M S→Prop} (hO:KOk OK) {o:Option α} {x:Ex→M S} {k:α→M S} (h:OK ((oM o).on x k)):∃ a,o=some a∧OK (k a):=by
 cases o with
 | none=>exact (hO h).elim
 | some a=>exact ⟨a,rfl,h⟩
variable {ma mb m:Ev S D} {ta tb tc:Ev S Bool} {ms:Ev S (List D)}
theorem Vq_ {r:R2} {Q:VK} {OK:M S→Prop} {x:Ex→En→M S} {G:Gh} {F H:Hp} {σ:L2.St} {ρ:En} {f:D→D→En→M S} (ha:AE X a ma) (hb:AE X b mb) (hO:KOk OK) (hX:XL X OK x G) (St:StOk X.K G F σ H ρ)
  (ok:OK (ma x (fun d ρ1=>mb x (fun d2 ρ2=>f d d2 ρ2) ρ1) ρ)) (k:∀ u v dx dy F' H' ρ',Same F F'→StOk X.K G F' σ H' ρ'→Rep X.K F' u dx→Rep X.K F' v dy→OK (f dx dy ρ')→r u v H' Q):tOp r (tSem X a) (tSem X b) σ H Q :=
 ha OK x _ G F σ H ρ _ hO hX St ok fun d v F1 H1 ρ1 s1 S1 r1 o1=>hb OK x _ G F1 σ H1 ρ1 _ hO hX S1 o1 fun d2 u F2 H2 ρ2 s2 S2 r2 o2=>k v u d d2 F2 H2 ρ2 (s1.trans s2) S2 (r1.mono s2) r2 o2
theorem Qy_ {op:Operator} {r:R2} {f:D→D→Option D} (ho:OpR X (binaryOp op) r) (hf:OpD X.K r f) (ha:AE X a ma) (hb:AE X b mb):AE X (.BinOp a op b pos) (eBin f ma mb) :=
 fun OK x k G F σ H ρ Q hO hX St ok kk=>sem (VX_ ho zu_ zu_) (Vq_ ha hb hO hX St ok fun u v dx dy F' H' ρ' s S' r1 r2 o=>by
  obtain ⟨res,e,o'⟩:=yl_ hO o
  exact hf G F' σ H' ρ' u v dx dy res Q S' (.inl r1) (.inl r2) e fun w F2 H2 s2 S2 r3=>kk res w F2 H2 ρ' (s.trans s2) S2 r3 o')
theorem ZZ_:AEa (S:=S) X [] eNil:=fun OK x k G F σ H ρ Q hO hX St ok kk=>semA Zb_ (kk [] [] F H ρ (Same.refl _) St rfl .nil ok)
theorem yZ_ (h:AE X e m) (hr:AEa X es ms) (hs:starEach (e::es) X.env=(false,eval e X.env)::starEach es X.env):AEa X (e::es) (XH_ m ms) :=
 fun OK x k G F σ H ρ Q hO hX St ok kk=>semA (uh_ zu_ z7_ hs) (h OK x _ G F σ H ρ _ hO hX St ok fun d v F1 H1 ρ1 s1 S1 r1 o1 =>
  hr OK x _ G F1 σ H1 ρ1 _ hO hX S1 o1 fun ds vs F2 H2 ρ2 s2 S2 hl r2 o2=>kk (d::ds) (v::vs) F2 H2 ρ2 (s1.trans s2) S2 (by simp [hl]) (.cons (r1.mono s2) r2) o2)
end
end L4
set_option Elab.async false
set_option linter.all false
set_option maxRecDepth 100000
namespace L4
open PySem PySem.Spec PyProof.Rows L2 L3
structure Walk (K:Fg) (J:It) (ds:List D) (F:Hp):Prop where
 go:∀ (i:Nat) (G:Gh) (F2:Hp) (σ:L2.St) (H2:Hp) (ρ:En),Same F F2→StOk K G F2 σ H2 ρ→i<ds.length→J.go i H2
 yld:∀ (i:Nat) (G:Gh) (F2:Hp) (σ:L2.St) (H2:Hp) (ρ:En) (x:V) (H3:Hp) (d:D),Same F F2→StOk K G F2 σ H2 ρ→ds[i]? = some d→J.yld i H2 x H3→∃ F3,Same F2 F3∧StOk K G F3 σ H3 ρ∧Rep K F3 x d
 stop:∀ (G:Gh) (F2:Hp) (σ:L2.St) (H2:Hp) (ρ:En),Same F F2→StOk K G F2 σ H2 ρ→J.stop ds.length H2
theorem J7_ {K:Fg} {F:Hp} {a:Addr} {vs:List V} {ds:List D} (h:SqL K F a vs) (r:RepL K F vs ds):Walk K (Itl K a) ds F where
 go:=fun i G F2 σ H2 ρ s S hi=>by
  have hi':i<vs.length:=by rw [r.length];exact hi
  exact ⟨vs,vs[i],S.fh.seq (s.seq h),by simp [hi']⟩
 yld:=fun i G F2 σ H2 ρ x H3 d s S hd ⟨e,q⟩=>by
  subst e
  obtain ⟨v,e1,e2⟩:=r.get hd
  have:=q vs (S.fh.seq (s.seq h))
  rw [e1] at this
  cases this
  exact ⟨F2,Same.refl _,S,e2.mono s⟩
 stop:=fun G F2 σ H2 ρ s S=>⟨vs,S.fh.seq (s.seq h),by rw [r.length];exact Nat.le_refl _⟩
theorem Yq_ {K:Fg} {F:Hp} {a:Addr} {vs:List V} {ds:List D} (h:SqT K F a vs) (r:RepL K F vs ds):Walk K (Itt K a) ds F where
 go:=fun i G F2 σ H2 ρ s S hi=>by
  have hi':i<vs.length:=by rw [r.length];exact hi
  exact ⟨vs,vs[i],jJ_ S.fh (jJ_ s h),by simp [hi']⟩
 yld:=fun i G F2 σ H2 ρ x H3 d s S hd ⟨e,q⟩=>by
  subst e
  obtain ⟨v,e1,e2⟩:=r.get hd
  have:=q vs (jJ_ S.fh (jJ_ s h))
  rw [e1] at this
  cases this
  exact ⟨F2,Same.refl _,S,e2.mono s⟩
 stop:=fun G F2 σ H2 ρ s S=>⟨vs,jJ_ S.fh (jJ_ s h),by rw [r.length];exact Nat.le_refl _⟩
def jD_ (lo:Int) (n:Nat):List D:=(List.range n).map fun (i:Nat)=>PyData.int (lo+(i:Int))
theorem jv_ (lo:Int) (n:Nat):(jD_ lo n).length=n:=by simp [jD_]
theorem Jx_ {K:Fg} {F:Hp} (lo:Int) (n:Nat):Walk K (Itr lo n) (jD_ lo n) F where
 go:=fun i G F2 σ H2 ρ s S hi=>by rw [jv_] at hi;exact hi
 yld:=fun i G F2 σ H2 ρ x H3 d s S hd ⟨e,q⟩=>by
  subst e q
  have e':(jD_ lo n)[i]? = some d:=hd
  unfold jD_ at e'
  rw [List.getElem?_map] at e'
  have hi:i<n:=by
   have:=(List.getElem?_eq_some_iff.mp hd).1
   rw [jv_] at this;exact this
  rw [List.getElem?_range hi] at e'
  cases e'
  exact ⟨F2,Same.refl _,S,.int _⟩
 stop:=fun G F2 σ H2 ρ s S=>by rw [jv_];exact Nat.le_refl _
@[irreducible] def u8_ (X:Cx) (tg iter:Expr):TI:=fun σ H R=>∀ (pins:List (Addr×Obj)) (s:Shared),Inv X pins σ H s→wpAny (model X.prog X.w) X.A (eval iter X.env) (fun v s1=>wpAny (model X.prog X.w) X.A (pyIter v) (PIE X pins σ tg R) X.xe s1) X.xe s
theorem Jc_ {X:Cx} {tg e:Expr}:PI X tg e (u8_ X tg e):=fun pins s σ H R I h=>by unfold u8_ at h;exact h pins s I
theorem semI {X:Cx} {tg e:Expr} {σ:L2.St} {H:Hp} {R:It→Hp→Prop} {t:TI} (h:PI X tg e t) (q:t σ H R):u8_ X tg e σ H R:=by unfold u8_;exact fun pins s I=>h pins s σ H R I q
def AI (X:Cx) (tg e:Expr) (p:Pu (List D)):Prop :=
 ∀ (G:Gh) (F:Hp) (σ:L2.St) (H:Hp) (ρ:En) (R:It→Hp→Prop),StOk X.K G F σ H ρ→W X G F σ ρ (p ρ) (fun ds F' H'=>∀ J,Walk X.K J ds F'→R J H')→u8_ X tg e σ H R
def AEi {S:Type} (X:Cx) (tg e:Expr) (m:Ev S (List D)):Prop :=
 ∀ (OK:M S→Prop) (x:Ex→En→M S) (k:List D→En→M S) (G:Gh) (F:Hp) (σ:L2.St) (H:Hp) (ρ:En) (R:It→Hp→Prop),KOk OK→XL X OK x G→StOk X.K G F σ H ρ→OK (m x k ρ) →
  (∀ ds J F' H' ρ',Same F F'→StOk X.K G F' σ H' ρ'→Walk X.K J ds F'→OK (k ds ρ')→R J H')→u8_ X tg e σ H R
theorem jH_ {S:Type} {X:Cx} {tg e:Expr} {ps:Pu (List D)} (h:AI X tg e ps):AEi (S:=S) X tg e (ePu ps):=fun OK x k G F σ H ρ Q hO hX St ok kk=>h G F σ H ρ Q St (W.of hO hX ok fun d F' H' s S' o v r=>kk d v F' H' ρ s S' r o)
def iSeq (K:Fg) (tl:TE):TI:=fun σ H R=>tl σ H fun x H1=>(∃ a,x=.ref a∧(∃ xs,SqL K H1 a xs)∧R (Itl K a) H1)∨∃ a,x=.ref a∧(∃ xs,SqT K H1 a xs)∧R (Itt K a) H1
theorem VU_ {X:Cx} {tg l:Expr} {tl:TE} (hl:PE X l tl):PI X tg l (iSeq X.K tl):=by
 intro pins s σ H R I h
 refine thn (hl pins s σ H _ I h) fun v s1 ⟨x,H1,I1,r1,q1⟩=>?_
 rcases q1 with ⟨a,e,⟨xs,hq⟩,q⟩|⟨a,e,⟨xs,hq⟩,q⟩
 ·subst e
  cases r1
  obtain ⟨its,rv,p,hz⟩:=I1.list hq
  refine wpAny_pyIter_list p.isList ?_
  refine ⟨s1.heap.objs.size,[s1.heap.objs.size],_,_,H1,rfl,I1.kept (t':=s1.toks) fun b o e=>Heap.get?_push_of_some _ e,J8_ a _,⟨_,Heap.get?_push_size _ rfl,rfl,rfl⟩,fun b hb=>?_,q⟩
  have e:b=s1.heap.objs.size:=by simpa using hb
  subst e
  exact I1.fpOk (Nat.le_refl _) (I1.hok.fresh (Nat.le_refl _))
 ·subst e
  cases r1
  obtain ⟨its,rv,p,hz⟩:=I1.tuple hq
  refine wpAny_pyIter_tuple (show s1.heap.IsTuple a its.toArray from p) ?_
  refine ⟨s1.heap.objs.size,[s1.heap.objs.size],_,_,H1,rfl,I1.kept (t':=s1.toks) fun b o e=>Heap.get?_push_of_some _ e,Jy_ a _,⟨_,Heap.get?_push_size _ rfl,rfl,rfl⟩,fun b hb=>?_,q⟩
  have e:b=s1.heap.objs.size:=by simpa using hb
  subst e
  exact I1.fpOk (Nat.le_refl _) (I1.hok.fresh (Nat.le_refl _))
def seqD:D→Option (List D)
 | .list ds=>some ds
 | .tuple ds=>some ds
 | _=>none
def pIt (p:Pu D):Pu (List D):=fun ρ=>bd (p ρ) fun d=>oM (seqD d)
def uJ_ (i:Int):Bool:=decide (-(2^62)≤i)&&decide (i<2^62)
theorem yf_ {i:Int} (h:uJ_ i=true) : -(2^62)≤i∧i<2^62:=by
 unfold uJ_ at h
 simp only [Bool.and_eq_true,decide_eq_true_eq] at h
 exact h
def z1_:List D→Option (List D)
 | [.int j]=>if uJ_ j then some (jD_ 0 j.toNat) else none
 | _=>none
section
variable {S:Type} {X:Cx} {tg e a b:Expr} {pp:Pu D} {ps:Pa (List D)} {m:Ev S D} {ms:Ev S (List D)} {p pos:Pos}
theorem Yx_ {F H:Hp} {v:V} {d:D} {ds:List D} {R:It→Hp→Prop} (s:Same F H) (r:Rep X.K F v d) (hd:seqD d=some ds) (k:∀ J,Walk X.K J ds F→R J H) :
  (∃ a,v=.ref a∧(∃ xs,SqL X.K H a xs)∧R (Itl X.K a) H)∨∃ a,v=.ref a∧(∃ xs,SqT X.K H a xs)∧R (Itt X.K a) H:=by
 cases r with
 | lst h1 h2=>cases hd;exact .inl ⟨_,rfl,⟨_,s.seq h1⟩,k _ (J7_ h1 h2)⟩
 | tup h1 h2=>cases hd;exact .inr ⟨_,rfl,⟨_,SqT.of (s _ _ h1)⟩,k _ (Yq_ (SqT.of h1) h2)⟩
 | dct _ _ _=>cases hd
 | dck _ _ _=>cases hd
 | non=>cases hd
 | bl _=>cases hd
 | int _=>cases hd
 | str _=>cases hd
theorem jr_ (h:AP X e pp):AI X tg e (pIt pp):=fun G F σ H ρ R S w=>semI (VU_ zu_) (h G F σ H ρ _ S (w.bind.imp fun d F1 H1 s1 S1 w1 v r1=>by
 obtain ⟨ds,hd,k⟩:=w1.opt
 exact Yx_ S1.fh r1 hd (k F1 H1 (Same.refl _) S1)))
theorem Uh_ {F H:Hp} {vs:List V} {ds out:List D} {R:It→Hp→Prop} (r:RepL X.K F vs ds) (h:z1_ ds=some out) (k:∀ J,Walk X.K J out F→R J H):∃ j,vs=[.int j] ∧ -(2^62)≤j∧j<2^62∧R (Itr 0 j.toNat) H:=by
 unfold z1_ at h
 split at h
 ·rename_i j
  split at h
  ·rename_i hs
   cases h
   cases r with
   | cons r1 r2 =>
    cases r2
    cases r1
    exact ⟨j,rfl,(yf_ hs).1,(yf_ hs).2,k _ (Jx_ 0 j.toNat)⟩
  ·cases h
 ·cases h
theorem js_ (hg:Gl X "range") (hm:X.mg "range" = none) (ha:AA X [a] ps) (hs:starEach [a] X.env=[(false,eval a X.env)]):AI X tg (.Call (.Name "range" p) [a] [] pos) (Jf_ z1_ ps) :=
 fun G F σ H ρ R S w=>semI (Um_ hg hm z7_ hs) (ha G F σ H ρ _ _ _ S w fun ds vs F1 H1 s1 S1 _ r1 w1=>by
  obtain ⟨out,hd,k⟩:=w1.opt
  exact Uh_ r1 hd (k F1 H1 (Same.refl _) S1))
end
abbrev Tg (S:Type):=D→(En→M S)→En→M S
def ZL_ (ρ:En) (i:Nat):Bool:=decide (i<ρ.length)&&(match ρ[i]? with
 | some (some (.op _))=>false
 | _=>true)
theorem j6_ {ρ:En} {i:Nat} (h:ZL_ ρ i=true):i<ρ.length∧∀ c,ρ[i]? ≠ some (some (.op c)):=by
 unfold ZL_ at h
 rw [Bool.and_eq_true] at h
 refine ⟨by simpa using h.1,fun c e=>?_⟩
 rw [e] at h
 exact absurd h.2 (by simp)
@[irreducible] def JC_ (X:Cx) (tg:Expr):TG:=fun v σ H Q=>∀ (pins:List (Addr×Obj)) (s:Shared) (u:Value),Inv X pins σ H s→RelV v u→wpAny (model X.prog X.w) X.A (assign tg X.env u) (fun _ s'=>∃ σ' H',Inv X pins σ' H' s'∧Q σ' H') X.xe s
theorem Jd_ {X:Cx} {tg:Expr}:PG X tg (JC_ X tg):=fun pins s σ H v u Q I r h=>by unfold JC_ at h;exact h pins s u I r
theorem semG {X:Cx} {tg:Expr} {t:TG} {v:V} {σ:L2.St} {H:Hp} {Q:L2.St→Hp→Prop} (h:PG X tg t) (q:t v σ H Q):JC_ X tg v σ H Q:=by unfold JC_;exact fun pins s u I r=>h pins s σ H v u Q I r q
def AG {S:Type} (X:Cx) (n:Nat) (tg:Expr) (st:Tg S):Prop :=
 ∀ (OK:M S→Prop) (k:En→M S) (G:Gh) (F:Hp) (σ:L2.St) (H:Hp) (ρ:En) (v:V) (d:D) (Q:L2.St→Hp→Prop),KOk OK→StOk X.K G F σ H ρ→Rep X.K F v d→OK (st d k ρ) →
  (∀ σ' ρ',StOk X.K G F σ' H ρ'→(∀ j,j<n→σ'[j]? = σ[j]? ∧ ρ'[j]? = ρ[j]?)→σ'.length=σ.length→ρ'.length=ρ.length→OK (k ρ')→Q σ' H)→JC_ X tg v σ H Q
def gSet {S:Type} (i:Nat):Tg S:=fun d k ρ=>match ZL_ ρ i with
 | true=>k (ρ.set i (some (.fz d)))
 | false=>.bad
section
variable {S:Type} {X:Cx} {pos:Pos} {n:Nat}
theorem zA_ {i:Nat} {x:Str} (hn:n≤i) (hN:X.N.Nodup) (hi:X.N[i]? = some x) (hx:Loc X.env.scope x) (hf:X.fn x=true∨X.env.scope.names.lookup x=some .local):AG (S:=S) X n (.Name x pos) (gSet i):=by
 intro OK k G F σ H ρ v d Q hO S r ok kk
 unfold gSet at ok
 split at ok
 ·rename_i ho
  obtain ⟨hl,hop⟩:=j6_ ho
  refine semG (Q0_ hN hi hx hf) ?_
  exact kk _ _ (S.store hop hl (.inl ⟨d,rfl,r⟩)) (fun j hj=>⟨List.getElem?_set_ne (by omega),List.getElem?_set_ne (by omega)⟩) (by simp) (by simp) ok
 ·exact (hO ok).elim
end
abbrev SM (S:Type):=KS S→En→M S
structure EOk {S:Type} (X:Cx) (OK:M S→Prop) (K:KS S) (G:Gh) (F:Hp) (E:Ends):Prop where
 nx:∀ F' σ' H' ρ',Same F F'→StOk X.K G F' σ' H' ρ'→OK (K.nx ρ')→E.nx σ' H'
 rt:∀ F' σ' H' ρ' d v,Same F F'→StOk X.K G F' σ' H' ρ'→Rep X.K F' v d→OK (K.rt d ρ')→E.rt v H'
 rl:∀ F' σ' H' ρ' ds v,Same F F'→StOk X.K G F' σ' H' ρ'→Frs X.K G F' σ' H' ρ' v (.l ds)→OK (K.rl ds ρ')→E.rt v H'
 bk:∀ F' σ' H' ρ',Same F F'→StOk X.K G F' σ' H' ρ'→OK (K.bk ρ')→E.bk σ' H'
 ct:∀ F' σ' H' ρ',Same F F'→StOk X.K G F' σ' H' ρ'→OK (K.ct ρ')→E.ct σ' H'
theorem EOk.up {S:Type} {X:Cx} {OK:M S→Prop} {K:KS S} {G:Gh} {F F':Hp} {E:Ends} (h:EOk X OK K G F E) (s:Same F F'):EOk X OK K G F' E :=
 ⟨fun F2 σ' H' ρ' s2=>h.nx F2 σ' H' ρ' (s.trans s2),fun F2 σ' H' ρ' d v s2=>h.rt F2 σ' H' ρ' d v (s.trans s2),fun F2 σ' H' ρ' d v s2=>h.rl F2 σ' H' ρ' d v (s.trans s2),fun F2 σ' H' ρ' s2=>h.bk F2 σ' H' ρ' (s.trans s2),fun F2 σ' H' ρ' s2=>h.ct F2 σ' H' ρ' (s.trans s2)⟩
@[irreducible] def ZF_ (X:Cx) (st:Stmt):TS:=fun E σ H=>∀ (pins:List (Addr×Obj)) (s:Shared),Inv X pins σ H s→wpAny (model X.prog X.w) X.A (exec st X.env) (SP X pins E) X.xe s
@[irreducible] def Ua_ (X:Cx) (sts:List Stmt):TS:=fun E σ H=>∀ (pins:List (Addr×Obj)) (s:Shared),Inv X pins σ H s→wpAny (model X.prog X.w) X.A (execs sts X.env) (SP X pins E) X.xe s
section
variable {X:Cx} {st:Stmt} {sts:List Stmt} {σ:L2.St} {H:Hp} {E:Ends} {t:TS}
theorem Qh_:PS X st (ZF_ X st):=fun pins s σ H E I h=>by unfold ZF_ at h;exact h pins s I
theorem jV_:PSs X sts (Ua_ X sts):=fun pins s σ H E I h=>by unfold Ua_ at h;exact h pins s I
theorem semS (h:PS X st t) (q:t E σ H):ZF_ X st E σ H:=by unfold ZF_;exact fun pins s I=>h pins s σ H E I q
theorem semB (h:PSs X sts t) (q:t E σ H):Ua_ X sts E σ H:=by unfold Ua_;exact fun pins s I=>h pins s σ H E I q
end
def AS {S:Type} (X:Cx) (st:Stmt) (m:SM S):Prop :=
 ∀ (OK:M S→Prop) (K:KS S) (G:Gh) (F:Hp) (σ:L2.St) (H:Hp) (ρ:En) (E:Ends),KOk OK→XL X OK K.x G→StOk X.K G F σ H ρ→OK (m K ρ)→EOk X OK K G F E→ZF_ X st E σ H
def ASs {S:Type} (X:Cx) (st:List Stmt) (m:SM S):Prop :=
 ∀ (OK:M S→Prop) (K:KS S) (G:Gh) (F:Hp) (σ:L2.St) (H:Hp) (ρ:En) (E:Ends),KOk OK→XL X OK K.x G→StOk X.K G F σ H ρ→OK (m K ρ)→EOk X OK K G F E→Ua_ X st E σ H
section
variable {S:Type}
def W8_:SM S:=fun K ρ=>K.nx ρ
def sSeq (m n:SM S):SM S:=fun K ρ=>m { K with nx:=fun ρ1=>n K ρ1 } ρ
def sIf (c:Ev S Bool) (m n:SM S):SM S:=fun K ρ=>c K.x (fun b ρ1=>if b then m K ρ1 else n K ρ1) ρ
def sTo (sh:List Kd) (m:SM S):SM S:=fun K ρ=>m { K with nx:=fun ρ1=>rdk sh (fun s=>K.nx (wr sh s)) ρ1 } ρ
def sSet (i:Nat) (m:Ev S D):SM S:=fun K ρ=>m K.x (fun d ρ1=>match ZL_ ρ1 i with
 | true=>K.nx (ρ1.set i (some (.fz d)))
 | false=>.bad) ρ
def VE_ (i:Nat) (m:Ev S (List D)):SM S:=fun K ρ=>m K.x (fun ds ρ1=>match ZL_ ρ1 i with
 | true=>K.nx (ρ1.set i (some (.ol (.l ds))))
 | false=>.bad) ρ
def sRet (m:Ev S D):SM S:=fun K ρ=>m K.x K.rt ρ
def W7_ (m:Ev S (List D)):SM S:=fun K ρ=>m K.x K.rl ρ
def XR_ (i:Nat):SM S:=fun K ρ=>match ρ[i]? with
 | some (some (.ol (.l ds)))=>K.rl ds (ρ.set i none)
 | _=>.bad
def sFrz (i:Nat) (m:SM S):SM S:=fun K ρ=>match ρ[i]? with
 | some (some (.ol c))=>m K (ρ.set i (some (.fz c.d)))
 | _=>.bad
def setO (ρ:En) (i:Nat) (ds:List D):En:=match ρ[i]? with
 | some (some (.op _))=>ρ.set i (some (.op (.l ds)))
 | _=>ρ.set i (some (.ol (.l ds)))
def sMut (i:Nat) (f:List D→List D→Option (List D)) (ms:Ev S (List D)):SM S:=fun K ρ=>match ownL ρ i with
 | some _=>ms K.x (fun as ρ1=>match ownL ρ1 i with
  | some ds=>(oM (f ds as)).on (fun e=>K.x e ρ1) (fun ds'=>K.nx (setO ρ1 i ds'))
  | none=>.bad) ρ
 | none=>.bad
def forC {T:Type} (step:T→D→(T→M S)→M S):List D→T→(T→M S)→M S
 | [],s,k=>k s
 | d::r,s,k=>step s d (fun s'=>forC step r s' k)
@[reducible] def YQ_ (sh:List Kd) (K:KS S) (kn:SOf sh→M S):KS S:={ K with
  nx:=fun ρ3=>rdk sh kn ρ3
  ct:=fun ρ3=>rdk sh kn ρ3
  bk:=fun ρ3=>rdk sh (fun s'=>K.nx (wr sh s')) ρ3 }
def sFor (sh:List Kd) (it:Ev S (List D)) (t:Tg S) (mb:SM S):SM S:=fun K ρ=>it K.x (fun ds ρ1=>rdk sh (fun s=>forC (fun s d kn=>t d (fun ρ2=>mb (YQ_ sh K kn) ρ2) (wr sh s)) ds s (fun s'=>K.nx (wr sh s'))) ρ1) ρ
end
theorem uK_ (ρ:En) (i:Nat) (ds ds0:List D) (h:ownL ρ i=some ds0):setO ρ i ds=ρ.set i ((ρ[i]?.join).map fun | .op _=>.op (.l ds)|_=>.ol (.l ds)):=by
 unfold ownL at h
 unfold setO
 split at h
 ·rename_i q;rw [q];rfl
 ·rename_i q;rw [q];rfl
 ·cases h
theorem Ja_ {S:Type} {OK:M S→Prop} (hO:KOk OK) {sh:List Kd} {k:SOf sh→M S} {ρ:En} (h:OK (rdk sh k ρ)):∃ s,rd sh ρ=some s∧OK (k s):=by
 unfold rdk at h
 split at h
 ·rename_i s e;exact ⟨s,e,h⟩
 ·exact (hO h).elim
section
variable {S:Type} {X:Cx} {st:Stmt} {sts rest:List Stmt} {m n:SM S} {e c a b:Expr} {me:Ev S D} {mt:Ev S Bool} {ml:Ev S (List D)} {pos pos' tpos:Pos}
theorem u5_:ASs (S:=S) X [] W8_:=fun OK K G F σ H ρ E hO hX St ok eo=>semB QX_ (eo.nx F σ H ρ (Same.refl _) St ok)
theorem zd_ (h1:AS X st m) (h2:ASs X rest n):ASs X (st::rest) (sSeq m n):=fun OK K G F σ H ρ E hO hX St ok eo =>
 semB (YE_ Qh_ jV_) (h1 OK { K with nx:=fun ρ1=>n K ρ1 } G F σ H ρ _ hO hX St ok ⟨fun F' σ' H' ρ' s S' o=>h2 OK K G F' σ' H' ρ' E hO hX S' o (eo.up s),eo.rt,eo.rl,eo.bk,eo.ct⟩)
theorem zq_ (h1:AS X st m):ASs X [st] m:=fun OK K G F σ H ρ E hO hX St ok eo=>semB (QW_ Qh_) (h1 OK K G F σ H ρ E hO hX St ok eo)
theorem Yk_ {A B:List Stmt} (hc:AEt X c mt) (ha:ASs X A m) (hb:ASs X B n):AS X (.If c A B pos) (sIf mt m n):=fun OK K G F σ H ρ E hO hX St ok eo =>
 semS (Xh_ Jb_ jV_ jV_) (hc OK K.x _ G F σ H ρ _ hO hX St ok fun t F1 H1 ρ1 s1 S1 o1=>by
  cases t with
  | true=>exact ha OK K G F1 σ H1 ρ1 E hO hX S1 o1 (eo.up s1)
  | false=>exact hb OK K G F1 σ H1 ρ1 E hO hX S1 o1 (eo.up s1))
theorem zX_ {sh:List Kd} (h:AS X st m):AS X st (sTo sh m):=fun OK K G F σ H ρ E hO hX St ok eo =>
 h OK { K with nx:=fun ρ1=>rdk sh (fun s=>K.nx (wr sh s)) ρ1 } G F σ H ρ E hO hX St ok ⟨fun F' σ' H' ρ' s S' o=>by
  obtain ⟨s',e',o'⟩:=Ja_ hO o
  exact eo.nx F' σ' H' _ s (S'.rd e') o',eo.rt,eo.rl,eo.bk,eo.ct⟩
theorem Yl_ {i:Nat} (h:AS X st m):AS X st (sFrz i m):=fun OK K G F σ H ρ E hO hX St ok eo=>by
 unfold sFrz at ok
 split at ok
 ·rename_i ds q
  obtain ⟨a,ea,_⟩:=St.ow i _ (.inl q)
  obtain ⟨F2,s2,S2,_⟩:=St.settleC q ea
  exact h OK K G F2 σ H _ E hO hX S2 ok (eo.up s2)
 ·exact (hO ok).elim
theorem ud_ (he:AE X e me):AS X (.Return (some e) pos) (sRet me):=fun OK K G F σ H ρ E hO hX St ok eo =>
 semS (Qi_ zu_) (he OK K.x K.rt G F σ H ρ _ hO hX St ok fun d v F1 H1 ρ1 s1 S1 r1 o1=>eo.rt F1 σ H1 ρ1 d v s1 S1 r1 o1)
theorem Yj_ (he:AEl X e ml):AS X (.Return (some e) pos) (W7_ ml):=fun OK K G F σ H ρ E hO hX St ok eo =>
 semS (Qi_ zu_) (he OK K.x K.rl G F σ H ρ _ hO hX St ok fun d v F1 H1 ρ1 s1 S1 r1 o1=>eo.rl F1 σ H1 ρ1 d v s1 S1 r1 o1)
theorem zW_ {i:Nat} {x:Str} (hN:X.N.Nodup) (hi:X.N[i]? = some x) (hx:Loc X.env.scope x) (he:AE X e me) (hs:swapsWith e (some (.Name x pos')) pos.line X.env=pure false) (hf:X.fn x=true∨X.env.scope.names.lookup x=some .local) :
  AS X (.Assign [.Name x pos'] e pos) (sSet i me):=fun OK K G F σ H ρ E hO hX St ok eo =>
 semS (Qg_ hN hi hx zu_ hs hf) (he OK K.x _ G F σ H ρ _ hO hX St ok fun d v F1 H1 ρ1 s1 S1 r1 o1=>by
  split at o1
  ·rename_i ho
   obtain ⟨hl,hop⟩:=j6_ ho
   exact eo.nx F1 _ H1 _ s1 (S1.store hop hl (.inl ⟨d,rfl,r1⟩)) o1
  ·exact (hO o1).elim)
theorem jY_ {i:Nat} {x:Str} (hN:X.N.Nodup) (hi:X.N[i]? = some x) (hx:Loc X.env.scope x) (he:AEl X e ml) (hs:swapsWith e (some (.Name x pos')) pos.line X.env=pure false) (hf:X.fn x=true∨X.env.scope.names.lookup x=some .local) :
  AS X (.Assign [.Name x pos'] e pos) (VE_ i ml):=fun OK K G F σ H ρ E hO hX St ok eo =>
 semS (Qg_ hN hi hx zu_ hs hf) (he OK K.x _ G F σ H ρ _ hO hX St ok fun d v F1 H1 ρ1 s1 S1 r1 o1=>by
  split at o1
  ·rename_i ho
   obtain ⟨hl,hop⟩:=j6_ ho
   exact eo.nx F1 _ H1 _ s1 (S1.store hop hl (.inr ⟨.l d,rfl,r1⟩)) o1
  ·exact (hO o1).elim)
end
end L4
set_option Elab.async false
set_option linter.all false
set_option maxRecDepth 100000
namespace L4
open PySem PySem.Spec PyProof.Rows L2 L3
section
variable {S:Type} {X:Cx} {m n mb:SM S} {e c a b o:Expr} {me mi:Ev S D} {mt:Ev S Bool} {ml ms:Ev S (List D)} {pos pos' tpos apos cpos:Pos}
theorem WR_ {tg iter:Expr} {body:List Stmt} {sh:List Kd} {t:Tg S} (hp:PassesOwn (model X.prog X.w) X.A X.env X.xe) (hc:X.calm=true) (hi:AEi X tg iter ml) (hg:AG X 0 tg t) (hb:ASs X body mb)
  (hs:∀ x,foldedSetIterable iter X.env x=pure x):AS X (.For tg iter body [] pos) (sFor sh ml t mb):=fun OK K G F σ H ρ E hO hX St ok eo =>
 semS (VS_ hp hc Jc_ Jd_ jV_ hs) (hi OK K.x _ G F σ H ρ _ hO hX St ok fun ds J F1 H1 ρ1 s1 S1 wk o1=>by
  obtain ⟨s0,e0,o0⟩:=Ja_ hO o1
  have S0:=S1.rd e0
  clear o1
  generalize hstep:(fun (s:SOf sh) d (kn:SOf sh→M S)=>t d (fun ρ2=>mb (YQ_ sh K kn) ρ2) (wr sh s))=step at o0
  refine ⟨fun i m σ' H'=>∃ F' s,m=ds.length - i∧i≤ds.length∧Same F1 F'∧StOk X.K G F' σ' H' (wr sh s)∧OK (forC step (ds.drop i) s (fun s'=>K.nx (wr sh s'))),⟨ds.length,F1,s0,rfl,Nat.zero_le _,Same.refl _,S0,o0⟩,?_⟩
  rintro i m σ' H' ⟨F',s,rfl,hi,s2,S2,go⟩
  by_cases hlt:i<ds.length
  ·have ed:ds.drop i=ds[i]::ds.drop (i+1):=List.drop_eq_getElem_cons hlt
   rw [ed] at go
   dsimp only [forC] at go
   rw [←hstep] at go
   have again:∀ F5 σ5 H5 ρ5,Same F' F5→StOk X.K G F5 σ5 H5 ρ5→OK (rdk sh (fun s'=>forC step (ds.drop (i+1)) s' fun s'=>K.nx (wr sh s')) ρ5) →
     ∃ m',m'<ds.length - i∧∃ F' s,m'=ds.length - (i+1)∧i+1≤ds.length∧Same F1 F'∧StOk X.K G F' σ5 H5 (wr sh s)∧OK (forC step (ds.drop (i+1)) s (fun s'=>K.nx (wr sh s'))):=fun F5 σ5 H5 ρ5 s5 S5 o5=>by
    obtain ⟨s',e',o'⟩:=Ja_ hO o5
    exact ⟨ds.length - (i+1),by omega,F5,s',rfl,hlt,s2.trans s5,S5.rd e',o'⟩
   refine .inr ⟨wk.go i G F' σ' H' _ s2 S2 hlt,fun σ4 H4=>∃ m',m'<ds.length - i∧∃ F' s,m'=ds.length - (i+1)∧i+1≤ds.length∧Same F1 F'∧StOk X.K G F' σ4 H4 (wr sh s)∧OK (forC step (ds.drop (i+1)) s (fun s'=>K.nx (wr sh s'))),fun σ4 H4 h4=>h4,fun x H2 y=>?_⟩
   obtain ⟨F3,s3,S3,r3⟩:=wk.yld i G F' σ' H' _ x H2 ds[i] s2 S2 (by simp [hlt]) y
   refine hg OK _ G F3 σ' H2 (wr sh s) x ds[i] _ hO S3 r3 go fun σ3 ρ3 S4 _ _ _ o4=>?_
   rw [hstep] at o4
   refine hb OK (YQ_ sh K fun s'=>forC step (ds.drop (i+1)) s' fun s'=>K.nx (wr sh s')) G F3 σ3 H2 ρ3 _ hO hX S4 o4 ⟨fun F5 σ5 H5 ρ5 s5 S5 o5=>?_,fun F5 σ5 H5 ρ5 d v s5=>eo.rt F5 σ5 H5 ρ5 d v ((s1.trans (s2.trans s3)).trans s5),fun F5 σ5 H5 ρ5 d v s5=>eo.rl F5 σ5 H5 ρ5 d v ((s1.trans (s2.trans s3)).trans s5),fun F5 σ5 H5 ρ5 s5 S5 o5=>?_,fun F5 σ5 H5 ρ5 s5 S5 o5=>?_⟩
   ·exact again F5 σ5 H5 ρ5 (s3.trans s5) S5 o5
   ·obtain ⟨s',e',o'⟩:=Ja_ hO o5
    exact eo.nx F5 σ5 H5 _ ((s1.trans (s2.trans s3)).trans s5) (S5.rd e') o'
   ·exact again F5 σ5 H5 ρ5 (s3.trans s5) S5 o5
  ·have ei:i=ds.length:=by omega
   subst ei
   rw [List.drop_length] at go
   exact .inl ⟨wk.stop G F' σ' H' _ s2 S2,eo.nx F' σ' H' _ (s1.trans s2) S2 go⟩)
theorem jw_ {K:Fg} {G:Gh} {F H:Hp} {σ:L2.St} {ρ:En} {i:Nat} {ds:List D} (St:StOk K G F σ H ρ) (h:ownL ρ i=some ds):∃ a vs,σ[i]? = some (some (.ref a))∧H a=some (.lst vs)∧RepL K F vs ds:=by
 obtain ⟨a,ea,oa⟩:=St.ow i _ (uC_ h)
 obtain ⟨vs,h1,h2⟩:=oa.he
 exact ⟨a,vs,ea,h1,h2⟩
theorem uN_ {K:Fg} {G:Gh} {F H:Hp} {σ:L2.St} {ρ:En} {i:Nat} {a:Addr} {ds ds':List D} {vs':List V} (St:StOk K G F σ H ρ) (h:ownL ρ i=some ds) (ha:σ[i]? = some (some (.ref a))) (r:RepL K F vs' ds') :
  StOk K G F σ (upd H a (.lst vs')) (setO ρ i ds'):=by
 rw [uK_ ρ i ds' ds h]
 exact St.change (uC_ h) ha (c':=.l ds') ⟨_,zL_,r⟩
def mApp (ds as:List D):Option (List D):=match as with
 | [d]=>if ds.length<sizeLine then some (ds++[d]) else none
 | _=>none
theorem WS_ {i:Nat} {x:Str} (hN:X.N[i]? = some x) (hv:Vis X.env.scope x) (he:AEa X [e] ms)
  (hbase:attributeBase (.Name x pos') "append" X.env (eval (.Name x pos') X.env)=eval (.Name x pos') X.env)
  (hfew:((backTo cpos (starEach [e] X.env)).all (fun x=>!x.1)&&(backToKw cpos (keywordEach [] X.env)).all (fun x=>x.1.isSome)
   && decide ([e].length+([]:List Keyword).length+(if ([]:List Keyword).isEmpty then 0 else 1)<30))=true)
  (hline:(apos.endLine==cpos.line)=true) (hs:starEach [e] X.env=(false,eval e X.env)::starEach [] X.env) (hplain:(backTo cpos (starEach [] X.env)).any (·.1)=false)
  (hsw:swapsWith (.Call (.Attribute (.Name x pos') "append" apos) [e] [] cpos) none pos.line X.env=pure false) (hd:(x==("__debug__" : Str))=false:=by decide) (hcd:(x==("__classdict__" : Str))=false:=by decide) :
  AS X (.Expr (.Call (.Attribute (.Name x pos') "append" apos) [e] [] cpos) pos) (sMut i mApp ms):=fun OK K G F σ H ρ E hO hX St ok eo =>
 semS (yD_ (V0_ PySem.F.plainAttrs_list PySem.F.slot_list_append PySem.F.type_list_append Ur_ (ux_ hN hv hd hcd) z7_ hbase hfew hline hs hplain) hsw) (by
  unfold sMut at ok
  split at ok
  case h_2=>exact (hO ok).elim
  ·rename_i ds0 h0
   obtain ⟨a,vs0,ea,hh,_⟩:=jw_ St h0
   refine ⟨_,ea,.inl ⟨rfl,vs0,.inl (.inl hh)⟩,he OK K.x _ G F σ H ρ _ hO hX St ok fun as ws F1 H1 ρ1 s1 S1 _ r1 o1=>?_⟩
   split at o1
   ·rename_i ds hds
    obtain ⟨ds',hf,o2⟩:=yl_ hO o1
    obtain ⟨a',vs,ea',hh',rv⟩:=jw_ S1 hds
    rw [ea] at ea'
    injection ea' with ea';injection ea' with ea';injection ea' with ea'
    subst ea'
    unfold mApp at hf
    split at hf
    ·split at hf
     ·rename_i hz
      cases hf
      cases r1 with
      | cons ra rb =>
       cases rb
       refine ⟨a,vs,_,rfl,rfl,hh',by rw [rv.length];exact hz,?_⟩
       exact eo.nx F1 σ _ _ s1 (uN_ S1 hds ea (rv.append (.cons ra .nil))) o2
     ·cases hf
    ·cases hf
   ·exact (hO o1).elim)
end
end L4
set_option Elab.async false
set_option linter.all false
set_option maxRecDepth 100000
namespace L4
open PySem PySem.Spec PyProof.Rows L2 L3
theorem map_some_get {α:Type} {l:List α} {i:Nat} {x:α}:(l.map some)[i]? = some (some x)↔l[i]? = some x:=by
 rw [List.getElem?_map]
 cases l[i]? <;> simp
open Classical in
noncomputable def zm_ (G:Gh) (σ:L2.St) (ρ:En) (H:Hp) (ex:Option Addr):Hp:=fun b=>if (∃ (i:Nat) (c:OC),own ρ i c∧σ[i]? = some (some (V.ref b)))∧some b≠ex then H b else G.O b
def setC (ρ:En) (j:Nat) (c:OC):En:=ρ.set j ((ρ[j]?.join).map fun | .op _=>.op c|_=>.ol c)
section
variable {K:Fg} {G:Gh} {F F' H H':Hp} {σ:L2.St} {ρ:En} {vs:List V} {ds:List D}
theorem zP_ {ex:Option Addr} (S:StOk K G F σ H ρ) {b:Addr} {o:HO} (h:G.O b=some o):zm_ G σ ρ H ex b=some o:=by
 unfold zm_
 rw [if_neg]
 ·exact h
 ·rintro ⟨⟨i,c,ho,e⟩,_⟩
  obtain ⟨a,e',oa⟩:=S.ow i c ho
  rw [e] at e'
  injection e' with e';injection e' with e';injection e' with e'
  subst e'
  rw [oa.no] at h;cases h
theorem jz_ {ex:Option Addr} {b:Addr} {i:Nat} {c:OC} (ho:own ρ i c) (e:σ[i]? = some (some (V.ref b))) (hx:some b≠ex):zm_ G σ ρ H ex b=H b:=by
 unfold zm_
 rw [if_pos ⟨⟨i,c,ho,e⟩,hx⟩]
theorem Zu_ {ex:Option Addr} (S:StOk K G F σ H ρ):Same (zm_ G σ ρ H ex) H:=fun b o h=>by
 unfold zm_ at h
 split at h
 ·exact h
 ·exact S.oh b o h
theorem _root_.L3.Held.notup {K:Fg} {F H:Hp} {a:Addr} {c:OC} {o:HO} (h:Held K F H a c) (e:H a=some o):∀ vs,o≠.tup vs:=by
 cases c with
 | l ds=>obtain ⟨vs,h1,_⟩:=h;rw [h1] at e;cases e;intro vs z;cases z
 | t es=>obtain ⟨vs,h1,_⟩:=h;rw [h1] at e;cases e;intro vs z;cases z
 | k es=>obtain ⟨vs,h1,_⟩:=h;rw [h1] at e;cases e;intro vs z;cases z
theorem Zv_ {ex:Option Addr} (S:StOk K G F σ H ρ):∀ b o,zm_ G σ ρ H ex b=some o→F b=none∧∀ vs,o≠.tup vs:=fun b o h=>by
 unfold zm_ at h
 split at h
 ·rename_i hc
  obtain ⟨⟨i,c,ho,e⟩,_⟩:=hc
  obtain ⟨a,e',oa⟩:=S.ow i c ho
  rw [e] at e'
  injection e' with e';injection e' with e';injection e' with e'
  subst e'
  exact ⟨oa.nf,oa.he.notup h⟩
 ·exact S.fo b o h
theorem uV_ {i:Nat} {av:AV} (h:((ds.map AV.fz).map some)[i]? = some (some av)):∃ d,av=.fz d∧ds[i]? = some d:=by
 rw [map_some_get,List.getElem?_map] at h
 cases q:ds[i]? with
 | none=>rw [q] at h;cases h
 | some d=>rw [q] at h;cases h;exact ⟨d,rfl,rfl⟩
theorem j7_ {i:Nat} {c:OC} (h:own ((ds.map AV.fz).map some) i c):False:=by
 rcases h with h|h<;>(obtain ⟨d,z,_⟩:=uV_ h;cases z)
theorem ub_ (S:StOk K G F σ H ρ) (r:RepL K F vs ds):StOk K ⟨fun _=>none,zm_ G σ ρ H none,F⟩ F (vs.map some) H ((ds.map AV.fz).map some):=by
 refine ⟨S.fh,Zu_ S,Zv_ S,by simp [r.length],fun i d h=>?_,fun i c h=>(j7_ h).elim,fun i j c e a h=>(j7_ h).elim,fun i a h=>(nomatch h),fun i c h=>?_,Same.refl _⟩
 ·obtain ⟨d',z,e⟩:=uV_ h
  cases z
  obtain ⟨v,e1,e2⟩:=r.get e
  exact ⟨v,map_some_get.mpr e1,e2⟩
 ·obtain ⟨d',z,e⟩:=uV_ h;cases z
theorem yw_ {avs':List AV} (S:StOk K G F σ H ρ) (s1:Same F F') (S1:StOk K ⟨fun _=>none,zm_ G σ ρ H none,F⟩ F' (vs.map some) H' (avs'.map some)) :
  StOk K G F' σ H' ρ∧∀ v c,Frs K ⟨fun _=>none,zm_ G σ ρ H none,F⟩ F' (vs.map some) H' (avs'.map some) v c→Frs K G F' σ H' ρ v c:=by
 have oo:∀ b,zm_ G σ ρ H none b=none→G.O b=none:=fun b h=>by
  cases q:G.O b with
  | none=>rfl
  | some o=>rw [zP_ S q] at h;cases h
 refine ⟨⟨S1.fh,fun b o h=>S1.oh b o (zP_ S h),fun b o h=>S1.fo b o (zP_ S h),S.ln,fun i d h=>?_,fun i c h=>?_,S.dj,S.pp,S.pq,S.fb.trans s1⟩,fun v cc h=>?_⟩
 ·obtain ⟨v,e,r⟩:=S.fz i d h;exact ⟨v,e,r.mono s1⟩
 ·obtain ⟨a,e,oa⟩:=S.ow i c h
  obtain ⟨o,ho⟩:=oa.he.some
  have q:zm_ G σ ρ H none a=some o:=by rw [jz_ h e (by simp)];exact ho
  exact ⟨a,e,(S1.fo a o q).1,oa.no,(oa.he.mono s1).at (by rw [S1.oh a o q,ho])⟩
 ·obtain ⟨a,rfl,oa,_⟩:=h
  refine ⟨a,rfl,⟨oa.nf,oo a oa.no,oa.he⟩,fun i e ho q=>?_⟩
  obtain ⟨a',e',oa'⟩:=S.ow i e ho
  rw [q] at e'
  injection e' with e';injection e' with e';injection e' with e'
  subst e'
  obtain ⟨o,hh⟩:=oa'.he.some
  have:=oa.no
  rw [show (⟨fun _=>none,zm_ G σ ρ H none,F⟩:Gh).O a=zm_ G σ ρ H none a from rfl,jz_ ho q (by simp),hh] at this
  cases this
def P1 (a:Addr):Nat→Option Addr
 | 0=>some a
 | _=>none
theorem U9_ {j:Nat} {c:OC} {a:Addr} (S:StOk K G F σ H ρ) (hj:own ρ j c) (ha:σ[j]? = some (some (V.ref a))) (r:RepL K F vs ds) :
  StOk K ⟨P1 a,zm_ G σ ρ H (some a),F⟩ F ((V.ref a::vs).map some) H ((AV.op c::ds.map AV.fz).map some):=by
 obtain ⟨a',e',oa⟩:=S.ow j c hj
 rw [ha] at e'
 injection e' with e';injection e' with e';injection e' with e'
 subst e'
 have at0:∀ i d,own ((AV.op c::ds.map AV.fz).map some) i d→i=0∧d=c:=fun i d h=>by
  cases i with
  | zero=>rcases h with h|h<;>(simp at h);exact ⟨rfl,h.symm⟩
  | succ i=>exact (j7_ (ds:=ds) (i:=i) (c:=d) (by unfold own at h ⊢;simpa using h)).elim
 refine ⟨S.fh,Zu_ S,Zv_ S,by simp [r.length],fun i d h=>?_,fun i d h=>?_,fun i k d e b h1 h2 _ _=>?_,fun i b h=>?_,fun i d h=>?_,Same.refl _⟩
 ·cases i with
  | zero=>simp at h
  | succ i =>
   obtain ⟨d',z,e⟩:=uV_ (ds:=ds) (i:=i) (av:=.fz d) (by simpa using h)
   cases z
   obtain ⟨v,e1,e2⟩:=r.get e
   exact ⟨v,by simpa using e1,e2⟩
 ·obtain ⟨rfl,rfl⟩:=at0 i d h
  refine ⟨a,rfl,oa.nf,?_,oa.he⟩
  show zm_ G σ ρ H (some a) a=none
  unfold zm_
  rw [if_neg (by simp)]
  exact oa.no
 ·rw [(at0 i d h1).1,(at0 k e h2).1]
 ·cases i with
  | zero=>cases h;exact ⟨rfl,c,rfl⟩
  | succ i=>cases h
 ·cases i with
  | zero=>exact ⟨a,rfl⟩
  | succ i =>
   obtain ⟨d',z,e⟩:=uV_ (ds:=ds) (i:=i) (av:=.op d) (by simpa using h)
   cases z
theorem JY_ {j:Nat} {c c':OC} {a:Addr} {l:List AV} (S:StOk K G F σ H ρ) (hj:own ρ j c) (ha:σ[j]? = some (some (V.ref a))) (s1:Same F F')
  (S1:StOk K ⟨P1 a,zm_ G σ ρ H (some a),F⟩ F' ((V.ref a::vs).map some) H' ((AV.op c'::l).map some)) :
  StOk K G F' σ H' (setC ρ j c')∧∀ v cc,Frs K ⟨P1 a,zm_ G σ ρ H (some a),F⟩ F' ((V.ref a::vs).map some) H' ((AV.op c'::l).map some) v cc→Frs K G F' σ H' (setC ρ j c') v cc:=by
 have oo:∀ b,zm_ G σ ρ H (some a) b=none→G.O b=none:=fun b h=>by
  cases q:G.O b with
  | none=>rfl
  | some o=>rw [zP_ S q] at h;cases h
 obtain ⟨a',e',oa⟩:=S.ow j c hj
 rw [ha] at e'
 injection e' with e';injection e' with e';injection e' with e'
 subst e'
 have hl:j<ρ.length:=by rcases hj with h|h<;>exact (List.getElem?_eq_some_iff.mp h).1
 generalize hav:((ρ[j]?.join).map fun (x:AV)=>match x with | .op _=>AV.op c'|_=>AV.ol c')=av
 have hset:setC ρ j c'=ρ.set j av:=by rw [←hav];rfl
 rw [hset]
 have ne:∀ i,i≠j→(ρ.set j av)[i]? = ρ[i]?:=fun i hi=>List.getElem?_set_ne (Ne.symm hi)
 have atj:(ρ.set j av)[j]? = some av:=List.getElem?_set_self hl
 have kind:(ρ[j]? = some (some (.ol c))∧av=some (.ol c'))∨(ρ[j]? = some (some (.op c))∧av=some (.op c')):=by
  rcases hj with h|h
  ·exact .inl ⟨h,by rw [←hav,h];rfl⟩
  ·exact .inr ⟨h,by rw [←hav,h];rfl⟩
 have owni:∀ i e,own (ρ.set j av) i e→(i=j∧e=c')∨(i≠j∧own ρ i e):=fun i e h=>by
  by_cases hi:i=j
  ·subst hi
   unfold own at h
   rw [atj] at h
   rcases kind with ⟨_,k⟩|⟨_,k⟩<;>rw [k] at h<;>rcases h with h|h<;>cases h<;>exact .inl ⟨rfl,rfl⟩
  ·unfold own at h ⊢
   rw [ne i hi] at h
   exact .inr ⟨hi,h⟩
 have nea:∀ i e b,i≠j→own ρ i e→σ[i]? = some (some (V.ref b))→b≠a:=fun i e b hi ho q z=>by
  subst z
  exact hi (S.dj i j e c b ho hj q ha)
 have own1:OwnAt K ⟨P1 a,zm_ G σ ρ H (some a),F⟩ F' H' a c':=by
  obtain ⟨b,e1,ob⟩:=S1.ow 0 c' (.inr rfl)
  have:V.ref a=V.ref b:=by simpa using e1
  injection this with this
  subst this
  exact ob
 refine ⟨⟨S1.fh,fun b o h=>S1.oh b o (zP_ S h),fun b o h=>S1.fo b o (zP_ S h),by simpa using S.ln,fun i d h=>?_,fun i e h=>?_,fun i k d e b h1 h2=>?_,fun i b h=>?_,fun i d h=>?_,S.fb.trans s1⟩,fun v cc h=>?_⟩
 ·by_cases hi:i=j
  ·subst hi
   rw [atj] at h
   rcases kind with ⟨_,k⟩|⟨_,k⟩<;>rw [k] at h<;>cases h
  ·rw [ne i hi] at h
   obtain ⟨v,e,r⟩:=S.fz i d h;exact ⟨v,e,r.mono s1⟩
 ·rcases owni i e h with ⟨rfl,rfl⟩|⟨hi,ho⟩
  ·exact ⟨a,ha,own1.nf,oa.no,own1.he⟩
  ·obtain ⟨b,eb,ob⟩:=S.ow i e ho
   obtain ⟨o,hh⟩:=ob.he.some
   have q:zm_ G σ ρ H (some a) b=some o:=by rw [jz_ ho eb (fun z=>nea i e b hi ho eb (Option.some.inj z))];exact hh
   exact ⟨b,eb,(S1.fo b o q).1,ob.no,(ob.he.mono s1).at (by rw [S1.oh b o q,hh])⟩
 ·have f:∀ i e,own (ρ.set j av) i e→∃ d,own ρ i d:=fun i e h=>by
   rcases owni i e h with ⟨rfl,_⟩|⟨_,ho⟩
   ·exact ⟨c,hj⟩
   ·exact ⟨e,ho⟩
  exact S.dj i k _ _ b (f i d h1).choose_spec (f k e h2).choose_spec
 ·obtain ⟨q1,e,q2⟩:=S.pp i b h
  refine ⟨q1,?_⟩
  by_cases hi:i=j
  ·subst hi
   rcases kind with ⟨k1,k⟩|⟨k1,k⟩
   ·rw [k1] at q2;cases q2
   ·exact ⟨c',by rw [atj,k]⟩
  ·exact ⟨e,by rw [ne i hi];exact q2⟩
 ·by_cases hi:i=j
  ·subst hi
   rcases kind with ⟨k1,k⟩|⟨k1,k⟩
   ·rw [atj,k] at h;cases h
   ·exact S.pq i c k1
  ·rw [ne i hi] at h;exact S.pq i d h
 ·obtain ⟨b,rfl,ob,nn⟩:=h
  refine ⟨b,rfl,⟨ob.nf,oo b ob.no,ob.he⟩,fun i e ho q=>?_⟩
  rcases owni i e ho with ⟨rfl,_⟩|⟨hi,ho'⟩
  ·rw [ha] at q
   injection q with q;injection q with q;injection q with q
   subst q
   exact nn 0 c' (.inr rfl) rfl
  ·obtain ⟨b',eb,ob'⟩:=S.ow i e ho'
   rw [q] at eb
   injection eb with eb;injection eb with eb;injection eb with eb
   subst eb
   obtain ⟨o,hh⟩:=ob'.he.some
   have:=ob.no
   rw [show (⟨P1 a,zm_ G σ ρ H (some a),F⟩:Gh).O b=zm_ G σ ρ H (some a) b from rfl,jz_ ho' q (fun z=>nea i e b hi ho' q (Option.some.inj z)),hh] at this
   cases this
end
abbrev fzs (ds:List D):En:=(ds.map AV.fz).map some
def KD:KS D:=⟨fun _=>.ret .none,fun d _=>.ret d,fun _ _=>.bad,fun _=>.bad,fun _=>.bad,fun e _=>.exc e⟩
def KL:KS (List D):=⟨fun _=>.bad,fun _ _=>.bad,fun ds _=>.ret ds,fun _=>.bad,fun _=>.bad,fun e _=>.exc e⟩
def at0 {S:Type} (ρ:En) (k:List D→M S):M S:=match (ρ[0]? : Option (Option AV)) with
 | some (some (AV.op (OC.l f)))=>k f
 | _=>.bad
def K1:KS (D×List D):=⟨fun ρ=>at0 ρ fun f=>.ret (.none,f),fun d ρ=>at0 ρ fun f=>.ret (d,f),fun _ _=>.bad,fun _=>.bad,fun _=>.bad,fun e _=>.exc e⟩
def EndM (K:Fg) (G:Gh) (E:XK) {α:Type} (m:M α) (C:α→Prop):Prop:=match m with
 | .ret a=>C a
 | .exc x=>∀ F' H' Cl dd,GOk G F' H'→XR K F' H' Cl dd x→E (.ref Cl) dd H'
 | .bad=>False
def spD (K:Fg) (n:Nat) (mf:List D→M D):Sp:=fun vs H Q E=>∃ G F ds,vs.length=n∧StOk K G F (vs.map some) H (fzs ds)∧EndM K G E (mf ds) fun d=>∀ v F' H',Same F F'→StOk K G F' (vs.map some) H' (fzs ds)→Rep K F' v d→Q v H'
def spL (K:Fg) (n:Nat) (mf:List D→M (List D)):Sp:=fun vs H Q E=>∃ G F ds,vs.length=n∧StOk K G F (vs.map some) H (fzs ds)∧EndM K G E (mf ds) fun d=>∀ v F' H',Same F F'→StOk K G F' (vs.map some) H' (fzs ds)→Frs K G F' (vs.map some) H' (fzs ds) v (.l d)→Q v H'
def sp1 (K:Fg) (n:Nat) (mf:List D→List D→M (D×List D)):Sp:=fun vs H Q E=>∃ G F f ds,vs.length=n∧StOk K G F (vs.map some) H (some (.op (.l f))::fzs ds)∧EndM K G E (mf f ds) fun r =>
 ∀ v F' H',Same F F'→StOk K G F' (vs.map some) H' (some (.op (.l r.2))::fzs ds)→Rep K F' v r.1→Q v H'
section
variable {K:Fg} {G:Gh} {F F' H H':Hp} {vs:List V} {σ:L2.St} {ρ:En} {ds:List D}
theorem Yf_ (S:StOk K G F (vs.map some) H (fzs ds)) (s1:Same F F') (S1:StOk K G F' σ H' ρ):StOk K G F' (vs.map some) H' (fzs ds):=by
 refine ⟨S1.fh,S1.oh,S1.fo,S.ln,fun i d q=>?_,fun i c q=>(j7_ q).elim,fun i j c e a q=>(j7_ q).elim,S.pp,S.pq,S1.fb⟩
 obtain ⟨v,e,r⟩:=S.fz i d q
 exact ⟨v,e,r.mono s1⟩
theorem Vu_ {v:V} {c:OC} (S1:StOk K G F' σ H' ρ) (h:Frs K G F' σ H' ρ v c):Frs K G F' (vs.map some) H' (fzs ds) v c:=by
 obtain ⟨a,rfl,oa,_⟩:=h
 exact ⟨a,rfl,oa,fun i e q=>(j7_ q).elim⟩
theorem own1 {f:List D} {i:Nat} {c:OC} (h:own (some (.op (.l f))::fzs ds) i c):i=0∧c=.l f:=by
 cases i with
 | zero=>rcases h with h|h<;>simp at h;exact ⟨rfl,h.symm⟩
 | succ i=>exact (j7_ (ds:=ds) (i:=i) (c:=c) (by unfold own at h ⊢;simpa using h)).elim
theorem Qs_ {f f':List D} (S:StOk K G F (vs.map some) H (some (.op (.l f))::fzs ds)) (s1:Same F F') (S1:StOk K G F' σ H' ρ) (h0:ρ[0]? = some (some (.op (.l f')))) :
  StOk K G F' (vs.map some) H' (some (.op (.l f'))::fzs ds)∧∀ v c,Frs K G F' σ H' ρ v c→Frs K G F' (vs.map some) H' (some (.op (.l f'))::fzs ds) v c:=by
 obtain ⟨a,ha⟩:=S1.pq 0 _ h0
 obtain ⟨e1,_⟩:=S1.pp 0 a ha
 obtain ⟨e2,_⟩:=S.pp 0 a ha
 obtain ⟨b,eb,ob⟩:=S1.ow 0 _ (.inr h0)
 rw [e1] at eb
 injection eb with eb;injection eb with eb;injection eb with eb
 subst eb
 have only:∀ i b,G.P i=some b→i=0:=fun i b h=>by
  obtain ⟨_,c,q⟩:=S.pp i b h
  exact (own1 (.inr q)).1
 refine ⟨⟨S1.fh,S1.oh,S1.fo,S.ln,fun i d q=>?_,fun i c q=>?_,fun i j c e b q1 q2 _ _=>?_,fun i b q=>?_,fun i c q=>?_,S1.fb⟩,fun v c h=>?_⟩
 ·cases i with
  | zero=>simp at q
  | succ i =>
   obtain ⟨v,e,r⟩:=S.fz (i+1) d (by simpa using q)
   exact ⟨v,e,r.mono s1⟩
 ·obtain ⟨rfl,rfl⟩:=own1 q
  exact ⟨a,e2,ob⟩
 ·rw [(own1 q1).1,(own1 q2).1]
 ·have:=only i b q
  subst this
  exact ⟨(S.pp 0 b q).1,_,rfl⟩
 ·obtain ⟨rfl,_⟩:=own1 (.inr q)
  exact ⟨a,ha⟩
 ·obtain ⟨b,rfl,ob2,nn⟩:=h
  refine ⟨b,rfl,ob2,fun i e q z=>?_⟩
  obtain ⟨rfl,rfl⟩:=own1 q
  rw [e2] at z
  injection z with z;injection z with z;injection z with z
  subst z
  exact nn 0 _ (.inr h0) e1
end
section
variable {P:Program} {w:World} {K:Fg} {mg:Str→Option Value} {base:Heap} {x qual:Str} {st:Stmt} {f:Addr} {fd:FuncData} {N ps:List Str} {k:Nat}
theorem Z6_ {vs:List V} {ds:List D} {G:Gh} {F H:Hp} (hl:vs.length=ps.length) (S0:StOk K G F (vs.map some) H (fzs ds)):StOk K G F (L2.start N vs) H (fzs ds++List.replicate (N.length - ps.length) none):=by
 have e0:L2.start N vs=vs.map some++List.replicate (N.length - ps.length) none:=by unfold L2.start;rw [hl]
 rw [e0]
 exact S0.grow _
theorem fn_x {sp:Sp} (Fn:Fun K x qual st f fd) (S:FnScope N ps (ze_ st)) (len:∀ vs H Q E,sp vs H Q E→vs.length=ps.length)
  (hbody:∀ (cdv:Value) (A:Around) (outer:List Env) (s:Shared) (H:Hp) (vs:List V) (Q:VK) (E:XK),Room k (A.deeper (envOfC qual (ze_ st) s.heap.objs.size f cdv))→sp vs H Q E →
   ∃ t,PSs (cxOf (CX1 P w) P w K mg base N qual (ze_ st) f cdv A outer s H E) (zK_ st) t∧t { nx:=fun _ H'=>Q .non H',rt:=Q } (start N vs) H):FnOk P w K mg base (CX1 P w) (k+1) f fd ps sp:=by
 obtain ⟨oc,od,kV,doc,pm,an,cdv,ct,osl,rfl,lk,hcd⟩:=Fn.ex
 exact XG_ lk hcd S len fun A outer s H vs Q E hr hsp=>hbody cdv A outer s H vs Q E hr hsp
theorem Vp_ {α:Type} {C:α→Prop} {N:List Str} {qual:Str} {scope:Scope} {f:Addr} {cdv:Value} {A:Around} {outer:List Env} {s:Shared} {H F:Hp} {E:XK} {G:Gh} {ρ:En} {e:Ex} (h:EndM K G E (M.exc e:M α) C):XW (cxOf (CX1 P w) P w K mg base N qual scope f cdv A outer s H E) G F ρ e :=
 fun F' H' s' a Cl dd pins σ g I xs xr=>Vd_ I xs (h F' H' Cl dd g xr)
theorem Jp_ {mb:SM D} {mf:List D→M D} (Fn:Fun K x qual st f fd) (Sc:FnScope N ps (ze_ st))
  (hb:∀ (cdv:Value) (A:Around) (outer:List Env) (s:Shared) (H:Hp) (E:XK),Room k (A.deeper (envOfC qual (ze_ st) s.heap.objs.size f cdv)) →
   ASs (cxOf (CX1 P w) P w K mg base N qual (ze_ st) f cdv A outer s H E) (zK_ st) mb)
  (hm:∀ ds,ds.length=ps.length→mf ds=mb KD (fzs ds++List.replicate (N.length - ps.length) none)):FnOk P w K mg base (CX1 P w) (k+1) f fd ps (spD K ps.length mf):=by
 refine fn_x Fn Sc (fun vs H Q E h=>?_) (fun cdv A outer s H vs Q E hr h=>?_)
 ·obtain ⟨_,_,_,h1,_⟩:=h;exact h1
 ·obtain ⟨G,F0,ds,h1,S0,e⟩:=h
  have hl:ds.length=ps.length:=by have:=S0.ln;simp at this;omega
  rw [hm ds hl] at e
  refine ⟨_,jV_,hb cdv A outer s H E hr (fun m=>EndM K G E m _) KD G F0 _ H _ _ (fun z=>z) (fun F ρ e z=>Vp_ z) (Z6_ h1 S0) e ?_⟩
  exact ⟨fun F' σ' H' ρ' s S' o=>(by exact o .non F' H' s (Yf_ S0 s S') .non),fun F' σ' H' ρ' d' v s S' r o=>(by exact o v F' H' s (Yf_ S0 s S') r),fun F' σ' H' ρ' d' v s S' r o=>(o:False).elim,fun F' σ' H' ρ' s S' o=>(o:False).elim,fun F' σ' H' ρ' s S' o=>(o:False).elim⟩
theorem Qp_ {mb:SM (List D)} {mf:List D→M (List D)} (Fn:Fun K x qual st f fd) (Sc:FnScope N ps (ze_ st))
  (hb:∀ (cdv:Value) (A:Around) (outer:List Env) (s:Shared) (H:Hp) (E:XK),Room k (A.deeper (envOfC qual (ze_ st) s.heap.objs.size f cdv)) →
   ASs (cxOf (CX1 P w) P w K mg base N qual (ze_ st) f cdv A outer s H E) (zK_ st) mb)
  (hm:∀ ds,ds.length=ps.length→mf ds=mb KL (fzs ds++List.replicate (N.length - ps.length) none)):FnOk P w K mg base (CX1 P w) (k+1) f fd ps (spL K ps.length mf):=by
 refine fn_x Fn Sc (fun vs H Q E h=>?_) (fun cdv A outer s H vs Q E hr h=>?_)
 ·obtain ⟨_,_,_,h1,_⟩:=h;exact h1
 ·obtain ⟨G,F0,ds,h1,S0,e⟩:=h
  have hl:ds.length=ps.length:=by have:=S0.ln;simp at this;omega
  rw [hm ds hl] at e
  refine ⟨_,jV_,hb cdv A outer s H E hr (fun m=>EndM K G E m _) KL G F0 _ H _ _ (fun z=>z) (fun F ρ e z=>Vp_ z) (Z6_ h1 S0) e ?_⟩
  exact ⟨fun F' σ' H' ρ' s S' o=>(o:False).elim,fun F' σ' H' ρ' d' v s S' r o=>(o:False).elim,fun F' σ' H' ρ' d' v s S' r o=>(by exact o v F' H' s (Yf_ S0 s S') (Vu_ S' r)),fun F' σ' H' ρ' s S' o=>(o:False).elim,fun F' σ' H' ρ' s S' o=>(o:False).elim⟩
theorem Qt_ {S:Type} {ρ:En} {k:List D→M S} {K:Fg} {G:Gh} {E:XK} {C:S→Prop} (h:EndM K G E (at0 ρ k) C):∃ f,ρ[0]? = some (some (AV.op (OC.l f)))∧EndM K G E (k f) C:=by
 unfold at0 at h
 split at h
 ·rename_i f q;exact ⟨f,q,h⟩
 ·exact h.elim
theorem QG_ {vs:List V} {ds g:List D} {G:Gh} {F H:Hp} (hl:vs.length=ps.length) (S0:StOk K G F (vs.map some) H (some (.op (.l g))::fzs ds)):StOk K G F (L2.start N vs) H (some (.op (.l g))::fzs ds++List.replicate (N.length - ps.length) none):=by
 have e0:L2.start N vs=vs.map some++List.replicate (N.length - ps.length) none:=by unfold L2.start;rw [hl]
 rw [e0]
 exact S0.grow _
theorem WI_ {mb:SM (D×List D)} {mf:List D→List D→M (D×List D)} (Fn:Fun K x qual st f fd) (Sc:FnScope N ps (ze_ st))
  (hb:∀ (cdv:Value) (A:Around) (outer:List Env) (s:Shared) (H:Hp) (E:XK),Room k (A.deeper (envOfC qual (ze_ st) s.heap.objs.size f cdv)) →
   ASs (cxOf (CX1 P w) P w K mg base N qual (ze_ st) f cdv A outer s H E) (zK_ st) mb)
  (hm:∀ g ds,ds.length+1=ps.length→mf g ds=mb K1 (some (.op (.l g))::fzs ds++List.replicate (N.length - ps.length) none)):FnOk P w K mg base (CX1 P w) (k+1) f fd ps (sp1 K ps.length mf):=by
 refine fn_x Fn Sc (fun vs H Q E h=>?_) (fun cdv A outer s H vs Q E hr h=>?_)
 ·obtain ⟨_,_,_,_,h1,_⟩:=h;exact h1
 ·obtain ⟨G,F0,g,ds,h1,S0,e⟩:=h
  have hl:ds.length+1=ps.length:=by have:=S0.ln;simp at this;omega
  rw [hm g ds hl] at e
  refine ⟨_,jV_,hb cdv A outer s H E hr (fun m=>EndM K G E m _) K1 G F0 _ H _ _ (fun z=>z) (fun F ρ e z=>Vp_ z) (QG_ h1 S0) e ?_⟩
  refine ⟨fun F' σ' H' ρ' s S' o=>?_,fun F' σ' H' ρ' d' v s S' rv o=>?_,fun F' σ' H' ρ' d' v s S' r o=>(o:False).elim,fun F' σ' H' ρ' s S' o=>(o:False).elim,fun F' σ' H' ρ' s S' o=>(o:False).elim⟩
  ·obtain ⟨f',q,e'⟩:=Qt_ o
   exact e' .non F' H' s (Qs_ S0 s S' q).1 .non
  ·obtain ⟨f',q,e'⟩:=Qt_ o
   exact e' v F' H' s (Qs_ S0 s S' q).1 rv
end
structure CF (P:Program) (w:World) (K:Fg) (mg:Str→Option Value) (base:Heap) (x:Str) (k:Nat) (sp:Sp):Prop where
 ex:∃ (f:Addr) (fd:FuncData) (ps:List Str),FnOk P w K mg base (CX1 P w) k f fd ps sp∧mg x=some (.ref f)∧PySem.W.keepIn K (.ref f)=true∧L2.Binds K fd ps []
def pFnD (mf:List D→M D) (ps:Pa D):Pu D:=fun ρ=>ps (fun ds=>mf ds) ρ
def pFnL (mf:List D→M (List D)) (ps:Pa (List D)):Pu (List D):=fun ρ=>ps (fun ds=>mf ds) ρ
section
variable {S:Type}
def eFn1 (mf:List D→List D→M (D×List D)) (i:Nat) (ms:Ev S (List D)):Ev S D:=fun x k ρ=>ms x (fun ds ρ1=>match ownL ρ1 i with
 | some f=>(mf f ds).on (fun e=>x e ρ1) (fun r=>k r.1 (setO ρ1 i r.2))
 | none=>.bad) ρ
end
def EX (X:Cx) (G:Gh):XK:=fun c dd H'=>∃ x ρ F1 F' C,c=.ref C∧XW X G F1 ρ x∧GOk G F' H'∧XR X.K F' H' C dd x
theorem XS.older {H:Hp} {h:Heap} {lo lo':Nat} {e C:Addr} {dd:Option Addr} (xs:XS H h lo e C dd) (hl:lo'≤lo):XS H h lo' e C dd:=by
 obtain ⟨oe,vs,q,c,d,z,z1,k⟩:=xs.obj
 refine ⟨Nat.le_trans hl xs.yg,xs.trk,oe,vs,q,c,d,z,z1,k.imp id ?_⟩
 rintro ⟨T,oT,ts,k,ne,l,r⟩
 exact ⟨T,oT,ts,k,ne,Nat.le_trans hl l,r⟩
theorem Q3_ {X:Cx} {G:Gh}:Yp_ (CX1 X.prog X.w) X (EX X G):=fun pins σ H s e s' I h=>by
 obtain ⟨a,C,dd,H',rfl,ho,hb,un,hk,xs,x,ρ,F1,F',C',ec,xw,g,xr⟩:=h
 cases ec
 exact xw F' H' s' a C dd pins σ g (I.call' ho un hk hb fun b z=>absurd z (by simp)) (xs.older I.sz) xr
theorem EX.of {X:Cx} {G:Gh} {F F' H' H:Hp} {σ:L2.St} {ρ:En} {x:Ex} {C:Addr} {dd:Option Addr} {ex:Option Addr} {p:Nat→Option Addr} (S:StOk X.K G F σ H ρ) (xw:XW X G F ρ x) (g:GOk ⟨p,zm_ G σ ρ H ex,F⟩ F' H') (xr:XR X.K F' H' C dd x):EX X G (.ref C) dd H' :=
 ⟨x,ρ,F,F',C,rfl,xw,⟨g.fh,fun b o h=>g.oh b o (zP_ S h),fun b o h=>g.fo b o (zP_ S h),S.fb.trans g.fb⟩,xr⟩
section
variable {S:Type} {X:Cx} {k n:Nat} {mf:List D→M D} {ml:List D→M (List D)} {m1:List D→List D→M (D×List D)} {m1L:List D→List D→M (List D×List D)} {x:Str} {p pos pn:Pos} {e:Expr} {es:List Expr} {ps:Pa D} {pl:Pa (List D)} {ms:Ev S (List D)}
theorem Ym_ (C:CF X.prog X.w X.K X.mg X.base x k (spD X.K n mf)) (hr:Room k X.A) (hg:Gl X x) (ha:AA X (e::es) ps) (hn:(e::es).length=n)
  (hdb:(x==("__debug__" : Str))=false) (he:starEach (e::es) X.env=(false,eval e X.env)::starEach es X.env) (hpl:(backTo pos (starEach es X.env)).any (·.1)=false):AP X (.Call (.Name x p) (e::es) [] pos) (pFnD mf ps):=by
 obtain ⟨f,fd,pl,Fn,h1,h2,h3⟩:=C.ex
 intro G F σ H ρ Q St w
 refine sem (ZI_ Fn hr hg h1 h2 h3 .nil (Q3_ (G:=G)) z7_ hdb he hpl) ?_
 refine ha G F σ H ρ _ _ _ St w fun ds vs F1 H1 s1 S1 hl r1 w1=>?_
 show spD X.K n mf (vs++[]) H1 Q (EX X G)
 rw [List.append_nil]
 cases hd:mf ds with
 | bad=>rw [hd] at w1;exact w1.elim
 | exc e =>
  rw [hd] at w1
  exact ⟨_,F1,ds,hl.trans hn,ub_ S1 r1,by rw [hd];exact fun F' H' Cl dd g xr=>EX.of S1 w1 g xr⟩
 | ret d =>
  rw [hd] at w1
  refine ⟨_,F1,ds,hl.trans hn,ub_ S1 r1,?_⟩
  rw [hd]
  intro v F2 H2 s2 S2 r2
  obtain ⟨S3,t3⟩:=yw_ (avs':=ds.map AV.fz) S1 s2 S2
  exact w1 F2 H2 s2 S3 v r2
theorem Vx_ (C:CF X.prog X.w X.K X.mg X.base x k (spL X.K n ml)) (hr:Room k X.A) (hg:Gl X x) (ha:AA X (e::es) pl) (hn:(e::es).length=n)
  (hdb:(x==("__debug__" : Str))=false) (he:starEach (e::es) X.env=(false,eval e X.env)::starEach es X.env) (hpl:(backTo pos (starEach es X.env)).any (·.1)=false):AL X (.Call (.Name x p) (e::es) [] pos) (pFnL ml pl):=by
 obtain ⟨f,fd,pz,Fn,h1,h2,h3⟩:=C.ex
 intro G F σ H ρ Q St w
 refine sem (ZI_ Fn hr hg h1 h2 h3 .nil (Q3_ (G:=G)) z7_ hdb he hpl) ?_
 refine ha G F σ H ρ _ _ _ St w fun ds vs F1 H1 s1 S1 hl r1 w1=>?_
 show spL X.K n ml (vs++[]) H1 Q (EX X G)
 rw [List.append_nil]
 cases hd:ml ds with
 | bad=>rw [hd] at w1;exact w1.elim
 | exc e =>
  rw [hd] at w1
  exact ⟨_,F1,ds,hl.trans hn,ub_ S1 r1,by rw [hd];exact fun F' H' Cl dd g xr=>EX.of S1 w1 g xr⟩
 | ret d =>
  rw [hd] at w1
  refine ⟨_,F1,ds,hl.trans hn,ub_ S1 r1,?_⟩
  rw [hd]
  intro v F2 H2 s2 S2 r2
  obtain ⟨S3,t3⟩:=yw_ (avs':=ds.map AV.fz) S1 s2 S2
  exact w1 F2 H2 s2 S3 v (t3 v _ r2)
theorem Ud_ {ρ:En} {i:Nat} {f g:List D} (h:ownL ρ i=some g):setO ρ i f=setC ρ i (.l f):=uK_ ρ i f g h
theorem J0_ {i:Nat} {y:Str} {OK:M S→Prop} {z:Ex→En→M S} {kk:List D→En→M S} {G:Gh} {F H:Hp} {σ:L2.St} {ρ:En} {Q:List V→Hp→Prop} (hN:X.N[i]? = some y) (hv:Vis X.env.scope y) (hd:(y==("__debug__" : Str))=false) (hcd:(y==("__classdict__" : Str))=false)
  (ha:AEa X es ms) (he:starEach (.Name y pn::es) X.env=(false,eval (.Name y pn) X.env)::starEach es X.env) (hO:KOk OK) (hX:XL X OK z G) (St:StOk X.K G F σ H ρ) (ok:OK (ms z (fun ds ρ1=>match ownL ρ1 i with|some f=>kk (.list f::ds) ρ1|none=>.bad) ρ))
  (h0:(ownL ρ i).isSome=true)
  (k2:∀ a f ds vs F' H' ρ',Same F F'→StOk X.K G F' σ H' ρ'→ownL ρ' i=some f→σ[i]? = some (some (V.ref a))→vs.length=es.length→RepL X.K F' vs ds→OK (kk (.list f::ds) ρ')→Q (.ref a::vs) H'):yy_ X (.Name y pn::es) σ H Q:=by
 obtain ⟨f0,hf0⟩:=Option.isSome_iff_exists.mp h0
 obtain ⟨a,_,ea,_,_⟩:=jw_ St hf0
 refine semA (uh_ (ux_ hN hv hd hcd) z7_ he) ⟨_,ea,?_⟩
 refine ha OK z _ G F σ H ρ _ hO hX St ok fun ds vs F1 H1 ρ1 s1 S1 hl r1 o1=>?_
 split at o1
 ·rename_i f hf
  exact k2 a f ds vs F1 H1 ρ1 s1 S1 hf ea hl r1 o1
 ·exact (hO o1).elim
def ck {S α:Type} (i:Nat) (m:Ev S α):Ev S α:=fun x k ρ=>match (ownL ρ i).isSome with
 | true=>m x k ρ
 | false=>.bad
theorem yv_ {K:Fg} {G:Gh} {F H:Hp} {σ:L2.St} {ρ:En} {vs:List V} {ds f:List D} {j:Nat} {a:Addr} (S:StOk K G F σ H ρ) (hj:ownL ρ j=some f) (ha:σ[j]? = some (some (V.ref a))) (r:RepL K F vs ds) :
  StOk K ⟨P1 a,zm_ G σ ρ H (some a),F⟩ F ((V.ref a::vs).map some) H (some (.op (.l f))::fzs ds):=U9_ S (uC_ hj) ha r
theorem Qx_ {i:Nat} {y:Str} (C:CF X.prog X.w X.K X.mg X.base x k (sp1 X.K n m1)) (hr:Room k X.A) (hg:Gl X x) (hN:X.N[i]? = some y) (hv:Vis X.env.scope y) (ha:AEa X es ms) (hn:es.length+1=n)
  (hdb:(x==("__debug__" : Str))=false) (he:starEach (.Name y pn::es) X.env=(false,eval (.Name y pn) X.env)::starEach es X.env) (hpl:(backTo pos (starEach es X.env)).any (·.1)=false)
  (hd:(y==("__debug__" : Str))=false:=by decide) (hcd:(y==("__classdict__" : Str))=false:=by decide):AE X (.Call (.Name x p) (.Name y pn::es) [] pos) (ck i (eFn1 m1 i ms)):=by
 obtain ⟨f,fd,pl,Fn,h1,h2,h3⟩:=C.ex
 intro OK z kk G F σ H ρ Q hO hX St ok k2
 unfold ck at ok
 split at ok
 case h_2=>exact (hO ok).elim
 rename_i h0
 refine sem (ZI_ Fn hr hg h1 h2 h3 .nil (Q3_ (G:=G)) z7_ hdb he hpl) ?_
 refine J0_ (OK:=OK) (z:=z) (kk:=fun l ρ1=>match l with | .list f::ds=>(m1 f ds).on (fun e=>z e ρ1) (fun r=>kk r.1 (setO ρ1 i r.2))|_=>.bad) hN hv hd hcd ha he hO hX St ok h0 fun a f ds vs F1 H1 ρ1 s1 S1 hf ea hl r1 o1=>?_
 have o1':OK ((m1 f ds).on (fun e=>z e ρ1) (fun r=>kk r.1 (setO ρ1 i r.2))):=o1
 show sp1 X.K n m1 ((V.ref a::vs)++[]) H1 Q (EX X G)
 rw [List.append_nil]
 cases hd:m1 f ds with
 | bad=>rw [hd] at o1';exact (hO o1').elim
 | exc e =>
  rw [hd] at o1'
  exact ⟨_,F1,f,ds,by simp [hl];exact hn,yv_ S1 hf ea r1,by rw [hd];exact fun F' H' Cl dd g xr=>EX.of S1 (hX F1 ρ1 e o1') g xr⟩
 | ret r =>
  rw [hd] at o1'
  refine ⟨_,F1,f,ds,by simp [hl];exact hn,yv_ S1 hf ea r1,?_⟩
  rw [hd]
  intro v F2 H2 s2 S2 r2
  obtain ⟨S3,t3⟩:=JY_ (c':=.l r.2) (l:=ds.map AV.fz) S1 (uC_ hf) ea s2 S2
  rw [←Ud_ hf] at S3
  exact k2 r.1 v F2 H2 _ (s1.trans s2) S3 r2 o1'
end
theorem zx_ {k:Nat} {A:Around} (r:Room k A):A.units+1100<cLine:=by have:=r.un;omega
end L4
set_option Elab.async false
set_option linter.all false
set_option maxRecDepth 100000
namespace L4
open PySem PySem.Spec PyProof.Rows L2 L3
def noX {S:Type} (m:M S):M S:=match m with
 | .ret s=>.ret s
 | _=>.bad
theorem jX_ {S:Type} (s:S):noX (M.ret s)=.ret s:=rfl
def jm_ (step:D→M (Option D)):List D→M (List D)
 | []=>.ret []
 | d::r=>bd (noX (step d)) fun o=>bd (jm_ step r) fun xs=>.ret (o.toList++xs)
theorem Jr_ {step:D→M (Option D)}:∀ {ds:List D} {e:Ex},jm_ step ds≠.exc e
 | [],e,h=>by cases h
 | d::r,e,h=>by
  unfold jm_ at h
  cases hs:step d with
  | ret o =>
   rw [hs,jX_,uc_] at h
   cases hr:jm_ step r with
   | ret xs=>rw [hr] at h;cases h
   | exc e'=>exact Jr_ hr
   | bad=>rw [hr] at h;cases h
  | exc e'=>rw [hs] at h;cases h
  | bad=>rw [hs] at h;cases h
def Un_ (k:Nat) (it:Pu (List D)) (t:Tg (Option D)) (pt:Pu Bool) (pe:Pu D):Pu (List D):=fun ρ=>bd (it ρ) fun ds =>
 bd (jm_ (fun d=>t d (fun ρ1=>bd (pt ρ1) fun b=>if b then bd (pe ρ1) fun v=>.ret (some v) else .ret none) (ρ++List.replicate k none)) ds) fitM
def Xk_:Pu Bool:=fun _=>.ret true
def ATs (X:Cx) (ifs:List Expr) (p:Pu Bool):Prop :=
 ∀ (G:Gh) (F:Hp) (σ:L2.St) (H:Hp) (ρ:En) (Q:Bool→Hp→Prop),StOk X.K G F σ H ρ→W X G F σ ρ (p ρ) (fun d F' H'=>Q d H')→∀ (pins:List (Addr×Obj)) (s:Shared),Inv X pins σ H s →
  wpAny (model X.prog X.w) X.A (forIn ifs true fun c r=>if r=true then do let ok ←isTrue c X.env (eval c X.env);pure (ForInStep.yield ok) else pure (ForInStep.yield r)) (TP X pins σ Q) X.xe s
theorem yX_ {X:Cx}:ATs X [] Xk_:=fun G F σ H ρ Q S w pins s I=>QU_ pins s σ H Q I (w F H (Same.refl _) S)
theorem yW_ {X:Cx} {c:Expr} {p:Pu Bool} (h:AT X c p):ATs X [c] p:=fun G F σ H ρ Q S w pins s I=>QT_ Jb_ pins s σ H Q I (h G F σ H ρ Q S w)
theorem W.rets {X:Cx} {G:Gh} {F:Hp} {σ:L2.St} {ρ:En} {α:Type} {m:M α} {a:α} {C:α→Hp→Hp→Prop} (e:m=.ret a) (h:∀ F' H',Same F F'→StOk X.K G F' σ H' ρ→C a F' H'):W X G F σ ρ m C:=by subst e;exact h
section
variable {X:Cx}
def Yt_ (X:Cx) (N':List Str) (scope:Scope) (tg:Expr):TG:=fun v σ H Q=>∀ cl s H0 fp C,JC_ (zs_ X N' scope cl s H0 fp C) tg v σ H Q
def Ys_ (X:Cx) (N':List Str) (scope:Scope) (ifs:List Expr):TT:=fun σ H Q=>∀ cl s0 H0 fp C,∀ (pins:List (Addr×Obj)) (s:Shared),Inv (zs_ X N' scope cl s0 H0 fp C) pins σ H s →
  wpAny (model X.prog X.w) (zs_ X N' scope cl s0 H0 fp C).A (forIn ifs true fun c r=>if r=true then do let ok ←isTrue c (zs_ X N' scope cl s0 H0 fp C).env (eval c (zs_ X N' scope cl s0 H0 fp C).env);pure (ForInStep.yield ok) else pure (ForInStep.yield r)) (TP (zs_ X N' scope cl s0 H0 fp C) pins σ Q) (zs_ X N' scope cl s0 H0 fp C).xe s
def Yu_ (X:Cx) (N':List Str) (scope:Scope) (e:Expr):TE:=fun σ H Q=>∀ cl s H0 fp C,tSem (zs_ X N' scope cl s H0 fp C) e σ H Q
variable {elt tg iter:Expr} {ifs:List Expr} {scope:Scope} {pos:Pos} {N':List Str} {k:Nat}
theorem ZX_ {it:Pu (List D)} {t:Tg (Option D)} {pt:Pu Bool} {pe:Pu D} {G:Gh} {F:Hp} {σ:L2.St} {H:Hp} {ρ:En} {Q:VK} (hi:AI X tg iter it)
  (hg:∀ cl s H fp C,AG (zs_ X N' scope cl s H fp C) X.N.length tg t) (ht:∀ cl s H fp C,ATs (zs_ X N' scope cl s H fp C) ifs pt) (he:∀ cl s H fp C,AP (zs_ X N' scope cl s H fp C) elt pe)
  (hσ:σ.length=X.N.length) (St:StOk X.K G F σ H ρ) (w:W X G F σ ρ (Un_ k it t pt pe ρ) fun ds F' H'=>∀ v,Frs X.K G F' σ H' ρ v (.l ds)→Q v H') :
  QF_ (u8_ X tg iter) k (Yt_ X N' scope tg) (Ys_ X N' scope ifs) (Yu_ X N' scope elt) σ H Q:=by
 refine hi G F σ H ρ _ St (w.bind.imp fun ds F1 H1 s1 S1 w1 J wk=>?_)
 have hP:∀ i a,G.P i=some a→i<σ.length:=fun i a h=>(List.getElem?_eq_some_iff.mp (S1.pp i a h).1).1
 have hln:σ.length=ρ.length:=S1.ln
 have wc:=w1.bind
 revert wc
 generalize hstep:(fun d=>t d (fun ρ1=>bd (pt ρ1) fun b=>if b then bd (pe ρ1) fun v=>.ret (some v) else .ret none) (ρ++List.replicate k none))=step
 intro wc
 cases hcc:jm_ step ds with
 | bad=>rw [hcc] at wc;exact wc.elim
 | exc e=>exact (Jr_ hcc).elim
 | ret out =>
  rw [hcc] at wc
  have wf:∀ F' H',Same F1 F'→StOk X.K G F' σ H' ρ→W X G F' σ ρ (fitM out) fun ds F' H'=>∀ v,Frs X.K G F' σ H' ρ v (.l ds)→Q v H':=wc
  have hfit:out.length≤sizeLine:=(wf F1 H1 (Same.refl _) S1).fit.1
  have fin:∀ F' H',Same F1 F'→StOk X.K G F' σ H' ρ→∀ v,Frs X.K G F' σ H' ρ v (.l out)→Q v H':=fun F' H' s' S'=>(wf F' H' s' S').fit.2 F' H' (Same.refl _) S'
  have grown:∀ {F' H' σ' ρ'},StOk X.K G F' σ' H' ρ'→(∀ j,j<σ.length→σ'[j]? = σ[j]? ∧ ρ'[j]? = ρ[j]?)→σ'.length=σ.length+k→StOk X.K G F' σ' H' (ρ++List.replicate k none):=fun {F' H' σ' ρ'} S' kp hl=>by
   refine S'.weak (by have:=S'.ln;simp;omega) (fun i av q=>?_) (fun i c q=>?_)
   ·have q':=ue_ q
    have hi:i<σ.length:=by rw [hln];exact (List.getElem?_eq_some_iff.mp q').1
    rw [(kp i hi).2];exact q'
   ·obtain ⟨a,ha⟩:=S'.pq i c q
    have hi:=hP i a ha
    rw [List.getElem?_append_left (by omega),←(kp i hi).2]
    exact q
  refine ⟨fun i m vs σ' H'=>∃ F' acc rest,m=ds.length - i∧i≤ds.length∧Same F1 F'∧StOk X.K G F' σ' H' (ρ++List.replicate k none)∧(∀ j,j<σ.length→σ'[j]? = σ[j]?)∧σ'.length=σ.length+k∧RepL X.K F' vs acc∧jm_ step (ds.drop i)=.ret rest∧out=acc++rest,
   ⟨ds.length,F1,[],out,rfl,Nat.zero_le _,Same.refl _,S1.grow k,fun j hj=>by rw [List.getElem?_append_left hj],by simp,.nil,hcc,rfl⟩,?_⟩
  rintro i m vs σ' H' ⟨F',acc,rest,rfl,hi,s2,S2,kp,hlen,rp,go,eo⟩
  refine ⟨by rw [rp.length];rw [eo,List.length_append] at hfit;omega,?_⟩
  by_cases hlt:i<ds.length
  ·refine .inr ⟨wk.go i G F' σ' H' _ s2 S2 hlt,fun x H2 y cl s0 H0 fp C=>?_⟩
   have hd:ds[i]? = some ds[i]:=by simp [hlt]
   obtain ⟨F3,s3,S3,r3⟩:=wk.yld i G F' σ' H' _ x H2 ds[i] s2 S2 hd y
   have ed:ds.drop i=ds[i]::ds.drop (i+1):=List.drop_eq_getElem_cons hlt
   rw [ed] at go
   cases hst:step ds[i] with
   | bad=>dsimp only [jm_] at go;rw [hst] at go;cases go
   | exc e=>dsimp only [jm_] at go;rw [hst] at go;cases go
   | ret o =>
    dsimp only [jm_] at go
    rw [hst,jX_,uc_] at go
    cases hr:jm_ step (ds.drop (i+1)) with
    | bad=>rw [hr] at go;cases go
    | exc e=>rw [hr] at go;cases go
    | ret rest' =>
     rw [hr,uc_] at go
     cases go
     rw [←hstep] at hst
     refine hg cl s0 H0 fp C (fun m=>m=.ret o) _ G F3 σ' H2 _ x ds[i] _ (fun z=>nomatch z) S3 r3 hst fun σ3 ρ3 S4 kp3 hl3 ml3 o4=>?_
     have kp':∀ j,j<σ.length→σ3[j]? = σ[j]? ∧ ρ3[j]? = ρ[j]?:=fun j hj=>⟨((kp3 j (by omega)).1).trans (kp j hj),by rw [(kp3 j (by omega)).2,List.getElem?_append_left (by omega)]⟩
     cases hpt:pt ρ3 with
     | bad=>rw [hpt] at o4;cases o4
     | exc e=>rw [hpt] at o4;cases o4
     | ret b =>
      rw [hpt,uc_] at o4
      intro cl s0 H0 fp C
      refine ht cl s0 H0 fp C G F3 σ3 H2 ρ3 _ S4 (W.rets hpt fun F5 H5 s5 S5=>?_)
      cases b with
      | true =>
       refine iteT ?_
       have o4':bd (pe ρ3) (fun v=>.ret (some v))=M.ret o:=o4
       cases hpe:pe ρ3 with
       | bad=>rw [hpe] at o4';cases o4'
       | exc e=>rw [hpe] at o4';cases o4'
       | ret v =>
        rw [hpe,uc_] at o4'
        cases o4'
        intro cl s0 H0 fp C
        refine he cl s0 H0 fp C G F5 σ3 H5 ρ3 _ S5 (W.rets hpe fun F6 H6 s6 S6 u ru=>?_)
        exact ⟨ds.length - (i+1),by omega,F6,acc++[v],rest',rfl,hlt,((s2.trans s3).trans s5).trans s6,grown S6 kp' (by omega),fun j hj=>(kp' j hj).1,by omega,(rp.mono ((s3.trans s5).trans s6)).append (.cons ru .nil),hr,by rw [eo];simp⟩
      | false =>
       refine iteF ?_
       have o4':(M.ret none:M (Option D))=M.ret o:=o4
       cases o4'
       exact ⟨ds.length - (i+1),by omega,F5,acc,rest',rfl,hlt,(s2.trans s3).trans s5,grown S5 kp' (by omega),fun j hj=>(kp' j hj).1,by omega,rp.mono (s3.trans s5),hr,by rw [eo];simp⟩
  ·have ei:i=ds.length:=by omega
   subst ei
   rw [List.drop_length] at go
   cases go
   rw [List.append_nil] at eo
   subst eo
   refine .inl ⟨wk.stop G F' σ' H' _ s2 S2,fun p hp=>?_⟩
   have Ssh:=S2.shrink (n:=σ.length) (by simp;omega) hP
   have e1:σ'.take σ.length=σ:=JA_ kp rfl
   have e2:(ρ++List.replicate k none).take σ.length=ρ:=by rw [hln,List.take_left]
   rw [e1,e2] at Ssh
   obtain ⟨S5,r5⟩:=Ssh.newLst hp rp
   exact fin F' _ s2 S5 _ r5
theorem jZ_ {it:Pu (List D)} {t:Tg (Option D)} {pt:Pu Bool} {pe:Pu D} (hc:X.calm=true) (Sc:CompOk X N' k scope) (hi:AI X tg iter it)
  (hg:∀ cl s H fp C,AG (zs_ X N' scope cl s H fp C) X.N.length tg t) (ht:∀ cl s H fp C,ATs (zs_ X N' scope cl s H fp C) ifs pt) (he:∀ cl s H fp C,AP (zs_ X N' scope cl s H fp C) elt pe)
  (hs:∀ x,foldedSetIterable iter X.env x=pure x):AL X (.ListComp elt [⟨tg,iter,ifs,0⟩] scope pos) (Un_ k it t pt pe):=by
 intro G F σ H ρ Q St w;unfold tSem;intro pins s I
 refine Q1_ (wi:=u8_ X tg iter) (g:=Yt_ X N' scope tg) (tc:=Ys_ X N' scope ifs) (te:=Yu_ X N' scope elt) hc Sc (fun x hx hf=>I.ok.has x.1 (Sc.free x hx hf)) Jc_
  (fun cl s H fp C pins s' σ H v u Q I r h=>Jd_ pins s' σ H v u Q I r (h cl _ _ fp C)) (fun cl s H fp C pins s' σ H Q I h=>h cl _ _ fp C pins s' I) (fun cl s H fp C pins s' σ H Q I h=>zu_ pins s' σ H Q I (h cl _ _ fp C)) hs pins s σ H Q I (ZX_ hi hg ht he I.len St w)
theorem Vv_ {S:Type} {pos' spos:Pos} {i:Nat} {y:Str} {it:Pu (List D)} {t:Tg (Option D)} {pt:Pu Bool} {pe:Pu D}
  (hN:X.N.Nodup) (hy:X.N[i]? = some y) (hly:Loc X.env.scope y) (hfn:X.fn y=true∨X.env.scope.names.lookup y=some .local) (hc:X.calm=true) (Sc:CompOk X N' k scope) (hi:AI X tg iter it)
  (hg:∀ cl s H fp C,AG (zs_ X N' scope cl s H fp C) X.N.length tg t) (ht:∀ cl s H fp C,ATs (zs_ X N' scope cl s H fp C) ifs pt) (he:∀ cl s H fp C,AP (zs_ X N' scope cl s H fp C) elt pe)
  (hsw:swapsWith (.ListComp elt [⟨tg,iter,ifs,0⟩] scope pos) (some (.Name y pos')) spos.line X.env=pure true) (hs:∀ x,foldedSetIterable iter X.env x=pure x) :
  AS (S:=S) X (.Assign [.Name y pos'] (.ListComp elt [⟨tg,iter,ifs,0⟩] scope pos) spos) (VE_ i (ePu (Un_ k it t pt pe))):=by
 intro OK K G F σ H ρ E hO hX St ok eo;unfold ZF_;intro pins s I
 refine yk_ (wi:=u8_ X tg iter) (g:=Yt_ X N' scope tg) (tc:=Ys_ X N' scope ifs) (te:=Yu_ X N' scope elt) hN hy hly hfn hc Sc (fun x hx hf=>I.ok.has x.1 (Sc.free x hx hf)) Jc_
  (fun cl s H fp C pins s' σ H v u Q I r h=>Jd_ pins s' σ H v u Q I r (h cl _ _ fp C)) (fun cl s H fp C pins s' σ H Q I h=>h cl _ _ fp C pins s' I) (fun cl s H fp C pins s' σ H Q I h=>zu_ pins s' σ H Q I (h cl _ _ fp C)) hsw hs pins s σ H E I ?_
 refine ZX_ hi hg ht he I.len St ?_
 refine W.of hO hX ok fun d F' H' s S' o v r=>?_
 have o':OK (match ZL_ ρ i with|true=>K.nx (ρ.set i (some (.ol (.l d))))|false=>.bad):=o
 split at o'
 ·rename_i ho
  obtain ⟨hl,hop⟩:=j6_ ho
  exact eo.nx F' _ H' _ s (S'.store hop hl (.inr ⟨.l d,rfl,r⟩)) o'
 ·exact (hO o').elim
theorem J2_ {S:Type} {pos' spos:Pos} {i:Nat} {y:Str} {it:Pu (List D)} {t:Tg (Option D)} {pt:Pu Bool} {pe:Pu D}
  (hN:X.N.Nodup) (hy:X.N[i]? = some y) (hly:Loc X.env.scope y) (hfn:X.fn y=true∨X.env.scope.names.lookup y=some .local) (hc:X.calm=true) (Sc:CompOk X N' k scope) (hi:AI X tg iter it)
  (hg:∀ cl s H fp C,AG (zs_ X N' scope cl s H fp C) X.N.length tg t) (ht:∀ cl s H fp C,ATs (zs_ X N' scope cl s H fp C) ifs pt) (he:∀ cl s H fp C,AP (zs_ X N' scope cl s H fp C) elt pe)
  (hsw:swapsWith (.ListComp elt [⟨tg,iter,ifs,0⟩] scope pos) (some (.Name y pos')) spos.line X.env=pure true) (hs:∀ x,foldedSetIterable iter X.env x=pure x) :
  AS (S:=S) X (.Assign [.Name y pos'] (.ListComp elt [⟨tg,iter,ifs,0⟩] scope pos) spos) (sSet i (ePu (pZ (Un_ k it t pt pe)))):=by
 intro OK K G F σ H ρ E hO hX St ok eo;unfold ZF_;intro pins s I
 refine yk_ (wi:=u8_ X tg iter) (g:=Yt_ X N' scope tg) (tc:=Ys_ X N' scope ifs) (te:=Yu_ X N' scope elt) hN hy hly hfn hc Sc (fun x hx hf=>I.ok.has x.1 (Sc.free x hx hf)) Jc_
  (fun cl s H fp C pins s' σ H v u Q I r h=>Jd_ pins s' σ H v u Q I r (h cl _ _ fp C)) (fun cl s H fp C pins s' σ H Q I h=>h cl _ _ fp C pins s' I) (fun cl s H fp C pins s' σ H Q I h=>zu_ pins s' σ H Q I (h cl _ _ fp C)) hsw hs pins s σ H E I ?_
 refine ZX_ hi hg ht he I.len St ?_
 have w:W X G F σ ρ (pZ (Un_ k it t pt pe) ρ) (fun d F' H'=>∀ v,Rep X.K F' v d→UQ_ i v σ H' E.nx):=W.of hO hX ok fun d F' H' s S' o v r=>by
  have o':OK (match ZL_ ρ i with|true=>K.nx (ρ.set i (some (.fz d)))|false=>.bad):=o
  split at o'
  ·rename_i ho
   obtain ⟨hl,hop⟩:=j6_ ho
   exact eo.nx F' _ H' _ s (S'.store hop hl (.inl ⟨d,rfl,r⟩)) o'
  ·exact (hO o').elim
 refine w.bind.imp fun ds F' H' s1 S1 w1 v fr=>?_
 obtain ⟨F2,s2,S2,r2⟩:=S1.settle (v:=v) (ds:=ds) fr
 exact w1 F2 H' s2 S2 v r2
end
end L4
set_option Elab.async false
set_option linter.all false
set_option maxRecDepth 100000
namespace HT
open PySem PySem.Spec PyProof.Rows
section
variable {prog:Program} {w:World} {A:Around} {E:Value→Shared→Prop} {s:Shared}
theorem getItem_tuple_all {t sl:Addr} {items:Array Value} {vl vu:Value} {lo hi:Option Int} {Q:Value→Shared→Prop} (ht:IsTup s.heap t items) (hs:s.heap.IsSliceOf sl vl vu .none) (pl:IsPart vl lo) (pu:IsPart vu hi)
  (hw:sIx items.size 0 lo=0∧sIx items.size items.size hi=items.size) (h:Q (.ref t) s):wpAny (model prog w) A (getItem (.ref t) (.ref sl)) Q E s:=by
 obtain ⟨os,hos,hcs,hds⟩:=id hs
 have hTs:s.TypeIs (.ref sl) "slice":=⟨os,hos,hcs⟩
 unfold getItem
 try with_reducible refine wpAny_holding ?_
 first|refine wpAny_bind (wpAny_pure ?_)|skip
 refine wpAny_bind (wpAny_sequenceKey ht.typeIs (by decide) ?_)
 refine wpAny_bind (wpAny_callSpecial?_slot (name:=Str.ofString "__getitem__") ht.typeIs PyProof.Rows.slot_tuple_getitem
  (wpAny_call_entry PyProof.Rows.slot_tuple_getitem ht.typeIs entry_tuple_getitem ?_ (args_tuple_getitem _ _)))
 show wpAny _ _ (Builtin.Tuple.tupleItemsOf (.ref t) >>= _) _ _ s
 refine wpAny_bind (tupleItemsOf_ ht ?_)
 refine wpAny_bind (wpAny_typeOf hTs ?_)
 rw [if_pos (by decide)]
 refine wpAny_bind (jA_ hs pl pu ?_)
 have hyes:((((sIx items.size 0 lo:Nat):Int)==0&&(1:Int)==1&&(sIx items.size items.size hi - sIx items.size 0 lo)==items.size)=true):=by
  rw [hw.1,hw.2]
  simp
 show wpAny _ _ (if (((sIx items.size 0 lo:Nat):Int)==0&&(1:Int)==1&&(sIx items.size items.size hi - sIx items.size 0 lo)==items.size)=true then _ else _) _ _ s
 rw [if_pos hyes]
 obtain ⟨o,ho,hc,n,hd⟩:=id ht
 have hex:∀ {Q':Bool→Shared→Prop},Q' true s→wpAny (model prog w) A.in1 (Builtin.Tuple.tupleIsExact (.ref t)) Q' E s:=fun {Q'} q=>by
  unfold Builtin.Tuple.tupleIsExact
  refine wpAny_bind (wpAny_typeOf ht.typeIs (wpAny_pure ?_))
  exact q
 first
  | exact wpAny_bind (hex (wpAny_bind (wpAny_rule (wpAny_pure ⟨_,rfl,wpAny_pure h⟩))))
  | exact wpAny_bind (wpAny_bind (hex (wpAny_bind (wpAny_rule (wpAny_pure (wpAny_pure ⟨_,rfl,wpAny_pure h⟩))))))
end
end HT
namespace L4
open PySem PySem.Spec PyProof.Rows L2 L3
def cutD (ds:List D) (lo hi:Option Int):List D:=(ds.drop (HT.sIx ds.length 0 lo)).take (HT.sIx ds.length ds.length hi - HT.sIx ds.length 0 lo)
theorem U4_ {K:Fg} {F:Hp} {vs:List V} {ds:List D} (r:RepL K F vs ds) (lo hi:Option Int):RepL K F (cutV vs lo hi) (cutD ds lo hi):=by
 unfold cutV cutD
 rw [r.length]
 exact (r.drop _).take _
def rSlA (K:Fg):V→Option Int→Option Int→Hp→VK→Prop:=fun x lo hi H Q=>∃ a xs,x=.ref a∧SqT K H a xs∧(HT.sIx xs.length 0 lo=0∧HT.sIx xs.length xs.length hi=xs.length)∧Q x H
theorem sl_tupA {X:Cx}:SlR X (rSlA X.K):=by
 intro pins s σ H x v vl vu lo hi sl Q I rx hs pl pu h
 obtain ⟨a,xs,rfl,hx,hw,q⟩:=h
 cases rx
 obtain ⟨its,r,ht,hz⟩:=I.tuple hx
 have hlen:its.toArray.size=xs.length:=by rw [List.size_toArray];exact r.length.symm
 refine ⟨"tuple",_,PyProof.Rows.slot_tuple_getitem.lookup,ht.typeIs,?_⟩
 exact HT.getItem_tuple_all ht hs pl pu (by rw [hlen];exact hw) ⟨.ref a,H,I,rfl,q⟩
def pNoI:Pu (Option Int):=fun _=>.ret none
def asI (d:D):M (Option Int):=match d with
 | .int i=>.ret (some i)
 | _=>.bad
def pInt (p:Pu D):Pu (Option Int):=fun ρ=>bd (p ρ) asI
def fCut (d:D) (lo hi:Option Int):Option D:=match d with
 | .tuple ds=>some (.tuple (cutD ds lo hi))
 | .list ds=>some (.list (cutD ds lo hi))
 | _=>none
def XX_ (d:D) (lo hi:Option Int):Option (List D):=match d with
 | .list ds=>some (cutD ds lo hi)
 | _=>none
def V1_ (p:Pu D) (l h:Pu (Option Int)):Pu D:=fun ρ=>bd (p ρ) fun d=>bd (l ρ) fun lo=>bd (h ρ) fun hi=>oM (fCut d lo hi)
def APo (X:Cx) (e:Option Expr) (p:Pu (Option Int)):Prop :=
 ∀ (G:Gh) (F:Hp) (σ:L2.St) (H:Hp) (ρ:En) (Q:Option Int→Hp→Prop),StOk X.K G F σ H ρ→W X G F σ ρ (p ρ) (fun d F' H'=>Q d H')→∀ (pins:List (Addr×Obj)) (s:Shared),Inv X pins σ H s →
  wpAny (model X.prog X.w) X.A (evalPart e X.env) (fun u s'=>∃ o H',Inv X pins σ H' s'∧IsPart u o∧Q o H') X.xe s
def WX_ (X:Cx) (e:Option Expr):TO:=fun σ H Q=>∀ (pins:List (Addr×Obj)) (s:Shared),Inv X pins σ H s→wpAny (model X.prog X.w) X.A (evalPart e X.env) (fun u s'=>∃ o H',Inv X pins σ H' s'∧IsPart u o∧Q o H') X.xe s
theorem Qj_ {X:Cx} {e:Option Expr}:PO X e (WX_ X e):=fun pins s σ H Q I h=>h pins s I
section
variable {X:Cx} {e:Expr} {lo hi:Option Expr} {p:Pu D} {pl ph:Pu (Option Int)} {pos p2:Pos}
theorem Y8_:APo X none pNoI:=fun G F σ H ρ Q S w pins s I=>QZ_ pins s σ H Q I (w F H (Same.refl _) S)
theorem Y7_ (h:AP X e p):APo X (some e) (pInt p):=fun G F σ H ρ Q S w pins s I=>QY_ zu_ pins s σ H Q I (h G F σ H ρ _ S (w.bind.imp fun d F1 H1 s1 S1 w1 v r=>by
 cases r with
 | int i=>exact ⟨i,rfl,w1 F1 H1 (Same.refl _) S1⟩
 | bl b=>exact w1.elim
 | non=>exact w1.elim
 | str i=>exact w1.elim
 | tup _ _=>exact w1.elim
 | lst _ _=>exact w1.elim
 | dct _ _ _=>exact w1.elim
 | dck _ _ _=>exact w1.elim))
theorem Y9_ (he:AO X e p) (hl:APo X lo pl) (hh:APo X hi ph):AP X (.Subscript e (.Slice lo hi none p2) pos) (V1_ p pl ph) :=
 fun G F σ H ρ Q S w=>sem (YH_ (sl_tup.or (sl_tupA.or QI_)) zu_ Qj_ Qj_) (he G F σ H ρ _ S (w.bind.imp fun d F1 H1 s1 S1 w1 x hx =>
  hl G F1 σ H1 ρ _ S1 (w1.bind.imp fun lo F2 H2 s2 S2 w2=>hh G F2 σ H2 ρ _ S2 (w2.bind.imp fun hi F3 H3 s3 S3 w3=>by
   obtain ⟨res,hr,k⟩:=w3.opt
   have ox:=(hx.mono (s2.trans s3)).or S3
   cases d<;>try (cases hr)
   ·obtain ⟨a,vs,rfl,h1,h2⟩:=ox.list S3.fh
    refine .inr (.inr ⟨a,vs,rfl,h1,fun q hq=>?_⟩)
    obtain ⟨S4,r4⟩:=S3.newLst hq (U4_ h2 lo hi)
    obtain ⟨F5,s5,S5,r5⟩:=S4.settle r4
    exact k F5 _ s5 S5 _ r5
   ·rename_i ds
    obtain ⟨a,vs,rfl,h1,h2⟩:=ox.tuple S3.fh
    by_cases hw:HT.sIx vs.length 0 lo=0∧HT.sIx vs.length vs.length hi=vs.length
    ·refine .inr (.inl ⟨a,vs,rfl,h1,hw,k F3 H3 (Same.refl _) S3 _ ?_⟩)
     have:cutD ds lo hi=ds:=by
      unfold cutD
      rw [←h2.length,hw.1,hw.2]
      simp [h2.length]
     rw [this]
     exact ox.tup'
    ·refine .inl ⟨a,vs,rfl,h1,hw,fun q hq=>?_⟩
     obtain ⟨s4,S4,r4⟩:=S3.newTup hq (U4_ h2 lo hi)
     exact k _ _ s4 S4 _ r4))))
end
def XS_ (d e:D):Option Bool:=match d,e with
 | .bool a,.bool b=>some (a==b)
 | _,.none=>some (isNone d)
 | _,_=>none
def boolsOf:List D→Option (List Bool)
 | []=>some []
 | .bool b::r=>match boolsOf r with
  | some l=>some (b::l)
  | none=>none
 | _=>none
def fAll:List D→Option Bool
 | [.list ds]=>(boolsOf ds).map fun bs=>bs.all id
 | _=>none
def Y0_:List D→Option (List D)
 | [.list ds]=>some ds
 | [.tuple ds]=>some ds
 | _=>none
def Xe_ (K:Fg):List V→Hp→VK→Prop:=fun xs H Q=>∃ p ys,xs=[.ref p]∧(SqL K H p ys∨SqT K H p ys)∧∀ l,H l=none→Q (.ref l) (upd H l (.lst ys))
theorem Uo_ {K:Fg}:Qa_ K (Xe_ K) Y0_:=by
 intro G F σ H ρ xs ds res Q S o e k
 unfold Y0_ at e
 split at e
 ·cases e
  obtain ⟨v,r,rfl,ho,hr⟩:=zy_ o
  obtain rfl:=zT_ hr
  obtain ⟨a,vs,rfl,h1,h2⟩:=ho.list S.fh
  refine ⟨a,vs,rfl,.inl h1,fun l hl=>?_⟩
  obtain ⟨S2,r2⟩:=S.newLst hl h2
  exact k _ F _ (Same.refl _) S2 r2
 ·cases e
  obtain ⟨v,r,rfl,ho,hr⟩:=zy_ o
  obtain rfl:=zT_ hr
  obtain ⟨a,vs,rfl,h1,h2⟩:=ho.tuple S.fh
  refine ⟨a,vs,rfl,.inr h1,fun l hl=>?_⟩
  obtain ⟨S2,r2⟩:=S.newLst hl h2
  exact k _ F _ (Same.refl _) S2 r2
 ·cases e
def fInt:List D→Option D
 | [.int i]=>some (.int i)
 | [.bool b]=>some (.int (if b then 1 else 0))
 | _=>none
theorem Wf_ {K:Fg}:y0_ K (fun xs H Q=>(∃ i,xs=[.int i]∧Q (.int i) H)∨∃ k,xs=[.bl k]∧Q (.int (if k then 1 else 0)) H) fInt:=by
 intro G F σ H ρ xs ds res Q S o e k
 unfold fInt at e
 split at e
 ·cases e
  obtain ⟨v,r,rfl,ho,hr⟩:=zy_ o
  obtain rfl:=zT_ hr
  exact .inl ⟨_,by rw [ho.int],k _ F H (Same.refl _) S (.int _)⟩
 ·cases e
  obtain ⟨v,r,rfl,ho,hr⟩:=zy_ o
  obtain rfl:=zT_ hr
  exact .inr ⟨_,by rw [ho.bool],k _ F H (Same.refl _) S (.int _)⟩
 ·cases e
end L4
set_option Elab.async false
set_option linter.all false
set_option maxRecDepth 100000
namespace L4
open PySem PySem.Spec PyProof.Rows L2 L3
section
variable {S:Type}
def putD (ds:List D) (j d:D):Option (List D):=match j with
 | .int k=>(ixN ds.length k).map fun q=>ds.set q d
 | _=>none
def sPut (i:Nat) (mi me:Ev S D):SM S:=fun K ρ=>me K.x (fun d ρ1=>match ownL ρ1 i with
 | some _=>mi K.x (fun j ρ2=>match ownL ρ2 i with
  | some ds=>(oM (putD ds j d)).on (fun e=>K.x e ρ2) (fun ds'=>K.nx (setO ρ2 i ds'))
  | none=>.bad) ρ1
 | none=>.bad) ρ
variable {X:Cx} {a b e:Expr} {mi me:Ev S D} {pos pos' tpos apos cpos:Pos} {ml:Ev S (List D)}
theorem Qv_ {i:Nat} {x:Str} (hN:X.N[i]? = some x) (hv:Vis X.env.scope x) (hi:AE X b mi) (he:AE X e me) (ha:∀ v,assign (.Subscript (.Name x pos') b tpos) X.env v=(do
   let ov ←holding [v] (eval (.Name x pos') X.env)
   let iv ←holding [v,ov] (eval b X.env)
   standAt tpos
   holding [v,ov,iv] (setItem ov iv v)
   release [v,ov,iv] []))
  (hs:swapsWithSole [.Subscript (.Name x pos') b tpos] e pos.line X.env=pure false) (hw:swappedStores [.Subscript (.Name x pos') b tpos] e X.env=pure none)
  (h1:(assignEach [.Subscript (.Name x pos') b tpos] X.env).map (·.2)=[assign (.Subscript (.Name x pos') b tpos) X.env])
  (hd:(x==("__debug__" : Str))=false:=by decide) (hcd:(x==("__classdict__" : Str))=false:=by decide):AS X (.Assign [.Subscript (.Name x pos') b tpos] e pos) (sPut i mi me):=fun OK K G F σ H ρ E hO hX St ok eo =>
 semS (VT_ zu_ (VV_ (ux_ hN hv hd hcd) zu_ set_list ha) hs hw h1) (he OK K.x _ G F σ H ρ _ hO hX St ok fun d v F1 H1 ρ1 s1 S1 r1 o1=>by
  split at o1
  case h_2=>exact (hO o1).elim
  rename_i ds0 hd0
  obtain ⟨a,vs0,ea,_,_⟩:=jw_ S1 hd0
  refine ⟨_,ea,hi OK K.x _ G F1 σ H1 ρ1 _ hO hX S1 o1 fun j u F2 H2 ρ2 s2 S2 r2 o2=>?_⟩
  split at o2
  case h_2=>exact (hO o2).elim
  rename_i ds hds
  obtain ⟨ds',hp,o3⟩:=yl_ hO o2
  obtain ⟨a',vs,ea',hh,rv⟩:=jw_ S2 hds
  rw [ea] at ea'
  injection ea' with ea';injection ea' with ea';injection ea' with ea'
  subst ea'
  unfold putD at hp
  split at hp
  ·rename_i k
   obtain ⟨q,hq,rfl⟩:=Option.map_eq_some_iff.mp hp
   cases r2
   refine ⟨a,vs,k,q,rfl,rfl,hh,by rw [rv.length];exact hq,?_⟩
   exact eo.nx F2 σ _ _ (s1.trans s2) (uN_ S2 hds ea (RepL.set (r1.mono s2) q rv)) o3
  ·cases hp)
end
end L4
set_option Elab.async false
set_option linter.all false
set_option maxRecDepth 100000
namespace L4
open PySem PySem.Spec PyProof.Rows L2 L3
def kindB (k:NameKind):Option NameKind→Bool
 | some k'=>k==k'
 | none=>false
def U6_ (N N':List Str) (k:Nat) (scope sc:Scope):Bool :=
 (scope.kind==.function)&&(N'.length==N.length+k)&&scope.names.all (fun y=>y.2 != .cell)&&scope.names.all (fun y=>y.2 != .local||kindB .local (scope.names.lookup y.1))
  && ((List.range N.length).all fun i=>match N'[i]? with
   | some x=>!(kindB .free (scope.names.lookup x)||kindB .local (scope.names.lookup x)||kindB .cell (scope.names.lookup x))||(N[i]? == some x&&kindB .free (scope.names.lookup x))
   | none=>true)
  && scope.names.all (fun y=>y.2 != .free||kindB .cell (sc.names.lookup y.1)||kindB .free (sc.names.lookup y.1))
theorem uH_ {k:NameKind} {o:Option NameKind} (h:kindB k o=true):o=some k:=by
 cases o with
 | none=>cases h
 | some k'=>simp [kindB] at h;rw [h]
theorem YU_ {k:NameKind} {o:Option NameKind} (h:o=some k):kindB k o=true:=by subst h;simp [kindB]
theorem z5_ {X:Cx} {N N':List Str} {k:Nat} {scope sc:Scope} (h:U6_ N N' k scope sc=true) (hN:X.N=N) (hs:X.env.scope=sc):CompOk X N' k scope:=by
 subst hN hs
 simp only [U6_,Bool.and_eq_true,List.all_eq_true,beq_iff_eq,Bool.or_eq_true,bne_iff_ne,ne_eq] at h
 obtain ⟨⟨⟨⟨⟨h1,h2⟩,h3⟩,h4⟩,h5⟩,h6⟩:=h
 refine ⟨h1,h2,fun y hy=>h3 y hy,fun y hy hl=>?_,fun i x hi hx _ hk=>?_,fun y hy hf=>?_⟩
 ·rcases h4 y hy with z|z
  ·exact absurd hl z
  ·exact uH_ z
 ·have:=h5 i (List.mem_range.mpr hi)
  rw [hx] at this
  simp only [Bool.or_eq_true,Bool.not_eq_true',Bool.and_eq_true,beq_iff_eq] at this
  rcases this with z|⟨z1,z2⟩
  ·exfalso
   rcases hk with hk|hk|hk<;>simp [YU_ hk] at z
  ·exact ⟨z1,uH_ z2⟩
 ·rcases h6 y hy with (z|z)|z
  ·exact absurd hf z
  ·exact .inl (uH_ z)
  ·exact .inr (uH_ z)
theorem UB_ {K:Fg} {H:Hp} {a:Addr} {ns:List Int} {mf:List D→M D} (hS:SqL K H a (ns.map V.int)) (h:mf [.list (ns.map PyData.int)]=.ret (.bool true)):spD K 1 mf [.ref a] H (fun v _=>v=.bl true) fun _ _ _=>False:=by
 refine ⟨⟨fun _=>none,fun _=>none,H⟩,H,[.list (ns.map PyData.int)],rfl,⟨Same.refl _,fun b o z=>(nomatch z),fun b o z=>(nomatch z),rfl,fun i d z=>?_,fun i c z=>(j7_ (ds:=[.list (ns.map PyData.int)]) z).elim,fun i j c e a z=>(j7_ (ds:=[.list (ns.map PyData.int)]) z).elim,fun i a z=>(nomatch z),fun i c z=>?_,Same.refl _⟩,?_⟩
 ·obtain ⟨d',e,q⟩:=uV_ (ds:=[.list (ns.map PyData.int)]) z
  cases e
  cases i with
  | zero=>simp at q;subst q;exact ⟨_,rfl,.lst hS (RepL.ints ns)⟩
  | succ i=>simp at q
 ·obtain ⟨d',e,q⟩:=uV_ (ds:=[.list (ns.map PyData.int)]) z
  cases e
 ·rw [h]
  intro v F' H' s S' r
  cases r
  rfl
end L4
set_option Elab.async false
set_option linter.all false
set_option maxRecDepth 100000
namespace L4
open PySem PySem.Spec PyProof.Rows L2 L3
def isStar:Expr→Bool
 | .Starred _ _=>true
 | _=>false
theorem za_ {env:Env}:∀ {e:Expr} {es:List Expr},isStar e=false→starEach (e::es) env=(false,eval e env)::starEach es env:=by
 intro e es h
 cases e<;>first|rfl|cases h
end L4
set_option Elab.async false
set_option linter.all false
set_option maxRecDepth 100000
namespace L4
open PySem PySem.Spec PyProof.Rows L2 L3
noncomputable def forS {S T:Type}:(T→D→(T→M S)→M S)→List D→T→(T→M S)→M S:=Classical.choose (⟨@forC S T,rfl⟩:∃ f,f = @forC S T)
theorem jc_ {S T:Type} : @forS S T = @forC S T:=Classical.choose_spec (⟨@forC S T,rfl⟩:∃ f,f = @forC S T)
section
variable {S:Type}
noncomputable def QK_ (sh:List Kd) (it:Ev S (List D)) (t:Tg S) (mb:SM S):SM S:=fun K ρ=>it K.x (fun ds ρ1=>rdk sh (fun s=>forS (fun s d kn=>t d (fun ρ2=>mb (YQ_ sh K kn) ρ2) (wr sh s)) ds s (fun s'=>K.nx (wr sh s'))) ρ1) ρ
theorem Yz_ (sh:List Kd) (it:Ev S (List D)) (t:Tg S) (mb:SM S):QK_ sh it t mb=sFor sh it t mb:=by
 unfold QK_ sFor
 rw [jc_]
variable {X:Cx} {mb:SM S} {c:Expr} {mt:Ev S Bool} {ml:Ev S (List D)} {pos:Pos}
theorem je_ {tg iter:Expr} {body:List Stmt} {sh:List Kd} {t:Tg S} (hp:PassesOwn (model X.prog X.w) X.A X.env X.xe) (hc:X.calm=true) (hi:AEi X tg iter ml) (hg:AG X 0 tg t) (hb:ASs X body mb)
  (hs:∀ x,foldedSetIterable iter X.env x=pure x):AS X (.For tg iter body [] pos) (QK_ sh ml t mb):=by
 rw [Yz_]
 exact WR_ hp hc hi hg hb hs
end
end L4
set_option Elab.async false
set_option linter.all false
set_option maxRecDepth 100000
namespace HT
open PySem PySem.Spec PyProof.Rows
section
variable {prog:Program} {w:World} {A:Around} {E:Value→Shared→Prop} {s:Shared} {xs:Array (Int×Tok)} {l:Addr}
theorem max_intTup {Q:Value→Shared→Prop} (hh:A.handled=none) (hl:s.heap.IsTuple l (intItems xs)) (hne:0<xs.size)
  (h:∀ v h' tk,(intItems xs)[argBest (fun i j=>decide (numAt xs i>numAt xs j)) (xs.size - 1)]? = some v→(∀ b o,s.heap.get? b=some o→h'.get? b=some o)→Q v { s with heap:=h',toks:=tk }) :
  wpAny (model prog w) A (call (.builtin "max") [.ref l]) Q E s:=by
 have hlt:l<s.heap.objs.size:=by obtain ⟨_,e,_⟩:=hl;exact Heap.lt_size e
 refine call_max_walk (wpAny_pyIter_tuple hl ?_)
 refine ⟨_,_,_,_,_,_,_,rfl,Walks.tuple (A:=A.in1) hh _ l (Nat.ne_of_lt hlt) (intItems xs),⟨⟨_,Heap.get?_push_size _ rfl,rfl,rfl⟩,?_⟩,fun b hb=>?_,by simpa [intItems] using hne,CmpOf.ints_gt (numAt xs) (fun _ _=>intItems_at),fun v h' tk hP hk=>?_⟩
 ·obtain ⟨o,e,r⟩:=hl
  exact ⟨o,Heap.get?_push_of_some _ e,r⟩
 ·show b<(s.heap.push _).objs.size
  rw [Heap.size_push]
  rcases List.mem_cons.mp hb with rfl|hb
  ·exact Nat.lt_succ_self _
  ·rcases List.mem_cons.mp hb with rfl|hb
   ·exact Nat.lt_succ_of_lt hlt
   ·cases hb
 ·refine h v h' tk (by simpa [intItems] using hP) fun b o e=>hk b o (fun hm=>?_) (Heap.get?_push_of_some _ e)
  rcases List.mem_cons.mp hm with e1|hm
  ·exact absurd (e1▸Heap.lt_size e) (Nat.lt_irrefl _)
  ·cases hm
end
end HT
namespace L4
open PySem PySem.Spec PyProof.Rows L2 L3
def XN_:D→D→Option D
 | .tuple (a::r),.int k=>if decide (-(2^63)≤k)&&decide (k<2^63)&&decide ((a::r).length*k.toNat≤sizeLine) then some (.tuple (List.replicate k.toNat (a::r)).flatten) else none
 | _,_=>none
def Vn_:List D→Option D
 | [.tuple ds]=>match intsOf ds with
  | some (n::r)=>some (.int (maxL (n::r)))
  | _=>none
 | _=>none
def Uj_ (K:Fg) (f:List Int→Option Int):List V→Hp→VK→Prop:=fun xs H Q=>∃ a ns i,xs=[.ref a]∧SqT K H a (ns.map V.int)∧f ns=some i∧Q (.int i) H
theorem Q7_ {K:Fg}:y0_ K (Uj_ K gMax) Vn_:=by
 intro G F σ H ρ xs ds res Q S o e k
 unfold Vn_ at e
 split at e
 ·split at e
  ·rename_i hns
   cases e
   obtain ⟨v,r,rfl,ho,hr⟩:=zy_ o
   obtain rfl:=zT_ hr
   obtain ⟨a,vs,rfl,h1,h2⟩:=ho.tuple S.fh
   rw [jE_ hns] at h2
   rw [jC_ h2] at h1
   exact ⟨a,_,_,rfl,h1,rfl,k _ F H (Same.refl _) S (show Rep K F _ _ from .int _)⟩
  ·cases e
 ·cases e
theorem Ya_ {X:Cx} (hc:X.calm=true):CallR X (.builtin "max") (Uj_ X.K gMax):=by
 intro pins s σ H xs us Q I r h0
 obtain ⟨a,ns,i,rfl,hq,e,q⟩:=h0
 obtain ⟨u,rfl,ru⟩:=Vals.one r
 cases ru
 obtain ⟨its,rv,pl,hz⟩:=I.tuple hq
 obtain ⟨ps,rfl,rfl⟩:=uf_ rv
 have hne:ps≠[]:=by rintro rfl;cases e
 have hne':ps.map Prod.fst≠[]:=by simpa using hne
 have ei:i=maxL (ps.map Prod.fst):=by
  cases hp:ps.map Prod.fst with
  | nil=>exact absurd hp hne'
  | cons n r=>rw [hp] at e;cases e;rfl
 subst ei
 have hl:s.heap.IsTuple a (intItems ps.toArray):=by
  have:s.heap.IsTuple a _:=pl
  unfold intItems
  simpa using this
 have hpos:0<ps.length:=List.length_pos_iff.mpr hne
 refine HT.max_intTup (I.ok.hd hc) hl (by simpa using hpos) fun v h' tk hv hk=>?_
 obtain ⟨t,rfl⟩:=intItems_at hv
 refine ⟨.int _,H,I.kept hk,⟨_,rfl⟩,?_⟩
 have b:=argBest_gt (numAt ps.toArray) (ps.toArray.size - 1)
 generalize argBest (fun i j=>decide (numAt ps.toArray i>numAt ps.toArray j)) (ps.toArray.size - 1)=m at b hv
 have hm:m<ps.length:=by
  have h0:=b.1
  simp at h0
  omega
 have hsp:=Zi_ hne'
 have e1:numAt ps.toArray m=maxL (ps.map Prod.fst):=by
  refine Int.le_antisymm ?_ ?_
  ·refine hsp.1 _ ?_
   rw [uD_,List.getD_eq_getElem?_getD,List.getElem?_eq_getElem (by simpa using hm)]
   exact List.getElem_mem _
  ·obtain ⟨j,hj,ej⟩:=List.getElem_of_mem hsp.2
   have h0:=b.2 j (by simp at hj ⊢;omega)
   rw [uD_,List.getD_eq_getElem?_getD,List.getElem?_eq_getElem hj] at h0
   rw [←ej]
   exact h0
 rw [e1]
 exact q
end L4
set_option Elab.async false
set_option linter.all false
set_option maxRecDepth 100000
namespace L4
open PySem PySem.Spec PyProof.Rows L2 L3
def mExt (ds es:List D):Option (List D):=if decide (ds.length+es.length≤sizeLine) then some (ds++es) else none
section
variable {S:Type} {X:Cx} {e c:Expr} {ml:Ev S (List D)} {pos pos' apos cpos:Pos} {m:SM S}
theorem yY_ {i:Nat} {x:Str} (hN:X.N[i]? = some x) (hv:Vis X.env.scope x) (he:AEl X e ml)
  (hbase:attributeBase (.Name x pos') "extend" X.env (eval (.Name x pos') X.env)=eval (.Name x pos') X.env)
  (hfew:((backTo cpos (starEach [e] X.env)).all (fun x=>!x.1)&&(backToKw cpos (keywordEach [] X.env)).all (fun x=>x.1.isSome)
   && decide ([e].length+([]:List Keyword).length+(if ([]:List Keyword).isEmpty then 0 else 1)<30))=true)
  (hline:(apos.endLine==cpos.line)=true) (hs:starEach [e] X.env=(false,eval e X.env)::starEach [] X.env) (hplain:(backTo cpos (starEach [] X.env)).any (·.1)=false)
  (hsw:swapsWith (.Call (.Attribute (.Name x pos') "extend" apos) [e] [] cpos) none pos.line X.env=pure false) (hd:(x==("__debug__" : Str))=false:=by decide) (hcd:(x==("__classdict__" : Str))=false:=by decide) :
  AS X (.Expr (.Call (.Attribute (.Name x pos') "extend" apos) [e] [] cpos) pos) (sMut i mExt ml):=fun OK K G F σ H ρ E hO hX St ok eo =>
 semS (yD_ (V0_ PySem.F.plainAttrs_list PySem.F.slot_list_extend PySem.F.type_list_extend Uq_ (ux_ hN hv hd hcd) (uh_ zu_ Zb_ hs) hbase hfew hline hs hplain) hsw) (by
  unfold sMut at ok
  split at ok
  case h_2=>exact (hO ok).elim
  ·rename_i ds0 h0
   obtain ⟨a,vs0,ea,hh,_⟩:=jw_ St h0
   refine ⟨_,ea,.inl ⟨rfl,vs0,.inl (.inl hh)⟩,he OK K.x _ G F σ H ρ _ hO hX St ok fun es v F1 H1 ρ1 s1 S1 fr o1=>?_⟩
   split at o1
   ·rename_i ds hds
    obtain ⟨ds',hf,o2⟩:=yl_ hO o1
    obtain ⟨a',vs,ea',hh',rv⟩:=jw_ S1 hds
    rw [ea] at ea'
    injection ea' with ea';injection ea' with ea';injection ea' with ea'
    subst ea'
    obtain ⟨b,rfl,ob,_⟩:=fr
    obtain ⟨ws,g1,g2⟩:=ob.he
    unfold mExt at hf
    split at hf
    ·rename_i hz
     cases hf
     refine ⟨a,b,vs,ws,rfl,rfl,hh',g1,by rw [rv.length,g2.length];simpa using hz,?_⟩
     exact eo.nx F1 σ _ _ s1 (uN_ S1 hds ea (rv.append g2)) o2
    ·cases hf
   ·exact (hO o1).elim)
end
end L4
set_option Elab.async false
set_option linter.all false
set_option maxRecDepth 100000
namespace L4
open PySem PySem.Spec PyProof.Rows L2 L3
def j8_:D→Bool
 | .int _=>true
 | .str _=>true
 | _=>false
def uR_:D→Bool
 | .tuple ds=>ds.all j8_
 | _=>false
def UF_:D→D→Bool
 | .int i,.int j=>decide (i=j)
 | .str i,.str j=>decide (i=j)
 | _,_=>false
def ZR_:List D→List D→Bool
 | [],[]=>true
 | a::r,b::t=>UF_ a b&&ZR_ r t
 | _,_=>false
def keyQ:D→D→Bool
 | .tuple a,.tuple b=>ZR_ a b
 | a,b=>UF_ a b
def keyOk (es:List (D×D)) (k:D):Bool:=(uR_ k&&es.all fun p=>uR_ p.1)||(j8_ k&&es.all fun p=>j8_ p.1)
def getE (es:List (D×D)) (k:D):Option D:=(es.find? fun p=>keyQ p.1 k).map (·.2)
theorem Jo_ (a b:Key):UF_ (keyD a) (keyD b)=decide (a=b):=by
 cases a<;>cases b<;>simp [UF_,keyD]
theorem Jn_:∀ (a b:List Key),ZR_ (a.map keyD) (b.map keyD)=decide (a=b)
 | [],[]=>by simp [ZR_]
 | [],_::_=>by simp [ZR_]
 | _::_,[]=>by simp [ZR_]
 | x::xs,y::ys=>by
  simp only [List.map_cons,ZR_,Jo_,Jn_ xs ys]
  by_cases h:x=y<;>by_cases g:xs=ys<;>simp [h,g]
theorem Wz_ (a b:List Key):keyQ (keyT a) (keyT b)=decide (a=b):=Jn_ a b
theorem WA_ (a b:Key):keyQ (keyD a) (keyD b)=decide (a=b):=by
 have h:keyQ (keyD a) (keyD b)=UF_ (keyD a) (keyD b):=by cases a<;>cases b<;>rfl
 rw [h];exact Jo_ a b
theorem uS_ {d:D} (h:j8_ d=true):∃ k,d=keyD k:=by
 cases d<;>first|exact ⟨.inl _,rfl⟩|exact ⟨.inr _,rfl⟩|cases h
theorem yp_:∀ {ds:List D},ds.all j8_=true→∃ k:List Key,ds=k.map keyD
 | [],_=>⟨[],rfl⟩
 | d::ds,h=>by
  rw [List.all_cons,Bool.and_eq_true] at h
  obtain ⟨k,rfl⟩:=uS_ h.1
  obtain ⟨ks,rfl⟩:=yp_ h.2
  exact ⟨k::ks,rfl⟩
theorem Zm_ {d:D} (h:uR_ d=true):∃ k,d=keyT k:=by
 cases d<;>first|cases h|skip
 obtain ⟨k,rfl⟩:=yp_ h
 exact ⟨k,rfl⟩
theorem YW_ (k:Key):uR_ (keyD k)=false:=by cases k<;>rfl
theorem YX_ (k:List Key):j8_ (keyT k)=false:=rfl
section
variable {K:Fg} {F H:Hp} {v:V}
theorem yC_ {k:Key} (r:Rep K F v (keyD k)):v=kV k:=by
 cases k with
 | inl i=>cases (show Rep K F v (.int i) from r);rfl
 | inr i=>cases (show Rep K F v (.str i) from r);rfl
theorem y9_:∀ {vs:List V} {k:List Key},RepL K F vs (k.map keyD)→vs=k.map kV
 | _,[],r=>by rw [List.map_nil] at r;cases r;rfl
 | _,k::ks,r=>by
  rw [List.map_cons] at r
  cases r with
  | cons a b=>rw [yC_ a,y9_ b];rfl
theorem Z9_ {k:List Key} (r:Rep K F v (keyT k)):∃ b,v=.ref b∧F b=some (.tup (k.map kV)):=by
 unfold keyT at r
 cases r with
 | tup h1 h2=>rw [y9_ h2] at h1;exact ⟨_,rfl,h1⟩
def DT (K:Fg) (F H:Hp) (a:Addr) (es:List (D×D)):Prop:=∃ kvs,H a=some (.dT kvs)∧es.map (·.1)=kvs.map (fun p=>keyT p.1)∧RepL K F (kvs.map (·.2)) (es.map (·.2))
def DK (K:Fg) (F H:Hp) (a:Addr) (es:List (D×D)):Prop:=∃ kvs,H a=some (.dK kvs)∧es.map (·.1)=kvs.map (fun p=>keyD p.1)∧RepL K F (kvs.map (·.2)) (es.map (·.2))
theorem OR.dict {es:List (D×D)} (s:Same F H) (h:OR K F H v (.dict es)):∃ a,v=.ref a∧(DT K F H a es∨DK K F H a es):=by
 rcases h with h|⟨a,c,e,e2,h1⟩
 ·cases h with
  | dct h1 h2 h3=>exact ⟨_,rfl,.inl ⟨_,s _ _ h1,h2,h3⟩⟩
  | dck h1 h2 h3=>exact ⟨_,rfl,.inr ⟨_,s _ _ h1,h2,h3⟩⟩
 ·cases c<;>cases e2
  ·exact ⟨a,e,.inl h1⟩
  ·exact ⟨a,e,.inr h1⟩
theorem ZT_ {κ:Type} [DecidableEq κ] {kd:κ→D} (inj:∀ a b,keyQ (kd a) (kd b)=decide (a=b)) (k:κ):∀ {kvs:List (κ×V)} {es:List (D×D)},es.map (·.1)=kvs.map (fun p=>kd p.1)→RepL K F (kvs.map (·.2)) (es.map (·.2)) →
  (∃ d v,getE es (kd k)=some d∧valV kvs k=some v∧Rep K F v d)∨(getE es (kd k)=none∧valV kvs k=none)
 | [],[],_,_=>.inr ⟨rfl,rfl⟩
 | [],_::_,e,_=>by simp at e
 | _::_,[],e,_=>by simp at e
 | p::kvs,q::es,e,r=>by
  simp only [List.map_cons,List.cons.injEq] at e
  cases r with
  | cons r1 r2 =>
   unfold getE valV
   rw [List.find?_cons,List.find?_cons,e.1,inj]
   by_cases h:p.1=k
   ·simp only [h,decide_true]
    exact .inl ⟨_,_,rfl,rfl,r1⟩
   ·simp only [h,decide_false]
    exact ZT_ inj k e.2 r2
end
def Jw_ (H:Hp) (a:Addr):Prop:=H a=some (.dT [])∨H a=some (.dK [])
theorem JX_ {X:Cx} {pins:List (Addr×Obj)} {σ:L2.St} {H:Hp} {s:Shared} {a:Addr} (I:Inv X pins σ H s) (h:Jw_ H a) :
  s.heap.DictOfH (tupleKind (zv_ X.prog X.w)) a []∧s.heap.DictOf (zv_ X.prog X.w) a []∧(a==sysModules)=false:=by
 rcases h with h|h
 ·obtain ⟨z,y,xs,kt,o,es,ep,h1,h2,h3,h4,h5,h6⟩:=WJ_ I.hok h
  cases kt
  have e0:es = #[]:=by
   have:es.toList=[]:=h4
   exact Array.toList_inj.mp this
  subst e0
  exact ⟨⟨o,_,ep,h1,h2,h3,rfl,(fun x hx=>by simp at hx),List.nodup_nil⟩,⟨o,_,ep,h1,h2,h3,fun e he=>by simp at he,.nil,List.nodup_nil⟩,y⟩
 ·obtain ⟨z,y,vs,kv,o,es,ep,h1,h2,h3,h4,h5,h6⟩:=WK_ I.hok h
  cases kv
  have e0:es = #[]:=by
   have:es.toList=[]:=by
    generalize es.toList=l at h5
    cases h5
    rfl
   exact Array.toList_inj.mp this
  subst e0
  exact ⟨⟨o,_,ep,h1,h2,h3,rfl,(fun x hx=>by simp at hx),List.nodup_nil⟩,⟨o,_,ep,h1,h2,h3,fun e he=>by simp at he,.nil,List.nodup_nil⟩,y⟩
theorem DT.empty {K:Fg} {F H:Hp} {a:Addr} (h:DT K F H a []):Jw_ H a:=by
 obtain ⟨kvs,h1,h2,_⟩:=h
 cases kvs with
 | nil=>exact .inl h1
 | cons _ _=>simp at h2
theorem DK.empty {K:Fg} {F H:Hp} {a:Addr} (h:DK K F H a []):Jw_ H a:=by
 obtain ⟨kvs,h1,h2,_⟩:=h
 cases kvs with
 | nil=>exact .inr h1
 | cons _ _=>simp at h2
def KeyV (H:Hp) (y:V):Prop:=(∃ k,y=kV k)∨∃ (b:Addr) (ks:List Key),y=.ref b∧H b=some (.tup (ks.map kV))
def DAsk (H:Hp) (a:Addr) (y:V) (o:Option V):Prop:=DGet H a y o∨(Jw_ H a∧KeyV H y∧o=none)
theorem Qu_ {K:Fg} {F H:Hp} {a:Addr} {y:V} {es:List (D×D)} {k:D} (s:Same F H) (h:DT K F H a es∨DK K F H a es) (r:Rep K F y k) (hk:keyOk es k=true) :
  (∃ d v,getE es k=some d∧DAsk H a y (some v)∧Rep K F v d)∨(getE es k=none∧DAsk H a y none):=by
 unfold keyOk at hk
 rw [Bool.or_eq_true,Bool.and_eq_true,Bool.and_eq_true] at hk
 have kT:uR_ k=true→KeyV H y:=fun h=>by
  obtain ⟨ks,rfl⟩:=Zm_ h
  obtain ⟨b,rfl,hb⟩:=Z9_ r
  exact .inr ⟨b,ks,rfl,s _ _ hb⟩
 have kK:j8_ k=true→KeyV H y:=fun h=>by
  obtain ⟨ks,rfl⟩:=uS_ h
  exact .inl ⟨ks,yC_ r⟩
 cases es with
 | nil =>
  refine .inr ⟨rfl,.inr ⟨?_,?_,rfl⟩⟩
  ·rcases h with h|h
   ·exact h.empty
   ·exact h.empty
  ·rcases hk with hk|hk
   ·exact kT hk.1
   ·exact kK hk.1
 | cons p es =>
  rcases h with ⟨kvs,h1,h2,h3⟩|⟨kvs,h1,h2,h3⟩
  ·rcases hk with ⟨hk,_⟩|⟨_,hk⟩
   ·obtain ⟨ks,rfl⟩:=Zm_ hk
    obtain ⟨b,rfl,hb⟩:=Z9_ r
    rcases ZT_ Wz_ ks h2 h3 with ⟨d,v,e1,e2,e3⟩|⟨e1,e2⟩
    ·exact .inl ⟨d,v,e1,.inl (e2▸DGet.t h1 (s _ _ hb)),e3⟩
    ·exact .inr ⟨e1,.inl (e2▸DGet.t h1 (s _ _ hb))⟩
   ·exfalso
    cases kvs with
    | nil=>simp at h2
    | cons q kvs =>
     simp only [List.map_cons,List.cons.injEq] at h2
     rw [List.all_cons,h2.1,YX_,Bool.false_and] at hk
     cases hk
  ·rcases hk with ⟨_,hk⟩|⟨hk,_⟩
   ·exfalso
    cases kvs with
    | nil=>simp at h2
    | cons q kvs =>
     simp only [List.map_cons,List.cons.injEq] at h2
     rw [List.all_cons,h2.1,YW_,Bool.false_and] at hk
     cases hk
   ·obtain ⟨ks,rfl⟩:=uS_ hk
    obtain rfl:=yC_ r
    rcases ZT_ WA_ ks h2 h3 with ⟨d,v,e1,e2,e3⟩|⟨e1,e2⟩
    ·exact .inl ⟨d,v,e1,.inl (e2▸DGet.k h1),e3⟩
    ·exact .inr ⟨e1,.inl (e2▸DGet.k h1)⟩
section
variable {X:Cx} {pins:List (Addr×Obj)} {σ:L2.St} {H:Hp} {s:Shared} {a:Addr} {y d:V} {u r:Value} {o:Option V} {A:Around} {E:Value→Shared→Prop}
theorem WT_ {Q:Value→Shared→Prop} (hu:A.units+1<cLine) (I:Inv X pins σ H s) (g:DAsk H a y o) (ry:RelV y u) (rd:RelV d r) (h:∀ w' s',Inv X pins σ H s'→RelV (o.getD d) w'→Q w' s') :
  wpAny (model X.prog X.w) A (call (.builtin "dict.get") [.ref a,u,r]) Q E s:=by
 rcases g with g|⟨e,k,rfl⟩
 ·exact WL_ hu I g ry rd h
 ·obtain ⟨h1,h2,hd⟩:=JX_ I e
  rcases k with ⟨k,rfl⟩|⟨b,ks,rfl,hb⟩
  ·exact call_meetsIn PySem.F.slot_dict_get h2.typeIs PySem.F.entry_dict_get (PySem.F.args_dict_get_3 _ _ _) (meets_dict_get_default (zv_ X.prog X.w) a (YV_ ry) hd r) ⟨_,h2.mapOf,h _ _ (I.tok _) rd⟩
  ·cases (show u=Value.ref b from ry)
   exact call_meetsIn PySem.F.slot_dict_get h1.typeIs PySem.F.entry_dict_get (PySem.F.args_dict_get_3 _ _ _) (meetsH_dict_get_default (tupleKind (zv_ X.prog X.w)) a b hd r) ⟨tupleKind_room_in1 hu,ks,[],Jm_ I.hok hb,h1,h _ _ (I.tok _) rd⟩
theorem DT.isD {K:Fg} {F:Hp} {es:List (D×D)} (h:DT K F H a es∨DK K F H a es):IsD H a:=by
 rcases h with ⟨kvs,h1,_⟩|⟨kvs,h1,_⟩
 ·exact .inr ⟨_,.inl h1⟩
 ·exact .inl ⟨_,.inl h1⟩
end
end L4
set_option Elab.async false
set_option linter.all false
set_option maxRecDepth 100000
namespace L4
open PySem PySem.Spec PyProof.Rows L2 L3
def WM_:D→D→D→Option D
 | .dict es,k,z=>if keyOk es k then some ((getE es k).getD z) else none
 | _,_,_=>none
def Wb_ (d c:D):Option Bool:=match c with
 | .dict es=>if keyOk es d then some (getE es d).isSome else none
 | _=>opIn d c
def jb_ (x y:D):Option D:=match x with
 | .dict es=>if keyOk es y then getE es y else none
 | _=>opIx x y
def V3_ (po pe pf:Pu D):Pu D:=fun ρ=>bd (po ρ) fun d=>bd (noX (pe ρ)) fun k=>bd (noX (pf ρ)) fun z=>oM (WM_ d k z)
theorem W.nx {X:Cx} {G:Gh} {F:Hp} {σ:L2.St} {ρ:En} {α:Type} {m:M α} {C:α→Hp→Hp→Prop} (h:W X G F σ ρ (noX m) C):W X G F σ ρ m C:=by
 cases m with
 | ret a=>exact h
 | exc x=>exact h.elim
 | bad=>exact h.elim
def Vz_ (td ty tx:TE):TE:=fun σ H Q=>td σ H fun x H1=>∃ a,x=.ref a∧IsD H1 a∧ty σ H1 fun y H2=>tx σ H2 fun z H3=>∃ o,DAsk H3 a y o∧Q (o.getD z) H3
section
variable {X:Cx} {o e f:Expr} {apos cpos:Pos} {td ty tx:TE}
theorem YI_ (hu:X.A.units+1<cLine) (ho:PE X o td) (he:PE X e ty) (hf:PE X f tx) (m:M2 X o "get" apos e f cpos):PE X (.Call (.Attribute o "get" apos) [e,f] [] cpos) (Vz_ td ty tx):=by
 intro pins s σ H Q I h
 refine wpAny_Call_method m.base m.few m.line PySem.F.plainAttrs_dict PySem.F.slot_dict_get PySem.F.type_dict_get (thn (ho pins s σ H _ I h) fun u s1 ⟨x,H1,I1,rx,a,ex,d,q1⟩=>?_)
 subst ex
 obtain rfl:u=Value.ref a:=rx
 obtain ⟨t1,t2,_⟩:=WE_ I1 d
 refine ⟨t1,t2,?_⟩
 rw [m.trees]
 refine Calls.callWith_builtin rfl (Calls.evalArgs_plain (Calls.spliced_cons (thn (he pins s1 σ H1 _ I1 q1) fun iv s2 ⟨y,H2,I2,ry,q2⟩ =>
  Calls.spliced_cons (thn (hf pins s2 σ H2 _ I2 q2) fun fv s3 ⟨z,H3,I3,rz,ov,g,q3⟩=>Calls.spliced_nil ?_))))
 exact WT_ hu I3 g ry rz fun w' s4 I4 rw'=>⟨_,H3,I4,rw',q3⟩
end
section
variable {X:Cx} {o e f:Expr} {apos cpos pos:Pos} {po pe pf:Pu D}
theorem WV_ (hu:X.A.units+1100<cLine) (ho:AO X o po) (he:AP X e pe) (hf:AP X f pf) (m:M2 X o "get" apos e f cpos):AP X (.Call (.Attribute o "get" apos) [e,f] [] cpos) (V3_ po pe pf) :=
 fun G F σ H ρ Q S w=>sem (YI_ (by omega) zu_ zu_ zu_ m) (ho G F σ H ρ _ S (w.bind.imp fun d F1 H1 s1 S1 w1 v hv=>by
  have hd:∃ es,d=.dict es:=by
   cases hk:pe ρ with
   | ret k=>cases hz:pf ρ with
    | ret z =>
     rw [hk] at w1;simp only [jX_,uc_] at w1;rw [hz] at w1;simp only [jX_,uc_] at w1
     obtain ⟨res,e,_⟩:=w1.opt
     cases d<;>first|exact ⟨_,rfl⟩|cases e
    | exc x=>rw [hk] at w1;simp only [jX_,uc_] at w1;rw [hz] at w1;exact w1.elim
    | bad=>rw [hk] at w1;simp only [jX_,uc_] at w1;rw [hz] at w1;exact w1.elim
   | exc x=>rw [hk] at w1;exact w1.elim
   | bad=>rw [hk] at w1;exact w1.elim
  obtain ⟨es,rfl⟩:=hd
  obtain ⟨a,rfl,hh⟩:=(hv.or S1).dict S1.fh
  refine ⟨a,rfl,DT.isD hh,he G F1 σ H1 ρ _ S1 (w1.bind.nx.imp fun k F2 H2 s2 S2 w2 y hy=>hf G F2 σ H2 ρ _ S2 (w2.bind.nx.imp fun z F3 H3 s3 S3 w3 zv hz=>?_))⟩
  obtain ⟨res,e,kk⟩:=w3.opt
  dsimp only [WM_] at e
  split at e
  case isFalse=>cases e
  rename_i hk
  cases e
  obtain ⟨a',ea,hh3⟩:=(((hv.mono s2).mono s3).or S3).dict S3.fh
  cases ea
  rcases Qu_ S3.fh hh3 (hy.mono s3) hk with ⟨d,v,e1,g,r⟩|⟨e1,g⟩
  ·refine ⟨some v,g,?_⟩
   rw [e1] at kk
   exact kk F3 H3 (Same.refl _) S3 v r
  ·refine ⟨none,g,?_⟩
   rw [e1] at kk
   exact kk F3 H3 (Same.refl _) S3 zv hz))
end
def rDIx:R2:=fun x y H Q=>∃ a v,x=.ref a∧DGet H a y (some v)∧Q v H
def rIxA (K:Fg):R2:=fun x y H Q=>rIx K x y H Q∨rDIx x y H Q
section
variable {X:Cx}
theorem Vh_ (hu:X.A.units+1100<cLine):IxR X rDIx:=by
 intro value slice pins s σ H x y v u Q I rx ry ⟨a,w,e,g,q⟩ hs
 subst e
 obtain rfl:v=Value.ref a:=rx
 have hT:s.TypeIs (.ref a) "dict":=ZW_ I g
 unfold subscriptTail
 refine wpAny_bind ?_
 rw [getitemInPython_of_ne hT.not_modules]
 refine wpAny_bind (wpAny_specialOf hT PySem.F.slot_dict_getitem.lookup ?_)
 have h₂:wpAny (model X.prog X.w) X.A (getItem (.ref a) u) (EP X pins σ Q) X.xe s:=U3_ (by omega) I g ry fun w' s3 I3 rw'=>⟨w,H,I3,rw',q⟩
 have fin:wpAny (model X.prog X.w) X.A (subscripted slice false (.ref a) u) (fun r s₃=>wpAny (model X.prog X.w) X.A (letTemporaryGo value (.ref a) r >>= fun _=>pure r) (EP X pins σ Q) X.xe s₃) X.xe s:=by
  rw [hs]
  exact wpAny_operating (wpAny_mono h₂ (fun r s₃ h₃=>wpAny_bind (wpAny_letTemporaryGo (wpAny_pure h₃))) fun _ _ x=>x)
 first
  | exact wpAny_pure (wpAny_bind fin)
  | exact wpAny_bind (wpAny_pure (wpAny_bind fin))
  | exact wpAny_bind fin
theorem jq_ (hu:X.A.units+1100<cLine):IxR X (rIxA X.K):=IxR.or WC_ (Vh_ hu)
theorem UG_ {K:Fg} {F H:Hp} {y:V} {es:List (D×D)} {k:D} (h:OR K F H y k) (hk:keyOk es k=true):Rep K F y k:=by
 rcases h with h|⟨a,c,e,e2,h1⟩
 ·exact h
 ·exfalso
  subst e2
  unfold keyOk at hk
  cases c<;>simp [OC.d,uR_,j8_] at hk
theorem jo_ {K:Fg}:OpD K (rIxA K) jb_:=by
 intro G F σ H ρ x y dx dy res Q S ox oy e k
 unfold jb_ at e
 split at e
 ·rename_i es
  split at e
  case isFalse=>cases e
  rename_i hk
  obtain ⟨a,rfl,hh⟩:=ox.dict S.fh
  rcases Qu_ S.fh hh (UG_ oy hk) hk with ⟨d,v,e1,g,r⟩|⟨e1,g⟩
  ·rw [e1] at e
   cases e
   rcases g with g|⟨_,_,z⟩
   ·exact .inr ⟨a,v,rfl,g,k v F H (Same.refl _) S r⟩
   ·cases z
  ·rw [e1] at e;cases e
 ·exact .inl (Xo_ G F σ H ρ x y dx dy res Q S ox oy e k)
end
end L4
set_option Elab.async false
set_option linter.all false
set_option maxRecDepth 100000
namespace HT
open PySem PyProof.Rows
def lexLe:List Int→List Int→Bool
 | [],[]=>true
 | [],_::_=>true
 | _::_,[]=>false
 | x::xs,y::ys=>if x=y then lexLe xs ys else decide (x≤y)
theorem JT_ (x y:Int) (xs ys:List Int):lexLe (x::xs) (y::ys)=if x=y then lexLe xs ys else decide (x≤y):=rfl
theorem yM_:lexLe [] []=true:=rfl
theorem yb_ (y:Int) (ys:List Int):lexLe [] (y::ys)=true:=rfl
theorem yc_ (x:Int) (xs:List Int):lexLe (x::xs) []=false:=rfl
theorem YA_ (A:Around) (s:Shared) (a:Int) (t:Tok) (c:Int) (u:Tok) (prog:Program) (w:World) (E:Value→Shared→Prop) (Q:Value→Shared→Prop) (h:Q (.bool (decide (a≤c))) s) :
  wpAny (model prog w) A (richCompare .LtE (.int a t) (.int c u)) Q E s :=
 (PyProof.Rows.le_int h:wpAny (model prog w) A (compareOp .LtE (.int a t) (.int c u)) Q E s)
section
open PySem.SeqAt
open PySem.AutoSeq1 (wpAny_loadPart')
open PySem.MeetsSeq PySem.MeetsSeq2 PySem.MeetsSeq3
theorem yx_ (l b:Addr) (items items2:Array Value) (n n2:Nat) (dd dd2:Option Addr) (sl sl2:Array (Option Value)) (ns ms:List Int) (hi:IntsAre items.toList ns) (hj:IntsAre items2.toList ms) :
  Meets (Builtin.«tuple.__le__» ⟨[.ref l,.ref b],[]⟩)
   (fun _ R s=>s.heap.get? l=some { cls:=.type "tuple",dict:=dd,data:=.seq items n,slots:=sl }∧s.heap.get? b=some { cls:=.type "tuple",dict:=dd2,data:=.seq items2 n2,slots:=sl2 } ∧
    R (.ok (.ret (.bool (lexLe ns ms)))) s) :=
 .of_wp fun prog w A R s h=>by
  obtain ⟨hp,g,d,tk,os⟩:=s;obtain ⟨hl,hb,h⟩:=h
  have f2:=AutoSeq1.sub_tuple_tuple
  have z1:items.size=ns.length:=by rw [←hi.length];simp
  have z2:items2.size=ms.length:=by rw [←hj.length];simp
  wp_walk using wpAny_loadPart' hl,wpAny_loadPart' hb,wpAny_forIn_list _ (fun rest b s'=>b.1=none∧s'=⟨hp,g,d,tk,os⟩∧∃ (vs ws:List Value) (ns' ms':List Int),rest=vs.zip ws ∧
   IntsAre vs ns'∧IntsAre ws ms'∧ns'.length+items2.size=ms'.length+items.size∧R (.ok (.ret (.bool (lexLe ns' ms')))) ⟨hp,g,d,tk,os⟩) _
  case turn =>
   rintro ⟨y,x⟩ rest b s' ⟨hb',rfl,vs,ws,ns',ms',hz,hvi,hwi,hlen,hR⟩
   cases hvi with
   | nil=>rw [List.zip_nil_left] at hz;cases hz
   | cons a t hvi' =>
    cases hwi with
    | nil=>rw [List.zip_nil_right] at hz;cases hz
    | cons c u hwi' =>
     rw [List.zip_cons_cons] at hz
     injection hz with hyx hrest
     injection hyx with hy hx
     subst hy hx
     rw [JT_] at hR
     simp only [List.length_cons] at hlen
     obtain ⟨e,he,hiff⟩:=Y2_ A.in1 ⟨hp,g,d,tk,os⟩ a t c u
     refine wpAny_bind (he prog w _ _ ?_)
     cases e with
     | true =>
      rw [if_pos (hiff.mp rfl)] at hR
      wp_walk
      exact ⟨rfl,rfl,_,_,_,_,hrest,hvi',hwi',by omega,hR⟩
     | false =>
      rw [if_neg (fun q=>absurd (hiff.mpr q) Bool.false_ne_true)] at hR
      have hri:=YA_ A.in1 ⟨hp,g,d,tk,os⟩ a t c u prog w
      wp_walk using hri
      exact ⟨_,rfl,by simpa using hR⟩
  case fin =>
   rintro ⟨b1,b2⟩ s' ⟨hb',rfl,vs,ws,ns',ms',hz,hvi,hwi,hlen,hR⟩
   simp only at hb'
   subst hb'
   have hv:lexLe ns' ms'=decide (items.size≤items2.size):=by
    cases hvi with
    | nil =>
     cases hwi with
     | nil =>
      simp only [List.length_nil] at hlen
      rw [yM_]
      exact (decide_eq_true (by omega)).symm
     | cons c u hw =>
      simp only [List.length_nil,List.length_cons] at hlen
      rw [yb_]
      exact (decide_eq_true (by omega)).symm
    | cons a t hv =>
     cases hwi with
     | nil =>
      simp only [List.length_nil,List.length_cons] at hlen
      rw [yc_]
      exact (decide_eq_false (by omega)).symm
     | cons c u hw =>
      rw [List.zip_cons_cons] at hz
      cases hz
   rw [hv] at hR
   wp_walk
   exact ⟨_,rfl,by simpa [Builtin.Tuple.tupleCompareSizes] using hR⟩
  case h =>
   exact ⟨rfl,rfl,items.toList,items2.toList,ns,ms,rfl,hi,hj,by omega,h⟩
end
section
variable {prog:Program} {w:World} {A:Around} {E:Value→Shared→Prop} {s:Shared}
theorem le_tupInts {l b:Addr} {items items2:Array Value} {ns ms:List Int} {Q:Value→Shared→Prop} (hl:IsTup s.heap l items) (hb:IsTup s.heap b items2) (hi:IntsAre items.toList ns) (hj:IntsAre items2.toList ms)
  (hu:A.units<cLine) (h:Q (.bool (lexLe ns ms)) s):wpAny (model prog w) A (compareOp .LtE (.ref l) (.ref b)) Q E s:=by
 obtain ⟨⟨cls,dd,data,sl⟩,ho,hc,n,hd⟩:=id hl
 obtain ⟨⟨cls2,dd2,data2,sl2⟩,ho2,hc2,n2,hd2⟩:=id hb
 simp only at hc hd hc2 hd2
 subst hc hd hc2 hd2
 exact richCompare_meets_room (op:=.LtE) ⟨_,ho,rfl⟩ ⟨_,ho2,rfl⟩ PySem.F.slot_tuple_le PySem.F.entry_tuple_le (PySem.F.args_tuple_le_2 _ _) (yx_ l b items items2 n n2 dd dd2 sl sl2 ns ms hi hj)
  ⟨ho,ho2,show Value.bool (lexLe ns ms)≠Value.notImplemented∧Q (.bool (lexLe ns ms)) s from ⟨(fun x=>nomatch x),h⟩⟩ hu
end
end HT
namespace L4
open PySem PySem.Spec PyProof.Rows L2 L3
def rLeT (K:PySem.W.Frag):R2:=fun x y H Q=>∃ a b ns ms,x=.ref a∧y=.ref b∧SqT K H a (ns.map V.int)∧SqT K H b (ms.map V.int)∧Q (.bl (HT.lexLe ns ms)) H
theorem V8_ {X:Cx} (hu:X.A.units<cLine):OpR X (compareOp .LtE) (rLeT X.K):=by
 intro pins s σ H x y v u Q I rx ry h
 obtain ⟨a,b,ns,ms,rfl,rfl,ha,hb,q⟩:=h
 cases rx
 cases ry
 obtain ⟨its,r1,p1,_⟩:=I.tuple ha
 obtain ⟨its2,r2,p2,_⟩:=I.tuple hb
 have i1:IntsAre its.toArray.toList ns:=intsAre_of r1
 have i2:IntsAre its2.toArray.toList ms:=intsAre_of r2
 exact HT.le_tupInts p1 p2 i1 i2 hu ⟨.bl (HT.lexLe ns ms),H,I,rfl,q⟩
def Q6_ (x y:D):Option Bool:=match x,y with
 | .tuple a,.tuple b=>match intsOf a,intsOf b with
  | some m,some n=>some (HT.lexLe m n)
  | _,_=>none
 | x,y=>opLe x y
def rLeA (K:Fg):R2:=fun x y H Q=>rI0 (fun i j=>.bl (decide (i≤j))) x y H Q∨rLeT K x y H Q
theorem V9_ {X:Cx} (hu:X.A.units+1100<cLine):OpR X (compareOp .LtE) (rLeA X.K):=OpR.or Xl_ (V8_ (by omega))
theorem We_ {K:Fg}:OpB K (rLeA K) Q6_:=by
 intro G F σ H ρ x y dx dy res Q S ox oy e k
 unfold Q6_ at e
 split at e
 ·rename_i a b
  split at e
  ·rename_i m n hm hn
   cases e
   obtain ⟨p,vs,rfl,h1,h2⟩:=ox.tuple S.fh
   obtain ⟨q,us,rfl,g1,g2⟩:=oy.tuple S.fh
   rw [jE_ hm] at h2
   rw [jE_ hn] at g2
   rw [jC_ h2] at h1
   rw [jC_ g2] at g1
   exact .inr ⟨p,q,m,n,rfl,rfl,h1,g1,k⟩
  ·cases e
 ·exact .inl (Xn_ G F σ H ρ x y dx dy res Q S ox oy e k)
end L4
set_option Elab.async false
set_option linter.all false
set_option maxRecDepth 100000
namespace HT
open PySem PySem.Spec PyProof.Rows
end HT
namespace L4
open PySem PySem.Spec PyProof.Rows L2 L3
def XW_:List D→Option D
 | [.tuple ds]=>match intsOf ds with
  | some ns=>if VA_ ns then some (.int ns.sum) else none
  | none=>none
 | l=>fSum l
def YZ_:List D→Option D
 | [.tuple ds]=>Vn_ [.tuple ds]
 | l=>fMax l
def VL_ (K:Fg):List V→Hp→VK→Prop:=fun xs H Q=>Uj_ K gMax xs H Q∨(QQ_ K gMax xs H Q∨∃ i j,xs=[.int i,.int j]∧Q (.int (if j>i then j else i)) H)
theorem Yc_ {X:Cx} (hc:X.calm=true):CallR X (.builtin "max") (VL_ X.K):=CallR.or (Ya_ hc) ((Yb_ hc).or (Yd_ hc))
theorem Q8_ {K:Fg}:y0_ K (VL_ K) YZ_:=by
 intro G F σ H ρ xs ds res Q S o e k
 unfold YZ_ at e
 split at e
 ·exact .inl (Q7_ G F σ H ρ xs _ res Q S o e k)
 ·exact .inr (Wd_ G F σ H ρ xs ds res Q S o e k)
end L4
set_option Elab.async false
set_option linter.all false
set_option maxRecDepth 100000
namespace L4
open PySem PySem.Spec PyProof.Rows L2 L3
def yQ_:List D→Option (List D)
 | [.int j]=>if decide (0≤j)&&decide (j≤100000) then some (jD_ 0 j.toNat) else none
 | _=>none
def Xd_:List V→Hp→VK→Prop:=fun xs H Q=>∃ j,xs=[.int j]∧∀ r,H r=none→Q (.ref r) (upd H r (.rng 0 j))
def VM_:List V→Hp→VK→Prop:=fun xs H Q=>∃ r j,xs=[.ref r]∧H r=some (.rng 0 j)∧0≤j∧j≤100000∧∀ l,H l=none→Q (.ref l) (upd H l (.lst ((List.range j.toNat).map fun (i:Nat)=>V.int (i:Int))))
section
variable {X:Cx}
theorem U8_:CallR X (.type "range") Xd_:=by
 intro pins s σ H xs us Q I r h
 obtain ⟨j,rfl,k⟩:=h
 obtain ⟨u,rfl,ru⟩:=L2.Vals.one r
 obtain ⟨t,rfl⟩:=ru
 refine call_range_1 ⟨.ref s.heap.objs.size,_,I.laid (o:=.rng 0 j) (fun b u e=>Heap.get?_push_of_some _ e) (Nat.le_refl _) ⟨_,_,_,Heap.get?_push_size _ rfl⟩,rfl,k _ (I.hok.fresh (Nat.le_refl _))⟩
theorem JZ_ (hh:X.A.handled=none):CallR X (.type "list") VM_:=by
 intro pins s σ H xs us Q I r h
 obtain ⟨a,j,rfl,ha,j0,j1,k⟩:=h
 obtain ⟨u,rfl,ru⟩:=L2.Vals.one r
 cases ru
 obtain ⟨t,u,v,hr⟩:=I.hok a _ ha
 have hs:Builtin.Range.rangeSize 0 j 1=(j.toNat:Int):=by
  rw [rangeSize_one];split<;>omega
 refine call_list_range hh hr (small_one (by omega) (by omega) (by omega) (by omega)) hs (by omega) fun h' tk acc c kp hl it=>?_
 refine ⟨.ref s.heap.objs.size,_,I.laid (o:=.lst ((List.range j.toNat).map fun (i:Nat)=>V.int (i:Int))) kp (Nat.le_refl _) ⟨?_,acc.toList,c,?_,hl⟩,rfl,k _ (I.hok.fresh (Nat.le_refl _))⟩
 ·rw [List.length_map,List.length_range,sizeLine_eq];omega
 ·have hl2:acc.toList.length=j.toNat:=by rw [Array.length_toList];exact it.1
  have go:∀ (n b:Nat) (l:List Value),l.length=n→(∀ i v,l[i]? = some v→∃ t,v=Value.int ((b+i:Nat):Int) t)→Vals ((List.range' b n).map fun (i:Nat)=>V.int (i:Int)) l:=by
   intro n
   induction n with
   | zero=>intro b l h _;cases l with
    | nil=>exact .nil
    | cons _ _=>cases h
   | succ n ih =>
    intro b l h g
    cases l with
    | nil=>cases h
    | cons x l =>
     rw [List.range'_succ,List.map_cons]
     refine .cons (g 0 x rfl) (ih (b+1) l (by simpa using h) fun i v q=>?_)
     obtain ⟨t,e⟩:=g (i+1) v (by simpa using q)
     exact ⟨t,by rw [e];congr 1;omega⟩
  rw [List.range_eq_range']
  refine go _ 0 _ hl2 fun i v q=>?_
  obtain ⟨t,e⟩:=it.2 i v (by simpa using q)
  exact ⟨t,by rw [e];congr 1;omega⟩
variable {a:Expr} {ps:Pa (List D)} {p p2 pos pos2:Pos}
theorem ZC_ (hh:X.A.handled=none) (hg:Gl X "list") (hm:X.mg "list" = none) (hg2:Gl X "range") (hm2:X.mg "range" = none) (ha:AA X [a] ps)
  (he:starEach [a] X.env=[(false,eval a X.env)]) (he2:starEach [.Call (.Name "range" p2) [a] [] pos2] X.env=[(false,eval (.Call (.Name "range" p2) [a] [] pos2) X.env)]) :
  AL X (.Call (.Name "list" p) [.Call (.Name "range" p2) [a] [] pos2] [] pos) (Jf_ yQ_ ps) :=
 fun G F σ H ρ Q S w=>sem (j3_ (JZ_ hh) hg hm (by decide +kernel) (uh_ (j3_ U8_ hg2 hm2 boot_range z7_ (by decide) (by decide) he rfl) Zb_ he2) (by decide) (by decide) he2 rfl)
  (ha G F σ H ρ _ _ _ S w fun ds vs F1 H1 s1 S1 _ r1 w1=>by
   obtain ⟨res,e,k⟩:=w1.opt
   unfold yQ_ at e
   split at e
   ·rename_i j
    split at e
    ·rename_i hj
     cases e
     rw [Bool.and_eq_true,decide_eq_true_eq,decide_eq_true_eq] at hj
     cases r1 with
     | cons ra rb =>
      cases rb
      cases ra
      refine ⟨j,rfl,fun r hr=>⟨r,j,rfl,zL_,hj.1,hj.2,fun l hl=>?_⟩⟩
      have S2:=S1.lay (o:=.rng 0 j) hr
      have rp:RepL X.K F1 ((List.range j.toNat).map fun (i:Nat)=>V.int (i:Int)) (jD_ 0 j.toNat):=by
       unfold jD_
       induction List.range j.toNat with
       | nil=>exact .nil
       | cons b l ih =>
        rw [List.map_cons,List.map_cons,Int.zero_add]
        exact .cons (.int _) ih
      obtain ⟨S3,r3⟩:=S2.newLst hl rp
      exact k F1 _ (Same.refl _) S3 _ r3
    ·cases e
   ·cases e)
end
end L4
set_option Elab.async false
set_option linter.all false
set_option maxRecDepth 100000
namespace TS
open PySem PyProof.Rows
def kr (rk:Value→Int) (xs:Array Keyed) (i:Nat):Int:=(xs[i]?.map fun p=>rk p.1).getD 0
def Asc (rk:Value→Int) (xs:Array Keyed) (lo hi:Nat):Prop:=∀ i j:Nat,lo≤i→i≤j→j<hi→kr rk xs i≤kr rk xs j
def Dsc (rk:Value→Int) (xs:Array Keyed) (lo hi:Nat):Prop:=∀ i j:Nat,lo≤i→i≤j→j<hi→kr rk xs j≤kr rk xs i
def Cmps (prog:Program) (w:World) (A:Around) (s:Shared) (κ:SortKind) (rk:Value→Int) (a₀:Array Keyed):Prop :=
 ∀ x y,x∈a₀.toList→y∈a₀.toList→∀ (E:Value→Shared→Prop) (Q:Bool→Shared→Prop),Q (decide (rk x.1<rk y.1)) s→wpAny (model prog w) A (keyLt' κ x.1 y.1) Q E s
abbrev Runs:=Array (Nat×Nat×Nat)
structure SB (κ:SortKind) (a₀:Array Keyed) (lo:Nat) (old:Array Keyed) (P:Runs) (st:SortSt):Prop where
 pm:(arrOf st).Perm a₀
 kd:kindOf st=κ
 fl:failedOf st=none
 kp:∀ i,i<lo→(arrOf st)[i]? = old[i]?
 pe:pendingOf st=P
section
variable {prog:Program} {w:World} {A:Around} {E:Value→Shared→Prop} {s:Shared} {κ:SortKind} {rk:Value→Int} {a₀ old:Array Keyed} {lo:Nat} {P:Runs}
theorem SB.sz {st:SortSt} (h:SB κ a₀ lo old P st):(arrOf st).size=a₀.size:=h.pm.size_eq
theorem SB.to {st:SortSt} (h:SB κ a₀ lo old P st) {xs:Array Keyed} (hp:xs.Perm (arrOf st)) (hk:∀ i,i<lo→xs[i]? = (arrOf st)[i]?):SB κ a₀ lo old P (setArr st xs) :=
 ⟨hp.trans h.pm,h.kd,h.fl,fun i hi=>(hk i hi).trans (h.kp i hi),h.pe⟩
theorem SB.mem {st:SortSt} (h:SB κ a₀ lo old P st) {i:Nat} {p:Keyed} (e:(arrOf st)[i]? = some p):p∈a₀.toList :=
 (Array.perm_iff_toList_perm.mp h.pm).mem_iff.mp (by
  obtain ⟨hl,e⟩:=Array.getElem?_eq_some_iff.mp e
  rw [←e];simp)
theorem z0_ {xs:Array Keyed} {i:Nat} {p:Keyed} (e:xs[i]? = some p):kr rk xs i=rk p.1:=by unfold kr;rw [e];rfl
theorem uQ_ {xs ys:Array Keyed} {i j:Nat} (e:xs[i]? = ys[j]?):kr rk xs i=kr rk ys j:=by unfold kr;rw [e]
theorem ja_ {xs:Array Keyed} {i:Nat} {p:Keyed} {st:SortSt} {Q:Keyed→SortSt→Prop} (e:xs[i]? = some p) (q:Q p st):wpS (model prog w) A E s (elem' xs i) Q st:=by
 rw [elem'_eq,e];exact wpS_pure q
theorem Uw_ {x y:Keyed} {st:SortSt} {Q:Option Bool→SortSt→Prop} (hC:Cmps prog w A s κ rk a₀) (hk:kindOf st=κ) (hx:x∈a₀.toList) (hy:y∈a₀.toList) (q:Q (some (decide (rk x.1<rk y.1))) st) :
  wpS (model prog w) A E s (lt' x y) Q st:=by
 rw [lt'_eq]
 refine wpS_bind (wpS_get ?_)
 rw [hk]
 refine wpS_bind (wpS_lift (wpAny_attempt (hC x y hx hy _ _ ⟨rfl,?_⟩)))
 exact wpS_pure q
theorem Yg_ {i j:Nat} {st:SortSt} {Q:Option Bool→SortSt→Prop} (hC:Cmps prog w A s κ rk a₀) (h:SB κ a₀ lo old P st) (hi:i<a₀.size) (hj:j<a₀.size) (q:Q (some (decide (kr rk (arrOf st) i<kr rk (arrOf st) j))) st) :
  wpS (model prog w) A E s (ltAt' i j) Q st:=by
 have e1:(arrOf st)[i]? = some ((arrOf st)[i]'(by rw [h.sz];exact hi)):=Array.getElem?_eq_getElem _
 have e2:(arrOf st)[j]? = some ((arrOf st)[j]'(by rw [h.sz];exact hj)):=Array.getElem?_eq_getElem _
 rw [ltAt'_eq]
 refine wpS_bind (wpS_get ?_)
 refine wpS_bind (ja_ e1 (wpS_bind (ja_ e2 ?_)))
 refine Uw_ hC h.kd (h.mem e1) (h.mem e2) ?_
 rw [z0_ e1,z0_ e2] at q
 exact q
theorem Z8_ {st:SortSt} {i j:Nat} {Q:Unit→SortSt→Prop} (q:Q () (setArr st (mirror (arrOf st) i j ((j - i) / 2)))):wpS (model prog w) A E s (reverseSlice' i j) Q st:=by
 rw [reverseSlice'_eq]
 exact wpS_modify q
theorem UE_ {xs:Array Keyed} {i j:Nat} (hj:j≤xs.size) (k:Nat):kr rk (mirror xs i j ((j - i) / 2)) k=if i≤k∧k<j then kr rk xs (i+j - 1 - k) else kr rk xs k:=by
 have e:=getElem?_mirror_all (i:=i) hj k
 split
 ·rename_i c;rw [if_pos c] at e;exact uQ_ e
 ·rename_i c;rw [if_neg c] at e;exact uQ_ e
theorem uE_ {xs:Array Keyed} {i j lo:Nat} (hj:j≤xs.size) (hl:lo≤i):∀ k,k<lo→(mirror xs i j ((j - i) / 2))[k]? = xs[k]?:=fun k hk=>by
 rw [getElem?_mirror_all hj k,if_neg (by omega)]
theorem yI_ {xs:Array Keyed} {i j:Nat} (hj:j≤xs.size) (e:∀ k,i≤k→k<j→kr rk xs k=kr rk xs (j - 1)) (k:Nat):kr rk (mirror xs i j ((j - i) / 2)) k=kr rk xs k:=by
 rw [UE_ hj]
 split
 ·rename_i c;rw [e k c.1 c.2,e _ (by omega) (by omega)]
 ·rfl
abbrev Asl:=Option (Option Nat)×Nat
abbrev Dsl:=Option (Option Nat)×Nat×Nat
def upW (lo a z:Nat):StateT SortSt Sem Asl:=forIn [a:z] ((none,a):Asl) fun _ c=>do
 match ←ltAt' (lo+c.snd) (lo+c.snd - 1) with
 | some b=>if b=true then pure (ForInStep.done (none,c.snd)) else pure (ForInStep.yield (none,c.snd+1))
 | _=>pure (ForInStep.done (some none,c.snd))
def endW (lo n z:Nat):StateT SortSt Sem (Option Nat):=do
 reverseSlice' lo (lo+n)
 let c ←upW lo n z
 match c.fst with
 | some r=>pure r
 | none=>pure (some c.snd)
def dnW (lo n z:Nat):StateT SortSt Sem Dsl:=forIn [n:z] ((none,n,0):Dsl) fun _ c=>do
 match ←ltAt' (lo+c.snd.fst) (lo+c.snd.fst - 1) with
 | some b =>
  if b=true then
   if c.snd.snd>0 then do
    reverseSlice' (lo+c.snd.fst - (c.snd.snd+1)) (lo+c.snd.fst)
    pure (ForInStep.yield (none,c.snd.fst+1,0))
   else pure (ForInStep.yield (none,c.snd.fst+1,0))
  else do
   match ←ltAt' (lo+c.snd.fst - 1) (lo+c.snd.fst) with
   | some g=>if g=true then pure (ForInStep.done (none,c.snd.fst,c.snd.snd)) else pure (ForInStep.yield (none,c.snd.fst+1,c.snd.snd+1))
   | _=>pure (ForInStep.done (some none,c.snd.fst,c.snd.snd))
 | _=>pure (ForInStep.done (some none,c.snd.fst,c.snd.snd))
def UW_ (lo n z:Nat):StateT SortSt Sem (Option Nat):=do
 liftM (rule "list.sort.descending-run")
 let c ←dnW lo (n+1) z
 match c.fst with
 | some r=>pure r
 | none =>
  if c.snd.snd>0 then do
   reverseSlice' (lo+c.snd.fst - (c.snd.snd+1)) (lo+c.snd.fst)
   endW lo c.snd.fst z
  else endW lo c.snd.fst z
theorem VI_ (lo z:Nat):countRun' lo z=(do
  let c ←upW lo 1 z
  match c.fst with
  | some r=>pure r
  | none =>
   if (c.snd==z)=true then pure (some c.snd)
   else if c.snd>1 then do
    match ←ltAt' lo (lo+c.snd - 1) with
    | some b=>if b=true then pure (some c.snd) else do
      reverseSlice' lo (lo+c.snd)
      UW_ lo c.snd z
    | _=>pure none
   else UW_ lo c.snd z):=by
 rw [countRun'_eq]
 unfold UW_ endW dnW upW
 dsimp only
 have tl:∀ (x:StateT SortSt Sem Asl),(x >>= fun c3=>match c3.fst with|some r=>pure r|none=>pure (some c3.snd):StateT SortSt Sem (Option Nat))=(x >>= fun c3=>match c3.fst with|none=>pure (some c3.snd)|some r=>pure r):=fun x=>by
  congr 1;funext c3;rcases c3 with ⟨_|r3,n3⟩<;>rfl
 congr 1
 funext c
 rcases c with ⟨_|r,n⟩
 ·dsimp only
  split
  ·rfl
  ·split
   ·congr 1
    funext x
    cases x with
    | none=>rfl
    | some b =>
     dsimp only
     split
     ·rfl
     ·congr 1;funext _;congr 1;funext _;congr 1;funext c2
      rcases c2 with ⟨_|r2,n2,q2⟩
      ·dsimp only
       split
       ·congr 1;funext _;congr 1;funext _;congr 1;funext c3;rcases c3 with ⟨_|r3,n3⟩<;>rfl
       ·congr 1;funext _;congr 1;funext c3;rcases c3 with ⟨_|r3,n3⟩<;>rfl
      ·rfl
   ·congr 1;funext _;congr 1;funext c2
    rcases c2 with ⟨_|r2,n2,q2⟩
    ·dsimp only
     split
     ·congr 1;funext _;congr 1;funext _;congr 1;funext c3;rcases c3 with ⟨_|r3,n3⟩<;>rfl
     ·congr 1;funext _;congr 1;funext c3;rcases c3 with ⟨_|r3,n3⟩<;>rfl
    ·rfl
 ·rfl
end
end TS
set_option Elab.async false
set_option linter.all false
set_option maxRecDepth 100000
namespace TS
open PySem PyProof.Rows
section
variable {prog:Program} {w:World} {A:Around} {E:Value→Shared→Prop} {s:Shared} {κ:SortKind} {rk:Value→Int} {a₀ old:Array Keyed} {lo:Nat} {P:Runs}
theorem Asc.snoc {xs:Array Keyed} {lo m:Nat} (h:Asc rk xs lo (lo+m)) (h1:1≤m) (q:¬ kr rk xs (lo+m)<kr rk xs (lo+m - 1)):Asc rk xs lo (lo+(m+1)):=fun i j hi hij hj=>by
 by_cases c:j<lo+m
 ·exact h i j hi hij c
 ·by_cases c2:i=j
  ·subst c2;exact Int.le_refl _
  ·have e:j=lo+m:=by omega
   subst e
   have:=h i (lo+m - 1) hi (by omega) (by omega)
   omega
theorem Vy_ {st:SortSt} {a z:Nat} {Q:Asl→SortSt→Prop} (hC:Cmps prog w A s κ rk a₀) (hz:lo+z≤a₀.size) (h1:1≤a) (ha:a≤z) (h:SB κ a₀ lo old P st) (ho:Asc rk (arrOf st) lo (lo+a))
  (q:∀ n,a≤n→n≤z→Asc rk (arrOf st) lo (lo+n)→(n=z∨kr rk (arrOf st) (lo+n)<kr rk (arrOf st) (lo+n - 1))→Q (none,n) st):wpS (model prog w) A E s (upW lo a z) Q st:=by
 refine wpS_forRange (I:=fun x c st'=>st'=st∧c=(none,x)∧Asc rk (arrOf st) lo (lo+x)) (fun x c st' hx hxz I=>?_) (fun c st' I=>?_) ⟨rfl,rfl,ho⟩
 ·obtain ⟨rfl,rfl,o⟩:=I
  refine wpS_bind (Yg_ hC h (by dsimp only;omega) (by dsimp only;omega) ?_)
  dsimp only
  by_cases c:kr rk (arrOf st') (lo+x)<kr rk (arrOf st') (lo+x - 1)
  ·rw [decide_eq_true c]
   exact wpS_pure (q x hx (by omega) o (.inr c))
  ·rw [decide_eq_false c]
   exact wpS_pure ⟨rfl,rfl,o.snoc (by omega) c⟩
 ·obtain ⟨rfl,rfl,o⟩:=I
  have e:max a z=z:=by omega
  rw [e] at o ⊢
  exact q z ha (Nat.le_refl _) o (.inl rfl)
def Run (κ:SortKind) (rk:Value→Int) (a₀ old:Array Keyed) (lo z:Nat) (P:Runs) (m:Nat) (st:SortSt):Prop:=SB κ a₀ lo old P st∧1≤m∧m≤z∧Asc rk (arrOf st) lo (lo+m)
theorem Qr_ {st:SortSt} {n z:Nat} {Q:Option Nat→SortSt→Prop} (hC:Cmps prog w A s κ rk a₀) (hz:lo+z≤a₀.size) (h1:1≤n) (hn:n≤z) (h:SB κ a₀ lo old P st) (ho:Dsc rk (arrOf st) lo (lo+n))
  (q:∀ m st',Run κ rk a₀ old lo z P m st'→Q (some m) st'):wpS (model prog w) A E s (endW lo n z) Q st:=by
 have hl:lo+n≤(arrOf st).size:=by rw [h.sz];omega
 have h':=h.to (mirror_perm (arrOf st) lo (lo+n) ((lo+n - lo) / 2)) (uE_ hl (Nat.le_refl _))
 unfold endW
 refine wpS_bind (Z8_ (wpS_bind (Vy_ hC hz h1 hn h' (fun i j hi hij hj=>?_) fun m m1 m2 o _=>wpS_pure (q m _ ⟨h',by omega,m2,o⟩))))
 show kr rk (mirror (arrOf st) lo (lo+n) _) i≤kr rk (mirror (arrOf st) lo (lo+n) _) j
 rw [UE_ hl,UE_ hl,if_pos ⟨hi,by omega⟩,if_pos ⟨by omega,hj⟩]
 exact ho _ _ (by omega) (by omega) (by omega)
theorem Dsc.snoc {xs ys:Array Keyed} {lo m:Nat} (h:Dsc rk xs lo (lo+m)) (h1:1≤m) (e:∀ k,kr rk ys k=kr rk xs k) (q:kr rk xs (lo+m)≤kr rk xs (lo+m - 1)):Dsc rk ys lo (lo+(m+1)):=fun i j hi hij hj=>by
 rw [e,e]
 by_cases c:j<lo+m
 ·exact h i j hi hij c
 ·by_cases c2:i=j
  ·subst c2;exact Int.le_refl _
  ·have e:j=lo+m:=by omega
   subst e
   have:=h i (lo+m - 1) hi (by omega) (by omega)
   omega
def Flat (rk:Value→Int) (xs:Array Keyed) (lo m q:Nat):Prop:=q+1≤m∧∀ k,lo+m - (q+1)≤k→k<lo+m→kr rk xs k=kr rk xs (lo+m - 1)
theorem XI_ {st:SortSt} {n z:Nat} {Q:Dsl→SortSt→Prop} (hC:Cmps prog w A s κ rk a₀) (hz:lo+z≤a₀.size) (h1:1≤n) (hn:n≤z) (h:SB κ a₀ lo old P st) (ho:Dsc rk (arrOf st) lo (lo+n))
  (q:∀ m r st',SB κ a₀ lo old P st'→n≤m→m≤z→Dsc rk (arrOf st') lo (lo+m)→Flat rk (arrOf st') lo m r→Q (none,m,r) st'):wpS (model prog w) A E s (dnW lo n z) Q st:=by
 refine wpS_forRange (I:=fun x c st'=>∃ r,c=(none,x,r)∧SB κ a₀ lo old P st'∧Dsc rk (arrOf st') lo (lo+x)∧Flat rk (arrOf st') lo x r) (fun x c st' hx hxz I=>?_) (fun c st' I=>?_) ⟨0,rfl,h,ho,by omega,fun k k1 k2=>by congr 1;omega⟩
 ·obtain ⟨r,rfl,h',o,fl⟩:=I
  have hl:lo+x≤(arrOf st').size:=by rw [h'.sz];omega
  refine wpS_bind (Yg_ hC h' (by dsimp only;omega) (by dsimp only;omega) ?_)
  dsimp only
  by_cases c:kr rk (arrOf st') (lo+x)<kr rk (arrOf st') (lo+x - 1)
  ·rw [decide_eq_true c]
   rw [if_pos rfl]
   split
   ·rename_i hr
    have hr':0<r:=hr
    have hfl:∀ k,lo+x - (r+1)≤k→k<lo+x→kr rk (arrOf st') k=kr rk (arrOf st') (lo+x - 1):=fl.2
    have kp:=yI_ (rk:=rk) hl hfl
    have fl1:=fl.1
    refine wpS_bind (Z8_ (wpS_pure ⟨0,rfl,h'.to (mirror_perm _ _ _ _) (uE_ hl (by omega)),o.snoc (by omega) kp (by omega),by omega,fun k k1 k2=>by congr 1;omega⟩))
   ·exact wpS_pure ⟨0,rfl,h',o.snoc (by omega) (fun _=>rfl) (by omega),by omega,fun k k1 k2=>by congr 1;omega⟩
  ·rw [decide_eq_false c]
   rw [if_neg (by decide)]
   refine wpS_bind (Yg_ hC h' (by omega) (by omega) ?_)
   by_cases c2:kr rk (arrOf st') (lo+x - 1)<kr rk (arrOf st') (lo+x)
   ·rw [decide_eq_true c2]
    exact wpS_pure (q x r st' h' hx (by omega) o fl)
   ·rw [decide_eq_false c2]
    refine wpS_pure ⟨r+1,rfl,h',o.snoc (by omega) (fun _=>rfl) (by omega),by have:=fl.1;omega,fun k k1 k2=>?_⟩
    have e:kr rk (arrOf st') (lo+x)=kr rk (arrOf st') (lo+x - 1):=by omega
    rw [show lo+(x+1) - 1=lo+x by omega,e]
    by_cases c3:k=lo+x
    ·rw [c3];exact e
    ·exact fl.2 k (by omega) (by omega)
 ·obtain ⟨r,rfl,h',o,fl⟩:=I
  have e:max n z=z:=by omega
  rw [e] at o fl ⊢
  exact q z r st' h' hn (Nat.le_refl _) o fl
theorem UV_ {st:SortSt} {n z:Nat} {Q:Option Nat→SortSt→Prop} (hC:Cmps prog w A s κ rk a₀) (hz:lo+z≤a₀.size) (hn:n+1≤z) (h:SB κ a₀ lo old P st) (ho:Dsc rk (arrOf st) lo (lo+(n+1)))
  (q:∀ m st',Run κ rk a₀ old lo z P m st'→Q (some m) st'):wpS (model prog w) A E s (UW_ lo n z) Q st:=by
 unfold UW_
 refine wpS_bind (wpS_lift (wpAny_rule ⟨rfl,wpS_bind (XI_ hC hz (by omega) hn h ho fun m r st' h' m1 m2 o fl=>?_)⟩))
 dsimp only
 have hl:lo+m≤(arrOf st').size:=by rw [h'.sz];omega
 have fl1:=fl.1
 split
 ·have kp:=yI_ (rk:=rk) hl fl.2
  refine wpS_bind (Z8_ (Qr_ hC hz (by omega) m2 (h'.to (mirror_perm _ _ _ _) (uE_ hl (by omega))) (fun i j hi hij hj=>?_) q))
  show kr rk (mirror (arrOf st') _ _ _) j≤kr rk (mirror (arrOf st') _ _ _) i
  rw [kp,kp]
  exact o i j hi hij hj
 ·exact Qr_ hC hz (by omega) m2 h' o q
theorem VG_ {st:SortSt} {z:Nat} {Q:Option Nat→SortSt→Prop} (hC:Cmps prog w A s κ rk a₀) (hz:lo+z≤a₀.size) (h1:1≤z) (h:SB κ a₀ lo old P st)
  (q:∀ m st',Run κ rk a₀ old lo z P m st'→Q (some m) st'):wpS (model prog w) A E s (countRun' lo z) Q st:=by
 rw [VI_]
 refine wpS_bind (Vy_ hC hz (Nat.le_refl 1) h1 h (fun i j hi hij hj=>by rw [show i=j by omega];exact Int.le_refl _) fun n n1 n2 o e=>?_)
 dsimp only
 by_cases c:n=z
 ·rw [if_pos (by simpa using c)]
  exact wpS_pure (q n st ⟨h,n1,n2,o⟩)
 ·rw [if_neg (by simpa using c)]
  have lt:=e.resolve_left c
  split
  ·refine wpS_bind (Yg_ hC h (by omega) (by omega) ?_)
   by_cases c2:kr rk (arrOf st) lo<kr rk (arrOf st) (lo+n - 1)
   ·rw [decide_eq_true c2]
    exact wpS_pure (q n st ⟨h,n1,n2,o⟩)
   ·rw [decide_eq_false c2]
    dsimp only
    rw [if_neg (by decide)]
    have hl:lo+n≤(arrOf st).size:=by rw [h.sz];omega
    have fl:∀ k,lo≤k→k<lo+n→kr rk (arrOf st) k=kr rk (arrOf st) (lo+n - 1):=fun k k1 k2=>by
     have a1:=o lo k (Nat.le_refl _) k1 k2
     have a2:=o k (lo+n - 1) k1 (by omega) (by omega)
     omega
    have kp:=yI_ (rk:=rk) hl fl
    have dd:Dsc rk (arrOf st) lo (lo+n):=fun i j hi hij hj=>by rw [fl i hi (by omega),fl j (by omega) hj];exact Int.le_refl _
    exact wpS_bind (Z8_ (UV_ hC hz (by omega) (h.to (mirror_perm _ _ _ _) (uE_ hl (Nat.le_refl _))) (dd.snoc n1 kp (by omega)) q))
  ·have e1:n=1:=by omega
   subst e1
   have dd:Dsc rk (arrOf st) lo (lo+1):=fun i j hi hij hj=>by rw [show i=j by omega];exact Int.le_refl _
   exact UV_ hC hz (by omega) h (dd.snoc (Nat.le_refl _) (fun _=>rfl) (by omega)) q
theorem Qn_ {xs:Array Keyed} {src d:Nat} (hs:src<xs.size) (hd:d≤src) (k:Nat):kr rk (bubble xs src d) k=if k=src - d then kr rk xs src else if src - d<k∧k≤src then kr rk xs (k - 1) else kr rk xs k:=by
 have e:=getElem?_bubble hs d hd k
 split
 ·rename_i c;rw [if_pos c] at e;exact uQ_ e
 ·rename_i c
  rw [if_neg c] at e
  split
  ·rename_i c2;rw [if_pos c2] at e;exact uQ_ e
  ·rename_i c2;rw [if_neg c2] at e;exact uQ_ e
theorem WN_ {st:SortSt} {n ok:Nat} {Q:Bool→SortSt→Prop} (hC:Cmps prog w A s κ rk a₀) (hn:lo+n≤a₀.size) (hk:ok≤n) (h:SB κ a₀ lo old P st) (ho:Asc rk (arrOf st) lo (lo+ok))
  (q:∀ st',SB κ a₀ lo old P st'→Asc rk (arrOf st') lo (lo+n)→Q true st'):wpS (model prog w) A E s (binarySort' lo n ok) Q st:=by
 rw [binarySort'_eq]
 refine wpS_bind (wpS_mono (wpS_forRange (I:=fun k c st'=>c=(none,())∧SB κ a₀ lo old P st'∧Asc rk (arrOf st') lo (lo+min k n))
  (Q:=fun c st'=>c=(none,())∧SB κ a₀ lo old P st'∧Asc rk (arrOf st') lo (lo+n)) (fun k c st' hk1 hkn I=>?_) (fun c st' I=>?_) ⟨rfl,h,fun i j hi hij hj=>?_⟩) fun c st' I=>?_)
 ·obtain ⟨rfl,h',o⟩:=I
  rw [show min k n=k by omega] at o
  have hsz:lo+k<(arrOf st').size:=by rw [h'.sz];omega
  refine wpS_bind (wpS_mono (wpS_forRange (I:=fun x c st2=>st2=st'∧∃ l r,c=(none,l,r)∧l≤r∧r≤k∧r - l≤k - x ∧
    (∀ i,i<l→kr rk (arrOf st') (lo+i)≤kr rk (arrOf st') (lo+k))∧(∀ i,r≤i→i<k→kr rk (arrOf st') (lo+k)<kr rk (arrOf st') (lo+i)))
   (Q:=fun c st2=>st2=st'∧∃ l r,c=(none,l,r)∧l≤k∧(∀ i,i<l→kr rk (arrOf st') (lo+i)≤kr rk (arrOf st') (lo+k))∧(∀ i,l≤i→i<k→kr rk (arrOf st') (lo+k)<kr rk (arrOf st') (lo+i)))
   (fun x c st2 _ hx J=>?_) (fun c st2 J=>?_) ⟨rfl,0,k,rfl,by omega,by omega,by omega,fun i hi=>by omega,fun i i1 i2=>by omega⟩) fun c st2 J=>?_)
  ·obtain ⟨rfl,l,r,rfl,lr,rk',sz,b1,b2⟩:=J
   dsimp only
   by_cases c:l≥r
   ·rw [if_pos c]
    exact wpS_pure ⟨rfl,l,r,rfl,by omega,b1,fun i i1 i2=>b2 i (by omega) i2⟩
   ·rw [if_neg c]
    refine wpS_bind (Yg_ hC h' (by omega) (by omega) ?_)
    by_cases c2:kr rk (arrOf st2) (lo+k)<kr rk (arrOf st2) (lo+(l+r) / 2)
    ·rw [decide_eq_true c2]
     refine wpS_pure ⟨rfl,l,(l+r) / 2,rfl,by omega,by omega,by omega,b1,fun i i1 i2=>?_⟩
     have:=o (lo+(l+r) / 2) (lo+i) (by omega) (by omega) (by omega)
     omega
    ·rw [decide_eq_false c2]
     refine wpS_pure ⟨rfl,(l+r) / 2+1,r,rfl,by omega,by omega,by omega,fun i i1=>?_,b2⟩
     have:=o (lo+i) (lo+(l+r) / 2) (by omega) (by omega) (by omega)
     omega
  ·obtain ⟨rfl,l,r,rfl,lr,rk',sz,b1,b2⟩:=J
   exact ⟨rfl,l,r,rfl,by omega,b1,fun i i1 i2=>b2 i (by omega) i2⟩
  ·obtain ⟨rfl,l,r,rfl,lk,b1,b2⟩:=J
   show wpS _ _ _ _ (moveDown' (lo+k) (lo+l) >>= fun _=>pure (ForInStep.yield (none,()))) _ _
   rw [moveDown'_eq]
   have ed:lo+k - (lo+k - (lo+l))=lo+l:=by omega
   refine wpS_bind (wpS_modify (wpS_pure ⟨rfl,h'.to (bubble_perm _ _ _) (fun i hi=>?_),fun i j hi hij hj=>?_⟩))
   ·rw [getElem?_bubble hsz _ (by omega),if_neg (by omega),if_neg (by omega)]
   ·rw [show min (k+1) n=k+1 by omega] at hj
    show kr rk (bubble (arrOf st2) (lo+k) (lo+k - (lo+l))) i≤kr rk (bubble (arrOf st2) (lo+k) (lo+k - (lo+l))) j
    rw [Qn_ hsz (by omega),Qn_ hsz (by omega),ed]
    have t1:∀ i,lo≤i→i<lo+l→kr rk (arrOf st2) i≤kr rk (arrOf st2) (lo+k):=fun i i1 i2=>by
     have:=b1 (i - lo) (by omega)
     rwa [show lo+(i - lo)=i by omega] at this
    have t2:∀ i,lo+l≤i→i<lo+k→kr rk (arrOf st2) (lo+k)<kr rk (arrOf st2) i:=fun i i1 i2=>by
     have:=b2 (i - lo) (by omega) (by omega)
     rwa [show lo+(i - lo)=i by omega] at this
    split
    ·split
     ·exact Int.le_refl _
     ·split
      ·exact Int.le_of_lt (t2 _ (by omega) (by omega))
      ·omega
    ·split
     ·split
      ·omega
      ·split
       ·exact o _ _ (by omega) (by omega) (by omega)
       ·omega
     ·split
      ·exact t1 _ hi (by omega)
      ·split
       ·exact o _ _ (by omega) (by omega) (by omega)
       ·exact o _ _ (by omega) (by omega) (by omega)
 ·obtain ⟨rfl,h',o⟩:=I
  rw [show min (max (max ok 1) n) n=n by omega] at o
  exact ⟨rfl,h',o⟩
 ·by_cases c:ok=0
  ·rw [show i=j by omega];exact Int.le_refl _
  ·exact ho i j hi hij (by omega)
 ·obtain ⟨rfl,h',o⟩:=I
  exact wpS_pure (q st' h' o)
end
end TS
set_option Elab.async false
set_option linter.all false
set_option maxRecDepth 100000
namespace TS
open PySem PyProof.Rows
abbrev SM':=StateT SortSt Sem
def gal (bey:Nat→SM' (Option Bool)) (n at0:Nat):SM' (Option Nat):=do
 let mut u:=0
 let mut o:=1
 let mut l:=0
 let mut h:=0
 let some b0 ←bey at0|return none
 if b0 then
  let z:=n - at0
  for _ in [0:n] do
   if o≥z then break
   let some b ←bey (at0+o)|return none
   if !b then break
   u:=o
   o:=2*o+1
  l:=at0+u+1
  h:=at0+min o z
 else
  let z:=at0+1
  for _ in [0:n] do
   if o≥z then break
   let some b ←bey (at0 - o)|return none
   if b then break
   u:=o
   o:=2*o+1
  l:=at0+1 - min o z
  h:=at0 - u
 for _ in [0:n] do
  if l≥h then break
  let m:=l+(h - l) / 2
  let some b ←bey m|return none
  if b then l:=m+1 else h:=m
 return some h
def jy_:Bool→Keyed→Array Keyed→Nat→Nat→Nat→SM' (Option Nat):=sortPriv% PySem.Builtin.gallop
theorem Zn_ (left:Bool) (key:Keyed) (arr:Array Keyed) (base n at0:Nat):jy_ left key arr base n at0=gal (fun i=>do
  let x ←elem' arr (base+i)
  if left then lt' x key else return (←lt' key x).map (!·)) n at0:=rfl
section
variable {prog:Program} {w:World} {A:Around} {E:Value→Shared→Prop} {s:Shared}
theorem UP_ {bey:Nat→SM' (Option Bool)} {B:Nat→Prop} [DecidablePred B] {n:Nat} {st:SortSt} {Q:Option (Option Nat)×Nat×Nat→SortSt→Prop} {l h:Nat}
  (hb:∀ i,i<n→∀ Q:Option Bool→SortSt→Prop,Q (some (decide (B i))) st→wpS (model prog w) A E s (bey i) Q st) (mono:∀ i j,i≤j→j<n→B j→B i)
  (lh:l≤h) (hn:h≤n) (b1:∀ i,i<l→B i) (b2:∀ i,h≤i→i<n→¬ B i) (q:∀ l k,k≤n→(∀ i,i<k→B i)→(∀ i,k≤i→i<n→¬ B i)→Q (none,l,k) st) :
  wpS (model prog w) A E s (forIn [0:n] ((none,l,h):Option (Option Nat)×Nat×Nat) fun _ c =>
   if c.snd.fst≥c.snd.snd then pure (ForInStep.done (none,c.snd.fst,c.snd.snd))
   else do
    match ←bey (c.snd.fst+(c.snd.snd - c.snd.fst) / 2) with
    | some b=>if b=true then pure (ForInStep.yield (none,c.snd.fst+(c.snd.snd - c.snd.fst) / 2+1,c.snd.snd)) else pure (ForInStep.yield (none,c.snd.fst,c.snd.fst+(c.snd.snd - c.snd.fst) / 2))
    | _=>pure (ForInStep.done (some none,c.snd.fst,c.snd.snd))) Q st:=by
 refine wpS_forRange (I:=fun x c st'=>st'=st∧∃ l h,c=(none,l,h)∧l≤h∧h≤n∧h - l≤n - x∧(∀ i,i<l→B i)∧(∀ i,h≤i→i<n→¬ B i)) (fun x c st' _ hx I=>?_) (fun c st' I=>?_) ⟨rfl,l,h,rfl,lh,hn,by omega,b1,b2⟩
 ·obtain ⟨rfl,l,h,rfl,lh,hn,sz,b1,b2⟩:=I
  dsimp only
  split
  ·exact wpS_pure (q l h hn (fun i hi=>b1 i (by omega)) b2)
  ·rename_i c
   refine wpS_bind (hb _ (by omega) _ ?_)
   by_cases d:B (l+(h - l) / 2)
   ·rw [decide_eq_true d]
    exact wpS_pure ⟨rfl,_,h,rfl,by omega,hn,by omega,fun i hi=>mono i _ (by omega) (by omega) d,b2⟩
   ·rw [decide_eq_false d]
    exact wpS_pure ⟨rfl,l,_,rfl,by omega,by omega,by omega,b1,fun i i1 i2 e=>d (mono _ i i1 i2 e)⟩
 ·obtain ⟨rfl,l,h,rfl,lh,hn,sz,b1,b2⟩:=I
  exact q l h hn (fun i hi=>b1 i (by omega)) b2
theorem Qo_ {bey:Nat→SM' (Option Bool)} {B:Nat→Prop} [DecidablePred B] {n at0:Nat} {st:SortSt} {Q:Option Nat→SortSt→Prop}
  (hb:∀ i,i<n→∀ Q:Option Bool→SortSt→Prop,Q (some (decide (B i))) st→wpS (model prog w) A E s (bey i) Q st) (mono:∀ i j,i≤j→j<n→B j→B i) (h0:at0<n)
  (q:∀ k,k≤n→(∀ i,i<k→B i)→(∀ i,k≤i→i<n→¬ B i)→Q (some k) st):wpS (model prog w) A E s (gal bey n at0) Q st:=by
 unfold gal
 dsimp only
 refine wpS_bind (hb at0 h0 _ ?_)
 by_cases d:B at0
 ·rw [decide_eq_true d]
  dsimp only
  rw [if_pos rfl]
  refine wpS_bind (wpS_mono (wpS_forRange (I:=fun x c st'=>st'=st∧∃ u o,c=(none,u,o)∧u<o∧x<o∧at0+u<n∧B (at0+u))
   (Q:=fun c st'=>st'=st∧∃ u o,c=(none,u,o)∧u<o∧at0+u<n∧B (at0+u)∧(at0+o<n→¬ B (at0+o))) (fun x c st' _ hx I=>?_) (fun c st' I=>?_) ⟨rfl,0,1,rfl,by omega,by omega,h0,d⟩) fun c st' I=>?_)
  ·obtain ⟨rfl,u,o,rfl,uo,xo,un,bu⟩:=I
   dsimp only
   split
   ·exact wpS_pure ⟨rfl,u,o,rfl,uo,un,bu,fun z=>by omega⟩
   ·rename_i c
    refine wpS_bind (hb _ (by omega) _ ?_)
    by_cases e:B (at0+o)
    ·rw [decide_eq_true e]
     exact wpS_pure ⟨rfl,o,2*o+1,rfl,by omega,by omega,by omega,e⟩
    ·rw [decide_eq_false e]
     exact wpS_pure ⟨rfl,u,o,rfl,uo,un,bu,fun _=>e⟩
  ·obtain ⟨rfl,u,o,rfl,uo,xo,un,bu⟩:=I
   exact ⟨rfl,u,o,rfl,uo,un,bu,fun z=>by omega⟩
  ·obtain ⟨rfl,u,o,rfl,uo,un,bu,bo⟩:=I
   dsimp only
   refine wpS_bind (UP_ hb mono (by omega) (by omega) (fun i hi=>mono i _ (by omega) un bu) (fun i i1 i2 e=>?_) fun l k k1 k2 k3=>wpS_pure (q k k1 k2 k3))
   by_cases z:at0+o<n
   ·exact bo z (mono _ i (by omega) i2 e)
   ·omega
 ·rw [decide_eq_false d]
  dsimp only
  rw [if_neg (by decide)]
  refine wpS_bind (wpS_mono (wpS_forRange (I:=fun x c st'=>st'=st∧∃ u o,c=(none,u,o)∧u<o∧x<o∧u≤at0∧¬ B (at0 - u))
   (Q:=fun c st'=>st'=st∧∃ u o,c=(none,u,o)∧u<o∧u≤at0∧¬ B (at0 - u)∧(o≤at0→B (at0 - o))) (fun x c st' _ hx I=>?_) (fun c st' I=>?_) ⟨rfl,0,1,rfl,by omega,by omega,by omega,d⟩) fun c st' I=>?_)
  ·obtain ⟨rfl,u,o,rfl,uo,xo,un,bu⟩:=I
   dsimp only
   split
   ·exact wpS_pure ⟨rfl,u,o,rfl,uo,un,bu,fun z=>by omega⟩
   ·rename_i c
    refine wpS_bind (hb _ (by omega) _ ?_)
    by_cases e:B (at0 - o)
    ·rw [decide_eq_true e]
     exact wpS_pure ⟨rfl,u,o,rfl,uo,un,bu,fun _=>e⟩
    ·rw [decide_eq_false e]
     exact wpS_pure ⟨rfl,o,2*o+1,rfl,by omega,by omega,by omega,e⟩
  ·obtain ⟨rfl,u,o,rfl,uo,xo,un,bu⟩:=I
   exact ⟨rfl,u,o,rfl,uo,un,bu,fun z=>by omega⟩
  ·obtain ⟨rfl,u,o,rfl,uo,un,bu,bo⟩:=I
   dsimp only
   refine wpS_bind (UP_ hb mono (by omega) (by omega) (fun i hi=>?_) (fun i i1 i2 e=>bu (mono _ i i1 i2 e)) fun l k k1 k2 k3=>wpS_pure (q k k1 k2 k3))
   by_cases z:o≤at0
   ·exact mono i _ (by omega) (by omega) (bo z)
   ·omega
variable {κ:SortKind} {rk:Value→Int} {a₀:Array Keyed}
theorem uq_ {key:Keyed} {arr:Array Keyed} {base n at0:Nat} {st:SortSt} {Q:Option Nat→SortSt→Prop} (hC:Cmps prog w A s κ rk a₀) (hk:kindOf st=κ) (hm:key∈a₀.toList) (hz:base+n≤arr.size) (ha:∀ p∈arr.toList,p∈a₀.toList)
  (ho:Asc rk arr base (base+n)) (h0:at0<n) (q:∀ k,k≤n→(∀ i,i<k→kr rk arr (base+i)<rk key.1)→(∀ i,k≤i→i<n→rk key.1≤kr rk arr (base+i))→Q (some k) st) :
  wpS (model prog w) A E s (jy_ true key arr base n at0) Q st:=by
 rw [Zn_]
 refine Qo_ (B:=fun i=>kr rk arr (base+i)<rk key.1) (fun i hi Q q=>?_) (fun i j ij jn b=>?_) h0 fun k k1 k2 k3=>q k k1 k2 fun i i1 i2=>Int.not_lt.mp (k3 i i1 i2)
 ·have e:arr[base+i]? = some (arr[base+i]'(by omega)):=Array.getElem?_eq_getElem _
  refine wpS_bind (ja_ e ?_)
  rw [if_pos rfl]
  refine Uw_ hC hk (ha _ (by simp)) hm ?_
  rw [z0_ e] at q
  exact q
 ·have:=ho (base+i) (base+j) (by omega) (by omega) (by omega)
  omega
theorem up_ {key:Keyed} {arr:Array Keyed} {base n at0:Nat} {st:SortSt} {Q:Option Nat→SortSt→Prop} (hC:Cmps prog w A s κ rk a₀) (hk:kindOf st=κ) (hm:key∈a₀.toList) (hz:base+n≤arr.size) (ha:∀ p∈arr.toList,p∈a₀.toList)
  (ho:Asc rk arr base (base+n)) (h0:at0<n) (q:∀ k,k≤n→(∀ i,i<k→kr rk arr (base+i)≤rk key.1)→(∀ i,k≤i→i<n→rk key.1<kr rk arr (base+i))→Q (some k) st) :
  wpS (model prog w) A E s (jy_ false key arr base n at0) Q st:=by
 rw [Zn_]
 refine Qo_ (B:=fun i=>¬ rk key.1<kr rk arr (base+i)) (fun i hi Q q=>?_) (fun i j ij jn b=>?_) h0 fun k k1 k2 k3=>q k k1 (fun i hi=>Int.not_lt.mp (k2 i hi)) fun i i1 i2=>Classical.not_not.mp (k3 i i1 i2)
 ·have e:arr[base+i]? = some (arr[base+i]'(by omega)):=Array.getElem?_eq_getElem _
  refine wpS_bind (ja_ e ?_)
  rw [if_neg (by decide)]
  refine wpS_bind (Uw_ hC hk hm (ha _ (by simp)) (wpS_pure ?_))
  rw [z0_ e] at q
  have e2:(some (decide (rk key.1<rk (arr[base+i]'(by omega)).1))).map (!·)=some (decide (¬ rk key.1<rk (arr[base+i]'(by omega)).1)):=by
   generalize rk (arr[base+i]'(by omega)).1=x
   rw [Option.map_some]
   congr 1
   by_cases c:rk key.1<x
   ·rw [decide_eq_true c,decide_eq_false (fun z=>z c)];rfl
   ·rw [decide_eq_false c,decide_eq_true c];rfl
  rw [e2]
  exact q
 ·have:=ho (base+i) (base+j) (by omega) (by omega) (by omega)
  omega
end
end TS
set_option Elab.async false
set_option linter.all false
set_option maxRecDepth 100000
namespace TS
open PySem PyProof.Rows
def setG:Nat→SM' Unit:=sortPriv% PySem.Builtin.setMinGallop
theorem QJ_ (g:Nat):setG g=modify fun c=>SortSt.mk' (kindOf c) (arrOf c) (pendingOf c) g (failedOf c):=rfl
def yJ_:Array Keyed→Array Keyed→SM' (Array Keyed):=sortPriv% PySem.Builtin.mergeLo
def yK_:Array Keyed→Array Keyed→SM' (Array Keyed):=sortPriv% PySem.Builtin.mergeHi
abbrev W1:=Option (Array Keyed)×Array Keyed×Nat×Nat×Nat×Nat
abbrev W2:=Option (Array Keyed)×Array Keyed×Nat×Nat×Nat×Nat×Nat
abbrev W0:=Option (Array Keyed)×Array Keyed×Nat×Nat×Nat
section
variable (a b:Array Keyed)
def fA (out:Array Keyed) (i j:Nat):Array Keyed:=out++a.extract i a.size++b.extract j b.size
def fB (out:Array Keyed) (i j:Nat):Array Keyed:=out++b.extract j b.size++a.extract i a.size
def lS (g:Nat) (out:Array Keyed) (i j p q:Nat):SM' (ForInStep W1):=do
 let x ←elem' b j
 let y ←elem' a i
 match ←lt' x y with
 | some t =>
  if t=true then do
   let x ←elem' b j
   if (j+1==b.size)=true then pure (.done (some (fA a b (out.push x) i (j+1)),out.push x,i,j+1,0,q+1))
   else if q+1≥g then pure (.done (none,out.push x,i,j+1,0,q+1))
   else pure (.yield (none,out.push x,i,j+1,0,q+1))
  else do
   let y ←elem' a i
   if (i+1+1==a.size)=true then pure (.done (some (fB a b (out.push y) (i+1) j),out.push y,i+1,j,p+1,0))
   else if p+1≥g then pure (.done (none,out.push y,i+1,j,p+1,0))
   else pure (.yield (none,out.push y,i+1,j,p+1,0))
 | _=>pure (.done (some (fA a b out i j),out,i,j,p,q))
def l3 (out:Array Keyed) (i j g p q:Nat):SM' (ForInStep W2):=do
 let y ←elem' a i
 if (i+1+1==a.size)=true then pure (.done (some (fB a b (out.push y) (i+1) j),out.push y,i+1,j,g,p,q))
 else if (decide (p<7)&&decide (q<7))=true then pure (.done (none,out.push y,i+1,j,g,p,q))
 else pure (.yield (none,out.push y,i+1,j,g,p,q))
def l2 (out:Array Keyed) (i j g p q:Nat):SM' (ForInStep W2):=do
 let y ←elem' a i
 match ←jy_ true y b j (b.size - j) 0 with
 | some k =>
  if k>0 then
   if (j+k==b.size)=true then pure (.done (some (fA a b (out++b.extract j (j+k)) i (j+k)),out++b.extract j (j+k),i,j+k,g,p,k))
   else l3 a b (out++b.extract j (j+k)) i (j+k) g p k
  else l3 a b out i j g p k
 | _=>pure (.done (some (fA a b out i j),out,i,j,g,p,q))
def l1 (out:Array Keyed) (i j g p q:Nat):SM' (ForInStep W2):=do
 let x ←elem' b j
 if (j+1==b.size)=true then pure (.done (some (fA a b (out.push x) i (j+1)),out.push x,i,j+1,g,p,q))
 else l2 a b (out.push x) i (j+1) g p q
def l0 (out:Array Keyed) (i j g p q:Nat):SM' (ForInStep W2):=do
 setG g
 let x ←elem' b j
 match ←jy_ false x a i (a.size - i) 0 with
 | some k =>
  if k>0 then
   if (i+k+1==a.size)=true then pure (.done (some (fB a b (out++a.extract i (i+k)) (i+k) j),out++a.extract i (i+k),i+k,j,g,k,q))
   else if (i+k==a.size)=true then pure (.done (some (fA a b (out++a.extract i (i+k)) (i+k) j),out++a.extract i (i+k),i+k,j,g,k,q))
   else l1 a b (out++a.extract i (i+k)) (i+k) j g k q
  else l1 a b out i j g k q
 | _=>pure (.done (some (fA a b out i j),out,i,j,g,p,q))
def lT (out:Array Keyed) (i j g:Nat):SM' (ForInStep W0):=do
 let c ←forIn [0:a.size+b.size] ((none,out,i,j,0,0):W1) fun _ c=>lS a b g c.2.1 c.2.2.1 c.2.2.2.1 c.2.2.2.2.1 c.2.2.2.2.2
 match c.1 with
 | some r=>pure (.done (some r,c.2.1,c.2.2.1,c.2.2.2.1,g))
 | none=>do
  liftM (rule "list.sort.gallop")
  let d ←forIn [0:a.size+b.size] ((none,c.2.1,c.2.2.1,c.2.2.2.1,g+1,c.2.2.2.2.1,c.2.2.2.2.2):W2) fun _ c =>
   if c.2.2.2.2.1>1 then l0 a b c.2.1 c.2.2.1 c.2.2.2.1 (c.2.2.2.2.1 - 1) c.2.2.2.2.2.1 c.2.2.2.2.2.2
   else l0 a b c.2.1 c.2.2.1 c.2.2.2.1 c.2.2.2.2.1 c.2.2.2.2.2.1 c.2.2.2.2.2.2
  match d.1 with
  | some r=>pure (.done (some r,d.2.1,d.2.2.1,d.2.2.2.1,d.2.2.2.2.1))
  | none=>do
   setG (d.2.2.2.2.1+1)
   pure (.yield (none,d.2.1,d.2.2.1,d.2.2.2.1,d.2.2.2.2.1+1))
theorem JN_:yJ_ a b=(do
  liftM (rule "list.sort.merge-lo")
  let x ←elem' b 0
  if (1==b.size)=true then pure (fA a b #[x] 0 1)
  else if (0+1==a.size)=true then pure (fB a b #[x] 0 1)
  else do
   let st ←get
   let c ←forIn [0:a.size+b.size] ((none,#[x],0,1,gallopOf st):W0) fun _ c=>lT a b c.2.1 c.2.2.1 c.2.2.2.1 c.2.2.2.2
   match c.1 with
   | some r=>pure r
   | none=>liftM (unsupported "internal:list.sort.merge-bound" : Sem (Array Keyed))):=by
 kernel_rfl
def hA (out:Array Keyed) (i j:Nat):Array Keyed:=a.extract 0 i++b.extract 0 j++out.reverse
def hB (out:Array Keyed) (i j:Nat):Array Keyed:=b.extract 0 j++a.extract 0 i++out.reverse
abbrev V1:=Option (Array Keyed)×Nat×Nat×Array Keyed×Nat×Nat
abbrev V2:=Option (Array Keyed)×Nat×Nat×Array Keyed×Nat×Nat×Nat
abbrev V0:=Option (Array Keyed)×Nat×Nat×Array Keyed×Nat
def hS (g:Nat) (i j:Nat) (out:Array Keyed) (p q:Nat):SM' (ForInStep V1):=do
 let x ←elem' b (j - 1)
 let y ←elem' a (i - 1)
 match ←lt' x y with
 | some t =>
  if t=true then do
   let y ←elem' a (i - 1)
   if (i - 1==0)=true then pure (.done (some (hA a b (out.push y) (i - 1) j),i - 1,j,out.push y,p+1,0))
   else if p+1≥g then pure (.done (none,i - 1,j,out.push y,p+1,0))
   else pure (.yield (none,i - 1,j,out.push y,p+1,0))
  else do
   let x ←elem' b (j - 1)
   if (j - 1==1)=true then pure (.done (some (hB a b (out.push x) i (j - 1)),i,j - 1,out.push x,0,q+1))
   else if q+1≥g then pure (.done (none,i,j - 1,out.push x,0,q+1))
   else pure (.yield (none,i,j - 1,out.push x,0,q+1))
 | _=>pure (.done (some (hA a b out i j),i,j,out,p,q))
def h3 (i j:Nat) (out:Array Keyed) (g p q:Nat):SM' (ForInStep V2):=do
 let y ←elem' a (i - 1)
 if (i - 1==0)=true then pure (.done (some (hA a b (out.push y) (i - 1) j),i - 1,j,out.push y,g,p,q))
 else if (decide (p<7)&&decide (q<7))=true then pure (.done (none,i - 1,j,out.push y,g,p,q))
 else pure (.yield (none,i - 1,j,out.push y,g,p,q))
def h2 (i j:Nat) (out:Array Keyed) (g p q:Nat):SM' (ForInStep V2):=do
 let y ←elem' a (i - 1)
 match ←jy_ true y b 0 j (j - 1) with
 | some x =>
  if j - x>0 then
   if (x==1)=true then pure (.done (some (hB a b (out++(b.extract x j).reverse) i x),i,x,out++(b.extract x j).reverse,g,p,j - x))
   else if (x==0)=true then pure (.done (some (hA a b (out++(b.extract x j).reverse) i x),i,x,out++(b.extract x j).reverse,g,p,j - x))
   else h3 a b i x (out++(b.extract x j).reverse) g p (j - x)
  else h3 a b i j out g p (j - x)
 | _=>pure (.done (some (hA a b out i j),i,j,out,g,p,q))
def h1 (i j:Nat) (out:Array Keyed) (g p q:Nat):SM' (ForInStep V2):=do
 let x ←elem' b (j - 1)
 if (j - 1==1)=true then pure (.done (some (hB a b (out.push x) i (j - 1)),i,j - 1,out.push x,g,p,q))
 else h2 a b i (j - 1) (out.push x) g p q
def h0 (i j:Nat) (out:Array Keyed) (g p q:Nat):SM' (ForInStep V2):=do
 setG g
 let x ←elem' b (j - 1)
 match ←jy_ false x a 0 i (i - 1) with
 | some x =>
  if i - x>0 then
   if (x==0)=true then pure (.done (some (hA a b (out++(a.extract x i).reverse) x j),x,j,out++(a.extract x i).reverse,g,i - x,q))
   else h1 a b x j (out++(a.extract x i).reverse) g (i - x) q
  else h1 a b i j out g (i - x) q
 | _=>pure (.done (some (hA a b out i j),i,j,out,g,p,q))
def hT (i j:Nat) (out:Array Keyed) (g:Nat):SM' (ForInStep V0):=do
 let c ←forIn [0:a.size+b.size] ((none,i,j,out,0,0):V1) fun _ c=>hS a b g c.2.1 c.2.2.1 c.2.2.2.1 c.2.2.2.2.1 c.2.2.2.2.2
 match c.1 with
 | some r=>pure (.done (some r,c.2.1,c.2.2.1,c.2.2.2.1,g))
 | none=>do
  liftM (rule "list.sort.gallop")
  let d ←forIn [0:a.size+b.size] ((none,c.2.1,c.2.2.1,c.2.2.2.1,g+1,c.2.2.2.2.1,c.2.2.2.2.2):V2) fun _ c =>
   if c.2.2.2.2.1>1 then h0 a b c.2.1 c.2.2.1 c.2.2.2.1 (c.2.2.2.2.1 - 1) c.2.2.2.2.2.1 c.2.2.2.2.2.2
   else h0 a b c.2.1 c.2.2.1 c.2.2.2.1 c.2.2.2.2.1 c.2.2.2.2.2.1 c.2.2.2.2.2.2
  match d.1 with
  | some r=>pure (.done (some r,d.2.1,d.2.2.1,d.2.2.2.1,d.2.2.2.2.1))
  | none=>do
   setG (d.2.2.2.2.1+1)
   pure (.yield (none,d.2.1,d.2.2.1,d.2.2.2.1,d.2.2.2.2.1+1))
theorem JP_:yK_ a b=(do
  liftM (rule "list.sort.merge-hi")
  let x ←elem' a (a.size - 1)
  if (a.size - 1==0)=true then pure (hA a b #[x] (a.size - 1) b.size)
  else if (b.size==1)=true then pure (hB a b #[x] (a.size - 1) b.size)
  else do
   let st ←get
   let c ←forIn [0:a.size+b.size] ((none,a.size - 1,b.size,#[x],gallopOf st):V0) fun _ c=>hT a b c.2.1 c.2.2.1 c.2.2.2.1 c.2.2.2.2
   match c.1 with
   | some r=>pure r
   | none=>liftM (unsupported "internal:list.sort.merge-bound" : Sem (Array Keyed))):=by
 kernel_rfl
end
end TS
set_option Elab.async false
set_option linter.all false
set_option maxRecDepth 100000
namespace TS
open PySem PyProof.Rows
section
variable {rk:Value→Int}
abbrev Le (rk:Value→Int) (x y:Keyed):Prop:=rk x.1≤rk y.1
structure Gd (rk:Value→Int) (T O A B:List Keyed):Prop where
 so:O.Pairwise (Le rk)
 sa:A.Pairwise (Le rk)
 sb:B.Pairwise (Le rk)
 ah:∀ x∈O,∀ y,y∈A∨y∈B→Le rk x y
 pm:(O++(A++B)).Perm T
def Srt (rk:Value→Int) (T r:List Keyed):Prop:=r.Pairwise (Le rk)∧r.Perm T
theorem Gd.a {T O S A B:List Keyed} (h:Gd rk T O (S++A) B) (hs:∀ x∈S,∀ y∈B,Le rk x y):Gd rk T (O++S) A B:=by
 have sa:=List.pairwise_append.mp h.sa
 refine ⟨List.pairwise_append.mpr ⟨h.so,sa.1,fun x hx y hy=>h.ah x hx y (.inl (List.mem_append_left _ hy))⟩,sa.2.1,h.sb,fun x hx y hy=>?_,by simpa [List.append_assoc] using h.pm⟩
 rcases List.mem_append.mp hx with hx|hx
 ·exact h.ah x hx y (hy.imp (List.mem_append_right _) id)
 ·rcases hy with hy|hy
  ·exact sa.2.2 x hx y hy
  ·exact hs x hx y hy
theorem Gd.flip {T O A B:List Keyed} (h:Gd rk T O A B):Gd rk T O B A :=
 ⟨h.so,h.sb,h.sa,fun x hx y hy=>h.ah x hx y hy.symm,((List.perm_append_comm (l₁:=B)).append_left O).trans h.pm⟩
theorem Gd.b {T O S A B:List Keyed} (h:Gd rk T O A (S++B)) (hs:∀ x∈S,∀ y∈A,Le rk x y):Gd rk T (O++S) A B:=(h.flip.a hs).flip
theorem Gd.fa {T O A B:List Keyed} (h:Gd rk T O A B) (hs:∀ x∈A,∀ y∈B,Le rk x y):Srt rk T (O++A++B):=by
 refine ⟨?_,by rw [List.append_assoc];exact h.pm⟩
 rw [List.append_assoc]
 exact List.pairwise_append.mpr ⟨h.so,List.pairwise_append.mpr ⟨h.sa,h.sb,hs⟩,fun x hx y hy=>h.ah x hx y (List.mem_append.mp hy)⟩
theorem Gd.fb {T O A B:List Keyed} (h:Gd rk T O A B) (hs:∀ x∈B,∀ y∈A,Le rk x y):Srt rk T (O++B++A):=h.flip.fa hs
abbrev Ga (rk:Value→Int) (T:List Keyed) (a b out:Array Keyed) (i j:Nat):Prop:=Gd rk T out.toList (a.toList.drop i) (b.toList.drop j)
theorem Vr_ {a:Array Keyed} {i:Nat} (h:i<a.size):a.toList.drop i=[a[i]]++a.toList.drop (i+1):=by
 rw [List.drop_eq_getElem_cons (by simpa using h)]
 simp
theorem Y3_ {a:Array Keyed} {i k:Nat}:a.toList.drop i=(a.extract i (i+k)).toList++a.toList.drop (i+k):=by
 rw [Array.toList_extract,List.extract_eq_take_drop,Nat.add_sub_cancel_left,←List.drop_drop,List.take_append_drop]
theorem uG_ {a:Array Keyed} {i:Nat} {x:Keyed} (h:x∈a.toList.drop i):∃ t,i≤t∧t<a.size∧kr rk a t=rk x.1:=by
 obtain ⟨n,hn,e⟩:=List.mem_iff_getElem.mp h
 have hl:i+n<a.size:=by
  rw [List.length_drop] at hn
  have:a.toList.length=a.size:=Array.length_toList
  omega
 refine ⟨i+n,by omega,hl,z0_ ?_⟩
 rw [List.getElem_drop] at e
 rw [Array.getElem?_eq_getElem hl,←e]
 simp
theorem Vc_ {a:Array Keyed} {i k:Nat} {x:Keyed} (h:x∈(a.extract i (i+k)).toList):∃ t,i≤t∧t<i+k∧t<a.size∧kr rk a t=rk x.1:=by
 obtain ⟨n,hn,e⟩:=List.mem_iff_getElem.mp h
 have hn':n<(a.extract i (i+k)).size:=by rw [←Array.length_toList];exact hn
 rw [Array.size_extract] at hn'
 refine ⟨i+n,by omega,by omega,by omega,z0_ ?_⟩
 rw [Array.getElem?_eq_getElem (by omega),←e]
 simp
theorem jM_ {a:Array Keyed} (h:Asc rk a 0 a.size):a.toList.Pairwise (Le rk):=by
 rw [List.pairwise_iff_getElem]
 intro i j hi hj hij
 have hi':i<a.size:=by simpa using hi
 have hj':j<a.size:=by simpa using hj
 have:=h i j (Nat.zero_le _) (Nat.le_of_lt hij) hj'
 rw [z0_ (Array.getElem?_eq_getElem hi'),z0_ (Array.getElem?_eq_getElem hj')] at this
 simpa using this
theorem ZV_ (a b out:Array Keyed) (i j:Nat):(fA a b out i j).toList=out.toList++a.toList.drop i++b.toList.drop j:=by
 unfold fA
 rw [Array.toList_append,Array.toList_append,Array.toList_extract,Array.toList_extract,List.extract_eq_take_drop,List.extract_eq_take_drop,List.take_of_length_le (by simp),List.take_of_length_le (by simp)]
theorem Vo_ (a b out:Array Keyed) (i j:Nat):(fB a b out i j).toList=out.toList++b.toList.drop j++a.toList.drop i:=ZV_ b a out j i
end
section
variable {prog:Program} {w:World} {A:Around} {E:Value→Shared→Prop} {s:Shared} {κ:SortKind} {rk:Value→Int} {a₀:Array Keyed}
structure Two (rk:Value→Int) (a₀ a b:Array Keyed):Prop where
 sa:Asc rk a 0 a.size
 sb:Asc rk b 0 b.size
 ma:∀ p∈a.toList,p∈a₀.toList
 mb:∀ p∈b.toList,p∈a₀.toList
 na:1≤a.size
 nb:1≤b.size
 lo:∀ i,i<a.size→kr rk b 0≤kr rk a i
 hi:∀ j,j<b.size→kr rk b j≤kr rk a (a.size - 1)
structure S0 (κ:SortKind) (X:Array Keyed) (P:Runs) (st:SortSt):Prop where
 kd:kindOf st=κ
 ar:arrOf st=X
 pe:pendingOf st=P
 fl:failedOf st=none
variable {a b X:Array Keyed} {P:Runs}
structure Mid (rk:Value→Int) (a b out:Array Keyed) (i j:Nat):Prop where
 g:Ga rk (a.toList++b.toList) a b out i j
 hi:i+2≤a.size
 hj:j+1≤b.size
def Res (κ:SortKind) (rk:Value→Int) (a b X:Array Keyed) (P:Runs) (r:Array Keyed) (st:SortSt):Prop:=S0 κ X P st∧Srt rk (a.toList++b.toList) r.toList
theorem Ga.pb {T:List Keyed} {out:Array Keyed} {i j:Nat} (g:Ga rk T a b out i j) (hj:j<b.size) (h:∀ t,i≤t→t<a.size→kr rk b j≤kr rk a t):Ga rk T a b (out.push b[j]) i (j+1):=by
 have g':Gd rk T out.toList (a.toList.drop i) (b.toList.drop j):=g
 rw [Vr_ hj] at g'
 show Gd rk T (out.push b[j]).toList _ _
 rw [Array.toList_push]
 refine g'.b fun x hx y hy=>?_
 obtain ⟨t,t1,t2,e⟩:=uG_ (rk:=rk) hy
 rw [List.mem_singleton.mp hx]
 have:=h t t1 t2
 rw [e,z0_ (Array.getElem?_eq_getElem hj)] at this
 exact this
theorem Ga.pa {T:List Keyed} {out:Array Keyed} {i j:Nat} (g:Ga rk T a b out i j) (hi:i<a.size) (h:∀ t,j≤t→t<b.size→kr rk a i≤kr rk b t):Ga rk T a b (out.push a[i]) (i+1) j :=
 Gd.flip (Ga.pb (a:=b) (b:=a) (i:=j) (j:=i) (Gd.flip g) hi h)
theorem Ga.eb {T:List Keyed} {out:Array Keyed} {i j k:Nat} (g:Ga rk T a b out i j) (h:∀ t u,j≤t→t<j+k→i≤u→u<a.size→kr rk b t≤kr rk a u):Ga rk T a b (out++b.extract j (j+k)) i (j+k):=by
 have g':Gd rk T out.toList (a.toList.drop i) (b.toList.drop j):=g
 rw [Y3_ (a:=b) (i:=j) (k:=k)] at g'
 show Gd rk T (out++b.extract j (j+k)).toList _ _
 rw [Array.toList_append]
 refine g'.b fun x hx y hy=>?_
 obtain ⟨t,t1,t2,_,e⟩:=Vc_ (rk:=rk) hx
 obtain ⟨u,u1,u2,e2⟩:=uG_ (rk:=rk) hy
 have:=h t u t1 t2 u1 u2
 rw [e,e2] at this
 exact this
theorem Ga.ea {T:List Keyed} {out:Array Keyed} {i j k:Nat} (g:Ga rk T a b out i j) (h:∀ t u,i≤t→t<i+k→j≤u→u<b.size→kr rk a t≤kr rk b u):Ga rk T a b (out++a.extract i (i+k)) (i+k) j :=
 Gd.flip (Ga.eb (a:=b) (b:=a) (i:=j) (j:=i) (Gd.flip g) h)
theorem Ga.eB {T:List Keyed} {out:Array Keyed} {i j:Nat} (g:Ga rk T a b out i j) (hj:b.size≤j):Srt rk T (fA a b out i j).toList:=by
 rw [ZV_]
 refine Gd.fa g fun x _ y hy=>?_
 rw [List.drop_eq_nil_of_le (by simpa using hj)] at hy
 cases hy
theorem Ga.eA {T:List Keyed} {out:Array Keyed} {i j:Nat} (g:Ga rk T a b out i j) (hi:a.size≤i):Srt rk T (fA a b out i j).toList:=by
 rw [ZV_]
 refine Gd.fa g fun x hx y _=>?_
 rw [List.drop_eq_nil_of_le (by simpa using hi)] at hx
 cases hx
theorem Ga.eL {T:List Keyed} {out:Array Keyed} {i j:Nat} (g:Ga rk T a b out i j) (tw:Two rk a₀ a b) (hi:i+1=a.size):Srt rk T (fB a b out i j).toList:=by
 rw [Vo_]
 refine Gd.fb g fun x hx y hy=>?_
 obtain ⟨t,t1,t2,e⟩:=uG_ (rk:=rk) hx
 obtain ⟨u,u1,u2,e2⟩:=uG_ (rk:=rk) hy
 have:=tw.hi t t2
 rw [e,show a.size - 1=u by omega,e2] at this
 exact this
theorem yB_ {g:Nat} {st:SortSt} {Q:Unit→SortSt→Prop} (h:S0 κ X P st) (q:∀ st',S0 κ X P st'→Q () st'):wpS (model prog w) A E s (setG g) Q st:=by
 rw [QJ_]
 exact wpS_modify (q _ ⟨h.kd,h.ar,h.pe,h.fl⟩)
theorem Xy_ {g:Nat} {out:Array Keyed} {i j p q:Nat} {st:SortSt} {Q:ForInStep W1→SortSt→Prop} (hC:Cmps prog w A s κ rk a₀) (tw:Two rk a₀ a b) (h:S0 κ X P st) (m:Mid rk a b out i j)
  (q1:∀ r o i j p q,Res κ rk a b X P r st→Q (.done (some r,o,i,j,p,q)) st) (q2:∀ o i' j' p q,Mid rk a b o i' j'→i'+j'=i+j+1→Q (.done (none,o,i',j',p,q)) st∧Q (.yield (none,o,i',j',p,q)) st) :
  wpS (model prog w) A E s (lS a b g out i j p q) Q st:=by
 have hi:=m.hi
 have hj:=m.hj
 have ea:a[i]? = some (a[i]'(by omega)):=Array.getElem?_eq_getElem _
 have eb:b[j]? = some (b[j]'(by omega)):=Array.getElem?_eq_getElem _
 unfold lS
 refine wpS_bind (ja_ eb (wpS_bind (ja_ ea (wpS_bind (Uw_ hC h.kd (tw.mb _ (by simp)) (tw.ma _ (by simp)) ?_)))))
 by_cases c:rk (b[j]'(by omega)).1<rk (a[i]'(by omega)).1
 ·rw [decide_eq_true c]
  dsimp only
  rw [if_pos rfl]
  have g':=Ga.pb m.g (show j<b.size by omega) fun t t1 t2=>by
   have:=tw.sa i t (Nat.zero_le _) t1 t2
   rw [z0_ ea] at this
   rw [z0_ eb]
   omega
  refine wpS_bind (ja_ eb ?_)
  split
  ·rename_i z
   have z':j+1=b.size:=by simpa using z
   exact wpS_pure (q1 _ _ _ _ _ _ ⟨h,g'.eB (by omega)⟩)
  ·rename_i z
   have z':j+1≠b.size:=by simpa using z
   have:=q2 (out.push (b[j]'(by omega))) i (j+1) 0 (q+1) ⟨g',hi,by omega⟩ (by omega)
   split
   ·exact wpS_pure this.1
   ·exact wpS_pure this.2
 ·rw [decide_eq_false c]
  dsimp only
  rw [if_neg (by decide)]
  have g':=Ga.pa m.g (show i<a.size by omega) fun t t1 t2=>by
   have:=tw.sb j t (Nat.zero_le _) t1 t2
   rw [z0_ eb] at this
   rw [z0_ ea]
   omega
  refine wpS_bind (ja_ ea ?_)
  split
  ·rename_i z
   have z':i+1+1=a.size:=by simpa using z
   exact wpS_pure (q1 _ _ _ _ _ _ ⟨h,g'.eL tw z'⟩)
  ·rename_i z
   have z':i+1+1≠a.size:=by simpa using z
   have:=q2 (out.push (a[i]'(by omega))) (i+1) j (p+1) 0 ⟨g',by omega,hj⟩ (by omega)
   split
   ·exact wpS_pure this.1
   ·exact wpS_pure this.2
end
end TS
set_option Elab.async false
set_option linter.all false
set_option maxRecDepth 100000
namespace TS
open PySem PyProof.Rows
section
variable {prog:Program} {w:World} {A:Around} {E:Value→Shared→Prop} {s:Shared} {κ:SortKind} {rk:Value→Int} {a₀ a b X:Array Keyed} {P:Runs}
structure Lp (κ:SortKind) (rk:Value→Int) (a b X:Array Keyed) (P:Runs) (n:Nat) (Q:ForInStep W2→SortSt→Prop):Prop where
 r:∀ r o i j g p q st,Res κ rk a b X P r st→Q (.done (some r,o,i,j,g,p,q)) st
 d:∀ o i j g p q st,Mid rk a b o i j→n≤i+j→S0 κ X P st→Q (.done (none,o,i,j,g,p,q)) st
 y:∀ o i j g p q st,Mid rk a b o i j→n≤i+j→S0 κ X P st→Q (.yield (none,o,i,j,g,p,q)) st
theorem Ws_ {out:Array Keyed} {i j g p q n:Nat} {st:SortSt} {Q:ForInStep W2→SortSt→Prop} (tw:Two rk a₀ a b) (h:S0 κ X P st) (m:Mid rk a b out i j) (hn:n≤i+j) (ha:∀ t,j≤t→t<b.size→kr rk a i≤kr rk b t) (L:Lp κ rk a b X P n Q) :
  wpS (model prog w) A E s (l3 a b out i j g p q) Q st:=by
 have hi:=m.hi
 have hj:=m.hj
 have ea:a[i]? = some (a[i]'(by omega)):=Array.getElem?_eq_getElem _
 unfold l3
 have g':=Ga.pa m.g (show i<a.size by omega) ha
 refine wpS_bind (ja_ ea ?_)
 split
 ·rename_i z
  have z':i+1+1=a.size:=by simpa using z
  exact wpS_pure (L.r _ _ _ _ _ _ _ _ ⟨h,g'.eL tw z'⟩)
 ·rename_i z
  have z':i+1+1≠a.size:=by simpa using z
  split
  ·exact wpS_pure (L.d _ _ _ _ _ _ _ ⟨g',by omega,hj⟩ (by omega) h)
  ·exact wpS_pure (L.y _ _ _ _ _ _ _ ⟨g',by omega,hj⟩ (by omega) h)
theorem Xz_ {out:Array Keyed} {i j g p q n:Nat} {st:SortSt} {Q:ForInStep W2→SortSt→Prop} (hC:Cmps prog w A s κ rk a₀) (tw:Two rk a₀ a b) (h:S0 κ X P st) (m:Mid rk a b out i j) (hn:n≤i+j) (L:Lp κ rk a b X P n Q) :
  wpS (model prog w) A E s (l2 a b out i j g p q) Q st:=by
 have hi:=m.hi
 have hj:=m.hj
 have ea:a[i]? = some (a[i]'(by omega)):=Array.getElem?_eq_getElem _
 unfold l2
 refine wpS_bind (ja_ ea (wpS_bind (uq_ hC h.kd (tw.ma _ (by simp)) (by omega) tw.mb (fun x y hx hxy hy=>tw.sb x y (Nat.zero_le _) hxy (by omega)) (by omega) fun k k1 k2 k3=>?_)))
 rw [←z0_ (rk:=rk) ea] at k2 k3
 have rest:∀ t,j+k≤t→t<b.size→kr rk a i≤kr rk b t:=fun t t1 t2=>by
  have:=k3 (t - j) (by omega) (by omega)
  rwa [show j+(t - j)=t by omega] at this
 dsimp only
 split
 ·have g':=Ga.eb (k:=k) m.g fun t u t1 t2 u1 u2=>by
   have h1:=k2 (t - j) (by omega)
   rw [show j+(t - j)=t by omega] at h1
   have h2:=tw.sa i u (Nat.zero_le _) u1 u2
   omega
  split
  ·rename_i z
   have z':j+k=b.size:=by simpa using z
   exact wpS_pure (L.r _ _ _ _ _ _ _ _ ⟨h,g'.eB (by omega)⟩)
  ·rename_i z
   have z':j+k≠b.size:=by simpa using z
   exact Ws_ tw h ⟨g',hi,by omega⟩ (by omega) rest L
 ·have k0:k=0:=by omega
  subst k0
  exact Ws_ tw h m hn (fun t t1 t2=>rest t (by omega) t2) L
theorem Wt_ {out:Array Keyed} {i j g p q n:Nat} {st:SortSt} {Q:ForInStep W2→SortSt→Prop} (hC:Cmps prog w A s κ rk a₀) (tw:Two rk a₀ a b) (h:S0 κ X P st) (m:Mid rk a b out i j) (hn:n≤i+j) (hb:∀ t,i≤t→t<a.size→kr rk b j≤kr rk a t) (L:Lp κ rk a b X P n Q) :
  wpS (model prog w) A E s (l1 a b out i j g p q) Q st:=by
 have hi:=m.hi
 have hj:=m.hj
 have eb:b[j]? = some (b[j]'(by omega)):=Array.getElem?_eq_getElem _
 unfold l1
 have g':=Ga.pb m.g (show j<b.size by omega) hb
 refine wpS_bind (ja_ eb ?_)
 split
 ·rename_i z
  have z':j+1=b.size:=by simpa using z
  exact wpS_pure (L.r _ _ _ _ _ _ _ _ ⟨h,g'.eB (by omega)⟩)
 ·rename_i z
  have z':j+1≠b.size:=by simpa using z
  exact Xz_ hC tw h ⟨g',hi,by omega⟩ (by omega) L
theorem Wu_ {out:Array Keyed} {i j g p q n:Nat} {st:SortSt} {Q:ForInStep W2→SortSt→Prop} (hC:Cmps prog w A s κ rk a₀) (tw:Two rk a₀ a b) (h:S0 κ X P st) (m:Mid rk a b out i j) (hn:n≤i+j) (L:Lp κ rk a b X P n Q) :
  wpS (model prog w) A E s (l0 a b out i j g p q) Q st:=by
 have hi:=m.hi
 have hj:=m.hj
 have eb:b[j]? = some (b[j]'(by omega)):=Array.getElem?_eq_getElem _
 unfold l0
 refine wpS_bind (yB_ h fun st' h'=>?_)
 refine wpS_bind (ja_ eb (wpS_bind (up_ hC h'.kd (tw.mb _ (by simp)) (by omega) tw.ma (fun x y hx hxy hy=>tw.sa x y (Nat.zero_le _) hxy (by omega)) (by omega) fun k k1 k2 k3=>?_)))
 rw [←z0_ (rk:=rk) eb] at k2 k3
 have rest:∀ t,i+k≤t→t<a.size→kr rk b j≤kr rk a t:=fun t t1 t2=>by
  have:=k3 (t - i) (by omega) (by omega)
  rw [show i+(t - i)=t by omega] at this
  omega
 dsimp only
 split
 ·have g':=Ga.ea (k:=k) m.g fun t u t1 t2 u1 u2=>by
   have h1:=k2 (t - i) (by omega)
   rw [show i+(t - i)=t by omega] at h1
   have h2:=tw.sb j u (Nat.zero_le _) u1 u2
   omega
  split
  ·rename_i z
   have z':i+k+1=a.size:=by simpa using z
   exact wpS_pure (L.r _ _ _ _ _ _ _ _ ⟨h',g'.eL tw z'⟩)
  ·rename_i z
   have z':i+k+1≠a.size:=by simpa using z
   split
   ·rename_i y
    have y':i+k=a.size:=by simpa using y
    exact wpS_pure (L.r _ _ _ _ _ _ _ _ ⟨h',g'.eA (by omega)⟩)
   ·rename_i y
    have y':i+k≠a.size:=by simpa using y
    exact Wt_ hC tw h' ⟨g',by omega,hj⟩ (by omega) rest L
 ·have k0:k=0:=by omega
  subst k0
  exact Wt_ hC tw h' m hn (fun t t1 t2=>rest t (by omega) t2) L
theorem Xx_ {out:Array Keyed} {i j g:Nat} {st:SortSt} {Q:ForInStep W0→SortSt→Prop} (hC:Cmps prog w A s κ rk a₀) (tw:Two rk a₀ a b) (h:S0 κ X P st) (m:Mid rk a b out i j)
  (q1:∀ r o i j g st,Res κ rk a b X P r st→Q (.done (some r,o,i,j,g)) st) (q2:∀ o i' j' g st,Mid rk a b o i' j'→i+j+1≤i'+j'→S0 κ X P st→Q (.yield (none,o,i',j',g)) st) :
  wpS (model prog w) A E s (lT a b out i j g) Q st:=by
 unfold lT
 have hz:1≤a.size+b.size:=by have:=tw.na;omega
 refine wpS_bind (wpS_mono (wpS_forRange (I:=fun x c st'=>st'=st∧∃ o i' j' p q,c=(none,o,i',j',p,q)∧Mid rk a b o i' j'∧i'+j'=i+j+x)
  (Q:=fun c st'=>st'=st∧((∃ r o i' j' p q,c=(some r,o,i',j',p,q)∧Res κ rk a b X P r st)∨∃ o i' j' p q,c=(none,o,i',j',p,q)∧Mid rk a b o i' j'∧i+j+1≤i'+j'))
  (fun x c st' _ hx I=>?_) (fun c st' I=>?_) ⟨rfl,out,i,j,0,0,rfl,m,rfl⟩) fun c st' I=>?_)
 ·obtain ⟨rfl,o,i',j',p,q,rfl,m',e⟩:=I
  dsimp only
  exact Xy_ hC tw h m' (fun r o i j p q hr=>⟨rfl,.inl ⟨r,o,i,j,p,q,rfl,hr⟩⟩) fun o i2 j2 p q m2 e2=>⟨⟨rfl,.inr ⟨o,i2,j2,p,q,rfl,m2,by omega⟩⟩,⟨rfl,o,i2,j2,p,q,rfl,m2,by omega⟩⟩
 ·obtain ⟨rfl,o,i',j',p,q,rfl,m',e⟩:=I
  exact ⟨rfl,.inr ⟨o,i',j',p,q,rfl,m',by omega⟩⟩
 ·obtain ⟨rfl,⟨r,o,i',j',p,q,rfl,hr⟩|⟨o,i',j',p,q,rfl,m',e⟩⟩:=I
  ·exact wpS_pure (q1 _ _ _ _ _ _ hr)
  ·dsimp only
   refine wpS_bind (wpS_lift (wpAny_rule ⟨rfl,?_⟩))
   refine wpS_bind (wpS_mono (wpS_forRange (I:=fun x c st'=>S0 κ X P st'∧∃ o i' j' g p q,c=(none,o,i',j',g,p,q)∧Mid rk a b o i' j'∧i+j+1≤i'+j')
    (Q:=fun c st'=>(∃ r o i' j' g p q,c=(some r,o,i',j',g,p,q)∧Res κ rk a b X P r st')∨(S0 κ X P st'∧∃ o i' j' g p q,c=(none,o,i',j',g,p,q)∧Mid rk a b o i' j'∧i+j+1≤i'+j'))
    (fun x c st2 _ hx I=>?_) (fun c st2 I=>.inr I) ⟨h,o,i',j',g+1,p,q,rfl,m',e⟩) fun c st2 I=>?_)
   ·obtain ⟨h2,o,i2,j2,g2,p,q,rfl,m2,e2⟩:=I
    dsimp only
    split
    ·exact Wu_ hC tw h2 m2 e2 ⟨fun r o i j g p q st hr=>.inl ⟨r,o,i,j,g,p,q,rfl,hr⟩,fun o i j g p q st m e h=>.inr ⟨h,o,i,j,g,p,q,rfl,m,e⟩,fun o i j g p q st m e h=>⟨h,o,i,j,g,p,q,rfl,m,e⟩⟩
    ·exact Wu_ hC tw h2 m2 e2 ⟨fun r o i j g p q st hr=>.inl ⟨r,o,i,j,g,p,q,rfl,hr⟩,fun o i j g p q st m e h=>.inr ⟨h,o,i,j,g,p,q,rfl,m,e⟩,fun o i j g p q st m e h=>⟨h,o,i,j,g,p,q,rfl,m,e⟩⟩
   ·rcases I with ⟨r,o,i2,j2,g2,p,q,rfl,hr⟩|⟨h2,o,i2,j2,g2,p,q,rfl,m2,e2⟩
    ·exact wpS_pure (q1 _ _ _ _ _ _ hr)
    ·exact wpS_bind (yB_ h2 fun st3 h3=>wpS_pure (q2 _ _ _ _ _ m2 e2 h3))
theorem JM_ {st:SortSt} {Q:Array Keyed→SortSt→Prop} (hC:Cmps prog w A s κ rk a₀) (tw:Two rk a₀ a b) (h:S0 κ X P st) (q:∀ r st',Res κ rk a b X P r st'→Q r st'):wpS (model prog w) A E s (yJ_ a b) Q st:=by
 have na:=tw.na
 have nb:=tw.nb
 have eb:b[0]? = some (b[0]'(by omega)):=Array.getElem?_eq_getElem _
 rw [JN_]
 have g0:Ga rk (a.toList++b.toList) a b #[] 0 0:=⟨.nil,by simpa using jM_ tw.sa,by simpa using jM_ tw.sb,(fun x hx=>by simp at hx),by simp⟩
 have g1:=Ga.pb g0 (show 0<b.size by omega) fun t _ t2=>tw.lo t t2
 refine wpS_bind (wpS_lift (wpAny_rule ⟨rfl,wpS_bind (ja_ eb ?_)⟩))
 split
 ·rename_i z
  have z':1=b.size:=by simpa using z
  exact wpS_pure (q _ _ ⟨h,g1.eB (by omega)⟩)
 ·rename_i z
  have z':1≠b.size:=by simpa using z
  split
  ·rename_i y
   have y':0+1=a.size:=by simpa using y
   exact wpS_pure (q _ _ ⟨h,g1.eL tw y'⟩)
  ·rename_i y
   have y':0+1≠a.size:=by simpa using y
   refine wpS_bind (wpS_get ?_)
   refine wpS_bind (wpS_mono (wpS_forRange (I:=fun x c st'=>S0 κ X P st'∧∃ o i j g,c=(none,o,i,j,g)∧Mid rk a b o i j∧x+1≤i+j)
    (Q:=fun c st'=>∃ r o i j g,c=(some r,o,i,j,g)∧Res κ rk a b X P r st') (fun x c st' _ hx I=>?_) (fun c st' I=>?_) ⟨h,_,0,1,_,rfl,⟨g1,by omega,by omega⟩,by omega⟩) fun c st' I=>?_)
   ·obtain ⟨h',o,i,j,g,rfl,m,e⟩:=I
    dsimp only
    exact Xx_ hC tw h' m (fun r o i j g st hr=>⟨r,o,i,j,g,rfl,hr⟩) fun o i2 j2 g st m2 e2 h2=>⟨h2,o,i2,j2,g,rfl,m2,by omega⟩
   ·obtain ⟨h',o,i,j,g,rfl,m,e⟩:=I
    have:=m.hi
    have:=m.hj
    omega
   ·obtain ⟨r,o,i,j,g,rfl,hr⟩:=I
    exact wpS_pure (q _ _ hr)
end
end TS
set_option Elab.async false
set_option linter.all false
set_option maxRecDepth 100000
namespace TS
open PySem PyProof.Rows
section
variable {rk:Value→Int}
structure Gh (rk:Value→Int) (T A B O:List Keyed):Prop where
 so:O.Pairwise (Le rk)
 sa:A.Pairwise (Le rk)
 sb:B.Pairwise (Le rk)
 ah:∀ x∈O,∀ y,y∈A∨y∈B→Le rk y x
 pm:((A++B)++O).Perm T
theorem Gh.flip {T O A B:List Keyed} (h:Gh rk T A B O):Gh rk T B A O :=
 ⟨h.so,h.sb,h.sa,fun x hx y hy=>h.ah x hx y hy.symm,((List.perm_append_comm (l₁:=B)).append_right O).trans h.pm⟩
theorem Gh.b {T O S A B:List Keyed} (h:Gh rk T A (B++S) O) (hs:∀ x∈S,∀ y∈A,Le rk y x):Gh rk T A B (S++O):=by
 have sb:=List.pairwise_append.mp h.sb
 refine ⟨List.pairwise_append.mpr ⟨sb.2.1,h.so,fun x hx y hy=>h.ah y hy x (.inr (List.mem_append_right _ hx))⟩,h.sa,sb.1,fun x hx y hy=>?_,by simpa [List.append_assoc] using h.pm⟩
 rcases List.mem_append.mp hx with hx|hx
 ·rcases hy with hy|hy
  ·exact hs x hx y hy
  ·exact sb.2.2 y hy x hx
 ·exact h.ah x hx y (hy.imp id (List.mem_append_left _))
theorem Gh.fa {T O A B:List Keyed} (h:Gh rk T A B O) (hs:∀ x∈A,∀ y∈B,Le rk x y):Srt rk T (A++B++O) :=
 ⟨List.pairwise_append.mpr ⟨List.pairwise_append.mpr ⟨h.sa,h.sb,hs⟩,h.so,fun x hx y hy=>h.ah y hy x (List.mem_append.mp hx)⟩,h.pm⟩
abbrev Gq (rk:Value→Int) (T:List Keyed) (a b out:Array Keyed) (i j:Nat):Prop:=Gh rk T (a.toList.take i) (b.toList.take j) out.toList.reverse
theorem QD_ {a:Array Keyed} {i:Nat} (h:i<a.size):a.toList.take (i+1)=a.toList.take i++[a[i]]:=by
 rw [List.take_succ_eq_append_getElem (by simpa using h)]
 simp
theorem Yr_ {a:Array Keyed} {x i:Nat} (h:x≤i):a.toList.take i=a.toList.take x++(a.extract x i).toList:=by
 rw [Array.toList_extract,List.extract_eq_take_drop]
 have e:i=x+(i - x):=by omega
 conv=>lhs;rw [e,List.take_add]
theorem uF_ {a:Array Keyed} {i:Nat} {x:Keyed} (h:x∈a.toList.take i):∃ t,t<i∧t<a.size∧kr rk a t=rk x.1:=by
 obtain ⟨n,hn,e⟩:=List.mem_iff_getElem.mp h
 have hl:n<i∧n<a.size:=by
  rw [List.length_take] at hn
  have:a.toList.length=a.size:=Array.length_toList
  omega
 refine ⟨n,hl.1,hl.2,z0_ ?_⟩
 rw [List.getElem_take] at e
 rw [Array.getElem?_eq_getElem hl.2,←e]
 simp
theorem yL_ {a:Array Keyed} {i x:Nat} {p:Keyed} (h:p∈(a.extract x i).toList):∃ t,x≤t∧t<i∧t<a.size∧kr rk a t=rk p.1:=by
 obtain ⟨n,hn,e⟩:=List.mem_iff_getElem.mp h
 have hn':n<(a.extract x i).size:=by rw [←Array.length_toList];exact hn
 rw [Array.size_extract] at hn'
 refine ⟨x+n,by omega,by omega,by omega,z0_ ?_⟩
 rw [Array.getElem?_eq_getElem (by omega),←e]
 simp
theorem ZS_ (a b out:Array Keyed) (i j:Nat):(hA a b out i j).toList=a.toList.take i++b.toList.take j++out.toList.reverse:=by
 unfold hA
 rw [Array.toList_append,Array.toList_append,Array.toList_extract,Array.toList_extract,List.extract_eq_take_drop,List.extract_eq_take_drop,Array.toList_reverse]
 simp
end
section
variable {prog:Program} {w:World} {A:Around} {E:Value→Shared→Prop} {s:Shared} {κ:SortKind} {rk:Value→Int} {a₀ a b X:Array Keyed} {P:Runs}
theorem Gq.pb {T:List Keyed} {out:Array Keyed} {i j:Nat} (g:Gq rk T a b out i (j+1)) (hj:j<b.size) (h:∀ t,t<i→t<a.size→kr rk a t≤kr rk b j):Gq rk T a b (out.push b[j]) i j:=by
 have g':Gh rk T (a.toList.take i) (b.toList.take (j+1)) out.toList.reverse:=g
 rw [QD_ hj] at g'
 show Gh rk T _ _ (out.push b[j]).toList.reverse
 rw [Array.toList_push,List.reverse_append]
 refine g'.b fun x hx y hy=>?_
 obtain ⟨t,t1,t2,e⟩:=uF_ (rk:=rk) hy
 rw [List.mem_singleton.mp hx]
 have:=h t t1 t2
 rw [e,z0_ (Array.getElem?_eq_getElem hj)] at this
 exact this
theorem Gq.pa {T:List Keyed} {out:Array Keyed} {i j:Nat} (g:Gq rk T a b out (i+1) j) (hi:i<a.size) (h:∀ t,t<j→t<b.size→kr rk b t≤kr rk a i):Gq rk T a b (out.push a[i]) i j :=
 Gh.flip (Gq.pb (a:=b) (b:=a) (i:=j) (j:=i) (Gh.flip g) hi h)
theorem Gq.eb {T:List Keyed} {out:Array Keyed} {i j x:Nat} (g:Gq rk T a b out i j) (hx:x≤j) (h:∀ t u,x≤t→t<j→u<i→u<a.size→kr rk a u≤kr rk b t):Gq rk T a b (out++(b.extract x j).reverse) i x:=by
 have g':Gh rk T (a.toList.take i) (b.toList.take j) out.toList.reverse:=g
 rw [Yr_ (a:=b) hx] at g'
 show Gh rk T _ _ (out++(b.extract x j).reverse).toList.reverse
 rw [Array.toList_append,List.reverse_append,Array.toList_reverse,List.reverse_reverse]
 refine g'.b fun x hx y hy=>?_
 obtain ⟨t,t1,t2,_,e⟩:=yL_ (rk:=rk) hx
 obtain ⟨u,u1,u2,e2⟩:=uF_ (rk:=rk) hy
 have:=h t u t1 t2 u1 u2
 rw [e,e2] at this
 exact this
theorem Gq.ea {T:List Keyed} {out:Array Keyed} {i j x:Nat} (g:Gq rk T a b out i j) (hx:x≤i) (h:∀ t u,x≤t→t<i→u<j→u<b.size→kr rk b u≤kr rk a t):Gq rk T a b (out++(a.extract x i).reverse) x j :=
 Gh.flip (Gq.eb (a:=b) (b:=a) (i:=j) (j:=i) (Gh.flip g) hx h)
theorem Gq.eA {T:List Keyed} {out:Array Keyed} {j:Nat} (g:Gq rk T a b out 0 j):Srt rk T (hA a b out 0 j).toList:=by
 rw [ZS_]
 refine Gh.fa g fun x hx y _=>?_
 rw [List.take_zero] at hx
 cases hx
theorem Gq.eZ {T:List Keyed} {out:Array Keyed} {i j:Nat} (g:Gq rk T a b out i j) (hi:i=0):Srt rk T (hA a b out i j).toList:=by
 subst hi
 exact g.eA
theorem Gq.eB {T:List Keyed} {out:Array Keyed} {i:Nat} (g:Gq rk T a b out i 0):Srt rk T (hA a b out i 0).toList:=by
 rw [ZS_]
 refine Gh.fa g fun x _ y hy=>?_
 rw [List.take_zero] at hy
 cases hy
theorem Gq.eF {T:List Keyed} {out:Array Keyed} {i:Nat} (g:Gq rk T a b out i 1) (tw:Two rk a₀ a b):Srt rk T (hB a b out i 1).toList:=by
 show Srt rk T (hA b a out 1 i).toList
 rw [ZS_]
 refine Gh.fa (Gh.flip g) fun x hx y hy=>?_
 obtain ⟨t,t1,t2,e⟩:=uF_ (rk:=rk) hx
 obtain ⟨u,u1,u2,e2⟩:=uF_ (rk:=rk) hy
 have:=tw.lo u u2
 rw [e2,show 0=t by omega,e] at this
 exact this
structure Mih (rk:Value→Int) (a b out:Array Keyed) (i j:Nat):Prop where
 g:Gq rk (a.toList++b.toList) a b out i j
 hi:1≤i
 hj:2≤j
 ia:i≤a.size
 jb:j≤b.size
theorem XE_ {g:Nat} {out:Array Keyed} {i j p q:Nat} {st:SortSt} {Q:ForInStep V1→SortSt→Prop} (hC:Cmps prog w A s κ rk a₀) (tw:Two rk a₀ a b) (h:S0 κ X P st) (m:Mih rk a b out i j)
  (q1:∀ r i j o p q,Res κ rk a b X P r st→Q (.done (some r,i,j,o,p,q)) st) (q2:∀ i' j' o p q,Mih rk a b o i' j'→i'+j'+1=i+j→Q (.done (none,i',j',o,p,q)) st∧Q (.yield (none,i',j',o,p,q)) st) :
  wpS (model prog w) A E s (hS a b g i j out p q) Q st:=by
 obtain ⟨gg,hi,hj,ia,jb⟩:=m
 obtain ⟨i,rfl⟩:∃ k,i=k+1:=⟨i - 1,by omega⟩
 obtain ⟨j,rfl⟩:∃ k,j=k+1:=⟨j - 1,by omega⟩
 have ea:a[i]? = some (a[i]'(by omega)):=Array.getElem?_eq_getElem _
 have eb:b[j]? = some (b[j]'(by omega)):=Array.getElem?_eq_getElem _
 unfold hS
 rw [Nat.add_sub_cancel,Nat.add_sub_cancel]
 refine wpS_bind (ja_ eb (wpS_bind (ja_ ea (wpS_bind (Uw_ hC h.kd (tw.mb _ (by simp)) (tw.ma _ (by simp)) ?_)))))
 by_cases c:rk (b[j]'(by omega)).1<rk (a[i]'(by omega)).1
 ·rw [decide_eq_true c]
  dsimp only
  rw [if_pos rfl]
  have g':=Gq.pa gg (show i<a.size by omega) fun t t1 t2=>by
   have:=tw.sb t j (Nat.zero_le _) (by omega) (by omega)
   rw [z0_ eb] at this
   rw [z0_ ea]
   omega
  refine wpS_bind (ja_ ea ?_)
  split
  ·rename_i z
   have z':i=0:=by simpa using z
   subst z'
   exact wpS_pure (q1 _ _ _ _ _ _ ⟨h,g'.eA⟩)
  ·rename_i z
   have z':i≠0:=by simpa using z
   have:=q2 i (j+1) (out.push (a[i]'(by omega))) (p+1) 0 ⟨g',by omega,hj,by omega,jb⟩ (by omega)
   split
   ·exact wpS_pure this.1
   ·exact wpS_pure this.2
 ·rw [decide_eq_false c]
  dsimp only
  rw [if_neg (by decide)]
  have g':=Gq.pb gg (show j<b.size by omega) fun t t1 t2=>by
   have:=tw.sa t i (Nat.zero_le _) (by omega) (by omega)
   rw [z0_ ea] at this
   rw [z0_ eb]
   omega
  refine wpS_bind (ja_ eb ?_)
  split
  ·rename_i z
   have z':j=1:=by simpa using z
   subst z'
   exact wpS_pure (q1 _ _ _ _ _ _ ⟨h,g'.eF tw⟩)
  ·rename_i z
   have z':j≠1:=by simpa using z
   have:=q2 (i+1) j (out.push (b[j]'(by omega))) 0 (q+1) ⟨g',hi,by omega,ia,by omega⟩ (by omega)
   split
   ·exact wpS_pure this.1
   ·exact wpS_pure this.2
structure Lq (κ:SortKind) (rk:Value→Int) (a b X:Array Keyed) (P:Runs) (n:Nat) (Q:ForInStep V2→SortSt→Prop):Prop where
 r:∀ r i j o g p q st,Res κ rk a b X P r st→Q (.done (some r,i,j,o,g,p,q)) st
 d:∀ i j o g p q st,Mih rk a b o i j→i+j≤n→S0 κ X P st→Q (.done (none,i,j,o,g,p,q)) st
 y:∀ i j o g p q st,Mih rk a b o i j→i+j≤n→S0 κ X P st→Q (.yield (none,i,j,o,g,p,q)) st
theorem WF_ {out:Array Keyed} {i j g p q n:Nat} {st:SortSt} {Q:ForInStep V2→SortSt→Prop} (tw:Two rk a₀ a b) (h:S0 κ X P st) (m:Mih rk a b out i j) (hn:i+j≤n) (ha:∀ t,t<j→t<b.size→kr rk b t≤kr rk a (i - 1)) (L:Lq κ rk a b X P n Q) :
  wpS (model prog w) A E s (h3 a b i j out g p q) Q st:=by
 obtain ⟨gg,hi,hj,ia,jb⟩:=m
 obtain ⟨i,rfl⟩:∃ k,i=k+1:=⟨i - 1,by omega⟩
 have ea:a[i]? = some (a[i]'(by omega)):=Array.getElem?_eq_getElem _
 unfold h3
 rw [Nat.add_sub_cancel] at ha ⊢
 have g':=Gq.pa gg (show i<a.size by omega) ha
 refine wpS_bind (ja_ ea ?_)
 split
 ·rename_i z
  have z':i=0:=by simpa using z
  subst z'
  exact wpS_pure (L.r _ _ _ _ _ _ _ _ ⟨h,g'.eA⟩)
 ·rename_i z
  have z':i≠0:=by simpa using z
  split
  ·exact wpS_pure (L.d _ _ _ _ _ _ _ ⟨g',by omega,hj,by omega,jb⟩ (by omega) h)
  ·exact wpS_pure (L.y _ _ _ _ _ _ _ ⟨g',by omega,hj,by omega,jb⟩ (by omega) h)
theorem XF_ {out:Array Keyed} {i j g p q n:Nat} {st:SortSt} {Q:ForInStep V2→SortSt→Prop} (hC:Cmps prog w A s κ rk a₀) (tw:Two rk a₀ a b) (h:S0 κ X P st) (m:Mih rk a b out i j) (hn:i+j≤n) (L:Lq κ rk a b X P n Q) :
  wpS (model prog w) A E s (h2 a b i j out g p q) Q st:=by
 obtain ⟨gg,hi,hj,ia,jb⟩:=id m
 have ea:a[i - 1]? = some (a[i - 1]'(by omega)):=Array.getElem?_eq_getElem _
 unfold h2
 refine wpS_bind (ja_ ea (wpS_bind (uq_ hC h.kd (tw.ma _ (by simp)) (by omega) tw.mb (fun x y hx hxy hy=>tw.sb x y (Nat.zero_le _) hxy (by omega)) (by omega) fun x k1 k2 k3=>?_)))
 rw [←z0_ (rk:=rk) ea] at k2 k3
 simp only [Nat.zero_add] at k2 k3
 have rest:∀ t,t<x→t<b.size→kr rk b t≤kr rk a (i - 1):=fun t t1 t2=>Int.le_of_lt (k2 t t1)
 dsimp only
 split
 ·have g':=Gq.eb (x:=x) gg k1 fun t u t1 t2 u1 u2=>by
   have h1:=k3 t t1 t2
   have h2:=tw.sa u (i - 1) (Nat.zero_le _) (by omega) (by omega)
   omega
  split
  ·rename_i z
   have z':x=1:=by simpa using z
   subst z'
   exact wpS_pure (L.r _ _ _ _ _ _ _ _ ⟨h,g'.eF tw⟩)
  ·rename_i z
   have z':x≠1:=by simpa using z
   split
   ·rename_i y
    have y':x=0:=by simpa using y
    subst y'
    exact wpS_pure (L.r _ _ _ _ _ _ _ _ ⟨h,g'.eB⟩)
   ·rename_i y
    have y':x≠0:=by simpa using y
    exact WF_ tw h ⟨g',hi,by omega,ia,by omega⟩ (by omega) rest L
 ·have k0:x=j:=by omega
  subst k0
  exact WF_ tw h m hn rest L
theorem WG_ {out:Array Keyed} {i j g p q n:Nat} {st:SortSt} {Q:ForInStep V2→SortSt→Prop} (hC:Cmps prog w A s κ rk a₀) (tw:Two rk a₀ a b) (h:S0 κ X P st) (m:Mih rk a b out i j) (hn:i+j≤n) (hb:∀ t,t<i→t<a.size→kr rk a t≤kr rk b (j - 1)) (L:Lq κ rk a b X P n Q) :
  wpS (model prog w) A E s (h1 a b i j out g p q) Q st:=by
 obtain ⟨gg,hi,hj,ia,jb⟩:=m
 obtain ⟨j,rfl⟩:∃ k,j=k+1:=⟨j - 1,by omega⟩
 have eb:b[j]? = some (b[j]'(by omega)):=Array.getElem?_eq_getElem _
 unfold h1
 rw [Nat.add_sub_cancel] at hb ⊢
 have g':=Gq.pb gg (show j<b.size by omega) hb
 refine wpS_bind (ja_ eb ?_)
 split
 ·rename_i z
  have z':j=1:=by simpa using z
  subst z'
  exact wpS_pure (L.r _ _ _ _ _ _ _ _ ⟨h,g'.eF tw⟩)
 ·rename_i z
  have z':j≠1:=by simpa using z
  exact XF_ hC tw h ⟨g',hi,by omega,ia,by omega⟩ (by omega) L
theorem WH_ {out:Array Keyed} {i j g p q n:Nat} {st:SortSt} {Q:ForInStep V2→SortSt→Prop} (hC:Cmps prog w A s κ rk a₀) (tw:Two rk a₀ a b) (h:S0 κ X P st) (m:Mih rk a b out i j) (hn:i+j≤n) (L:Lq κ rk a b X P n Q) :
  wpS (model prog w) A E s (h0 a b i j out g p q) Q st:=by
 obtain ⟨gg,hi,hj,ia,jb⟩:=id m
 have eb:b[j - 1]? = some (b[j - 1]'(by omega)):=Array.getElem?_eq_getElem _
 unfold h0
 refine wpS_bind (yB_ h fun st' h'=>?_)
 refine wpS_bind (ja_ eb (wpS_bind (up_ hC h'.kd (tw.mb _ (by simp)) (by omega) tw.ma (fun x y hx hxy hy=>tw.sa x y (Nat.zero_le _) hxy (by omega)) (by omega) fun x k1 k2 k3=>?_)))
 rw [←z0_ (rk:=rk) eb] at k2 k3
 simp only [Nat.zero_add] at k2 k3
 have rest:∀ t,t<x→t<a.size→kr rk a t≤kr rk b (j - 1):=fun t t1 t2=>k2 t t1
 dsimp only
 split
 ·have g':=Gq.ea (x:=x) gg k1 fun t u t1 t2 u1 u2=>by
   have h1:=k3 t t1 t2
   have h2:=tw.sb u (j - 1) (Nat.zero_le _) (by omega) (by omega)
   omega
  split
  ·rename_i z
   have z':x=0:=by simpa using z
   subst z'
   exact wpS_pure (L.r _ _ _ _ _ _ _ _ ⟨h',g'.eA⟩)
  ·rename_i z
   have z':x≠0:=by simpa using z
   exact WG_ hC tw h' ⟨g',by omega,hj,by omega,jb⟩ (by omega) rest L
 ·have k0:x=i:=by omega
  subst k0
  exact WG_ hC tw h' m hn rest L
theorem XD_ {out:Array Keyed} {i j g:Nat} {st:SortSt} {Q:ForInStep V0→SortSt→Prop} (hC:Cmps prog w A s κ rk a₀) (tw:Two rk a₀ a b) (h:S0 κ X P st) (m:Mih rk a b out i j)
  (q1:∀ r i j o g st,Res κ rk a b X P r st→Q (.done (some r,i,j,o,g)) st) (q2:∀ i' j' o g st,Mih rk a b o i' j'→i'+j'+1≤i+j→S0 κ X P st→Q (.yield (none,i',j',o,g)) st) :
  wpS (model prog w) A E s (hT a b i j out g) Q st:=by
 unfold hT
 have hz:1≤a.size+b.size:=by have:=tw.na;omega
 refine wpS_bind (wpS_mono (wpS_forRange (I:=fun x c st'=>st'=st∧∃ i' j' o p q,c=(none,i',j',o,p,q)∧Mih rk a b o i' j'∧i'+j'+x=i+j)
  (Q:=fun c st'=>st'=st∧((∃ r i' j' o p q,c=(some r,i',j',o,p,q)∧Res κ rk a b X P r st)∨∃ i' j' o p q,c=(none,i',j',o,p,q)∧Mih rk a b o i' j'∧i'+j'+1≤i+j))
  (fun x c st' _ hx I=>?_) (fun c st' I=>?_) ⟨rfl,i,j,out,0,0,rfl,m,rfl⟩) fun c st' I=>?_)
 ·obtain ⟨rfl,i',j',o,p,q,rfl,m',e⟩:=I
  dsimp only
  exact XE_ hC tw h m' (fun r i j o p q hr=>⟨rfl,.inl ⟨r,i,j,o,p,q,rfl,hr⟩⟩) fun i2 j2 o p q m2 e2=>⟨⟨rfl,.inr ⟨i2,j2,o,p,q,rfl,m2,by omega⟩⟩,⟨rfl,i2,j2,o,p,q,rfl,m2,by omega⟩⟩
 ·obtain ⟨rfl,i',j',o,p,q,rfl,m',e⟩:=I
  exact ⟨rfl,.inr ⟨i',j',o,p,q,rfl,m',by omega⟩⟩
 ·obtain ⟨rfl,⟨r,i',j',o,p,q,rfl,hr⟩|⟨i',j',o,p,q,rfl,m',e⟩⟩:=I
  ·exact wpS_pure (q1 _ _ _ _ _ _ hr)
  ·dsimp only
   refine wpS_bind (wpS_lift (wpAny_rule ⟨rfl,?_⟩))
   refine wpS_bind (wpS_mono (wpS_forRange (I:=fun x c st'=>S0 κ X P st'∧∃ i' j' o g p q,c=(none,i',j',o,g,p,q)∧Mih rk a b o i' j'∧i'+j'≤i+j - 1)
    (Q:=fun c st'=>(∃ r i' j' o g p q,c=(some r,i',j',o,g,p,q)∧Res κ rk a b X P r st')∨(S0 κ X P st'∧∃ i' j' o g p q,c=(none,i',j',o,g,p,q)∧Mih rk a b o i' j'∧i'+j'≤i+j - 1))
    (fun x c st2 _ hx I=>?_) (fun c st2 I=>.inr I) ⟨h,i',j',o,g+1,p,q,rfl,m',by omega⟩) fun c st2 I=>?_)
   ·obtain ⟨h2,i2,j2,o,g2,p,q,rfl,m2,e2⟩:=I
    dsimp only
    split
    ·exact WH_ hC tw h2 m2 e2 ⟨fun r i j o g p q st hr=>.inl ⟨r,i,j,o,g,p,q,rfl,hr⟩,fun i j o g p q st m e h=>.inr ⟨h,i,j,o,g,p,q,rfl,m,e⟩,fun i j o g p q st m e h=>⟨h,i,j,o,g,p,q,rfl,m,e⟩⟩
    ·exact WH_ hC tw h2 m2 e2 ⟨fun r i j o g p q st hr=>.inl ⟨r,i,j,o,g,p,q,rfl,hr⟩,fun i j o g p q st m e h=>.inr ⟨h,i,j,o,g,p,q,rfl,m,e⟩,fun i j o g p q st m e h=>⟨h,i,j,o,g,p,q,rfl,m,e⟩⟩
   ·rcases I with ⟨r,i2,j2,o,g2,p,q,rfl,hr⟩|⟨h2,i2,j2,o,g2,p,q,rfl,m2,e2⟩
    ·exact wpS_pure (q1 _ _ _ _ _ _ hr)
    ·have:=m.hi
     have e3:i2+j2+1≤i+j:=by omega
     exact wpS_bind (yB_ h2 fun st3 h3=>wpS_pure (q2 _ _ _ _ _ m2 e3 h3))
theorem JO_ {st:SortSt} {Q:Array Keyed→SortSt→Prop} (hC:Cmps prog w A s κ rk a₀) (tw:Two rk a₀ a b) (h:S0 κ X P st) (q:∀ r st',Res κ rk a b X P r st'→Q r st'):wpS (model prog w) A E s (yK_ a b) Q st:=by
 have na:=tw.na
 have nb:=tw.nb
 have ea:a[a.size - 1]? = some (a[a.size - 1]'(by omega)):=Array.getElem?_eq_getElem _
 rw [JP_]
 have ta:a.toList.take (a.size - 1+1)=a.toList:=List.take_of_length_le (by simp;omega)
 have tb:b.toList.take b.size=b.toList:=List.take_of_length_le (by simp)
 have g0:Gq rk (a.toList++b.toList) a b #[] (a.size - 1+1) b.size:=⟨by simp,by rw [ta];exact jM_ tw.sa,by rw [tb];exact jM_ tw.sb,(fun x hx=>by simp at hx),by rw [ta,tb];simp⟩
 have g1:=Gq.pa g0 (show a.size - 1<a.size by omega) fun t _ t2=>tw.hi t t2
 refine wpS_bind (wpS_lift (wpAny_rule ⟨rfl,wpS_bind (ja_ ea ?_)⟩))
 split
 ·rename_i z
  have z':a.size - 1=0:=by simpa using z
  exact wpS_pure (q _ _ ⟨h,g1.eZ z'⟩)
 ·rename_i z
  have z':a.size - 1≠0:=by simpa using z
  split
  ·rename_i y
   have y':b.size=1:=by simpa using y
   rw [y'] at g1 ⊢
   exact wpS_pure (q _ _ ⟨h,g1.eF tw⟩)
  ·rename_i y
   have y':b.size≠1:=by simpa using y
   refine wpS_bind (wpS_get ?_)
   refine wpS_bind (wpS_mono (wpS_forRange (I:=fun x c st'=>S0 κ X P st'∧∃ i j o g,c=(none,i,j,o,g)∧Mih rk a b o i j∧i+j+x+1≤a.size+b.size)
    (Q:=fun c st'=>∃ r i j o g,c=(some r,i,j,o,g)∧Res κ rk a b X P r st') (fun x c st' _ hx I=>?_) (fun c st' I=>?_) ⟨h,a.size - 1,b.size,_,_,rfl,⟨g1,by omega,by omega,by omega,by omega⟩,by omega⟩) fun c st' I=>?_)
   ·obtain ⟨h',i,j,o,g,rfl,m,e⟩:=I
    dsimp only
    exact XD_ hC tw h' m (fun r i j o g st hr=>⟨r,i,j,o,g,rfl,hr⟩) fun i2 j2 o g st m2 e2 h2=>⟨h2,i2,j2,o,g,rfl,m2,by omega⟩
   ·obtain ⟨h',i,j,o,g,rfl,m,e⟩:=I
    have:=m.hi
    have:=m.hj
    omega
   ·obtain ⟨r,i,j,o,g,rfl,hr⟩:=I
    exact wpS_pure (q _ _ hr)
end
end TS
set_option Elab.async false
set_option linter.all false
set_option maxRecDepth 100000
namespace TS
open PySem PyProof.Rows
def putAll (l:List Keyed) (at0 k:Nat) (xs:Array Keyed):Array Keyed:=(l.zipIdx k).foldl (fun a p=>a.setIfInBounds (at0+p.2) p.1) xs
theorem uM_ (at0:Nat):∀ (l:List Keyed) (k:Nat) (xs:Array Keyed),at0+k+l.length≤xs.size→∀ t,(putAll l at0 k xs)[t]? = if at0+k≤t∧t<at0+k+l.length then l[t - (at0+k)]? else xs[t]?
 | [],k,xs,_,t=>by
  show xs[t]? = _
  rw [if_neg (by rw [List.length_nil];omega)]
 | p::l,k,xs,h,t=>by
  rw [List.length_cons] at h
  show (putAll l at0 (k+1) (xs.setIfInBounds (at0+k) p))[t]? = _
  rw [uM_ at0 l (k+1) _ (by rw [Array.size_setIfInBounds];omega),List.length_cons,Array.getElem?_setIfInBounds]
  by_cases c:t=at0+k
  ·subst c
   rw [if_neg (by omega),if_pos rfl,if_pos (by omega),if_pos (by omega),Nat.sub_self]
   rfl
  ·by_cases c2:at0+(k+1)≤t∧t<at0+(k+1)+l.length
   ·rw [if_pos c2,if_pos (by omega),show t - (at0+k)=(t - (at0+(k+1)))+1 by omega]
    rfl
   ·rw [if_neg c2,if_neg (fun z=>c z.symm),if_neg (by omega)]
theorem uL_ {l:List Keyed} {at0:Nat} {xs:Array Keyed} (h:at0+l.length≤xs.size):(putAll l at0 0 xs).toList=xs.toList.take at0++(l++xs.toList.drop (at0+l.length)):=by
 apply List.ext_getElem?
 intro t
 have e:=uM_ at0 l 0 xs (by omega) t
 rw [Array.getElem?_toList,e]
 have hl:xs.toList.length=xs.size:=Array.length_toList
 by_cases c:t<at0
 ·rw [if_neg (by omega),List.getElem?_append_left (by rw [List.length_take];omega),List.getElem?_take_of_lt c,Array.getElem?_toList]
 ·rw [List.getElem?_append_right (by rw [List.length_take];omega),List.length_take,show min at0 xs.toList.length=at0 by omega]
  by_cases c2:t<at0+l.length
  ·rw [if_pos (by omega),List.getElem?_append_left (by omega),Nat.add_zero]
  ·rw [if_neg (by omega),List.getElem?_append_right (by omega),List.getElem?_drop,Array.getElem?_toList]
   congr 1
   omega
section
variable {rk:Value→Int}
theorem jP_ {xs:Array Keyed} {a e t:Nat} (h:a+t<e) (he:e≤xs.size):kr rk (xs.extract a e) t=kr rk xs (a+t):=by
 refine uQ_ ?_
 rw [Array.getElem?_extract,if_pos (by omega)]
def Cov:List (Nat×Nat×Nat)→Nat→Nat→Prop
 | [],lo,hi=>lo=hi
 | (s,n,_)::r,lo,hi=>s=lo∧1≤n∧Cov r (lo+n) hi
theorem Cov.split:∀ {L R:List (Nat×Nat×Nat)} {lo hi:Nat},Cov (L++R) lo hi→∃ m,Cov L lo m∧Cov R m hi
 | [],_,lo,_,h=>⟨lo,rfl,h⟩
 | (s,n,_)::L,R,lo,hi,h=>by
  obtain ⟨h1,h2,h3⟩:=h
  obtain ⟨m,h4,h5⟩:=Cov.split (L:=L) h3
  exact ⟨m,⟨h1,h2,h4⟩,h5⟩
theorem Cov.join:∀ {L R:List (Nat×Nat×Nat)} {lo m hi:Nat},Cov L lo m→Cov R m hi→Cov (L++R) lo hi
 | [],_,lo,_,_,h,h'=>by cases h;exact h'
 | (s,n,_)::L,R,lo,m,hi,h,h'=>⟨h.1,h.2.1,Cov.join (L:=L) h.2.2 h'⟩
theorem Cov.le:∀ {L:List (Nat×Nat×Nat)} {lo hi:Nat},Cov L lo hi→lo+L.length≤hi
 | [],lo,_,h=>by cases h;simp
 | (s,n,_)::L,lo,hi,h=>by
  obtain ⟨_,h2,h3⟩:=h
  have:=Cov.le h3
  rw [List.length_cons]
  omega
theorem Cov.mem:∀ {L:List (Nat×Nat×Nat)} {lo hi:Nat} {x:Nat×Nat×Nat},Cov L lo hi→x∈L→lo≤x.1∧x.1+x.2.1≤hi
 | (s,n,_)::L,lo,hi,x,h,hx=>by
  obtain ⟨h1,h2,h3⟩:=h
  rcases List.mem_cons.mp hx with rfl|hx
  ·have:=Cov.le h3
   exact ⟨by dsimp only;omega,by dsimp only;omega⟩
  ·have:=Cov.mem h3 hx
   exact ⟨by omega,this.2⟩
structure Rn (κ:SortKind) (rk:Value→Int) (a₀:Array Keyed) (hi:Nat) (st:SortSt):Prop where
 pm:(arrOf st).Perm a₀
 kd:kindOf st=κ
 fl:failedOf st=none
 cv:Cov (pendingOf st).toList 0 hi
 so:∀ x∈(pendingOf st).toList,Asc rk (arrOf st) x.1 (x.1+x.2.1)
 le:hi≤a₀.size
variable {prog:Program} {w:World} {A:Around} {E:Value→Shared→Prop} {s:Shared} {κ:SortKind} {a₀:Array Keyed}
theorem QB_ {σ:Type} {M:Model} {c st:σ} {Q:PUnit→σ→Prop} (h:Q ⟨⟩ c):wpS M A E s (set c:StateT σ Sem PUnit) Q st:=by
 unfold wpS;rw [StateT.run_set];exact wpAny_pure ⟨rfl,h⟩
theorem JQ_ (i:Nat):mergeAt' i=(do
  let st ←get
  match ((pendingOf st)[i]?,(pendingOf st)[i+1]?) with
  | (some (sa,na,pw),some (sb,nb,_))=>do
   set (setPending st (((pendingOf st).setIfInBounds i (sa,na+nb,pw)).eraseIdxIfInBounds (i+1)))
   let x ←elem' (arrOf st) sb
   match ←jy_ false x (arrOf st) sa na 0 with
   | some k =>
    if (na - k==0)=true then pure true
    else do
     let y ←elem' (arrOf st) (sa+k+(na - k) - 1)
     match ←jy_ true y (arrOf st) sb nb (nb - 1) with
     | some n =>
      if (n==0)=true then pure true
      else if na - k≤n then do
       let r ←yJ_ ((arrOf st).extract (sa+k) sb) ((arrOf st).extract sb (sb+n))
       modify fun c=>setArr c (putAll r.toList (sa+k) 0 (arrOf c))
       pure (failedOf (←get)).isNone
      else do
       let r ←yK_ ((arrOf st).extract (sa+k) sb) ((arrOf st).extract sb (sb+n))
       modify fun c=>setArr c (putAll r.toList (sa+k) 0 (arrOf c))
       pure (failedOf (←get)).isNone
     | _=>pure false
   | _=>pure false
  | _=>liftM (unsupported "internal:list.sort.pending" : Sem Bool)):=by
 kernel_rfl
end
end TS
set_option Elab.async false
set_option linter.all false
set_option maxRecDepth 100000
namespace TS
open PySem PyProof.Rows
section
variable {rk:Value→Int} {prog:Program} {w:World} {A:Around} {E:Value→Shared→Prop} {s:Shared} {κ:SortKind} {a₀:Array Keyed}
theorem Vw_ {P:Runs} {i:Nat} (h:i+1<P.size):∃ L x y R,P.toList=L++x::y::R∧L.length=i∧P[i]? = some x∧P[i+1]? = some y:=by
 have h':i+1<P.toList.length:=by simpa using h
 refine ⟨P.toList.take i,P[i],P[i+1],P.toList.drop (i+2),?_,by rw [List.length_take];omega,Array.getElem?_eq_getElem _,Array.getElem?_eq_getElem _⟩
 have e1:P.toList.drop i=P[i]::P.toList.drop (i+1):=by rw [List.drop_eq_getElem_cons (by omega)];simp
 have e2:P.toList.drop (i+1)=P[i+1]::P.toList.drop (i+2):=by rw [List.drop_eq_getElem_cons h'];simp
 rw [←e2,←e1,List.take_append_drop]
theorem QC_ {P:Runs} {i:Nat} {L R:List (Nat×Nat×Nat)} {x y z:Nat×Nat×Nat} (e:P.toList=L++x::y::R) (hl:L.length=i):((P.setIfInBounds i z).eraseIdxIfInBounds (i+1)).toList=L++z::R:=by
 have hs:i+1<P.size:=by
  rw [←Array.length_toList,e]
  simp
  omega
 have hs2:i+1<(P.setIfInBounds i z).size:=by rw [Array.size_setIfInBounds];exact hs
 unfold Array.eraseIdxIfInBounds
 rw [dif_pos hs2,Array.toList_eraseIdx,Array.toList_setIfInBounds,e,←hl]
 rw [List.set_append_right _ _ (Nat.le_refl _),Nat.sub_self,List.set_cons_zero,List.eraseIdx_append_of_length_le (by omega),Nat.add_sub_cancel_left]
 rfl
theorem YS_ {xs ys:Array Keyed} {sa m sb n hi:Nat} (h1:sa≤m) (h2:m≤sb) (h3:sb≤n) (h4:n≤hi) (oa:Asc rk xs sa sb) (ob:Asc rk xs sb hi)
  (k1:∀ t,t<m→kr rk ys t=kr rk xs t) (k2:∀ t,n≤t→kr rk ys t=kr rk xs t) (om:Asc rk ys m n) (mem:∀ t,m≤t→t<n→∃ u,m≤u∧u<n∧kr rk ys t=kr rk xs u)
  (lo:∀ t,sa≤t→t<m→sb<hi→kr rk xs t≤kr rk xs sb) (up:∀ t,n≤t→t<hi→m<sb→kr rk xs (sb - 1)≤kr rk xs t) (lu:∀ t u,sa≤t→t<m→n≤u→u<hi→kr rk xs t≤kr rk xs u):Asc rk ys sa hi:=fun i j hi' hij hj=>by
 have pm:∀ t u,sa≤t→t<m→m≤u→u<n→kr rk xs t≤kr rk xs u:=fun t u a1 a2 a3 a4=>by
  by_cases c:u<sb
  ·exact oa t u a1 (by omega) c
  ·have:=lo t a1 a2 (by omega)
   have:=ob sb u (Nat.le_refl _) (by omega) (by omega)
   omega
 have pu:∀ t u,m≤t→t<n→n≤u→u<hi→kr rk xs t≤kr rk xs u:=fun t u a1 a2 a3 a4=>by
  by_cases c:t<sb
  ·have:=oa t (sb - 1) (by omega) (by omega) (by omega)
   have:=up u a3 a4 (by omega)
   omega
  ·exact ob t u (by omega) (by omega) a4
 by_cases c1:i<m
 ·rw [k1 i c1]
  by_cases c2:j<m
  ·rw [k1 j c2];exact oa i j hi' hij (by omega)
  ·by_cases c3:j<n
   ·obtain ⟨u,u1,u2,e⟩:=mem j (by omega) c3
    rw [e];exact pm i u hi' c1 u1 u2
   ·rw [k2 j (by omega)]
    exact lu i j hi' c1 (by omega) hj
 ·by_cases c3:j<n
  ·exact om i j (by omega) hij c3
  ·rw [k2 j (by omega)]
   by_cases c4:i<n
   ·obtain ⟨u,u1,u2,e⟩:=mem i (by omega) c4
    rw [e];exact pu u j u1 u2 (by omega) hj
   ·rw [k2 i (by omega)];exact ob i j (by omega) hij hj
theorem Uu_ {xs:Array Keyed} {i:Nat} {p:Keyed} (h:xs.Perm a₀) (e:xs[i]? = some p):p∈a₀.toList :=
 (Array.perm_iff_toList_perm.mp h).mem_iff.mp (by
  obtain ⟨hl,e⟩:=Array.getElem?_eq_some_iff.mp e
  rw [←e];simp)
theorem ZP_ {xs:Array Keyed} (h:xs.Perm a₀):∀ p∈xs.toList,p∈a₀.toList:=fun p hp=>(Array.perm_iff_toList_perm.mp h).mem_iff.mp hp
theorem Ut_ {xs:Array Keyed} {a e:Nat} (h:xs.Perm a₀):∀ p∈(xs.extract a e).toList,p∈a₀.toList:=fun p hp=>by
 rw [Array.toList_extract,List.extract_eq_take_drop] at hp
 exact ZP_ h p (List.mem_of_mem_drop (List.mem_of_mem_take hp))
theorem UT_ {st st':SortSt} {hi i sa na pw sb nb pb k n:Nat} {L R:List (Nat×Nat×Nat)} {r:Array Keyed} (h:Rn κ rk a₀ hi st) (e:(pendingOf st).toList=L++(sa,na,pw)::(sb,nb,pb)::R) (hl:L.length=i)
  (hk:k≤na) (hn:n≤nb) (kR1:∀ t,t<k→kr rk (arrOf st) (sa+t)≤kr rk (arrOf st) sb) (kL2:∀ t,n≤t→t<nb→k<na→kr rk (arrOf st) (sb - 1)≤kr rk (arrOf st) (sb+t)) (hnn:k=na→n=0)
  (hr:Srt rk (((arrOf st).extract (sa+k) sb).toList++((arrOf st).extract sb (sb+n)).toList) r.toList)
  (e1:arrOf st'=putAll r.toList (sa+k) 0 (arrOf st)) (e2:pendingOf st'=((pendingOf st).setIfInBounds i (sa,na+nb,pw)).eraseIdxIfInBounds (i+1)) (e3:kindOf st'=κ) (e4:failedOf st'=none) :
  Rn κ rk a₀ hi st'∧(pendingOf st').size+1=(pendingOf st).size∧∀ t,hi≤t→(arrOf st')[t]? = (arrOf st)[t]?:=by
 have cv:=h.cv
 rw [e] at cv
 obtain ⟨m0,c1,c2⟩:=Cov.split cv
 obtain ⟨rfl,na1,rfl,nb1,c3⟩:=c2
 have hsz:(arrOf st).size=a₀.size:=h.pm.size_eq
 have lhi:=Cov.le c3
 have hle:=h.le
 have oa:Asc rk (arrOf st) sa (sa+na):=h.so (sa,na,pw) (by rw [e];simp)
 have ob:Asc rk (arrOf st) (sa+na) (sa+na+nb):=h.so (sa+na,nb,pb) (by rw [e];simp)
 have rl:r.toList.length=(na - k)+n:=by
  rw [hr.2.length_eq,List.length_append,Array.length_toList,Array.length_toList,Array.size_extract,Array.size_extract]
  omega
 have fits:sa+k+r.toList.length≤(arrOf st).size:=by omega
 have at_:∀ t,(arrOf st')[t]? = if sa+k≤t∧t<sa+na+n then r.toList[t - (sa+k)]? else (arrOf st)[t]?:=fun t=>by
  rw [e1,uM_ _ _ _ _ (by omega),rl]
  simp only [Nat.add_zero]
  congr 1
  rw [show sa+k+(na - k+n)=sa+na+n by omega]
 have kin:∀ t,¬ (sa+k≤t∧t<sa+na+n)→kr rk (arrOf st') t=kr rk (arrOf st) t:=fun t ht=>uQ_ (by rw [at_,if_neg ht])
 have seg:((arrOf st).extract (sa+k) (sa+na)).toList++((arrOf st).extract (sa+na) (sa+na+n)).toList=((arrOf st).toList.drop (sa+k)).take (na - k+n):=by
  rw [Array.toList_extract,Array.toList_extract,List.extract_eq_take_drop,List.extract_eq_take_drop,List.take_add,List.drop_drop]
  congr 2
  ·omega
  ·omega
  ·congr 1;omega
 have perm:(arrOf st').Perm (arrOf st):=by
  rw [Array.perm_iff_toList_perm,e1,uL_ fits]
  have e5:(arrOf st).toList=(arrOf st).toList.take (sa+k)++(((arrOf st).toList.drop (sa+k)).take (na - k+n)++(arrOf st).toList.drop (sa+k+r.toList.length)):=by
   rw [rl]
   generalize sa+k=u
   rw [←List.drop_drop,List.take_append_drop,List.take_append_drop]
  conv=>rhs;rw [e5]
  exact (List.Perm.append_left _ ((hr.2.trans (by rw [seg])).append_right _))
 have krr:∀ t,sa+k≤t→t<sa+na+n→∃ hh:t - (sa+k)<r.toList.length,kr rk (arrOf st') t=rk (r.toList[t - (sa+k)]'hh).1:=fun t t1 t2=>by
  refine ⟨by omega,z0_ ?_⟩
  rw [at_,if_pos ⟨t1,t2⟩,List.getElem?_eq_getElem]
 have asc:Asc rk (arrOf st') sa (sa+na+nb):=by
  refine YS_ (m:=sa+k) (sb:=sa+na) (n:=sa+na+n) (by omega) (by omega) (by omega) (by omega) oa ob (fun t ht=>kin t (by omega)) (fun t ht=>kin t (by omega)) ?_ ?_ ?_ ?_ ?_
  ·intro i j a1 a2 a3
   obtain ⟨p1,q1⟩:=krr i a1 (by omega)
   obtain ⟨p2,q2⟩:=krr j (by omega) a3
   rw [q1,q2]
   by_cases c:i=j
   ·subst c;exact Int.le_refl _
   ·exact List.pairwise_iff_getElem.mp hr.1 _ _ p1 p2 (by omega)
  ·intro t t1 t2
   obtain ⟨p1,q1⟩:=krr t t1 t2
   have hm:=hr.2.mem_iff.mp (List.getElem_mem p1)
   rcases List.mem_append.mp hm with hm|hm
   ·obtain ⟨u,u1,u2,_,eu⟩:=yL_ (rk:=rk) hm
    exact ⟨u,u1,by omega,by rw [q1,eu]⟩
   ·obtain ⟨u,u1,u2,_,eu⟩:=yL_ (rk:=rk) hm
    exact ⟨u,by omega,u2,by rw [q1,eu]⟩
  ·intro t t1 t2 _
   have:=kR1 (t - sa) (by omega)
   rwa [show sa+(t - sa)=t by omega] at this
  ·intro t t1 t2 t3
   have:=kL2 (t - (sa+na)) (by omega) (by omega) (by omega)
   rwa [show sa+na+(t - (sa+na))=t by omega] at this
  ·intro t u t1 t2 u1 u2
   have:=kR1 (t - sa) (by omega)
   rw [show sa+(t - sa)=t by omega] at this
   have:=ob (sa+na) u (Nat.le_refl _) (by omega) u2
   omega
 have pl:(pendingOf st').toList=L++(sa,na+nb,pw)::R:=by rw [e2];exact QC_ e hl
 refine ⟨⟨perm.trans h.pm,e3,e4,?_,fun x hx=>?_,hle⟩,?_,fun t ht=>by rw [at_,if_neg (by omega)]⟩
 ·rw [pl]
  exact Cov.join c1 ⟨rfl,by omega,by rw [←Nat.add_assoc];exact c3⟩
 ·rw [pl] at hx
  rcases List.mem_append.mp hx with hx|hx
  ·have o:=h.so x (by rw [e];exact List.mem_append_left _ hx)
   have:=Cov.mem c1 hx
   exact fun i j a1 a2 a3=>by rw [kin i (by omega),kin j (by omega)];exact o i j a1 a2 a3
  ·rcases List.mem_cons.mp hx with rfl|hx
   ·dsimp only
    rw [←Nat.add_assoc];exact asc
   ·have o:=h.so x (by rw [e];exact List.mem_append_right _ (List.mem_cons_of_mem _ (List.mem_cons_of_mem _ hx)))
    have:=Cov.mem c3 hx
    exact fun i j a1 a2 a3=>by rw [kin i (by omega),kin j (by omega)];exact o i j a1 a2 a3
 ·rw [←Array.length_toList,←Array.length_toList,pl,e]
  simp
  omega
theorem yn_ {st:SortSt} {hi i:Nat} {Q:Bool→SortSt→Prop} (hC:Cmps prog w A s κ rk a₀) (h:Rn κ rk a₀ hi st) (hi2:i+1<(pendingOf st).size)
  (q:∀ st',Rn κ rk a₀ hi st'→(pendingOf st').size+1=(pendingOf st).size→(∀ t,hi≤t→(arrOf st')[t]? = (arrOf st)[t]?)→Q true st'):wpS (model prog w) A E s (mergeAt' i) Q st:=by
 obtain ⟨L,⟨sa,na,pw⟩,⟨sb,nb,pb⟩,R,e,hl,g1,g2⟩:=Vw_ hi2
 have cv:=h.cv
 rw [e] at cv
 obtain ⟨m0,c1,c2⟩:=Cov.split cv
 obtain ⟨rfl,na1,rfl,nb1,c3⟩:=c2
 have hsz:(arrOf st).size=a₀.size:=h.pm.size_eq
 have lhi:=Cov.le c3
 have hle:=h.le
 have oa:Asc rk (arrOf st) sa (sa+na):=h.so (sa,na,pw) (by rw [e];simp)
 have ob:Asc rk (arrOf st) (sa+na) (sa+na+nb):=h.so (sa+na,nb,pb) (by rw [e];simp)
 rw [JQ_]
 refine wpS_bind (wpS_get ?_)
 rw [g1,g2]
 dsimp only
 refine wpS_bind (QB_ ?_)
 have s0:S0 κ (arrOf st) (((pendingOf st).setIfInBounds i (sa,na+nb,pw)).eraseIdxIfInBounds (i+1)) (setPending st (((pendingOf st).setIfInBounds i (sa,na+nb,pw)).eraseIdxIfInBounds (i+1))):=⟨h.kd,rfl,rfl,h.fl⟩
 have ex:(arrOf st)[sa+na]? = some ((arrOf st)[sa+na]'(by omega)):=Array.getElem?_eq_getElem _
 refine wpS_bind (ja_ ex (wpS_bind (up_ hC s0.kd (Uu_ h.pm ex) (by omega) (ZP_ h.pm) oa (by omega) fun k k1 k2 k3=>?_)))
 rw [←z0_ (rk:=rk) ex] at k2 k3
 dsimp only
 split
 ·rename_i z
  have z':na - k=0:=by simpa using z
  have ek:k=na:=by omega
  subst ek
  have f:=UT_ (st':=setPending st (((pendingOf st).setIfInBounds i (sa,k+nb,pw)).eraseIdxIfInBounds (i+1))) (r:=#[]) (n:=0) h e hl k1 (Nat.zero_le _) k2 (fun t _ _ z=>absurd z (Nat.lt_irrefl _)) (fun _=>rfl) ⟨.nil,by simp [Array.toList_extract,List.extract_eq_take_drop]⟩ rfl rfl h.kd h.fl
  exact wpS_pure (q _ f.1 f.2.1 f.2.2)
 ·rename_i z
  have z':na - k≠0:=by simpa using z
  have ey:(arrOf st)[sa+k+(na - k) - 1]? = some ((arrOf st)[sa+k+(na - k) - 1]'(by omega)):=Array.getElem?_eq_getElem _
  refine wpS_bind (ja_ ey (wpS_bind (uq_ hC s0.kd (Uu_ h.pm ey) (by omega) (ZP_ h.pm) ob (by omega) fun n n1 n2 n3=>?_)))
  rw [←z0_ (rk:=rk) ey,show sa+k+(na - k) - 1=sa+na - 1 by omega] at n2 n3
  have kL2:∀ t,n≤t→t<nb→k<na→kr rk (arrOf st) (sa+na - 1)≤kr rk (arrOf st) (sa+na+t):=fun t a1 a2 _=>n3 t a1 a2
  dsimp only
  split
  ·rename_i y
   have y':n=0:=by simpa using y
   subst y'
   have f:=UT_ (st':=setPending st (((pendingOf st).setIfInBounds i (sa,na+nb,pw)).eraseIdxIfInBounds (i+1))) (r:=(arrOf st).extract (sa+k) (sa+na)) (n:=0) h e hl k1 (Nat.zero_le _) k2 kL2 (fun z=>by omega) ⟨?_,by simp [Array.toList_extract,List.extract_eq_take_drop]⟩ ?_ rfl h.kd h.fl
   ·exact wpS_pure (q _ f.1 f.2.1 f.2.2)
   ·refine jM_ fun i j a1 a2 a3=>?_
    rw [Array.size_extract] at a3
    rw [jP_ (by omega) (by omega),jP_ (by omega) (by omega)]
    exact oa _ _ (by omega) (by omega) (by omega)
   ·show arrOf st=_
    apply Array.ext'
    rw [uL_ (by rw [Array.length_toList,Array.size_extract];omega),Array.length_toList,Array.size_extract,Array.toList_extract,List.extract_eq_take_drop]
    rw [show min (sa+na) (arrOf st).size - (sa+k)=sa+na - (sa+k) by omega]
    generalize sa+na - (sa+k)=v
    generalize sa+k=u
    rw [←List.drop_drop,List.take_append_drop,List.take_append_drop]
  ·rename_i y
   have y':n≠0:=by simpa using y
   have tw:Two rk a₀ ((arrOf st).extract (sa+k) (sa+na)) ((arrOf st).extract (sa+na) (sa+na+n)):=by
    have z1:((arrOf st).extract (sa+k) (sa+na)).size=na - k:=by rw [Array.size_extract];omega
    have z2:((arrOf st).extract (sa+na) (sa+na+n)).size=n:=by rw [Array.size_extract];omega
    refine ⟨fun i j a1 a2 a3=>?_,fun i j a1 a2 a3=>?_,Ut_ h.pm,Ut_ h.pm,by omega,by omega,fun i a1=>?_,fun j a1=>?_⟩
    ·rw [jP_ (by omega) (by omega),jP_ (by omega) (by omega)]
     exact oa _ _ (by omega) (by omega) (by omega)
    ·rw [jP_ (by omega) (by omega),jP_ (by omega) (by omega)]
     exact ob _ _ (by omega) (by omega) (by omega)
    ·rw [jP_ (by omega) (by omega),jP_ (by omega) (by omega)]
     have:=k3 (k+i) (by omega) (by omega)
     rw [←Nat.add_assoc] at this
     rw [Nat.add_zero]
     omega
    ·rw [z1,jP_ (by omega) (by omega),jP_ (by omega) (by omega)]
     have:=n2 j (by omega)
     rw [show sa+k+(na - k - 1)=sa+na - 1 by omega]
     omega
   have last:∀ (r:Array Keyed) (st2:SortSt),Res κ rk ((arrOf st).extract (sa+k) (sa+na)) ((arrOf st).extract (sa+na) (sa+na+n)) (arrOf st) (((pendingOf st).setIfInBounds i (sa,na+nb,pw)).eraseIdxIfInBounds (i+1)) r st2 →
     wpS (model prog w) A E s (do modify fun c=>setArr c (putAll r.toList (sa+k) 0 (arrOf c));pure (failedOf (←get)).isNone) Q st2:=fun r st2 hr=>by
    refine wpS_bind (wpS_modify (wpS_bind (wpS_get (wpS_pure ?_))))
    have f:=UT_ (st':=setArr st2 (putAll r.toList (sa+k) 0 (arrOf st2))) (r:=r) (n:=n) h e hl k1 n1 k2 kL2 (fun z=>by omega) hr.2 (by show putAll _ _ _ (arrOf st2)=_;rw [hr.1.ar]) hr.1.pe hr.1.kd hr.1.fl
    have ef:(failedOf (setArr st2 (putAll r.toList (sa+k) 0 (arrOf st2)))).isNone=true:=by
     show (failedOf st2).isNone=true
     rw [hr.1.fl];rfl
    rw [ef]
    exact q _ f.1 f.2.1 f.2.2
   split
   ·exact wpS_bind (JM_ hC tw s0 last)
   ·exact wpS_bind (JO_ hC tw s0 last)
end
end TS
set_option Elab.async false
set_option linter.all false
set_option maxRecDepth 100000
namespace TS
open PySem PyProof.Rows
abbrev Cu:=Option Unit×Unit
def colW (pw:Nat):SM' (ForInStep Cu):=do
 let st ←get
 match (if (pendingOf st).size>1 then (pendingOf st)[(pendingOf st).size - 2]? else none) with
 | some (_,_,o) =>
  if o≤pw then pure (.done (none,()))
  else do
   let b ←mergeAt' ((pendingOf st).size - 2)
   if (!b)=true then pure (.done (some (),())) else pure (.yield (none,()))
 | _=>pure (.done (none,()))
def addW (lo n:Nat):SM' (ForInStep (Option Unit×Nat)):=do
 modify fun c=>setPending c ((pendingOf c).push (lo,n,0))
 pure (.yield (none,lo+n))
def YD_ (z lo n:Nat):SM' (ForInStep (Option Unit×Nat)):=do
 let st ←get
 match (pendingOf st).back? with
 | some (s1,n1,_)=>do
  let c ←forIn [0:z] ((none,()):Cu) fun _ _=>colW (power' z (2*s1+n1) (2*s1+n1+n1+n) z)
  match c.1 with
  | some r=>pure (.done (some r,lo))
  | none=>do
   modify fun c=>setPending c ((pendingOf c).modify ((pendingOf c).size - 1) fun x=>(x.1,x.2.1,power' z (2*s1+n1) (2*s1+n1+n1+n) z))
   addW lo n
 | _=>addW lo n
def UD_ (P:Runs):Nat:=if ((if P.size - 2>0 then P[P.size - 2 - 1]?.map (·.2.1) else none).any (· < (P[P.size - 2+1]?.elim 0 (·.2.1))))=true then P.size - 2 - 1 else P.size - 2
def Wr_:SM' (ForInStep Cu):=do
 let st ←get
 if (pendingOf st).size≤1 then pure (.done (none,()))
 else do
  let b ←mergeAt' (UD_ (pendingOf st))
  if (!b)=true then pure (.done (some (),())) else pure (.yield (none,()))
theorem yz_:sortRuns'=(do
  let st ←get
  let c ←forIn [0:(arrOf st).size] ((none,0):Option Unit×Nat) fun _ c =>
   if c.2≥(arrOf st).size then pure (.done (none,c.2))
   else do
    match ←countRun' c.2 ((arrOf st).size - c.2) with
    | some f =>
     if f<minRun' (arrOf st).size (arrOf st).size 0 then do
      liftM (rule "list.sort.binary-insertion")
      let b ←binarySort' c.2 (min ((arrOf st).size - c.2) (minRun' (arrOf st).size (arrOf st).size 0)) f
      if (!b)=true then pure (.done (some (),c.2))
      else YD_ (arrOf st).size c.2 (min ((arrOf st).size - c.2) (minRun' (arrOf st).size (arrOf st).size 0))
     else YD_ (arrOf st).size c.2 f
    | _=>pure (.done (some (),c.2))
  match c.1 with
  | some r=>pure r
  | none=>do
   let c ←forIn [0:(arrOf st).size] ((none,()):Cu) fun _ _=>Wr_
   match c.1 with
   | some r=>pure r
   | none=>pure ()):=by
 kernel_rfl
section
variable {rk:Value→Int} {prog:Program} {w:World} {A:Around} {E:Value→Shared→Prop} {s:Shared} {κ:SortKind} {a₀:Array Keyed}
def Rp (κ:SortKind) (rk:Value→Int) (a₀:Array Keyed) (lo n:Nat) (st:SortSt):Prop:=Rn κ rk a₀ lo st∧1≤n∧lo+n≤a₀.size∧Asc rk (arrOf st) lo (lo+n)
theorem Qz_ {st:SortSt} {lo n:Nat} {Q:ForInStep (Option Unit×Nat)→SortSt→Prop} (h:Rp κ rk a₀ lo n st) (q:∀ st',Rn κ rk a₀ (lo+n) st'→Q (.yield (none,lo+n)) st'):wpS (model prog w) A E s (addW lo n) Q st:=by
 obtain ⟨r,n1,le,o⟩:=h
 unfold addW
 refine wpS_bind (wpS_modify (wpS_pure (q _ ⟨r.pm,r.kd,r.fl,?_,fun x hx=>?_,le⟩)))
 ·show Cov ((pendingOf st).push (lo,n,0)).toList 0 (lo+n)
  rw [Array.toList_push]
  exact Cov.join r.cv ⟨rfl,n1,rfl⟩
 ·have hx':x∈((pendingOf st).push (lo,n,0)).toList:=hx
  rw [Array.toList_push] at hx'
  rcases List.mem_append.mp hx' with hx|hx
  ·exact r.so x hx
  ·rw [List.mem_singleton.mp hx];exact o
theorem Cov.mod {f:Nat×Nat×Nat→Nat×Nat×Nat} (hf:∀ x,(f x).1=x.1∧(f x).2.1=x.2.1):∀ (L:List (Nat×Nat×Nat)) (i lo hi:Nat),Cov L lo hi→Cov (L.modify i f) lo hi
 | [],i,lo,hi,h=>by simpa using h
 | (a,n,p)::L,0,lo,hi,h=>by
  rw [List.modify_zero_cons]
  obtain ⟨h1,h2⟩:=hf (a,n,p)
  generalize f (a,n,p)=y at h1 h2
  obtain ⟨b,m,r⟩:=y
  dsimp only at h1 h2
  subst h1 h2
  exact h
 | (a,n,p)::L,i+1,lo,hi,h=>by
  rw [List.modify_succ_cons]
  exact ⟨h.1,h.2.1,Cov.mod hf L i _ _ h.2.2⟩
theorem Us_ {f:Nat×Nat×Nat→Nat×Nat×Nat} (hf:∀ x,(f x).1=x.1∧(f x).2.1=x.2.1):∀ (L:List (Nat×Nat×Nat)) (i:Nat) (x:Nat×Nat×Nat),x∈L.modify i f→∃ y∈L,x.1=y.1∧x.2.1=y.2.1
 | [],i,x,h=>by simp at h
 | y::L,0,x,h=>by
  rw [List.modify_zero_cons] at h
  rcases List.mem_cons.mp h with rfl|h
  ·exact ⟨y,List.mem_cons_self,hf y⟩
  ·exact ⟨x,List.mem_cons_of_mem _ h,rfl,rfl⟩
 | y::L,i+1,x,h=>by
  rw [List.modify_succ_cons] at h
  rcases List.mem_cons.mp h with rfl|h
  ·exact ⟨x,List.mem_cons_self,rfl,rfl⟩
  ·obtain ⟨z,hz,e⟩:=Us_ hf L i x h
   exact ⟨z,List.mem_cons_of_mem _ hz,e⟩
theorem Uk_ {st:SortSt} {z lo n:Nat} {Q:ForInStep (Option Unit×Nat)→SortSt→Prop} (hC:Cmps prog w A s κ rk a₀) (h:Rp κ rk a₀ lo n st) (q:∀ st',Rn κ rk a₀ (lo+n) st'→Q (.yield (none,lo+n)) st'):wpS (model prog w) A E s (YD_ z lo n) Q st:=by
 unfold YD_
 refine wpS_bind (wpS_get ?_)
 split
 ·refine wpS_bind (wpS_mono (wpS_forRange (I:=fun x c st'=>c=(none,())∧Rp κ rk a₀ lo n st') (Q:=fun c st'=>c=(none,())∧Rp κ rk a₀ lo n st') (fun x c st' _ _ I=>?_) (fun c st' I=>I) ⟨rfl,h⟩) fun c st' I=>?_)
  ·obtain ⟨rfl,r,n1,le,o⟩:=I
   unfold colW
   refine wpS_bind (wpS_get ?_)
   split
   ·rename_i g
    split
    ·exact wpS_pure ⟨rfl,r,n1,le,o⟩
    ·have hs:(pendingOf st').size>1:=by
      rcases Nat.lt_or_ge 1 (pendingOf st').size with c|c
      ·exact c
      ·rw [if_neg (by omega)] at g;cases g
     refine wpS_bind (yn_ hC r (by omega) fun st2 r2 _ k2=>?_)
     refine wpS_pure ⟨rfl,r2,n1,le,fun i j a1 a2 a3=>?_⟩
     rw [uQ_ (k2 i a1),uQ_ (k2 j (by omega))]
     exact o i j a1 a2 a3
   ·exact wpS_pure ⟨rfl,r,n1,le,o⟩
  ·obtain ⟨rfl,r,n1,le,o⟩:=I
   dsimp only
   refine wpS_bind (wpS_modify (Qz_ ⟨⟨r.pm,r.kd,r.fl,?_,fun x hx=>?_,r.le⟩,n1,le,o⟩ q))
   ·show Cov ((pendingOf st').modify _ _).toList 0 lo
    rw [Array.toList_modify]
    refine Cov.mod ?_ _ _ _ _ r.cv
    exact fun _=>⟨rfl,rfl⟩
   ·have hx':x∈((pendingOf st').modify _ _).toList:=hx
    rw [Array.toList_modify] at hx'
    have mm:=fun (c:Nat)=>Us_ (f:=fun x=>(x.1,x.2.1,c)) (fun _=>⟨rfl,rfl⟩) (pendingOf st').toList ((pendingOf st').size - 1) x
    obtain ⟨y,hy,e1,e2⟩:=mm _ hx'
    rw [e1,e2]
    exact r.so y hy
 ·exact Qz_ h q
theorem UC_ {P:Runs} (h:1<P.size):UD_ P+1<P.size:=by
 unfold UD_
 by_cases d:P.size - 2>0
 ·split<;>split<;>omega
 ·rw [if_neg d,if_neg (by simp)]
  omega
theorem QH_ {st:SortSt} {Q:Unit→SortSt→Prop} (hC:Cmps prog w A s κ rk a₀) (h2:1≤a₀.size) (h:Rn κ rk a₀ 0 st) (q:∀ st',(arrOf st').Perm a₀→failedOf st'=none→Asc rk (arrOf st') 0 a₀.size→Q () st'):wpS (model prog w) A E s sortRuns' Q st:=by
 rw [yz_]
 refine wpS_bind (wpS_get ?_)
 have hsz:(arrOf st).size=a₀.size:=h.pm.size_eq
 rw [hsz]
 refine wpS_bind (wpS_mono (wpS_forRange (I:=fun x c st'=>∃ lo,c=(none,lo)∧Rn κ rk a₀ lo st'∧(x≤lo∨lo=a₀.size)) (Q:=fun c st'=>c=(none,a₀.size)∧Rn κ rk a₀ a₀.size st') (fun x c st' _ hx I=>?_) (fun c st' I=>?_) ⟨0,rfl,h,.inl (Nat.le_refl _)⟩) fun c st' I=>?_)
 ·obtain ⟨lo,rfl,r,hl⟩:=I
  have rle:=r.le
  dsimp only
  split
  ·have e:lo=a₀.size:=by omega
   subst e
   exact wpS_pure ⟨rfl,r⟩
  ·rename_i c
   have sb:SB κ a₀ lo (arrOf st') (pendingOf st') st':=⟨r.pm,r.kd,r.fl,fun _ _=>rfl,rfl⟩
   have back:∀ st2 n,SB κ a₀ lo (arrOf st') (pendingOf st') st2→1≤n→lo+n≤a₀.size→Asc rk (arrOf st2) lo (lo+n)→Rp κ rk a₀ lo n st2:=fun st2 n b n1 n2 o=>by
    refine ⟨⟨b.pm,b.kd,b.fl,by rw [b.pe];exact r.cv,fun x hx=>?_,r.le⟩,n1,n2,o⟩
    rw [b.pe] at hx
    have m:=Cov.mem r.cv hx
    have o:=r.so x hx
    exact fun i j a1 a2 a3=>by rw [uQ_ (b.kp i (by omega)),uQ_ (b.kp j (by omega))];exact o i j a1 a2 a3
   refine wpS_bind (VG_ hC (by omega) (by omega) sb fun m st2 ⟨b2,m1,m2,o2⟩=>?_)
   dsimp only
   split
   ·refine wpS_bind (wpS_lift (wpAny_rule ⟨rfl,wpS_bind (WN_ hC (by omega) (by omega) b2 o2 fun st3 b3 o3=>?_)⟩))
    rw [if_neg (by decide)]
    exact Uk_ hC (back st3 _ b3 (by omega) (by omega) o3) fun st4 r4=>⟨_,rfl,r4,.inl (by omega)⟩
   ·exact Uk_ hC (back st2 _ b2 m1 (by omega) o2) fun st4 r4=>⟨_,rfl,r4,.inl (by omega)⟩
 ·obtain ⟨lo,rfl,r,hl⟩:=I
  have:=r.le
  have e:lo=a₀.size:=by omega
  subst e
  exact ⟨rfl,r⟩
 ·obtain ⟨rfl,r⟩:=I
  dsimp only
  have hp:(pendingOf st').size≤a₀.size:=by
   have:=Cov.le r.cv
   rw [Array.length_toList] at this
   omega
  refine wpS_bind (wpS_mono (wpS_forRange (I:=fun x c st2=>c=(none,())∧Rn κ rk a₀ a₀.size st2∧(pendingOf st2).size+x≤a₀.size+1) (Q:=fun c st2=>c=(none,())∧Rn κ rk a₀ a₀.size st2∧(pendingOf st2).size≤1) (fun x c st2 _ hx I=>?_) (fun c st2 I=>?_) ⟨rfl,r,by omega⟩) fun c st2 I=>?_)
  ·obtain ⟨rfl,r2,sz⟩:=I
   unfold Wr_
   refine wpS_bind (wpS_get ?_)
   split
   ·rename_i c;exact wpS_pure ⟨rfl,r2,c⟩
   ·rename_i c
    refine wpS_bind (yn_ hC r2 (UC_ (by omega)) fun st3 r3 z3 _=>?_)
    exact wpS_pure ⟨rfl,r3,by omega⟩
  ·obtain ⟨rfl,r2,sz⟩:=I
   exact ⟨rfl,r2,by omega⟩
  ·obtain ⟨rfl,r2,sz⟩:=I
   dsimp only
   refine wpS_pure (q st2 r2.pm r2.fl ?_)
   have cv:=r2.cv
   have so:=r2.so
   have hl:(pendingOf st2).toList.length≤1:=by rw [Array.length_toList];exact sz
   match hP:(pendingOf st2).toList,hl,cv,so with
   | [],_,cv,_=>have:0=a₀.size:=cv;omega
   | [(a,n,p)],_,cv,so =>
    obtain ⟨rfl,_,e⟩:=cv
    have e':0+n=a₀.size:=e
    have:=so (0,n,p) List.mem_cons_self
    dsimp only at this
    rw [e'] at this
    exact this
   | _::_::_,hl,_,_=>simp at hl
end
end TS
set_option Elab.async false
set_option linter.all false
set_option maxRecDepth 100000
namespace TS
open PySem PyProof.Rows
def mid (s:Shared) (a:Addr) (vs:List Value):Shared:={ s with heap:=((s.heap.update a (Obj.mapSeq fun _=>#[])).push (seqObj "tuple" vs.toArray 0)).push (seqObj "list" #[] 0) }
section
variable {prog:Program} {w:World} {A:Around} {E:Value→Shared→Prop} {s:Shared} {κ:SortKind} {rk:Value→Int}
theorem YP_ {a:Addr} {vs:List Value} {n:Nat} {P:Fin→Shared→Prop} (ho:s.heap.get? a=some (seqObj "list" vs.toArray n)) (hz:vs.length≤sizeLine)
  (hk:2≤vs.length→∀ Q:SortKind→Shared→Prop,Q κ (mid s a vs)→wpAny (model prog w) A (keyKind' vs.toArray) Q E (mid s a vs)) (hC:2≤vs.length→Cmps prog w A (mid s a vs) κ rk (pairsOf vs))
  (h:∀ out:Array Value,out.toList.Perm vs→out.toList.Pairwise (fun x y=>rk x≤rk y)→P (.done (.ret .none)) { s with heap:=sortedHeap s.heap a vs out }):wpAny (model prog w) A (Builtin.«list.sort» ⟨[.ref a],[]⟩) P E s:=by
 have hlt:=Heap.lt_size ho
 obtain ⟨ep,ho1⟩:∃ ep,(s.heap.update a (Obj.mapSeq fun _=>#[])).get? a=some (seqObj "list" #[] ep):=⟨_,get?_update_seq ho fun _=>#[]⟩
 have ho2:(mid s a vs).heap.get? a=some (seqObj "list" #[] ep):=by
  unfold mid
  dsimp only
  rw [Heap.get?_push_ne,Heap.get?_push_ne]
  ·exact ho1
  ·rw [Heap.size_update];exact Nat.ne_of_lt hlt
  ·rw [size_push',Heap.size_update];exact Nat.ne_of_lt (Nat.lt_succ_of_lt hlt)
 rw [list_sort_plain]
 refine wpAny_bind (listItems_at ho rfl (wpAny_bind (listUpdate_at ho rfl (wpAny_bind (seqEpoch_at ho1 rfl (wpAny_bind (wpAny_newTuple (wpAny_bind (wpAny_newList (wpAny_holding ?_)))))))  (by simpa using hz) (Nat.zero_le _))))
 have mem:∀ p∈(pairsOf vs).toList,p.1=p.2∧p.1∈vs:=fun p hp=>by
  rw [pairsOf_toList] at hp
  exact mem_zip_self hp
 have fin:∀ c:SortSt,(arrOf c).Perm (pairsOf vs)→Asc rk (arrOf c) 0 (arrOf c).size→P (.done (.ret .none)) { s with heap:=sortedHeap s.heap a vs ((arrOf c).map (·.2)) }:=fun c hp ha=>by
  have hp':=Array.perm_iff_toList_perm.mp hp
  have e:((arrOf c).map (·.2)).toList=(arrOf c).toList.map (·.1):=by
   rw [Array.toList_map]
   exact List.map_congr_left fun p q=>(mem p (hp'.mem_iff.mp q)).1.symm
  refine h _ ?_ ?_
  ·rw [e]
   have:=hp'.map (·.1)
   rwa [pairsOf_toList,List.map_fst_zip (Nat.le_refl _)] at this
  ·rw [e,List.pairwise_map]
   exact jM_ ha
 have size2:∀ c:SortSt,(arrOf c).Perm (pairsOf vs)→((arrOf c).map (·.2)).size≤sizeLine+1:=fun c hp=>by
  rw [Array.size_map,hp.size_eq,pairsOf_size];omega
 have vz:vs.toArray.size=vs.length:=List.size_toArray ..
 show wpAny (model prog w) A _ P E (mid s a vs)
 by_cases c:vs.length<2
 ·rw [if_pos (by rw [vz];exact c),if_pos (by rw [vz];exact c)]
  refine wpAny_bind (wpAny_pure ?_)
  dsimp only
  rw [StateT.run_pure]
  refine wpAny_bind (wpAny_pure (wpAny_bind (seqEpoch_at ho2 rfl (wpAny_bind (listUpdate_at ho2 rfl ?_ (Nat.zero_le _) (size2 (SortSt.mk' general' (vs.toArray.zip vs.toArray) #[] 7 none) (Array.Perm.refl _)))))))
  rw [if_neg (by simp)]
  refine wpAny_pure (fin (SortSt.mk' general' (vs.toArray.zip vs.toArray) #[] 7 none) (Array.Perm.refl _) fun i j _ ij hj=>?_)
  have hj':j<(pairsOf vs).size:=hj
  rw [pairsOf_size] at hj'
  rw [show i=j by omega]
  exact Int.le_refl _
 ·rw [if_neg (by rw [vz];exact c),if_neg (by rw [vz];exact c)]
  refine wpAny_bind (hk (by omega) _ ?_)
  have so:=QH_ (E:=E) (hC (by omega)) (by rw [pairsOf_size];omega) (st:=SortSt.mk' κ (vs.toArray.zip vs.toArray) #[] 7 none) (Q:=fun _ c=>(arrOf c).Perm (pairsOf vs)∧failedOf c=none∧Asc rk (arrOf c) 0 (pairsOf vs).size)
   ⟨Array.Perm.refl _,rfl,rfl,rfl,(fun x hx=>by cases hx),Nat.zero_le _⟩ (fun c a1 a2 a3=>⟨a1,a2,a3⟩)
  refine wpAny_bind (wpAny_mono so (fun r s' ⟨e,a1,a2,a3⟩=>?_) fun _ _ e=>e)
  subst e
  obtain ⟨⟨⟩,c⟩:=r
  dsimp only at a1 a2 a3 ⊢
  refine wpAny_bind (seqEpoch_at ho2 rfl (wpAny_bind (listUpdate_at ho2 rfl ?_ (Nat.zero_le _) (size2 c a1))))
  rw [a2]
  dsimp only
  rw [if_neg (by simp)]
  exact wpAny_pure (fin c a1 (by rw [a1.size_eq];exact a3))
theorem Vs_ {l:Addr} {o:Obj} {n:Nat} {vs:List Value} {Q:List Value→Shared→Prop} (ho:s.heap.get? l=some o) (hc:o.cls=.type "list" ∨ o.cls=.type "tuple") (hd:o.data=.seq vs.toArray n) (hz:vs.length≤sizeLine)
  (h:Q vs { s with heap:=(s.heap.push (seqObj "list" #[] 0)).update s.heap.objs.size (Obj.mapSeq (· ++ vs.toArray)) }):wpAny (model prog w) A (collect (.ref l)) Q E s:=by
 have ho':(s.heap.push (seqObj "list" #[] 0)).get? l=some o:=Heap.get?_push_of_some _ ho
 have e0:(s.heap.push (seqObj "list" #[] 0)).get? s.heap.objs.size=some (seqObj "list" #[] 0):=Heap.get?_push_size _ rfl
 unfold collect
 refine wpAny_bind (wpAny_runValue (codeAny_builtin entry_proto_collect' ?_))
 show wpAny (model prog w) _ (newList [] >>= fun x=>again (.builtin "list.__iadd__" ⟨[x,.ref l],[]⟩)) _ _ s
 refine wpAny_bind (wpAny_newList (wpAny_pure ⟨Code.quiet_builtin _ (by decide +kernel),codeAny_builtin entry_list_iadd' ?_⟩))
 show wpAny (model prog w) _ (Builtin.List.listExtendWith (.ref s.heap.objs.size) (.ref l) (.ref s.heap.objs.size)) _ _ { s with heap:=s.heap.push (seqObj "list" #[] 0) }
 unfold Builtin.List.listExtendWith
 have sz:(((· ++ vs.toArray):Array Value→Array Value) #[]).size≤sizeLine+1:=by
  show (#[]++vs.toArray).size≤_
  rw [Array.size_append,List.size_toArray]
  simp only [List.size_toArray,List.length_nil]
  omega
 have tail:wpAny (model prog w) A (do
   let o ←load s.heap.objs.size
   match o.data with
   | .seq xs _=>pure xs.toList
   | _=>unsupported "internal:collect") Q E { s with heap:=(s.heap.push (seqObj "list" #[] 0)).update s.heap.objs.size (Obj.mapSeq (· ++ vs.toArray)) }:=by
  refine wpAny_bind (wpAny_load (get?_update_seq e0 _) ?_)
  show wpAny (model prog w) A (pure ((#[]:Array Value)++vs.toArray).toList) Q E _
  rw [show ((#[]:Array Value)++vs.toArray).toList=vs by simp]
  exact wpAny_pure h
 rcases hc with hc|hc
 ·refine wpAny_bind (wpAny_typeOf (T := "list") ⟨o,ho',hc⟩ ?_)
  rw [if_pos (by rw [show (Value.type "list" == Value.type "list")=true from rfl];simp)]
  refine wpAny_bind (listItems_at ho' hd (wpAny_bind (listItems_at (xs:=#[]) (n:=0) e0 rfl ?_)))
  rw [if_neg (by simp)]
  exact wpAny_bind (listUpdate_at (xs:=#[]) (n:=0) e0 rfl (wpAny_pure tail) (Nat.zero_le _) sz)
 ·refine wpAny_bind (wpAny_typeOf (T := "tuple") ⟨o,ho',hc⟩ ?_)
  rw [if_pos (by rw [show (Value.type "tuple" == Value.type "tuple")=true from rfl];simp)]
  refine wpAny_bind (listItems_at ho' hd (wpAny_bind (listItems_at (xs:=#[]) (n:=0) e0 rfl ?_)))
  rw [if_neg (by simp)]
  exact wpAny_bind (listUpdate_at (xs:=#[]) (n:=0) e0 rfl (wpAny_pure tail) (Nat.zero_le _) sz)
def jN_ (s:Shared) (vs:List Value):Shared:={ s with heap:=s.heap.push (seqObj "list" vs.toArray 0) }
theorem JD_ {x:Value} {Q:Value→Shared→Prop} (col:∀ (E':Value→Shared→Prop) (Q':List Value→Shared→Prop),(∀ vs s2,(vs.length≤sizeLine∧∃ (κ:SortKind) (rk:Value→Int),
   (2≤vs.length→∀ (E':Value→Shared→Prop) (Q:SortKind→Shared→Prop),Q κ (mid (jN_ s2 vs) s2.heap.objs.size vs)→wpAny (model prog w) A.in1.in1 (keyKind' vs.toArray) Q E' (mid (jN_ s2 vs) s2.heap.objs.size vs)) ∧
   (2≤vs.length→Cmps prog w A.in1.in1 (mid (jN_ s2 vs) s2.heap.objs.size vs) κ rk (pairsOf vs)) ∧
   ∀ out:Array Value,out.toList.Perm vs→out.toList.Pairwise (fun x y=>rk x≤rk y)→Q (.ref s2.heap.objs.size) { s2 with heap:=sortedHeap (jN_ s2 vs).heap s2.heap.objs.size vs out })→Q' vs s2)→wpAny (model prog w) A.in1 (collect x) Q' E' s) :
  wpAny (model prog w) A (call (.builtin "sorted") [x]) Q E s:=by
 refine Calls.call_function_entry kind_sorted plain_sorted entry_sorted (args_sorted1 _) ?_
 unfold Builtin.«sorted»
 refine wpAny_bind (m:=checkCount "sorted" 1 1 _) (wpAny_pure (wpAny_bind (col _ _ fun vs s2 ⟨hz,κ,rk,hk,hC,h⟩=>wpAny_bind (wpAny_newList ?_))))
 have hg:(jN_ s2 vs).heap.get? s2.heap.objs.size=some (seqObj "list" vs.toArray 0):=Heap.get?_push_size _ rfl
 show wpAny _ _ _ _ _ (jN_ s2 vs)
 exact wpAny_bind (wpAny_holding (wpAny_call_entry slot_list_sort ⟨_,hg,rfl⟩ entry_list_sort (YP_ hg hz (fun c=>hk c _) hC fun out a1 a2=>⟨_,rfl,wpAny_pure ⟨_,rfl,h out a1 a2⟩⟩) (args_list_sort _)))
theorem y4_ {h:Heap} {a:Addr} {vs:List Value} {out:Array Value} {b:Addr} {o:Obj} (hab:b≠a) (e:h.get? b=some o):(sortedHeap h a vs out).get? b=some o:=by
 have hlt:b<h.objs.size:=Heap.lt_size e
 unfold sortedHeap
 rw [Heap.get?_update_ne _ _ _ _ hab,Heap.get?_push_ne _ _ _ (by rw [size_push',Heap.size_update];exact Nat.ne_of_lt (Nat.lt_succ_of_lt hlt)),Heap.get?_push_ne _ _ _ (by rw [Heap.size_update];exact Nat.ne_of_lt hlt),Heap.get?_update_ne _ _ _ _ hab]
 exact e
theorem JE_ {h:Heap} {a:Addr} {vs:List Value} {out:Array Value} {n:Nat} (ho:h.get? a=some (seqObj "list" vs.toArray n)):∃ e,(sortedHeap h a vs out).get? a=some (seqObj "list" out e):=by
 have hlt:a<h.objs.size:=Heap.lt_size ho
 obtain ⟨ep,e1⟩:∃ ep,(h.update a (Obj.mapSeq fun _=>#[])).get? a=some (seqObj "list" #[] ep):=⟨_,get?_update_seq ho fun _=>#[]⟩
 unfold sortedHeap
 refine ⟨_,get?_update_seq (n:=ep) (xs:=#[]) ?_ fun _=>out⟩
 rw [Heap.get?_push_ne _ _ _ (by rw [size_push',Heap.size_update];exact Nat.ne_of_lt (Nat.lt_succ_of_lt hlt)),Heap.get?_push_ne _ _ _ (by rw [Heap.size_update];exact Nat.ne_of_lt hlt)]
 exact e1
theorem Vb_ {vs:List Value} {b:Addr} {o:Obj} (e:s.heap.get? b=some o):(mid (jN_ s vs) s.heap.objs.size vs).heap.get? b=some o:=by
 have hlt:b<s.heap.objs.size:=Heap.lt_size e
 unfold mid jN_
 dsimp only
 rw [Heap.get?_push_ne _ _ _ (by rw [size_push',Heap.size_update,size_push'];exact Nat.ne_of_lt (Nat.lt_succ_of_lt (Nat.lt_succ_of_lt hlt))),Heap.get?_push_ne _ _ _ (by rw [Heap.size_update,size_push'];exact Nat.ne_of_lt (Nat.lt_succ_of_lt hlt)),Heap.get?_update_ne _ _ _ _ (Nat.ne_of_lt hlt)]
 exact Heap.get?_push_of_some _ e
end
end TS
set_option Elab.async false
set_option linter.all false
set_option maxRecDepth 100000
namespace L4
open PySem PySem.Spec PyProof.Rows L2 L3
section
open HT
theorem Jl_:∀ a:List Int,lexLt a a=false
 | []=>rfl
 | x::a=>by rw [lexLt_cons,if_pos rfl];exact Jl_ a
theorem Uv_:∀ {a b c:List Int},lexLt a b=true→lexLt b c=true→lexLt a c=true
 | [],[],_,h,_=>by cases h
 | [],_::_,[],_,h=>by cases h
 | [],_::_,_::_,_,_=>rfl
 | _::_,[],_,h,_=>by cases h
 | _::_,_::_,[],_,h=>by cases h
 | x::a,y::b,z::c,h1,h2=>by
  rw [lexLt_cons] at h1 h2 ⊢
  by_cases e1:x=y
  ·by_cases e2:y=z
   ·rw [if_pos e1] at h1;rw [if_pos e2] at h2;rw [if_pos (e1.trans e2)]
    exact Uv_ h1 h2
   ·rw [if_neg e2,decide_eq_true_eq] at h2
    rw [if_neg (by omega),decide_eq_true_eq];omega
  ·rw [if_neg e1,decide_eq_true_eq] at h1
   by_cases e2:y=z
   ·rw [if_neg (by omega),decide_eq_true_eq];omega
   ·rw [if_neg e2,decide_eq_true_eq] at h2
    rw [if_neg (by omega),decide_eq_true_eq];omega
theorem Zk_:∀ {a b:List Int},lexLt a b=false→lexLt b a=false→a=b
 | [],[],_,_=>rfl
 | [],_::_,h,_=>by cases h
 | _::_,[],_,h=>by cases h
 | x::a,y::b,h1,h2=>by
  rw [lexLt_cons] at h1 h2
  by_cases e:x=y
  ·rw [if_pos e] at h1;rw [if_pos e.symm] at h2
   rw [e,Zk_ h1 h2]
  ·rw [if_neg e,decide_eq_false_iff_not] at h1
   rw [if_neg (fun z=>e z.symm),decide_eq_false_iff_not] at h2
   omega
theorem Wm_ {a b:List Int} (h:lexLt a b=true):lexLt b a=false:=by
 cases q:lexLt b a with
 | false=>rfl
 | true=>have:=Uv_ h q;rw [Jl_] at this;cases this
end
theorem U5_ {α:Type} {p q:α→Bool} {l:List α} {x:α} (h:∀ y∈l,p y=true→q y=true) (hx:x∈l) (h1:p x=false) (h2:q x=true):l.countP p<l.countP q:=by
 induction l with
 | nil=>cases hx
 | cons y l ih =>
  have hm:∀ z∈l,p z=true→q z=true:=fun z hz=>h z (List.mem_cons_of_mem _ hz)
  have le:l.countP p≤l.countP q:=List.countP_mono_left hm
  rw [List.countP_cons,List.countP_cons]
  rcases List.mem_cons.mp hx with rfl|hx
  ·rw [h1,h2];simp;omega
  ·have:=ih hm hx
   have hy:=h y List.mem_cons_self
   cases e:p y with
   | false=>simp;omega
   | true=>rw [hy e];simp;omega
def rankOf {α:Type} (l:List α) (k:α→List Int) (x:α):Int:=(l.countP fun u=>HT.lexLt (k u) (k x):Nat)
theorem Ug_ {α:Type} {l:List α} {k:α→List Int} {x y:α} (hx:x∈l) (hy:y∈l):decide (rankOf l k x<rankOf l k y)=HT.lexLt (k x) (k y):=by
 have up:∀ x y,x∈l→HT.lexLt (k x) (k y)=true→rankOf l k x<rankOf l k y:=fun x y hx h=>by
  have:=U5_ (p:=fun u=>HT.lexLt (k u) (k x)) (q:=fun u=>HT.lexLt (k u) (k y)) (l:=l) (fun z _ hz=>Uv_ hz h) hx (Jl_ _) h
  unfold rankOf;omega
 cases e:HT.lexLt (k x) (k y) with
 | true=>exact decide_eq_true (up x y hx e)
 | false =>
  rw [decide_eq_false_iff_not]
  intro z
  cases e2:HT.lexLt (k y) (k x) with
  | true=>have:=up y x hy e2;omega
  | false =>
   have ek:=Zk_ e e2
   unfold rankOf at z
   rw [ek] at z
   omega
theorem y5_ {R:D→D→Prop}:∀ {a b:List D},(∀ x∈b,∀ y∈b,R x y→R y x→x=y)→a.Perm b→a.Pairwise R→b.Pairwise R→a=b
 | [],b,_,hp,_,_=>by simpa using hp.symm.eq_nil
 | x::r,b,hR,hp,ha,hb=>by
  cases b with
  | nil=>exact absurd hp.length_eq (by simp)
  | cons y t =>
   rw [List.pairwise_cons] at ha hb
   have hx:x∈y::t:=hp.mem_iff.mp List.mem_cons_self
   have hy:y∈x::r:=hp.mem_iff.mpr List.mem_cons_self
   have e:x=y:=by
    rcases List.mem_cons.mp hx with e|hx'
    ·exact e
    ·rcases List.mem_cons.mp hy with e|hy'
     ·exact e.symm
     ·exact hR x hx y List.mem_cons_self (ha.1 y hy') (hb.1 x hx')
   subst e
   rw [y5_ (fun x hx y hy=>hR x (List.mem_cons_of_mem _ hx) y (List.mem_cons_of_mem _ hy)) (List.Perm.cons_inv hp) ha.2 hb.2]
theorem YG_ {α β:Type} {f:α→β}:∀ {out:List β} {l:List α},out.Perm (l.map f)→∃ l':List α,l'.Perm l∧l'.map f=out:=by
 intro out l h
 generalize e:l.map f=m at h
 induction h generalizing l with
 | nil =>
  cases l with
  | nil=>exact ⟨[],.refl _,rfl⟩
  | cons y l=>cases e
 | @cons x a b hp ih =>
  cases l with
  | nil=>cases e
  | cons y l =>
   rw [List.map_cons] at e
   injection e with e1 e2
   obtain ⟨l',h1,h2⟩:=ih e2
   exact ⟨y::l',h1.cons y,by rw [List.map_cons,h2,e1]⟩
 | @swap x y a =>
  match l,e with
  | u::v::l,e =>
   rw [List.map_cons,List.map_cons] at e
   injection e with e1 e2
   injection e2 with e2 e3
   exact ⟨v::u::l,.swap _ _ _,by rw [List.map_cons,List.map_cons,e1,e2,e3]⟩
 | @trans a b c h1 h2 ih1 ih2 =>
  obtain ⟨l1,p1,q1⟩:=ih2 e
  obtain ⟨l2,p2,q2⟩:=ih1 q1
  exact ⟨l2,p2.trans p1,q2⟩
end L4
set_option Elab.async false
set_option linter.all false
set_option maxRecDepth 100000
namespace L4
open PySem PySem.Spec PyProof.Rows L2 L3 TS
theorem triples {K:Fg} {F:Hp}:∀ {vs:List V} {ds:List D} {its:List Value},RepL K F vs ds→Vals vs its→∃ L:List (V×D×Value),L.map (·.1)=vs∧L.map (·.2.1)=ds∧L.map (·.2.2)=its∧∀ t∈L,Rep K F t.1 t.2.1∧RelV t.1 t.2.2
 | _,_,_,.nil,r=>by cases r;exact ⟨[],rfl,rfl,rfl,fun _ h=>by cases h⟩
 | _,_,_,.cons h t,r=>by
  cases r with
  | cons r rr =>
   obtain ⟨L,e1,e2,e3,e4⟩:=triples t rr
   refine ⟨(_,_,_)::L,by rw [List.map_cons,e1],by rw [List.map_cons,e2],by rw [List.map_cons,e3],fun x hx=>?_⟩
   rcases List.mem_cons.mp hx with rfl|hx
   ·exact ⟨h,r⟩
   ·exact e4 x hx
theorem Z4_ {K:Fg} {F:Hp}:∀ {L:List (V×D×Value)},(∀ t∈L,Rep K F t.1 t.2.1∧RelV t.1 t.2.2)→RepL K F (L.map (·.1)) (L.map (·.2.1))∧Vals (L.map (·.1)) (L.map (·.2.2))
 | [],_=>⟨.nil,.nil⟩
 | x::L,h=>by
  obtain ⟨h1,h2⟩:=h x List.mem_cons_self
  obtain ⟨h3,h4⟩:=Z4_ (L:=L) fun t ht=>h t (List.mem_cons_of_mem _ ht)
  exact ⟨.cons h1 h3,.cons h2 h4⟩
end L4
set_option Elab.async false
set_option linter.all false
set_option maxRecDepth 100000
namespace L4
open PySem PySem.Spec PyProof.Rows L2 L3 TS
inductive Sh where
 | i
 | b
 | f (g:Nat→Sh)
def fits:Sh→D→Prop
 | .i,d=>∃ n:Int,d=.int n
 | .b,d=>∃ p:Bool,d=.bool p
 | .f g,d=>∃ xs:List D,d=.tuple xs∧∀ (k:Nat) (x:D),xs[k]? = some x→fits (g k) x
mutual
def enc:D→List Int
 | .int n=>[n]
 | .bool p=>[if p then 1 else 0]
 | .tuple xs=>encs xs
 | _=>[]
def encs:List D→List Int
 | []=>[0]
 | x::xs=>1::(enc x++encs xs)
end
theorem zJ_ (a b:Int) (u v:List Int):HT.lexLt (a::u) (b::v)=if a=b then HT.lexLt u v else decide (a<b):=HT.lexLt_cons ..
theorem uX_:∀ (s:Sh) {x y:D},fits s x→fits s y→∀ (u v:List Int),HT.lexLt (enc x++u) (enc y++v)=if PyData.eqv x y=true then HT.lexLt u v else HT.lexLt (enc x) (enc y)
 | .i,x,y,hx,hy,u,v=>by
  obtain ⟨a,rfl⟩:=hx
  obtain ⟨b,rfl⟩:=hy
  have e:PyData.eqv (.int a) (.int b)=decide (a=b):=by
   rw [show PyData.eqv (.int a) (.int b)=(a==b) by simp [PyData.eqv]]
   by_cases h:a=b<;>simp [h]
  rw [e]
  show HT.lexLt (a::u) (b::v)=_
  rw [zJ_]
  by_cases h:a=b
  ·rw [if_pos h,if_pos (by simp [h])]
  ·rw [if_neg h,if_neg (by simp [h])]
   show _=HT.lexLt (a::[]) (b::[])
   rw [zJ_,if_neg h]
 | .b,x,y,hx,hy,u,v=>by
  obtain ⟨p,rfl⟩:=hx
  obtain ⟨q,rfl⟩:=hy
  have e:PyData.eqv (.bool p) (.bool q)=(p==q):=by simp [PyData.eqv]
  rw [e]
  show HT.lexLt ((if p then (1:Int) else 0)::u) ((if q then (1:Int) else 0)::v)=if _ then _ else HT.lexLt ((if p then (1:Int) else 0)::[]) ((if q then (1:Int) else 0)::[])
  rw [zJ_,zJ_]
  cases p<;>cases q<;>rfl
 | .f g,x,y,hx,hy,u,v=>by
  obtain ⟨xs,rfl,hx⟩:=hx
  obtain ⟨ys,rfl,hy⟩:=hy
  have e:PyData.eqv (.tuple xs) (.tuple ys)=PyData.eqvAll xs ys:=by simp [PyData.eqv]
  rw [e]
  show HT.lexLt (encs xs++u) (encs ys++v)=if _ then _ else HT.lexLt (encs xs) (encs ys)
  have go:∀ (xs ys:List D) (k:Nat),(∀ j x,xs[j]? = some x→fits (g (k+j)) x)→(∀ j x,ys[j]? = some x→fits (g (k+j)) x)→∀ (u v:List Int),HT.lexLt (encs xs++u) (encs ys++v)=if PyData.eqvAll xs ys=true then HT.lexLt u v else HT.lexLt (encs xs) (encs ys):=by
   intro xs
   induction xs with
   | nil =>
    intro ys k hx hy u v
    cases ys with
    | nil =>
     show HT.lexLt (0::u) (0::v)=_
     rw [zJ_,if_pos rfl]
     simp [PyData.eqvAll]
    | cons y ys =>
     show HT.lexLt (0::u) (1::_)=if _ then _ else HT.lexLt (0::[]) (1::_)
     rw [zJ_,zJ_,if_neg (by decide)]
     simp [PyData.eqvAll]
   | cons x xs ih =>
    intro ys k hx hy u v
    cases ys with
    | nil =>
     show HT.lexLt (1::_) (0::v)=if _ then _ else HT.lexLt (1::_) (0::[])
     rw [zJ_,zJ_,if_neg (by decide)]
     simp [PyData.eqvAll]
    | cons y ys =>
     have f1:=hx 0 x rfl
     have f2:=hy 0 y rfl
     have ih':=ih ys (k+1) (fun j z hz=>by have:=hx (j+1) z (by simpa using hz);rwa [show k+(j+1)=k+1+j by omega] at this) (fun j z hz=>by have:=hy (j+1) z (by simpa using hz);rwa [show k+(j+1)=k+1+j by omega] at this)
     have e2:PyData.eqvAll (x::xs) (y::ys)=(PyData.eqv x y&&PyData.eqvAll xs ys):=by simp [PyData.eqvAll]
     rw [e2]
     show HT.lexLt (1::(enc x++encs xs)++u) (1::(enc y++encs ys)++v)=if _ then _ else HT.lexLt (1::(enc x++encs xs)) (1::(enc y++encs ys))
     rw [List.cons_append,List.cons_append,zJ_,zJ_,if_pos rfl,if_pos rfl,List.append_assoc,List.append_assoc,uX_ (g (k+0)) f1 f2,uX_ (g (k+0)) f1 f2 (encs xs) (encs ys),ih' u v]
     cases PyData.eqv x y
     ·simp
     ·simp only [Bool.true_and,if_true]
  exact go xs ys 0 (by simpa using hx) (by simpa using hy) u v
def LtAt (A:Around) (s:Shared) (p q:Value) (r:Bool):Prop:=∀ (prog:Program) (w:World) (E Q:Value→Shared→Prop),Q (.bool r) s→wpAny (model prog w) A (richCompare .Lt p q) Q E s
def TL (A:Around) (s:Shared) (fin:Bool):List (Value×Value)→Bool→Prop
 | [],r=>r=fin
 | (p,q)::rest,r=>∃ e,SeqAt.EqAt A s p q e∧(e=true→TL A s fin rest r)∧(e=false→LtAt A s p q r)
section
open PySem.SeqAt
open PySem.AutoSeq1 (wpAny_loadPart')
open PySem.MeetsSeq PySem.MeetsSeq2 PySem.MeetsSeq3
theorem y2_ (l b:Addr) (items items2:Array Value) (n n2:Nat) (dd dd2:Option Addr) (sl sl2:Array (Option Value)) (r:Bool) :
  Meets (Builtin.«tuple.__lt__» ⟨[.ref l,.ref b],[]⟩)
   (fun A R s=>s.heap.get? l=some { cls:=.type "tuple",dict:=dd,data:=.seq items n,slots:=sl }∧s.heap.get? b=some { cls:=.type "tuple",dict:=dd2,data:=.seq items2 n2,slots:=sl2 } ∧
    TL A.in1 s (decide (items.size<items2.size)) (items.toList.zip items2.toList) r∧R (.ok (.ret (.bool r))) s) :=
 .of_wp fun prog w A R s h=>by
  obtain ⟨hp,g,d,tk,os⟩:=s;obtain ⟨hl,hb,ht,h⟩:=h
  have f2:=AutoSeq1.sub_tuple_tuple
  wp_walk using wpAny_loadPart' hl,wpAny_loadPart' hb,wpAny_forIn_list _ (fun rest b s'=>b.1=none∧s'=⟨hp,g,d,tk,os⟩∧TL A.in1 ⟨hp,g,d,tk,os⟩ (decide (items.size<items2.size)) rest r) _
  case turn =>
   rintro ⟨y,x⟩ rest b s' ⟨hb',rfl,e,he,h1,h2⟩
   refine wpAny_bind (he prog w _ _ ?_)
   cases e with
   | true =>
    wp_walk
    exact ⟨rfl,rfl,h1 rfl⟩
   | false =>
    have hri:=h2 rfl prog w
    wp_walk using hri
    exact ⟨_,rfl,by simpa using h⟩
  case fin =>
   rintro ⟨b1,b2⟩ s' ⟨hb',rfl,hv⟩
   simp only at hb'
   subst hb'
   have hv:r=decide (items.size<items2.size):=hv
   rw [hv] at h
   wp_walk
   exact ⟨_,rfl,by simpa [Builtin.Tuple.tupleCompareSizes] using h⟩
  case h =>
   exact ⟨rfl,rfl,ht⟩
end
theorem YO_ (A:Around) (s:Shared) (a b:Int) (t u:Tok):LtAt A s (.int a t) (.int b u) (HT.lexLt [a] [b]):=fun prog w E Q h=>by
 refine HT.rcLt_int A s a t b u prog w E Q ?_
 have e:HT.lexLt [a] [b]=decide (a<b):=by
  rw [zJ_]
  by_cases c:a=b
  ·rw [if_pos c,c,decide_eq_false (Int.lt_irrefl _)];rfl
  ·rw [if_neg c]
 rw [e] at h
 exact h
theorem Uy_ (A:Around) (s:Shared) (p q:Bool):LtAt A s (.bool p) (.bool q) (HT.lexLt [if p then 1 else 0] [if q then 1 else 0]):=fun prog w E Q h=>by
 refine (PyProof.Rows.lt_bool ?_:wpAny (model prog w) A (compareOp .Lt (.bool p) (.bool q)) Q E s)
 cases p<;>cases q<;>exact h
theorem yN_:∀ {l:List D},(∀ d∈l,d.canLay0=true)→PyData.canLayAll0 l=true
 | [],_=>by simp [PyData.canLayAll0]
 | a::l,h=>by
  simp only [PyData.canLayAll0,Bool.and_eq_true]
  exact ⟨h a List.mem_cons_self,yN_ fun d hd=>h d (List.mem_cons_of_mem _ hd)⟩
theorem ji_:∀ (s:Sh) {d:D},fits s d→d.canLay0=true
 | .i,d,h=>by obtain ⟨n,rfl⟩:=h;simp [PyData.canLay0]
 | .b,d,h=>by obtain ⟨n,rfl⟩:=h;simp [PyData.canLay0]
 | .f g,d,h=>by
  obtain ⟨xs,rfl,h⟩:=h
  simp only [PyData.canLay0]
  refine yN_ fun d hd=>?_
  obtain ⟨k,hk⟩:=List.getElem?_of_mem hd
  exact ji_ (g k) (h k d hk)
theorem ur_:∀ {l:List D} {d:D},d∈l→d.depth≤PyData.depthAll l
 | a::l,d,hd=>by
  simp only [PyData.depthAll]
  rcases List.mem_cons.mp hd with rfl|hd
  ·omega
  ·have:=ur_ hd;omega
theorem Ux_:∀ (sh:Sh) {x y:D} {A:Around} {s:Shared} {p q:Value} {as bs:List Addr},fits sh x→fits sh y→Reads s.heap p x as→Reads s.heap q y bs→A.units+x.depth<cLine→LtAt A s p q (HT.lexLt (enc x) (enc y))
 | .i,x,y,A,s,p,q,as,bs,hx,hy,rx,ry,hu=>by
  obtain ⟨a,rfl⟩:=hx
  obtain ⟨b,rfl⟩:=hy
  cases rx with
  | int i t =>
   cases ry with
   | int j u=>exact YO_ A s _ _ t u
 | .b,x,y,A,s,p,q,as,bs,hx,hy,rx,ry,hu=>by
  obtain ⟨a,rfl⟩:=hx
  obtain ⟨b,rfl⟩:=hy
  cases rx
  cases ry
  exact Uy_ A s _ _
 | .f g,x,y,A,s,p,q,as,bs,hx,hy,rx,ry,hu=>by
  obtain ⟨xs,rfl,hx⟩:=hx
  obtain ⟨ys,rfl,hy⟩:=hy
  cases rx with
  | @tuple l o vs n _ _ g1 g2 g3 g4 =>
   cases ry with
   | @tuple l' o' vs' n' _ _ k1 k2 k3 k4 =>
    obtain ⟨cls,dd,data,sl⟩:=o
    obtain ⟨cls2,dd2,data2,sl2⟩:=o'
    simp only at g2 g3 k2 k3
    subst g2 g3 k2 k3
    have hd:(PyData.tuple xs).depth=PyData.depthAll xs+1:=by simp [PyData.depth]
    intro prog w E Q h
    refine richCompare_meets_room (op:=.Lt) ⟨_,g1,rfl⟩ ⟨_,k1,rfl⟩ PySem.F.slot_tuple_lt PySem.F.entry_tuple_lt (PySem.F.args_tuple_lt_2 _ _) (y2_ l l' vs vs' n n' dd dd2 sl sl2 (HT.lexLt (encs xs) (encs ys)))
     ⟨g1,k1,?_,show Value.bool _≠Value.notImplemented∧Q (.bool _) s from ⟨(fun x=>nomatch x),h⟩⟩ (by omega)
    have hu1:A.in1.units+PyData.depthAll xs<cLine:=by
     have:A.in1.units=A.units+1:=rfl
     omega
    have go:∀ (xs ys:List D) (vs vs':List Value) (as bs:List Addr) (k:Nat) (fin:Bool),A.in1.units+PyData.depthAll xs<cLine→(∀ j x,xs[j]? = some x→fits (g (k+j)) x)→(∀ j x,ys[j]? = some x→fits (g (k+j)) x)→ReadsAll s.heap vs xs as→ReadsAll s.heap vs' ys bs→fin=decide (vs.length<vs'.length)→TL A.in1 s fin (vs.zip vs') (HT.lexLt (encs xs) (encs ys)):=by
     intro xs
     induction xs with
     | nil =>
      intro ys vs vs' as bs k fin hu hx hy r1 r2 hf
      cases r1
      cases r2 with
      | nil=>rw [hf];rfl
      | cons a b=>rw [hf];rfl
     | cons x xs ih =>
      intro ys vs vs' as bs k fin hu hx hy r1 r2 hf
      cases r1 with
      | cons a1 b1 =>
       cases r2 with
       | nil=>rw [hf];rfl
       | cons a2 b2 =>
        rename_i y ys _ _
        have f1:=hx 0 x rfl
        have f2:=hy 0 y rfl
        have hdx:x.depth≤PyData.depthAll (x::xs):=ur_ List.mem_cons_self
        have hdl:PyData.depthAll xs≤PyData.depthAll (x::xs):=by simp only [PyData.depthAll];omega
        refine ⟨PyData.eqv x y,SeqAt.eqAt_reads x y _ s _ _ _ _ a1 a2 (ji_ _ f1) (ji_ _ f2) (by omega),fun e=>?_,fun e=>?_⟩
        ·have q:=uX_ (g (k+0)) f1 f2 (encs xs) (encs ys)
         rw [if_pos e] at q
         have e0:HT.lexLt (encs (x::xs)) (encs (y::ys))=HT.lexLt (encs xs) (encs ys):=by
          show HT.lexLt (1::(enc x++encs xs)) (1::(enc y++encs ys))=_
          rw [zJ_,if_pos rfl,q]
         rw [e0]
         exact ih ys _ _ _ _ (k+1) fin (by omega) (fun j z hz=>by have:=hx (j+1) z (by simpa using hz);rwa [show k+(j+1)=k+1+j by omega] at this) (fun j z hz=>by have:=hy (j+1) z (by simpa using hz);rwa [show k+(j+1)=k+1+j by omega] at this) b1 b2 (by rw [hf];simp)
        ·have q:=uX_ (g (k+0)) f1 f2 (encs xs) (encs ys)
         rw [if_neg (by rw [e];decide)] at q
         have e0:HT.lexLt (encs (x::xs)) (encs (y::ys))=HT.lexLt (enc x) (enc y):=by
          show HT.lexLt (1::(enc x++encs xs)) (1::(enc y++encs ys))=_
          rw [zJ_,if_pos rfl,q]
         rw [e0]
         exact Ux_ (g (k+0)) f1 f2 a1 a2 (by omega)
    refine go xs ys vs.toList vs'.toList _ _ 0 _ hu1 (by simpa using hx) (by simpa using hy) g4 k4 ?_
    simp
end L4
set_option Elab.async false
set_option linter.all false
set_option maxRecDepth 100000
namespace L4
open PySem PySem.Spec PyProof.Rows L2 L3 TS
theorem UY_:∀ (s:Sh) {x y:D},fits s x→fits s y→∀ (u v:List Int),enc x++u=enc y++v→x=y∧u=v
 | .i,x,y,hx,hy,u,v,e=>by
  obtain ⟨a,rfl⟩:=hx
  obtain ⟨b,rfl⟩:=hy
  have e:a::u=b::v:=e
  injection e with e1 e2
  exact ⟨by rw [e1],e2⟩
 | .b,x,y,hx,hy,u,v,e=>by
  obtain ⟨p,rfl⟩:=hx
  obtain ⟨q,rfl⟩:=hy
  have e:(if p then (1:Int) else 0)::u=(if q then (1:Int) else 0)::v:=e
  injection e with e1 e2
  refine ⟨?_,e2⟩
  cases p<;>cases q<;>first|rfl|(simp at e1)
 | .f g,x,y,hx,hy,u,v,e=>by
  obtain ⟨xs,rfl,hx⟩:=hx
  obtain ⟨ys,rfl,hy⟩:=hy
  have e:encs xs++u=encs ys++v:=e
  have go:∀ (xs ys:List D) (k:Nat),(∀ j x,xs[j]? = some x→fits (g (k+j)) x)→(∀ j x,ys[j]? = some x→fits (g (k+j)) x)→∀ (u v:List Int),encs xs++u=encs ys++v→xs=ys∧u=v:=by
   intro xs
   induction xs with
   | nil =>
    intro ys k hx hy u v e
    cases ys with
    | nil =>
     have e:(0:Int)::u=0::v:=e
     injection e with _ e
     exact ⟨rfl,e⟩
    | cons y ys =>
     have e:(0:Int)::u=1::(enc y++encs ys++v):=e
     injection e with e _
     cases e
   | cons x xs ih =>
    intro ys k hx hy u v e
    cases ys with
    | nil =>
     have e:(1:Int)::(enc x++encs xs++u)=0::v:=e
     injection e with e _
     cases e
    | cons y ys =>
     have e:(1:Int)::(enc x++encs xs++u)=1::(enc y++encs ys++v):=e
     injection e with _ e
     rw [List.append_assoc,List.append_assoc] at e
     obtain ⟨e1,e2⟩:=UY_ (g (k+0)) (hx 0 x rfl) (hy 0 y rfl) _ _ e
     obtain ⟨e3,e4⟩:=ih ys (k+1) (fun j z hz=>by have:=hx (j+1) z (by simpa using hz);rwa [show k+(j+1)=k+1+j by omega] at this) (fun j z hz=>by have:=hy (j+1) z (by simpa using hz);rwa [show k+(j+1)=k+1+j by omega] at this) u v e2
     exact ⟨by rw [e1,e3],e4⟩
  obtain ⟨e1,e2⟩:=go xs ys 0 (by simpa using hx) (by simpa using hy) u v e
  exact ⟨by rw [e1],e2⟩
theorem UJ_ {prog:Program} {w:World} {A:Around} {s:Shared} {fin:Bool} {Q:Bool→Shared→Prop} {g:Nat→Sh} (h0:g 0=.i):∀ {xs ys:List D} {vs us:List Value} {as bs:List Addr} (i:Nat),A.units+PyData.depthAll xs<cLine →
  (∀ j x,xs[j]? = some x→fits (g (i+j)) x)→(∀ j x,ys[j]? = some x→fits (g (i+j)) x)→ReadsAll s.heap vs xs as→ReadsAll s.heap us ys bs→fin=decide (vs.length<us.length)→Q (HT.lexLt (encs xs) (encs ys)) s →
  PySem.W.KatLex prog w A true fin Q (vs.zip us) i s:=by
 intro xs
 induction xs with
 | nil =>
  intro ys vs us as bs i hu hx hy r1 r2 e q
  cases r1
  cases r2 with
  | nil=>subst e;exact q
  | cons a b=>subst e;exact q
 | cons x xs ih =>
  intro ys vs us as bs i hu hx hy r1 r2 e q
  cases r1 with
  | cons a1 b1 =>
   cases r2 with
   | nil=>subst e;exact q
   | cons a2 b2 =>
    rename_i y ys _ _
    have f1:=hx 0 x rfl
    have f2:=hy 0 y rfl
    have hdx:x.depth≤PyData.depthAll (x::xs):=ur_ List.mem_cons_self
    have hdl:PyData.depthAll xs≤PyData.depthAll (x::xs):=by simp only [PyData.depthAll];omega
    rw [List.zip_cons_cons]
    refine PySem.W.kat_cons (SeqAt.eqAt_reads x y A s _ _ _ _ a1 a2 (ji_ _ f1) (ji_ _ f2) (by omega) prog w _ _ ?_)
    have el:=uX_ (g (i+0)) f1 f2 (encs xs) (encs ys)
    have e1:HT.lexLt (encs (x::xs)) (encs (y::ys))=HT.lexLt (enc x++encs xs) (enc y++encs ys):=by
     show HT.lexLt (1::(enc x++encs xs)) (1::(enc y++encs ys))=_
     rw [zJ_,if_pos rfl]
    rw [e1,el] at q
    cases hq:PyData.eqv x y with
    | true =>
     rw [hq,if_pos rfl] at q
     exact PySem.W.kat_yes (ih (i+1) (by omega) (fun j z hz=>by have:=hx (j+1) z (by simpa using hz);rwa [show i+(j+1)=i+1+j by omega] at this) (fun j z hz=>by have:=hy (j+1) z (by simpa using hz);rwa [show i+(j+1)=i+1+j by omega] at this) b1 b2 (by rw [e];simp) q)
    | false =>
     rw [hq,if_neg (by decide)] at q
     refine PySem.W.kat_no ?_
     cases i with
     | zero =>
      rw [show 0+0=0 from rfl,h0] at f1 f2
      obtain ⟨n1,rfl⟩:=f1
      obtain ⟨n2,rfl⟩:=f2
      cases a1 with
      | int _ t =>
       cases a2 with
       | int _ u =>
        show wpAny (model prog w) A (oneLt' true _ _) Q _ s
        refine oneLt_int ?_
        have e:HT.lexLt (enc (.int n1)) (enc (.int n2))=decide (n1<n2):=by
         show HT.lexLt (n1::[]) (n2::[])=_
         rw [zJ_]
         by_cases c:n1=n2
         ·rw [if_pos c,c,decide_eq_false (Int.lt_irrefl _)];rfl
         ·rw [if_neg c]
        rw [e] at q
        exact q
     | succ i =>
      show wpAny (model prog w) A (oneLt' false _ _) Q _ s
      exact PySem.W.kat_one _ _ (Ux_ (g (i+1+0)) f1 f2 a1 a2 (by omega) prog w _ _ q)
def OkN (g:Nat→Sh) (ds:List D):Prop:=g 0=.i∧∀ d∈ds,fits (.f g) d∧d.depth≤100∧∃ x r,d=.tuple (x::r)
def leN (x y:D):Bool:=!HT.lexLt (enc y) (enc x)
def zB_ (ds:List D):List D:=ds.mergeSort leN
theorem Wp_ (x y z:D) (h1:leN x y=true) (h2:leN y z=true):leN x z=true:=by
 unfold leN at *
 rw [Bool.not_eq_true'] at *
 cases e:HT.lexLt (enc z) (enc x) with
 | false=>rfl
 | true =>
  exfalso
  cases e2:HT.lexLt (enc x) (enc y) with
  | true=>have:=Uv_ e e2;rw [h2] at this;cases this
  | false=>rw [Zk_ e2 h1,h2] at e;cases e
theorem Ve_ (x y:D):(leN x y||leN y x)=true:=by
 unfold leN
 cases e:HT.lexLt (enc y) (enc x) with
 | false=>rfl
 | true=>rw [Wm_ e];rfl
theorem jB_ (ds:List D):(zB_ ds).Pairwise fun x y=>leN x y=true:=List.pairwise_mergeSort Wp_ Ve_ ds
theorem zi_ (ds:List D):(zB_ ds).Perm ds:=List.mergeSort_perm ds leN
theorem Qm_ {g:Nat→Sh} {x y:D} (hx:fits (.f g) x) (hy:fits (.f g) y) (h1:leN x y=true) (h2:leN y x=true):x=y:=by
 unfold leN at h1 h2
 rw [Bool.not_eq_true'] at h1 h2
 have:=UY_ (.f g) hx hy [] [] (by rw [Zk_ h2 h1])
 exact this.1
theorem Yw_ {g:Nat→Sh} {l ds:List D} (ok:OkN g ds) (hp:l.Perm ds) (hs:l.Pairwise fun x y=>leN x y=true):l=zB_ ds:=by
 refine y5_ (R:=fun x y=>leN x y=true) (fun x hx y hy h1 h2=>?_) (hp.trans (zi_ ds).symm) hs (jB_ ds)
 exact Qm_ (ok.2 x ((zi_ ds).mem_iff.mp hx)).1 (ok.2 y ((zi_ ds).mem_iff.mp hy)).1 h1 h2
def Qe_ (K:Fg) (g:Nat→Sh):List V→Hp→VK→Prop:=fun xs H Q=>∃ (G:Gh) (F:Hp) (σ:L2.St) (ρ:En) (x:V) (d:D) (ds:List D),xs=[x]∧StOk K G F σ H ρ∧OR K F H x d∧seqD d=some ds∧OkN g ds ∧
 ∀ l vs,H l=none→RepL K F vs (zB_ ds)→Q (.ref l) (upd H l (.lst vs))
open Classical in
noncomputable def Zr_ (g:Nat→Sh):List D→Option (List D)
 | [d]=>match seqD d with
  | some ds=>if OkN g ds then some (zB_ ds) else none
  | none=>none
 | _=>none
theorem JF_ {X:Cx} {pins:List (Addr×Obj)} {σ σ':L2.St} {H F:Hp} {s:Shared} {G:Gh} {ρ:En} {vs:List V} {ds:List D} {its:List Value} {Q:VK} (I:Inv X pins σ H s) (S:StOk X.K G F σ' H ρ) (rl:RepL X.K F vs ds) (rv:Vals vs its) (hz:vs.length≤sizeLine) {g:Nat→Sh} (hok:OkN g ds) (hu:X.A.units+1100<cLine)
  (k:∀ l vs,H l=none→RepL X.K F vs (zB_ ds)→Q (.ref l) (upd H l (.lst vs))):its.length≤sizeLine∧∃ (κ:SortKind) (rk:Value→Int),
   (2≤its.length→∀ (E':Value→Shared→Prop) (Q:SortKind→Shared→Prop),Q κ (mid (jN_ s its) s.heap.objs.size its)→wpAny (model X.prog X.w) X.A.in1.in1 (keyKind' its.toArray) Q E' (mid (jN_ s its) s.heap.objs.size its)) ∧
   (2≤its.length→Cmps X.prog X.w X.A.in1.in1 (mid (jN_ s its) s.heap.objs.size its) κ rk (pairsOf its)) ∧
   ∀ out:Array Value,out.toList.Perm its→out.toList.Pairwise (fun x y=>rk x≤rk y)→EP X pins σ Q (.ref s.heap.objs.size) { s with heap:=sortedHeap (jN_ s its).heap s.heap.objs.size its out }:=by
 have lay:PyData.canLayAll0 ds=true:=yN_ fun d hd=>ji_ _ (hok.2 d hd).1
 have I1:Inv X pins σ H (mid (jN_ s its) s.heap.objs.size its):=I.kept (t':=s.toks) fun b o e=>Vb_ e
 obtain ⟨as,ra⟩:=(ju_ I1).2 (rl.mono S.fh) rv
 generalize hs1:mid (jN_ s its) s.heap.objs.size its=s1 at I1 ra
 have emap:its.map (SeqAt.readOf s1.heap)=ds:=SeqAt.readsAll_map ds _ _ lay ra
 let kf:Value→List Int:=fun v=>enc (SeqAt.readOf s1.heap v)
 have hmem:∀ x,x∈(pairsOf its).toList→x.1∈its:=fun x hx=>by
  rw [pairsOf_toList] at hx
  exact (mem_zip_self hx).2
 have hzl:its.length≤sizeLine:=by rw [←rv.length];exact hz
 have fin:∀ out:Array Value,out.toList.Perm its→out.toList.Pairwise (fun x y=>rankOf its kf x≤rankOf its kf y)→EP X pins σ Q (.ref s.heap.objs.size) { s with heap:=sortedHeap (jN_ s its).heap s.heap.objs.size its out }:=fun out o1 o2=>by
  obtain ⟨L,e1,e2,e3,e4⟩:=triples rl rv
  rw [←e3] at o1
  obtain ⟨L',p1,p2⟩:=YG_ o1
  have e4':∀ t∈L',Rep X.K F t.1 t.2.1∧RelV t.1 t.2.2:=fun t ht=>e4 t (p1.mem_iff.mp ht)
  have rd:∀ t∈L',SeqAt.readOf s1.heap t.2.2=t.2.1:=fun t ht=>by
   obtain ⟨a1,a2⟩:=e4' t ht
   obtain ⟨bs,rb⟩:=(ju_ I1).1 (a1.mono S.fh) a2
   refine SeqAt.readOf_eq ?_ rb
   have:t.2.1∈ds:=by rw [←e2];exact List.mem_map.mpr ⟨t,p1.mem_iff.mp ht,rfl⟩
   have al:∀ l:List D,PyData.canLayAll0 l=true→∀ d∈l,d.canLay0=true:=by
    intro l
    induction l with
    | nil=>intro _ d hd;cases hd
    | cons a l ih =>
     intro h d hd
     simp only [PyData.canLayAll0,Bool.and_eq_true] at h
     rcases List.mem_cons.mp hd with rfl|hd
     ·exact h.1
     ·exact ih h.2 d hd
   exact al ds lay _ this
  obtain ⟨u1,u2⟩:=Z4_ e4'
  have es:L'.map (·.2.1)=zB_ ds:=by
   refine Yw_ hok (by rw [←e2];exact p1.map _) ?_
   rw [←p2,List.pairwise_map] at o2
   rw [List.pairwise_map]
   refine List.Pairwise.imp_of_mem (fun {x y} hx hy h=>?_) o2
   have mx:x.2.2∈its:=by rw [←e3];exact List.mem_map.mpr ⟨x,p1.mem_iff.mp hx,rfl⟩
   have my:y.2.2∈its:=by rw [←e3];exact List.mem_map.mpr ⟨y,p1.mem_iff.mp hy,rfl⟩
   have q:=Ug_ (k:=kf) my mx
   rw [decide_eq_false (by omega)] at q
   show (!HT.lexLt (enc y.2.1) (enc x.2.1))=true
   rw [←rd x hx,←rd y hy]
   show (!HT.lexLt (kf y.2.2) (kf x.2.2))=true
   rw [←q];rfl
  rw [es] at u1
  rw [p2] at u2
  obtain ⟨ep,he⟩:=JE_ (out:=out) (show (jN_ s its).heap.get? s.heap.objs.size=some (seqObj "list" its.toArray 0) from Heap.get?_push_size _ rfl)
  refine ⟨.ref s.heap.objs.size,upd H s.heap.objs.size (.lst (L'.map (·.1))),I.laid (t':=s.toks) (fun b o q=>y4_ (Nat.ne_of_lt (Heap.lt_size q)) (Heap.get?_push_of_some _ q)) (Nat.le_refl _) ⟨?_,out.toList,ep,u2,?_⟩,rfl,k _ _ (I.hok.fresh (Nat.le_refl _)) u1⟩
  ·rw [u2.length,←p2,List.length_map,p1.length_eq,←List.length_map (f:=fun t:V×D×Value=>t.2.2),e3];exact hzl
  ·exact he
 have each:∀ v∈its,∃ (a:Addr) (o:Obj) (vs:List Value) (n:Nat) (m:Int) (t:Tok) (us:List Value) (xs:List D) (bs:List Addr),v=.ref a∧s1.heap.get? a=some o∧o.cls=.type "tuple" ∧ o.data=.seq vs.toArray n∧vs=.int m t::us∧ReadsAll s1.heap vs xs bs∧(∀ k x,xs[k]? = some x→fits (g k) x)∧PyData.depthAll xs≤100∧kf v=encs xs:=fun v hv=>by
  obtain ⟨dv,bs,rd,hl,_⟩:=SeqAt.readsAll_mem ds its _ lay ra v hv
  have er:=SeqAt.readOf_eq hl rd
  have hin:dv∈ds:=by rw [←emap,←er];exact List.mem_map.mpr ⟨v,hv,rfl⟩
  obtain ⟨hf,hdp,x,r,rfl⟩:=hok.2 dv hin
  obtain ⟨xs,e,hf⟩:=hf
  cases e
  have hd:(PyData.tuple (x::r)).depth=PyData.depthAll (x::r)+1:=by simp [PyData.depth]
  have f0:=hf 0 x rfl
  rw [hok.1] at f0
  obtain ⟨m,rfl⟩:=f0
  cases rd with
  | tuple g1 g2 g3 g4 =>
   rename_i a o vs' n
   have g4':=g4
   generalize hv':vs'.toList=l at g4'
   cases g4' with
   | cons a1 b1 =>
    cases a1 with
    | int i t =>
     refine ⟨a,o,vs'.toList,n,m,t,_,_,_,rfl,g1,g2,by rw [g3],hv',g4,hf,by omega,?_⟩
     show enc (SeqAt.readOf s1.heap (.ref a))=_
     rw [er]
     rfl
 refine ⟨hzl,tuples' true,rankOf its kf,fun h2 E' Q' q=>?_,fun h2 x y hx hy E' Q' q=>?_,fin⟩
 ·have fs:∀ l:List Value,(∀ v∈l,v∈its)→∃ fs:List Value,PySem.W.KatTups s1.heap l fs∧fs.length=l.length∧∀ v∈fs,∃ i t,v=.int i t:=by
   intro l
   induction l with
   | nil=>intro _;exact ⟨[],trivial,rfl,fun _ h=>by cases h⟩
   | cons v l ih =>
    intro hl
    obtain ⟨fs,f1,f2,f3⟩:=ih fun v hv=>hl v (List.mem_cons_of_mem _ hv)
    obtain ⟨a,o,vs,n,m,t,us,xs,bs,rfl,g1,g2,g3,g4,_⟩:=each v (hl v List.mem_cons_self)
    subst g4
    refine ⟨.int m t::fs,PySem.W.KatTups.cons g1 g2 g3 (by simp) f1,by simp [f2],fun v hv=>?_⟩
    rcases List.mem_cons.mp hv with rfl|hv
    ·exact ⟨_,_,rfl⟩
    ·exact f3 v hv
  obtain ⟨fs,f1,f2,f3⟩:=fs its fun _ h=>h
  refine PySem.W.kat_kind f1 (by omega) (T:=.type "int") (fun v hv=>?_) rfl q
  obtain ⟨i,t,rfl⟩:=f3 v hv
  exact PySem.W.Looks.now
 ·have hx':=hmem x hx
  have hy':=hmem y hy
  rw [Ug_ hx' hy'] at q
  obtain ⟨a1,o1,vs1,n1,m1,t1,us1,xs1,bs1,e1,g1,g2,g3,_,g5,g6,g7,g8⟩:=each _ hx'
  obtain ⟨a2,o2,vs2,n2,m2,t2,us2,xs2,bs2,e2,k1,k2,k3,_,k5,k6,k7,k8⟩:=each _ hy'
  rw [g8,k8] at q
  rw [e1,e2]
  refine PySem.W.kat_lt g1 g3 k1 k3 ?_
  have hu2:X.A.in1.in1.units=X.A.units+2:=rfl
  have:=UJ_ (prog:=X.prog) (w:=X.w) (A:=X.A.in1.in1) (Q:=Q') (g:=g) hok.1 0 (by omega) (by simpa using g6) (by simpa using k6) g5 k5 rfl q
  simpa using this
theorem yu_ {X:Cx} {g:Nat→Sh} (hu:X.A.units+1100<cLine):CallR X (.builtin "sorted") (Qe_ X.K g):=by
 intro pins s σ H xs us Q I r h0
 obtain ⟨G,F,σ',ρ,x,d,ds,rfl,S,ho,hd,hok,k⟩:=h0
 obtain ⟨u,rfl,ru⟩:=L2.Vals.one r
 have hseq:∃ (p:Addr) (o:Obj) (n:Nat) (vs:List V) (its:List Value),u=.ref p∧s.heap.get? p=some o∧(o.cls=.type "list" ∨ o.cls=.type "tuple")∧o.data=.seq its.toArray n∧Vals vs its∧vs.length≤sizeLine∧RepL X.K F vs ds:=by
  cases d with
  | list es =>
   cases hd
   obtain ⟨a,vs,rfl,h1,h2⟩:=ho.list S.fh
   cases ru
   obtain ⟨its,rv,pl,hz⟩:=I.list h1
   obtain ⟨o,e1,e2,n,e3⟩:=pl.isList
   exact ⟨a,o,n,vs,its,rfl,e1,.inl e2,e3,rv,hz,h2⟩
  | tuple es =>
   cases hd
   obtain ⟨a,vs,rfl,h1,h2⟩:=ho.tuple S.fh
   cases ru
   obtain ⟨its,rv,⟨o,e1,e2,n,e3⟩,hz⟩:=I.tuple h1
   exact ⟨a,o,n,vs,its,rfl,e1,.inr e2,e3,rv,hz,h2⟩
  | _=>cases hd
 obtain ⟨p,o,n,vs,its,rfl,hp,hcl,hdat,rv,hz,rl⟩:=hseq
 have I2:Inv X pins σ H { s with heap:=(s.heap.push (seqObj "list" #[] 0)).update s.heap.objs.size (Obj.mapSeq (· ++ its.toArray)) }:=I.kept (t':=s.toks) fun b o e=>by
  have hlt:b<s.heap.objs.size:=Heap.lt_size e
  rw [Heap.get?_update_ne _ _ _ _ (Nat.ne_of_lt hlt)]
  exact Heap.get?_push_of_some _ e
 exact JD_ fun E' Q' q=>Vs_ hp hcl hdat (by rw [←rv.length];exact hz) (q _ _ (JF_ I2 S rl rv hz hok hu k))
theorem Jj_ {K:Fg} {g:Nat→Sh}:Qa_ K (Qe_ K g) (Zr_ g):=by
 intro G F σ H ρ xs ds res Q S o e k
 unfold Zr_ at e
 split at e
 ·rename_i d
  split at e
  ·rename_i es hes
   split at e
   ·rename_i hok
    cases e
    obtain ⟨v,r,rfl,ho,hr⟩:=zy_ o
    obtain rfl:=zT_ hr
    refine ⟨G,F,σ,ρ,v,d,es,rfl,S,ho,hes,hok,fun l vs hl rp=>?_⟩
    obtain ⟨S2,r2⟩:=S.newLst hl rp
    exact k _ F _ (Same.refl _) S2 r2
   ·cases e
  ·cases e
 ·cases e
def jf_:Nat→Sh
 | 0=>.i
 | 1=>.f fun _=>.i
 | 2=>.f fun _=>.f fun _=>.i
 | _=>.f fun _=>.b
end L4
set_option Elab.async false
set_option linter.all false
set_option maxRecDepth 100000
namespace L4
open PySem PySem.Spec PyProof.Rows L2 L3
def mRev (ds as:List D):Option (List D):=match as with
 | []=>some ds.reverse
 | _=>none
def mPop (ds as:List D):Option (List D):=match as,ds with
 | [],_::_=>some ds.dropLast
 | _,_=>none
theorem uv_ {K:Fg} {F:Hp}:∀ {vs:List V} {ds:List D},RepL K F vs ds→RepL K F vs.reverse ds.reverse
 | _,_,.nil=>.nil
 | _,_,.cons h t=>by
  rw [List.reverse_cons,List.reverse_cons]
  exact (uv_ t).append (.cons h .nil)
theorem j2_ {K:Fg} {F:Hp}:∀ {vs:List V} {ds:List D},RepL K F vs ds→RepL K F vs.dropLast ds.dropLast
 | _,_,.nil=>.nil
 | _,_,.cons h .nil=>.nil
 | _,_,.cons h (.cons h2 t)=>by
  rw [List.dropLast_cons₂,List.dropLast_cons₂]
  exact .cons h (j2_ (.cons h2 t))
section
variable {S:Type} {X:Cx} {pos pos' apos cpos:Pos}
@[reducible] def Y1_:Ev S (List D):=fun _ k=>k []
theorem J3_ {i:Nat} {x:Str} (hN:X.N[i]? = some x) (hv:Vis X.env.scope x)
  (hbase:attributeBase (.Name x pos') "reverse" X.env (eval (.Name x pos') X.env)=eval (.Name x pos') X.env) (hline:(apos.endLine==cpos.line)=true)
  (hsw:swapsWith (.Call (.Attribute (.Name x pos') "reverse" apos) [] [] cpos) none pos.line X.env=pure false) (hd:(x==("__debug__" : Str))=false:=by decide) (hcd:(x==("__classdict__" : Str))=false:=by decide) :
  AS X (.Expr (.Call (.Attribute (.Name x pos') "reverse" apos) [] [] cpos) pos) (sMut (S:=S) i mRev Y1_):=fun OK K G F σ H ρ E hO hX St ok eo =>
 semS (yD_ (Qk_ PySem.F.plainAttrs_list PySem.F.slot_list_reverse PySem.F.type_list_reverse JL_ (ux_ hN hv hd hcd) hbase hline) hsw) (by
  unfold sMut at ok
  split at ok
  case h_2=>exact (hO ok).elim
  ·rename_i ds0 h0
   obtain ⟨a,vs0,ea,hh,rv⟩:=jw_ St h0
   unfold Y1_ at ok
   dsimp only at ok
   split at ok
   ·rename_i ds hds
    rw [h0] at hds
    cases hds
    obtain ⟨ds',hf,o2⟩:=yl_ hO ok
    cases hf
    refine ⟨_,ea,.inl ⟨rfl,vs0,.inl (.inl hh)⟩,a,vs0,rfl,rfl,hh,?_⟩
    exact eo.nx F σ _ _ (Same.refl _) (uN_ St h0 ea (uv_ rv)) o2
   ·exact (hO ok).elim)
theorem WQ_ {i:Nat} {x:Str} (hN:X.N[i]? = some x) (hv:Vis X.env.scope x)
  (hbase:attributeBase (.Name x pos') "pop" X.env (eval (.Name x pos') X.env)=eval (.Name x pos') X.env) (hline:(apos.endLine==cpos.line)=true)
  (hsw:swapsWith (.Call (.Attribute (.Name x pos') "pop" apos) [] [] cpos) none pos.line X.env=pure false) (hd:(x==("__debug__" : Str))=false:=by decide) (hcd:(x==("__classdict__" : Str))=false:=by decide) :
  AS X (.Expr (.Call (.Attribute (.Name x pos') "pop" apos) [] [] cpos) pos) (sMut (S:=S) i mPop Y1_):=fun OK K G F σ H ρ E hO hX St ok eo =>
 semS (yD_ (Qk_ PySem.F.plainAttrs_list PySem.F.slot_list_pop PySem.F.type_list_pop Wk_ (ux_ hN hv hd hcd) hbase hline) hsw) (by
  unfold sMut at ok
  split at ok
  case h_2=>exact (hO ok).elim
  ·rename_i ds0 h0
   obtain ⟨a,vs0,ea,hh,rv⟩:=jw_ St h0
   unfold Y1_ at ok
   dsimp only at ok
   split at ok
   ·rename_i ds hds
    rw [h0] at hds
    cases hds
    obtain ⟨ds',hf,o2⟩:=yl_ hO ok
    cases ds0 with
    | nil=>cases hf
    | cons d0 dr =>
     cases hf
     have hl:vs0.length=dr.length+1:=rv.length
     have hy:vs0[vs0.length - 1]? = some (vs0[vs0.length - 1]'(by omega)):=List.getElem?_eq_getElem _
     refine ⟨_,ea,.inl ⟨rfl,vs0,.inl (.inl hh)⟩,a,vs0,_,rfl,rfl,hh,hy,?_⟩
     exact eo.nx F σ _ _ (Same.refl _) (uN_ St h0 ea (j2_ rv)) o2
   ·exact (hO ok).elim)
end
end L4
set_option Elab.async false
set_option linter.all false
set_option maxRecDepth 100000
set_option maxHeartbeats 8000000
namespace K44
open PySem PySem.Spec PyProof.Rows L2 L3 L4
noncomputable section
def top (i:Nat):Stmt:=PySem.Challenge.pw_passersby_k44_rules_of_so_few.main.body.getD i (.Pass ⟨0,0,0,0⟩)
structure BN (mg:Str→Option Value):Prop where
 range:mg "range" = none
 len:mg "len" = none
 tuple:mg "tuple" = none
 list:mg "list" = none
 max:mg "max" = none
 min:mg "min" = none
 sum:mg "sum" = none
 abs:mg "abs" = none
 repr:mg "repr" = none
 enumerate:mg "enumerate" = none
 isinstance:mg "isinstance" = none
 all:mg "all" = none
 any:mg "any" = none
 int:mg "int" = none
 str:mg "str" = none
 bool:mg "bool" = none
 zip:mg "zip" = none
 sorted:mg "sorted" = none
 set:mg "set" = none
 dict:mg "dict" = none
 reversed:mg "reversed" = none
structure KN (mg:Str→Option Value):Prop where
 non:True
section
variable {P:Program} {w:World} {K:Fg} {mg:Str→Option Value} {base:Heap}
abbrev zC_:Stmt:=top 2
abbrev u7_:List Str:=["things", "many", "rows", "place", "longer", "row"]
theorem sc_rows_over:FnScope u7_ ["things", "many"] (ze_ zC_):=⟨rfl,rfl,rfl,by decide +kernel,rfl,by decide +kernel,by decide +kernel⟩
abbrev N_rows_over_0:List Str:=["things", "many", "rows", "place", "longer", "row", "thing"]
theorem uB_:N_rows_over_0.Nodup:=by decide +kernel
def jT_ (v_things:D) (v_rows:D):M D :=
 .ret v_rows
def jS_ (kn2:D×D×Unit→M D) (v_things:D) (v_longer:List D):M D :=
 kn2 (v_things,(PyData.list v_longer),())
def jQ_ (kn2:D×D×Unit→M D) (v_things:D) (v_longer:List D) (d_:D) (kn4:D×List D×Unit→M D):M D :=
 bd (bd (oM (seqD v_things)) fun l7=>bd (jm_ (fun d5=>bd (oM (jk_ d_ (.tuple [d5]))) fun x6=>.ret (some x6)) l7) fitM) fun l8=>bd (oM (mExt v_longer l8)) fun l9=>kn4 (v_things,l9,())
def jR_ (v_things:D) (v_rows:D) (d_:D) (kn2:D×D×Unit→M D):M D :=
 bd (oM (seqD v_rows)) fun l3=>forS (fun s10 d11 kn=>jQ_ kn2 s10.1 s10.2.1 d11 kn) l3 (v_things,[],()) (fun s10=>jS_ kn2 s10.1 s10.2.1)
def z2_ (p_things:D) (p_many:D):M D :=
 bd (oM (z1_ [p_many])) fun l1=>forS (fun s12 d13 kn=>jR_ s12.1 s12.2.1 d13 kn) l1 (p_things,(PyData.list [(.tuple [])]),()) (fun s12=>jT_ s12.1 s12.2.1)
def zO_:List D→M D:=fun l=>match l with
 | [p_things,p_many]=>z2_ p_things p_many
 | _=>.bad
set_option maxHeartbeats 4000000 in
theorem Zo_ {f:Addr} {fd:FuncData} (Fn:Fun K "rows_over" "rows_over" zC_ f fd) (B:BN mg) (Kn:KN mg):FnOk P w K mg base (CX1 P w) 1 f fd ["things", "many"] (spD K 2 zO_) :=
 Jp_ (k:=0) Fn sc_rows_over (fun cdv A outer s H E hr =>
 (zd_ (zX_ (sh:=[.f,.f,.f,.dead,.dead,.dead]) (zW_ (i:=2) sc_rows_over.nd rfl (by first|exact Or.inl rfl|exact Or.inr rfl) (zH_ (ap_z (jj_ (zc_ (jG_ zg_ (by decide +kernel)) zg_ (za_ rfl)) (by decide +kernel)))) rfl (.inl rfl)))
  (zd_ (je_ (sh:=[.f,.dead,.f,.dead,.dead,.dead]) PassesOwn.leaving rfl (jH_ (js_ rfl B.range (zc_ (zb_ (i:=1) rfl (by first|exact Or.inl rfl|exact Or.inr (Or.inl rfl)|exact Or.inr (Or.inr rfl))) zg_ (za_ rfl)) rfl)) (zA_ (i:=3) (Nat.zero_le _) sc_rows_over.nd rfl (by first|exact Or.inl rfl|exact Or.inr rfl) (.inl rfl))
  (zd_ (zX_ (sh:=[.f,.dead,.f,.dead,.o,.dead]) (jY_ (i:=4) sc_rows_over.nd rfl (by first|exact Or.inl rfl|exact Or.inr rfl) (jt_ (jj_ zg_ (by decide +kernel))) rfl (.inl rfl)))
  (zd_ (je_ (sh:=[.f,.dead,.dead,.dead,.o,.dead]) PassesOwn.leaving rfl (jH_ (jr_ (zb_ (i:=2) rfl (by first|exact Or.inl rfl|exact Or.inr (Or.inl rfl)|exact Or.inr (Or.inr rfl))))) (zA_ (i:=5) (Nat.zero_le _) sc_rows_over.nd rfl (by first|exact Or.inl rfl|exact Or.inr rfl) (.inl rfl))
  (zq_ (yY_ (i:=4) rfl (by first|exact Or.inl rfl|exact Or.inr (Or.inl rfl)|exact Or.inr (Or.inr rfl)) (jt_ (jZ_ (N':=N_rows_over_0) (k:=1) rfl (z5_ (N:=u7_) (sc:=(ze_ zC_)) (by decide +kernel) rfl rfl) (jr_ (zb_ (i:=0) rfl (by first|exact Or.inl rfl|exact Or.inr (Or.inl rfl)|exact Or.inr (Or.inr rfl)))) (fun cl s' H' fp C'=>(zA_ (i:=6) (show 6≤6 by decide) uB_ rfl (by first|exact Or.inl rfl|exact Or.inr rfl) (.inr rfl))) (fun cl s' H' fp C'=>yX_) (fun cl s' H' fp C'=>(zh_ zZ_ jp_ (ao (zb_ (i:=5) rfl (by first|exact Or.inl rfl|exact Or.inr (Or.inl rfl)|exact Or.inr (Or.inr rfl)))) (ao (jG_ (zc_ (zb_ (i:=6) rfl (by first|exact Or.inl rfl|exact Or.inr (Or.inl rfl)|exact Or.inr (Or.inr rfl))) zg_ (za_ rfl)) (by decide +kernel))))) (fun _=>rfl))) rfl rfl rfl rfl rfl rfl)) (fun _=>rfl))
  (zq_ (Yl_ (i:=4) (zW_ (i:=2) sc_rows_over.nd rfl (by first|exact Or.inl rfl|exact Or.inr rfl) (zH_ (zb_ (i:=4) rfl (by first|exact Or.inl rfl|exact Or.inr (Or.inl rfl)|exact Or.inr (Or.inr rfl)))) rfl (.inl rfl)))))) (fun _=>rfl))
  (zq_ (ud_ (zH_ (zb_ (i:=2) rfl (by first|exact Or.inl rfl|exact Or.inr (Or.inl rfl)|exact Or.inr (Or.inr rfl)))))))))
 (fun ds hl=>match ds,hl with | [p_things,p_many],_=>by kernel_rfl)
theorem Zc_ {f:Addr} {fd:FuncData} (Fn:Fun K "rows_over" "rows_over" zC_ f fd) (hmg:mg "rows_over" = some (.ref f)) (B:BN mg) (Kn:KN mg):CF P w K mg base "rows_over" 1 (spD K 2 zO_) :=
 ⟨f,fd,["things", "many"],Zo_ Fn B Kn,hmg,Fn.kp,(Fn.binds fun _ _ _ _ _ _ us hl=>match us,hl with | [_,_],_=>rfl)⟩
abbrev zt_:Stmt:=top 3
abbrev jI_:List Str:=["rooms", "told", "pairs", "pair", "longer", "meets"]
theorem sc_meets_over:FnScope jI_ ["rooms"] (ze_ zt_):=⟨rfl,rfl,rfl,by decide +kernel,rfl,by decide +kernel,by decide +kernel⟩
abbrev N_meets_over_0:List Str:=["rooms", "told", "pairs", "pair ", "longer", "meets", "pair"]
theorem uj_:N_meets_over_0.Nodup:=by decide +kernel
abbrev N_meets_over_1:List Str:=["rooms", "told", "pairs", "pair", "longer", "meets", "turned"]
theorem ui_:N_meets_over_1.Nodup:=by decide +kernel
def u1_ (v_told:D) (v_pairs:D):M D :=
 .ret v_told
def u0_ (kn12:D×D×Unit→M D) (v_pairs:D) (v_pair:D) (v_longer:List D):M D :=
 kn12 ((PyData.list v_longer),v_pairs,())
def uZ_ (kn12:D×D×Unit→M D) (v_pairs:D) (v_pair:D) (v_longer:List D) (d_:D) (kn15:D×D×List D×Unit→M D):M D :=
 bd (bd (oM (seqD v_pairs)) fun l21=>bd (jm_ (fun d16=>bd (oM (opNe d16 v_pair)) fun b20=>if b20 then bd (bd (bd (oM (jk_ v_pair d16)) fun x17=>.ret (.tuple [x17])) fun x18=>oM (jk_ d_ x18)) fun x19=>.ret (some x19) else .ret none) l21) fitM) fun l22=>bd (oM (mExt v_longer l22)) fun l23=>kn15 (v_pairs,v_pair,l23,())
def zD_ (v_told:D) (v_pairs:D) (d_:D) (kn12:D×D×Unit→M D):M D :=
 bd (oM (Y0_ [v_told])) fun l13=>bd (oM (seqD v_told)) fun l14=>forS (fun s24 d25 kn=>uZ_ kn12 s24.1 s24.2.1 s24.2.2.1 d25 kn) l14 (v_pairs,d_,l13,()) (fun s24=>u0_ kn12 s24.1 s24.2.1 s24.2.2.1)
def zQ_ (p_rooms:D):M D :=
 bd (bd (bd (bd (bd (bd (oM (yQ_ [p_rooms])) fun l1=>.ret (PyData.list l1)) fun x2=>z2_ x2 (.int 2)) fun x3=>oM (seqD x3)) fun l8=>bd (jm_ (fun d4=>bd (bd (oM (jb_ d4 (.int 0))) fun x5=>bd (oM (jb_ d4 (.int 1))) fun x6=>oM (Q6_ x5 x6)) fun b7=>if b7 then .ret (some d4) else .ret none) l8) fitM) fun l9=>.ret (PyData.list l9)) fun x10=>bd (oM (seqD x10)) fun l11=>forS (fun s26 d27 kn=>zD_ s26.1 s26.2.1 d27 kn) l11 ((PyData.list [(.tuple [])]),x10,()) (fun s26=>u1_ s26.1 s26.2.1)
def z8_:List D→M D:=fun l=>match l with
 | [p_rooms]=>zQ_ p_rooms
 | _=>.bad
set_option maxHeartbeats 4000000 in
theorem yO_ {f:Addr} {fd:FuncData} (Fn:Fun K "meets_over" "meets_over" zt_ f fd) (B:BN mg) (Kn:KN mg) (C_rows_over:CF P w K mg base "rows_over" 1 (spD K 2 zO_)):FnOk P w K mg base (CX1 P w) 2 f fd ["rooms"] (spD K 1 z8_) :=
 Jp_ (k:=1) Fn sc_meets_over (fun cdv A outer s H E hr =>
 (zd_ (zX_ (sh:=[.f,.f,.dead,.dead,.dead,.dead]) (zW_ (i:=1) sc_meets_over.nd rfl (by first|exact Or.inl rfl|exact Or.inr rfl) (zH_ (ap_z (jj_ (zc_ (jG_ zg_ (by decide +kernel)) zg_ (za_ rfl)) (by decide +kernel)))) rfl (.inl rfl)))
  (zd_ (zX_ (sh:=[.dead,.f,.f,.dead,.dead,.dead]) (J2_ (i:=2) sc_meets_over.nd rfl (by first|exact Or.inl rfl|exact Or.inr rfl) (.inl rfl) (N':=N_meets_over_0) (k:=1) rfl (z5_ (N:=jI_) (sc:=(ze_ zt_)) (by decide +kernel) rfl rfl) (jr_ (Ym_ C_rows_over (hr.mono (by decide)) rfl (zc_ (ap_z (ZC_ hr.hd rfl B.list rfl B.range (zc_ (zb_ (i:=0) rfl (by first|exact Or.inl rfl|exact Or.inr (Or.inl rfl)|exact Or.inr (Or.inr rfl))) zg_ (za_ rfl)) rfl rfl)) (zc_ zf_ zg_ (za_ rfl)) (za_ rfl)) rfl (by decide) rfl rfl)) (fun cl s' H' fp C'=>(zA_ (i:=6) (show 6≤6 by decide) uj_ rfl (by first|exact Or.inl rfl|exact Or.inr rfl) (.inr rfl))) (fun cl s' H' fp C'=>(yW_ (jU_ (V9_ (zx_ hr)) We_ (ao (ut_ (jq_ (zx_ hr)) jo_ (ao (zb_ (i:=6) rfl (by first|exact Or.inl rfl|exact Or.inr (Or.inl rfl)|exact Or.inr (Or.inr rfl)))) (ao zf_) (fun _ _=>rfl))) (ao (ut_ (jq_ (zx_ hr)) jo_ (ao (zb_ (i:=6) rfl (by first|exact Or.inl rfl|exact Or.inr (Or.inl rfl)|exact Or.inr (Or.inr rfl)))) (ao zf_) (fun _ _=>rfl))) rfl))) (fun cl s' H' fp C'=>(zb_ (i:=6) rfl (by first|exact Or.inl rfl|exact Or.inr (Or.inl rfl)|exact Or.inr (Or.inr rfl)))) rfl (fun _=>rfl)))
  (zd_ (je_ (sh:=[.dead,.f,.f,.dead,.dead,.dead]) PassesOwn.leaving rfl (jH_ (jr_ (zb_ (i:=2) rfl (by first|exact Or.inl rfl|exact Or.inr (Or.inl rfl)|exact Or.inr (Or.inr rfl))))) (zA_ (i:=3) (Nat.zero_le _) sc_meets_over.nd rfl (by first|exact Or.inl rfl|exact Or.inr rfl) (.inl rfl))
  (zd_ (zX_ (sh:=[.dead,.f,.f,.f,.o,.dead]) (jY_ (i:=4) sc_meets_over.nd rfl (by first|exact Or.inl rfl|exact Or.inr rfl) (jt_ (ZD_ uA_ Uo_ rfl B.list (by decide +kernel) (zr_ (ao (zb_ (i:=1) rfl (by first|exact Or.inl rfl|exact Or.inr (Or.inl rfl)|exact Or.inr (Or.inr rfl)))) zI_ (za_ rfl)) (by decide) (by decide) rfl rfl)) rfl (.inl rfl)))
  (zd_ (je_ (sh:=[.dead,.dead,.f,.f,.o,.dead]) PassesOwn.leaving rfl (jH_ (jr_ (zb_ (i:=1) rfl (by first|exact Or.inl rfl|exact Or.inr (Or.inl rfl)|exact Or.inr (Or.inr rfl))))) (zA_ (i:=5) (Nat.zero_le _) sc_meets_over.nd rfl (by first|exact Or.inl rfl|exact Or.inr rfl) (.inl rfl))
  (zq_ (yY_ (i:=4) rfl (by first|exact Or.inl rfl|exact Or.inr (Or.inl rfl)|exact Or.inr (Or.inr rfl)) (jt_ (jZ_ (N':=N_meets_over_1) (k:=1) rfl (z5_ (N:=jI_) (sc:=(ze_ zt_)) (by decide +kernel) rfl rfl) (jr_ (zb_ (i:=2) rfl (by first|exact Or.inl rfl|exact Or.inr (Or.inl rfl)|exact Or.inr (Or.inr rfl)))) (fun cl s' H' fp C'=>(zA_ (i:=6) (show 6≤6 by decide) ui_ rfl (by first|exact Or.inl rfl|exact Or.inr rfl) (.inr rfl))) (fun cl s' H' fp C'=>(yW_ (jU_ (ym_ (zx_ hr)) Zg_ (ao (zb_ (i:=6) rfl (by first|exact Or.inl rfl|exact Or.inr (Or.inl rfl)|exact Or.inr (Or.inr rfl)))) (ao (zb_ (i:=3) rfl (by first|exact Or.inl rfl|exact Or.inr (Or.inl rfl)|exact Or.inr (Or.inr rfl)))) rfl))) (fun cl s' H' fp C'=>(zh_ zZ_ jp_ (ao (zb_ (i:=5) rfl (by first|exact Or.inl rfl|exact Or.inr (Or.inl rfl)|exact Or.inr (Or.inr rfl)))) (ao (jG_ (zc_ (zh_ zZ_ jp_ (ao (zb_ (i:=3) rfl (by first|exact Or.inl rfl|exact Or.inr (Or.inl rfl)|exact Or.inr (Or.inr rfl)))) (ao (zb_ (i:=6) rfl (by first|exact Or.inl rfl|exact Or.inr (Or.inl rfl)|exact Or.inr (Or.inr rfl))))) zg_ (za_ rfl)) (by decide +kernel))))) (fun _=>rfl))) rfl rfl rfl rfl rfl rfl)) (fun _=>rfl))
  (zq_ (Yl_ (i:=4) (zW_ (i:=1) sc_meets_over.nd rfl (by first|exact Or.inl rfl|exact Or.inr rfl) (zH_ (zb_ (i:=4) rfl (by first|exact Or.inl rfl|exact Or.inr (Or.inl rfl)|exact Or.inr (Or.inr rfl)))) rfl (.inl rfl)))))) (fun _=>rfl))
  (zq_ (ud_ (zH_ (zb_ (i:=1) rfl (by first|exact Or.inl rfl|exact Or.inr (Or.inl rfl)|exact Or.inr (Or.inr rfl))))))))))
 (fun ds hl=>match ds,hl with | [p_rooms],_=>by kernel_rfl)
theorem yG_ {f:Addr} {fd:FuncData} (Fn:Fun K "meets_over" "meets_over" zt_ f fd) (hmg:mg "meets_over" = some (.ref f)) (B:BN mg) (Kn:KN mg) (C_rows_over:CF P w K mg base "rows_over" 1 (spD K 2 zO_)):CF P w K mg base "meets_over" 2 (spD K 1 z8_) :=
 ⟨f,fd,["rooms"],yO_ Fn B Kn C_rows_over,hmg,Fn.kp,(Fn.binds fun _ _ _ _ _ _ us hl=>match us,hl with | [_],_=>rfl)⟩
abbrev zY_:Stmt:=top 1
abbrev J6_:List Str:=["sorts", "rooms", "rules", "starts", "meets", "says"]
theorem sc_rules_of:FnScope J6_ ["sorts", "rooms"] (ze_ zY_):=⟨rfl,rfl,rfl,by decide +kernel,rfl,by decide +kernel,by decide +kernel⟩
def zz_ (v_rooms:D) (v_rules:List D):M (List D) :=
 bd (oM (Zr_ jf_ [(PyData.list v_rules)])) fun l5=>.ret l5
def yU_ (kn6:D×List D×Unit→M (List D)) (v_rooms:D) (v_rules:List D) (v_starts:D):M (List D) :=
 kn6 (v_rooms,v_rules,())
def yT_ (kn6:D×List D×Unit→M (List D)) (kn9:D×List D×D×Unit→M (List D)) (v_rooms:D) (v_rules:List D) (v_starts:D) (v_meets:D):M (List D) :=
 kn9 (v_rooms,v_rules,v_starts,())
def yS_ (kn6:D×List D×Unit→M (List D)) (kn9:D×List D×D×Unit→M (List D)) (v_rooms:D) (v_rules:List D) (v_starts:D) (v_meets:D) (d_:D) (kn12:D×List D×D×D×Unit→M (List D)):M (List D) :=
 bd (oM (mApp v_rules [(.tuple [v_rooms,v_starts,v_meets,d_])])) fun l13=>kn12 (v_rooms,l13,v_starts,v_meets,())
def zU_ (kn6:D×List D×Unit→M (List D)) (v_rooms:D) (v_rules:List D) (v_starts:D) (d_:D) (kn9:D×List D×D×Unit→M (List D)):M (List D) :=
 bd (bd (z2_ (PyData.list [(.bool false),(.bool true)]) v_rooms) fun x10=>oM (seqD x10)) fun l11=>forS (fun s14 d15 kn=>yS_ kn6 kn9 s14.1 s14.2.1 s14.2.2.1 s14.2.2.2.1 d15 kn) l11 (v_rooms,v_rules,v_starts,d_,()) (fun s14=>yT_ kn6 kn9 s14.1 s14.2.1 s14.2.2.1 s14.2.2.2.1)
def zV_ (v_rooms:D) (v_rules:List D) (d_:D) (kn6:D×List D×Unit→M (List D)):M (List D) :=
 bd (bd (zQ_ v_rooms) fun x7=>oM (seqD x7)) fun l8=>forS (fun s16 d17 kn=>zU_ kn6 s16.1 s16.2.1 s16.2.2.1 d17 kn) l8 (v_rooms,v_rules,d_,()) (fun s16=>yU_ kn6 s16.1 s16.2.1 s16.2.2.1)
def zo_ (p_sorts:D) (p_rooms:D):M (List D) :=
 bd (bd (bd (bd (oM (yQ_ [p_rooms])) fun l1=>.ret (PyData.list l1)) fun x2=>z2_ x2 p_sorts) fun x3=>oM (seqD x3)) fun l4=>forS (fun s18 d19 kn=>zV_ s18.1 s18.2.1 d19 kn) l4 (p_rooms,[],()) (fun s18=>zz_ s18.1 s18.2.1)
def jx_:List D→M (List D):=fun l=>match l with
 | [p_sorts,p_rooms]=>zo_ p_sorts p_rooms
 | _=>.bad
set_option maxHeartbeats 4000000 in
theorem ZU_ {f:Addr} {fd:FuncData} (Fn:Fun K "rules_of" "rules_of" zY_ f fd) (B:BN mg) (Kn:KN mg) (C_rows_over:CF P w K mg base "rows_over" 1 (spD K 2 zO_)) (C_meets_over:CF P w K mg base "meets_over" 2 (spD K 1 z8_)):FnOk P w K mg base (CX1 P w) 3 f fd ["sorts", "rooms"] (spL K 2 jx_) :=
 Qp_ (k:=2) Fn sc_rules_of (fun cdv A outer s H E hr =>
 (zd_ (zX_ (sh:=[.f,.f,.o,.dead,.dead,.dead]) (jY_ (i:=2) sc_rules_of.nd rfl (by first|exact Or.inl rfl|exact Or.inr rfl) (jt_ (jj_ zg_ (by decide +kernel))) rfl (.inl rfl)))
  (zd_ (je_ (sh:=[.dead,.f,.o,.dead,.dead,.dead]) PassesOwn.leaving rfl (jH_ (jr_ (Ym_ C_rows_over (hr.mono (by decide)) rfl (zc_ (ap_z (ZC_ hr.hd rfl B.list rfl B.range (zc_ (zb_ (i:=1) rfl (by first|exact Or.inl rfl|exact Or.inr (Or.inl rfl)|exact Or.inr (Or.inr rfl))) zg_ (za_ rfl)) rfl rfl)) (zc_ (zb_ (i:=0) rfl (by first|exact Or.inl rfl|exact Or.inr (Or.inl rfl)|exact Or.inr (Or.inr rfl))) zg_ (za_ rfl)) (za_ rfl)) rfl (by decide) rfl rfl))) (zA_ (i:=3) (Nat.zero_le _) sc_rules_of.nd rfl (by first|exact Or.inl rfl|exact Or.inr rfl) (.inl rfl))
  (zq_ (je_ (sh:=[.dead,.f,.o,.f,.dead,.dead]) PassesOwn.leaving rfl (jH_ (jr_ (Ym_ C_meets_over (hr.mono (by decide)) rfl (zc_ (zb_ (i:=1) rfl (by first|exact Or.inl rfl|exact Or.inr (Or.inl rfl)|exact Or.inr (Or.inr rfl))) zg_ (za_ rfl)) rfl (by decide) rfl rfl))) (zA_ (i:=4) (Nat.zero_le _) sc_rules_of.nd rfl (by first|exact Or.inl rfl|exact Or.inr rfl) (.inl rfl))
  (zq_ (je_ (sh:=[.dead,.f,.o,.f,.f,.dead]) PassesOwn.leaving rfl (jH_ (jr_ (Ym_ C_rows_over (hr.mono (by decide)) rfl (zc_ (ap_z (jj_ (zc_ J4_ (zc_ J4_ zg_ (za_ rfl)) (za_ rfl)) (by decide +kernel))) (zc_ (zb_ (i:=1) rfl (by first|exact Or.inl rfl|exact Or.inr (Or.inl rfl)|exact Or.inr (Or.inr rfl))) zg_ (za_ rfl)) (za_ rfl)) rfl (by decide) rfl rfl))) (zA_ (i:=5) (Nat.zero_le _) sc_rules_of.nd rfl (by first|exact Or.inl rfl|exact Or.inr rfl) (.inl rfl))
  (zq_ (WS_ (i:=2) rfl (by first|exact Or.inl rfl|exact Or.inr (Or.inl rfl)|exact Or.inr (Or.inr rfl)) (yZ_ (zH_ (jG_ (zc_ (zb_ (i:=1) rfl (by first|exact Or.inl rfl|exact Or.inr (Or.inl rfl)|exact Or.inr (Or.inr rfl))) (zc_ (zb_ (i:=3) rfl (by first|exact Or.inl rfl|exact Or.inr (Or.inl rfl)|exact Or.inr (Or.inr rfl))) (zc_ (zb_ (i:=4) rfl (by first|exact Or.inl rfl|exact Or.inr (Or.inl rfl)|exact Or.inr (Or.inr rfl))) (zc_ (zb_ (i:=5) rfl (by first|exact Or.inl rfl|exact Or.inr (Or.inl rfl)|exact Or.inr (Or.inr rfl))) zg_ (za_ rfl)) (za_ rfl)) (za_ rfl)) (za_ rfl)) (by decide +kernel))) ZZ_ (za_ rfl)) rfl rfl rfl rfl rfl rfl)) (fun _=>rfl))) (fun _=>rfl))) (fun _=>rfl))
  (zq_ (Yj_ (jt_ (Jv_ (yu_ (g:=jf_) (zx_ hr)) Jj_ rfl B.sorted (by decide +kernel) (zr_ (uu_ (i:=2) rfl (by first|exact Or.inl rfl|exact Or.inr (Or.inl rfl)|exact Or.inr (Or.inr rfl))) zI_ (za_ rfl)) (by decide) (by decide) rfl rfl)))))))
 (fun ds hl=>match ds,hl with | [p_sorts,p_rooms],_=>by kernel_rfl)
theorem ZK_ {f:Addr} {fd:FuncData} (Fn:Fun K "rules_of" "rules_of" zY_ f fd) (hmg:mg "rules_of" = some (.ref f)) (B:BN mg) (Kn:KN mg) (C_rows_over:CF P w K mg base "rows_over" 1 (spD K 2 zO_)) (C_meets_over:CF P w K mg base "meets_over" 2 (spD K 1 z8_)):CF P w K mg base "rules_of" 3 (spL K 2 jx_) :=
 ⟨f,fd,["sorts", "rooms"],ZU_ Fn B Kn C_rows_over C_meets_over,hmg,Fn.kp,(Fn.binds fun _ _ _ _ _ _ us hl=>match us,hl with | [_,_],_=>rfl)⟩
abbrev zM_:Stmt:=top 5
abbrev Z0_:List Str:=["_law_script", "_law_at", "_law_cell"]
theorem sc__law_feed:FnScope Z0_ ["_law_script", "_law_at"] (ze_ zM_):=⟨rfl,rfl,rfl,by decide +kernel,rfl,by decide +kernel,by decide +kernel⟩
def z3_ (v_law_cell:D):M (List D) :=
 bd (bd (bd (oM (YZ_ [(.int 0),v_law_cell])) fun x14=>bd (bd (bd (bd (oM (YJ_ (.int 10) (.int 18))) fun x11=>oM (opGe v_law_cell x11)) fun b12=>.ret (.bool b12)) fun x13=>oM (fInt [x13])) fun x15=>oM (jn_ x14 x15)) fun x16=>.ret [v_law_cell,x16,(.int 0)]) fun l17=>.ret l17
def jd_ (p_law_script:D) (p_law_at:D):M (List D) :=
 bd (oM (jn_ (.int 31) p_law_at)) fun x1=>bd (bd (oM (fLen [p_law_script])) fun x2=>oM (opGt x2 (.int 0))) fun b3=>if b3 then
  bd (bd (bd (bd (oM (fLen [p_law_script])) fun x4=>oM (uO_ p_law_at x4)) fun x5=>oM (jb_ p_law_script x5)) fun x8=>bd (bd (bd (oM (fLen [p_law_script])) fun x6=>oM (ya_ p_law_at x6)) fun x7=>oM (jn_ (.int 7919) x7)) fun x9=>oM (jk_ x8 x9)) fun x10=>z3_ x10
  else
  z3_ x1
def jg_:List D→M (List D):=fun l=>match l with
 | [p_law_script,p_law_at]=>jd_ p_law_script p_law_at
 | _=>.bad
set_option maxHeartbeats 4000000 in
theorem Zp_ {f:Addr} {fd:FuncData} (Fn:Fun K "_law_feed" "_law_feed" zM_ f fd) (B:BN mg) (Kn:KN mg):FnOk P w K mg base (CX1 P w) 1 f fd ["_law_script", "_law_at"] (spL K 2 jg_) :=
 Qp_ (k:=0) Fn sc__law_feed (fun cdv A outer s H E hr =>
 (zd_ (zX_ (sh:=[.f,.f,.f]) (zW_ (i:=2) sc__law_feed.nd rfl (by first|exact Or.inl rfl|exact Or.inr rfl) (zH_ (zh_ j4_ j5_ (ao zf_) (ao (zb_ (i:=1) rfl (by first|exact Or.inl rfl|exact Or.inr (Or.inl rfl)|exact Or.inr (Or.inr rfl)))))) rfl (.inl rfl)))
  (zd_ (zX_ (sh:=[.dead,.dead,.f]) (Yk_ (ZE_ (jU_ Wa_ Wg_ (ao (z4_ jF_ Zd_ rfl B.len PySem.boot_len (zr_ (ao (zb_ (i:=0) rfl (by first|exact Or.inl rfl|exact Or.inr (Or.inl rfl)|exact Or.inr (Or.inr rfl)))) zI_ (za_ rfl)) (by decide) (by decide) rfl rfl)) (ao zf_) rfl))
  (zq_ (zW_ (i:=2) sc__law_feed.nd rfl (by first|exact Or.inl rfl|exact Or.inr rfl) (zH_ (zh_ zZ_ jp_ (ao (ut_ (jq_ (zx_ hr)) jo_ (ao (zb_ (i:=0) rfl (by first|exact Or.inl rfl|exact Or.inr (Or.inl rfl)|exact Or.inr (Or.inr rfl)))) (ao (zh_ uy_ uz_ (ao (zb_ (i:=1) rfl (by first|exact Or.inl rfl|exact Or.inr (Or.inl rfl)|exact Or.inr (Or.inr rfl)))) (ao (z4_ jF_ Zd_ rfl B.len PySem.boot_len (zr_ (ao (zb_ (i:=0) rfl (by first|exact Or.inl rfl|exact Or.inr (Or.inl rfl)|exact Or.inr (Or.inr rfl)))) zI_ (za_ rfl)) (by decide) (by decide) rfl rfl)))) (fun _ _=>rfl))) (ao (zh_ j4_ j5_ (ao zf_) (ao (zh_ jW_ uP_ (ao (zb_ (i:=1) rfl (by first|exact Or.inl rfl|exact Or.inr (Or.inl rfl)|exact Or.inr (Or.inr rfl)))) (ao (z4_ jF_ Zd_ rfl B.len PySem.boot_len (zr_ (ao (zb_ (i:=0) rfl (by first|exact Or.inl rfl|exact Or.inr (Or.inl rfl)|exact Or.inr (Or.inr rfl)))) zI_ (za_ rfl)) (by decide) (by decide) rfl rfl)))))))) rfl (.inl rfl)))
  u5_))
  (zq_ (Yj_ (jt_ (jj_ (zc_ (zb_ (i:=2) rfl (by first|exact Or.inl rfl|exact Or.inr (Or.inl rfl)|exact Or.inr (Or.inr rfl))) (zc_ (zh_ j4_ j5_ (ao (z4_ (Yc_ rfl) Q8_ rfl B.max (by decide +kernel) (zr_ (ao zf_) (zr_ (ao (zb_ (i:=2) rfl (by first|exact Or.inl rfl|exact Or.inr (Or.inl rfl)|exact Or.inr (Or.inr rfl)))) zI_ (za_ rfl)) (za_ rfl)) (by decide) (by decide) rfl rfl)) (ao (u6_ Ye_ Wf_ rfl B.int (by decide +kernel) (zr_ (ao (ap_b (QA_ Xm_ Xp_ (ao (zb_ (i:=2) rfl (by first|exact Or.inl rfl|exact Or.inr (Or.inl rfl)|exact Or.inr (Or.inr rfl)))) (ao (zh_ V7_ Wc_ (ao zf_) (ao zf_))) rfl))) zI_ (za_ rfl)) (by decide) (by decide) rfl rfl))) (zc_ zf_ zg_ (za_ rfl)) (za_ rfl)) (za_ rfl)) (by decide +kernel))))))))
 (fun ds hl=>match ds,hl with | [p_law_script,p_law_at],_=>by kernel_rfl)
theorem Ze_ {f:Addr} {fd:FuncData} (Fn:Fun K "_law_feed" "_law_feed" zM_ f fd) (hmg:mg "_law_feed" = some (.ref f)) (B:BN mg) (Kn:KN mg):CF P w K mg base "_law_feed" 1 (spL K 2 jg_) :=
 ⟨f,fd,["_law_script", "_law_at"],Zp_ Fn B Kn,hmg,Fn.kp,(Fn.binds fun _ _ _ _ _ _ us hl=>match us,hl with | [_,_],_=>rfl)⟩
abbrev zN_:Stmt:=top 6
abbrev Z1_:List Str:=["_law_feed_here", "_law_many", "_law_turn", "_law_left", "_law_here", "_law_mixed"]
theorem sc__law_draw:FnScope Z1_ ["_law_feed_here", "_law_many"] (ze_ zN_):=⟨rfl,rfl,rfl,by decide +kernel,rfl,by decide +kernel,by decide +kernel⟩
def zG_ (p_law_feed_here:List D) (p_law_many:D):M (D×List D) :=
 bd (oM (jb_ (PyData.list p_law_feed_here) (.int 2))) fun x1=>bd (oM (jk_ x1 (.int 1))) fun x2=>bd (oM (putD p_law_feed_here (.int 2) x2)) fun l3=>bd (oM (jb_ (PyData.list l3) (.int 1))) fun x4=>bd (oM (opGt x4 (.int 0))) fun b5=>if b5 then
  bd (oM (ya_ x4 p_law_many)) fun x6=>bd (oM (putD l3 (.int 1) x6)) fun l7=>bd (oM (uO_ x4 p_law_many)) fun x8=>.ret (x8,l7)
  else
  bd (bd (bd (bd (oM (jb_ (PyData.list l3) (.int 0))) fun x9=>oM (uO_ x9 (.int 2147483647))) fun x11=>bd (bd (oM (jn_ (.int 31) x1)) fun x10=>oM (jn_ x10 x1)) fun x12=>oM (jk_ x11 x12)) fun x13=>oM (jk_ x13 (.int 1))) fun x14=>bd (bd (bd (bd (oM (jn_ (.int 40) x1)) fun x15=>oM (jk_ (.int 48271) x15)) fun x16=>oM (jn_ x14 x16)) fun x17=>oM (uO_ x17 (.int 2147483629))) fun x18=>bd (bd (bd (bd (bd (bd (oM (ya_ x18 (.int 11))) fun x19=>oM (jn_ x19 (.int 69621))) fun x20=>oM (jk_ x20 x1)) fun x21=>oM (uO_ x21 (.int 998244353))) fun x22=>oM (ya_ x22 (.int 7))) fun x23=>oM (uO_ x23 p_law_many)) fun x24=>.ret (x24,l3)
def jh_:List D→List D→M (D×List D):=fun p_law_feed_here l=>match l with
 | [p_law_many]=>zG_ p_law_feed_here p_law_many
 | _=>.bad
set_option maxHeartbeats 4000000 in
theorem Zq_ {f:Addr} {fd:FuncData} (Fn:Fun K "_law_draw" "_law_draw" zN_ f fd) (B:BN mg) (Kn:KN mg):FnOk P w K mg base (CX1 P w) 1 f fd ["_law_feed_here", "_law_many"] (sp1 K 2 jh_) :=
 WI_ (k:=0) Fn sc__law_draw (fun cdv A outer s H E hr =>
 (zd_ (zX_ (sh:=[.p,.f,.f,.dead,.dead,.dead]) (zW_ (i:=2) sc__law_draw.nd rfl (by first|exact Or.inl rfl|exact Or.inr rfl) (zH_ (ut_ (jq_ (zx_ hr)) jo_ (uu_ (i:=0) rfl (by first|exact Or.inl rfl|exact Or.inr (Or.inl rfl)|exact Or.inr (Or.inr rfl))) (ao zf_) (fun _ _=>rfl))) rfl (.inl rfl)))
  (zd_ (zX_ (sh:=[.p,.f,.f,.dead,.dead,.dead]) (Qv_ (i:=0) rfl (by first|exact Or.inl rfl|exact Or.inr (Or.inl rfl)|exact Or.inr (Or.inr rfl)) (zH_ zf_) (zH_ (zh_ zZ_ jp_ (ao (zb_ (i:=2) rfl (by first|exact Or.inl rfl|exact Or.inr (Or.inl rfl)|exact Or.inr (Or.inr rfl)))) (ao zf_))) (fun _=>rfl) rfl rfl rfl))
  (zd_ (zX_ (sh:=[.p,.f,.f,.f,.dead,.dead]) (zW_ (i:=3) sc__law_draw.nd rfl (by first|exact Or.inl rfl|exact Or.inr rfl) (zH_ (ut_ (jq_ (zx_ hr)) jo_ (uu_ (i:=0) rfl (by first|exact Or.inl rfl|exact Or.inr (Or.inl rfl)|exact Or.inr (Or.inr rfl))) (ao zf_) (fun _ _=>rfl))) rfl (.inl rfl)))
  (zd_ (Yk_ (ZE_ (jU_ Wa_ Wg_ (ao (zb_ (i:=3) rfl (by first|exact Or.inl rfl|exact Or.inr (Or.inl rfl)|exact Or.inr (Or.inr rfl)))) (ao zf_) rfl))
  (zd_ (zX_ (sh:=[.p,.f,.dead,.f,.dead,.dead]) (Qv_ (i:=0) rfl (by first|exact Or.inl rfl|exact Or.inr (Or.inl rfl)|exact Or.inr (Or.inr rfl)) (zH_ zf_) (zH_ (zh_ jW_ uP_ (ao (zb_ (i:=3) rfl (by first|exact Or.inl rfl|exact Or.inr (Or.inl rfl)|exact Or.inr (Or.inr rfl)))) (ao (zb_ (i:=1) rfl (by first|exact Or.inl rfl|exact Or.inr (Or.inl rfl)|exact Or.inr (Or.inr rfl)))))) (fun _=>rfl) rfl rfl rfl))
  (zq_ (ud_ (zH_ (zh_ uy_ uz_ (ao (zb_ (i:=3) rfl (by first|exact Or.inl rfl|exact Or.inr (Or.inl rfl)|exact Or.inr (Or.inr rfl)))) (ao (zb_ (i:=1) rfl (by first|exact Or.inl rfl|exact Or.inr (Or.inl rfl)|exact Or.inr (Or.inr rfl)))))))))
  u5_)
  (zd_ (zX_ (sh:=[.p,.f,.f,.dead,.f,.dead]) (zW_ (i:=4) sc__law_draw.nd rfl (by first|exact Or.inl rfl|exact Or.inr rfl) (zH_ (zh_ zZ_ jp_ (ao (zh_ zZ_ jp_ (ao (zh_ uy_ uz_ (ao (ut_ (jq_ (zx_ hr)) jo_ (uu_ (i:=0) rfl (by first|exact Or.inl rfl|exact Or.inr (Or.inl rfl)|exact Or.inr (Or.inr rfl))) (ao zf_) (fun _ _=>rfl))) (ao zf_))) (ao (zh_ j4_ j5_ (ao (zh_ j4_ j5_ (ao zf_) (ao (zb_ (i:=2) rfl (by first|exact Or.inl rfl|exact Or.inr (Or.inl rfl)|exact Or.inr (Or.inr rfl)))))) (ao (zb_ (i:=2) rfl (by first|exact Or.inl rfl|exact Or.inr (Or.inl rfl)|exact Or.inr (Or.inr rfl)))))))) (ao zf_))) rfl (.inl rfl)))
  (zd_ (zX_ (sh:=[.p,.f,.f,.dead,.dead,.f]) (zW_ (i:=5) sc__law_draw.nd rfl (by first|exact Or.inl rfl|exact Or.inr rfl) (zH_ (zh_ uy_ uz_ (ao (zh_ j4_ j5_ (ao (zb_ (i:=4) rfl (by first|exact Or.inl rfl|exact Or.inr (Or.inl rfl)|exact Or.inr (Or.inr rfl)))) (ao (zh_ zZ_ jp_ (ao zf_) (ao (zh_ j4_ j5_ (ao zf_) (ao (zb_ (i:=2) rfl (by first|exact Or.inl rfl|exact Or.inr (Or.inl rfl)|exact Or.inr (Or.inr rfl)))))))))) (ao zf_))) rfl (.inl rfl)))
  (zq_ (ud_ (zH_ (zh_ uy_ uz_ (ao (zh_ jW_ uP_ (ao (zh_ uy_ uz_ (ao (zh_ zZ_ jp_ (ao (zh_ j4_ j5_ (ao (zh_ jW_ uP_ (ao (zb_ (i:=5) rfl (by first|exact Or.inl rfl|exact Or.inr (Or.inl rfl)|exact Or.inr (Or.inr rfl)))) (ao zf_))) (ao zf_))) (ao (zb_ (i:=2) rfl (by first|exact Or.inl rfl|exact Or.inr (Or.inl rfl)|exact Or.inr (Or.inr rfl)))))) (ao zf_))) (ao zf_))) (ao (zb_ (i:=1) rfl (by first|exact Or.inl rfl|exact Or.inr (Or.inl rfl)|exact Or.inr (Or.inr rfl)))))))))))))))
 (fun g ds hl=>match ds,hl with | [p_law_many],_=>by kernel_rfl)
theorem Zf_ {f:Addr} {fd:FuncData} (Fn:Fun K "_law_draw" "_law_draw" zN_ f fd) (hmg:mg "_law_draw" = some (.ref f)) (B:BN mg) (Kn:KN mg):CF P w K mg base "_law_draw" 1 (sp1 K 2 jh_) :=
 ⟨f,fd,["_law_feed_here", "_law_many"],Zq_ Fn B Kn,hmg,Fn.kp,(Fn.binds fun _ _ _ _ _ _ us hl=>match us,hl with | [_,_],_=>rfl)⟩
abbrev zj_:Stmt:=top 7
abbrev zR_:List Str:=["_law_sorts", "_law_rooms", "_law_pairs", "_law_meets", "_law_pair", "_law_longer", "_law_row", "_law_found", "_law_number", "_law_starts", "_law_says", "_law_some"]
theorem sc__law_rules:FnScope zR_ ["_law_sorts", "_law_rooms"] (ze_ zj_):=⟨rfl,rfl,rfl,by decide +kernel,rfl,by decide +kernel,by decide +kernel⟩
abbrev N__law_rules_0:List Str:=["_law_sorts", "_law_rooms", "_law_pairs", "_law_meets", "_law_pair", "_law_longer", "_law_row", "_law_found", "_law_number", "_law_starts", "_law_says", "_law_some", "_law_k"]
theorem uo_:N__law_rules_0.Nodup:=by decide +kernel
abbrev N__law_rules_1:List Str:=["_law_sorts", "_law_rooms", "_law_pairs", "_law_meets", "_law_pair", "_law_longer", "_law_row", "_law_found", "_law_number", "_law_starts", "_law_says", "_law_some", "_law_sort"]
theorem un_:N__law_rules_1.Nodup:=by decide +kernel
abbrev N__law_rules_2:List Str:=["_law_sorts", "_law_rooms", "_law_pairs", "_law_meets", "_law_pair", "_law_longer", "_law_row", "_law_found", "_law_number", "_law_starts", "_law_says", "_law_some", "_law_room"]
theorem um_:N__law_rules_2.Nodup:=by decide +kernel
abbrev N__law_rules_3:List Str:=["_law_sorts", "_law_rooms", "_law_pairs", "_law_meets", "_law_pair", "_law_longer", "_law_row ", "_law_found", "_law_number", "_law_starts", "_law_says", "_law_some", "_law_row"]
theorem ul_:N__law_rules_3.Nodup:=by decide +kernel
abbrev N__law_rules_4:List Str:=["_law_sorts", "_law_rooms", "_law_pairs", "_law_meets", "_law_pair", "_law_longer", "_law_row", "_law_found", "_law_number", "_law_starts", "_law_says", "_law_some", "_law_other"]
theorem uk_:N__law_rules_4.Nodup:=by decide +kernel
def zp_ (v_law_sorts:D) (v_law_rooms:D) (v_law_meets:D) (v_law_found:List D):M D :=
 bd (bd (oM (Zr_ jf_ [(PyData.list v_law_found)])) fun l7=>.ret (PyData.list l7)) fun x8=>bd (bd (bd (bd (oM (fLen [x8])) fun x9=>oM (z1_ [x9])) fun l17=>bd (jm_ (fun d10=>bd (bd (oM (opEq d10 (.int 0))) fun b14=>if b14 then .ret true else bd (bd (oM (yE_ d10 (.int 1))) fun x11=>oM (jb_ x8 x11)) fun x12=>bd (oM (jb_ x8 d10)) fun x13=>oM (opNe x12 x13)) fun b16=>if b16 then bd (oM (jb_ x8 d10)) fun x15=>.ret (some x15) else .ret none) l17) fitM) fun l18=>.ret (PyData.list l18)) fun x19=>.ret x19
def u3_ (v_law_sorts:D) (v_law_rooms:D) (v_law_meets:D) (v_law_found:List D) (d_:D) (kn20:D×D×D×List D×Unit→M D):M D :=
 bd (bd (bd (bd (oM (z1_ [v_law_sorts])) fun l26=>bd (jm_ (fun d21=>bd (bd (bd (oM (ya_ d_ (.int 4))) fun x22=>bd (oM (jb_ (PyData.list [(.int 1),v_law_rooms]) d21)) fun x23=>oM (ya_ x22 x23)) fun x24=>oM (uO_ x24 v_law_rooms)) fun x25=>.ret (some x25)) l26) fitM) fun l27=>.ret (PyData.list l27)) fun x28=>oM (yr_ [x28])) fun x29=>bd (bd (bd (bd (oM (z1_ [v_law_rooms])) fun l36=>bd (jm_ (fun d30=>bd (bd (bd (bd (bd (oM (jb_ (PyData.list [(.int 1),(.int 2)]) d30)) fun x31=>oM (ya_ d_ x31)) fun x32=>oM (uO_ x32 (.int 2))) fun x33=>oM (opEq x33 (.int 1))) fun b34=>.ret (.bool b34)) fun x35=>.ret (some x35)) l36) fitM) fun l37=>.ret (PyData.list l37)) fun x38=>oM (yr_ [x38])) fun x39=>bd (bd (oM (seqD v_law_meets)) fun l41=>bd (jm_ (fun d40=>.ret (some (.tuple [v_law_rooms,x29,d40,x39]))) l41) fitM) fun l42=>bd (oM (mExt v_law_found l42)) fun l43=>kn20 (v_law_sorts,v_law_rooms,v_law_meets,l43,())
def zF_ (v_law_sorts:D) (v_law_rooms:D) (v_law_pairs:D) (v_law_meets:D):M D :=
 bd (oM (z1_ [(.int 64)])) fun l6=>forS (fun s44 d45 kn=>u3_ s44.1 s44.2.1 s44.2.2.1 s44.2.2.2.1 d45 kn) l6 (v_law_sorts,v_law_rooms,v_law_meets,[],()) (fun s44=>zp_ s44.1 s44.2.1 s44.2.2.1 s44.2.2.2.1)
def u4_ (kn46:D×D×D×D×Unit→M D) (v_law_sorts:D) (v_law_rooms:D) (v_law_pairs:D) (v_law_pair:D) (v_law_longer:List D):M D :=
 kn46 (v_law_sorts,v_law_rooms,v_law_pairs,(PyData.list v_law_longer),())
def u2_ (kn46:D×D×D×D×Unit→M D) (v_law_sorts:D) (v_law_rooms:D) (v_law_pairs:D) (v_law_pair:D) (v_law_longer:List D) (d_:D) (kn49:D×D×D×D×List D×Unit→M D):M D :=
 bd (bd (oM (seqD v_law_pairs)) fun l55=>bd (jm_ (fun d50=>bd (oM (opNe d50 v_law_pair)) fun b54=>if b54 then bd (bd (bd (oM (jk_ v_law_pair d50)) fun x51=>.ret (.tuple [x51])) fun x52=>oM (jk_ d_ x52)) fun x53=>.ret (some x53) else .ret none) l55) fitM) fun l56=>bd (oM (mExt v_law_longer l56)) fun l57=>kn49 (v_law_sorts,v_law_rooms,v_law_pairs,v_law_pair,l57,())
def zE_ (v_law_sorts:D) (v_law_rooms:D) (v_law_pairs:D) (v_law_meets:D) (d_:D) (kn46:D×D×D×D×Unit→M D):M D :=
 bd (oM (Y0_ [v_law_meets])) fun l47=>bd (oM (seqD v_law_meets)) fun l48=>forS (fun s58 d59 kn=>u2_ kn46 s58.1 s58.2.1 s58.2.2.1 s58.2.2.2.1 s58.2.2.2.2.1 d59 kn) l48 (v_law_sorts,v_law_rooms,v_law_pairs,d_,l47,()) (fun s58=>u4_ kn46 s58.1 s58.2.1 s58.2.2.1 s58.2.2.2.1 s58.2.2.2.2.1)
def zk_ (p_law_sorts:D) (p_law_rooms:D):M D :=
 bd (bd (bd (bd (oM (jn_ (.int 2) p_law_rooms)) fun x1=>oM (yE_ x1 (.int 1))) fun x2=>asI x2) fun hi3=>oM (fCut (PyData.list [(.tuple [(.int 0),(.int 0)]),(.tuple [(.int 0),(.int 1)]),(.tuple [(.int 1),(.int 1)])]) none hi3)) fun x4=>bd (oM (seqD x4)) fun l5=>forS (fun s60 d61 kn=>zE_ s60.1 s60.2.1 s60.2.2.1 s60.2.2.2.1 d61 kn) l5 (p_law_sorts,p_law_rooms,x4,(PyData.list [(.tuple [])]),()) (fun s60=>zF_ s60.1 s60.2.1 s60.2.2.1 s60.2.2.2.1)
def z9_:List D→M D:=fun l=>match l with
 | [p_law_sorts,p_law_rooms]=>zk_ p_law_sorts p_law_rooms
 | _=>.bad
set_option maxHeartbeats 4000000 in
theorem yP_ {f:Addr} {fd:FuncData} (Fn:Fun K "_law_rules" "_law_rules" zj_ f fd) (B:BN mg) (Kn:KN mg):FnOk P w K mg base (CX1 P w) 1 f fd ["_law_sorts", "_law_rooms"] (spD K 2 z9_) :=
 Jp_ (k:=0) Fn sc__law_rules (fun cdv A outer s H E hr =>
 (zd_ (zX_ (sh:=[.f,.f,.f,.dead,.dead,.dead,.dead,.dead,.dead,.dead,.dead,.dead]) (zW_ (i:=2) sc__law_rules.nd rfl (by first|exact Or.inl rfl|exact Or.inr rfl) (zH_ (Y9_ (ao (ap_z (jj_ (zc_ (jG_ (zc_ zf_ (zc_ zf_ zg_ (za_ rfl)) (za_ rfl)) (by decide +kernel)) (zc_ (jG_ (zc_ zf_ (zc_ zf_ zg_ (za_ rfl)) (za_ rfl)) (by decide +kernel)) (zc_ (jG_ (zc_ zf_ (zc_ zf_ zg_ (za_ rfl)) (za_ rfl)) (by decide +kernel)) zg_ (za_ rfl)) (za_ rfl)) (za_ rfl)) (by decide +kernel)))) Y8_ (Y7_ (zh_ Jg_ Ji_ (ao (zh_ j4_ j5_ (ao zf_) (ao (zb_ (i:=1) rfl (by first|exact Or.inl rfl|exact Or.inr (Or.inl rfl)|exact Or.inr (Or.inr rfl)))))) (ao zf_))))) rfl (.inl rfl)))
  (zd_ (zX_ (sh:=[.f,.f,.f,.f,.dead,.dead,.dead,.dead,.dead,.dead,.dead,.dead]) (zW_ (i:=3) sc__law_rules.nd rfl (by first|exact Or.inl rfl|exact Or.inr rfl) (zH_ (ap_z (jj_ (zc_ (jG_ zg_ (by decide +kernel)) zg_ (za_ rfl)) (by decide +kernel)))) rfl (.inl rfl)))
  (zd_ (je_ (sh:=[.f,.f,.f,.f,.dead,.dead,.dead,.dead,.dead,.dead,.dead,.dead]) PassesOwn.leaving rfl (jH_ (jr_ (zb_ (i:=2) rfl (by first|exact Or.inl rfl|exact Or.inr (Or.inl rfl)|exact Or.inr (Or.inr rfl))))) (zA_ (i:=4) (Nat.zero_le _) sc__law_rules.nd rfl (by first|exact Or.inl rfl|exact Or.inr rfl) (.inl rfl))
  (zd_ (zX_ (sh:=[.f,.f,.f,.f,.f,.o,.dead,.dead,.dead,.dead,.dead,.dead]) (jY_ (i:=5) sc__law_rules.nd rfl (by first|exact Or.inl rfl|exact Or.inr rfl) (jt_ (ZD_ uA_ Uo_ rfl B.list (by decide +kernel) (zr_ (ao (zb_ (i:=3) rfl (by first|exact Or.inl rfl|exact Or.inr (Or.inl rfl)|exact Or.inr (Or.inr rfl)))) zI_ (za_ rfl)) (by decide) (by decide) rfl rfl)) rfl (.inl rfl)))
  (zd_ (je_ (sh:=[.f,.f,.f,.dead,.f,.o,.dead,.dead,.dead,.dead,.dead,.dead]) PassesOwn.leaving rfl (jH_ (jr_ (zb_ (i:=3) rfl (by first|exact Or.inl rfl|exact Or.inr (Or.inl rfl)|exact Or.inr (Or.inr rfl))))) (zA_ (i:=6) (Nat.zero_le _) sc__law_rules.nd rfl (by first|exact Or.inl rfl|exact Or.inr rfl) (.inl rfl))
  (zq_ (yY_ (i:=5) rfl (by first|exact Or.inl rfl|exact Or.inr (Or.inl rfl)|exact Or.inr (Or.inr rfl)) (jt_ (jZ_ (N':=N__law_rules_4) (k:=1) rfl (z5_ (N:=zR_) (sc:=(ze_ zj_)) (by decide +kernel) rfl rfl) (jr_ (zb_ (i:=2) rfl (by first|exact Or.inl rfl|exact Or.inr (Or.inl rfl)|exact Or.inr (Or.inr rfl)))) (fun cl s' H' fp C'=>(zA_ (i:=12) (show 12≤12 by decide) uk_ rfl (by first|exact Or.inl rfl|exact Or.inr rfl) (.inr rfl))) (fun cl s' H' fp C'=>(yW_ (jU_ (ym_ (zx_ hr)) Zg_ (ao (zb_ (i:=12) rfl (by first|exact Or.inl rfl|exact Or.inr (Or.inl rfl)|exact Or.inr (Or.inr rfl)))) (ao (zb_ (i:=4) rfl (by first|exact Or.inl rfl|exact Or.inr (Or.inl rfl)|exact Or.inr (Or.inr rfl)))) rfl))) (fun cl s' H' fp C'=>(zh_ zZ_ jp_ (ao (zb_ (i:=6) rfl (by first|exact Or.inl rfl|exact Or.inr (Or.inl rfl)|exact Or.inr (Or.inr rfl)))) (ao (jG_ (zc_ (zh_ zZ_ jp_ (ao (zb_ (i:=4) rfl (by first|exact Or.inl rfl|exact Or.inr (Or.inl rfl)|exact Or.inr (Or.inr rfl)))) (ao (zb_ (i:=12) rfl (by first|exact Or.inl rfl|exact Or.inr (Or.inl rfl)|exact Or.inr (Or.inr rfl))))) zg_ (za_ rfl)) (by decide +kernel))))) (fun _=>rfl))) rfl rfl rfl rfl rfl rfl)) (fun _=>rfl))
  (zq_ (Yl_ (i:=5) (zW_ (i:=3) sc__law_rules.nd rfl (by first|exact Or.inl rfl|exact Or.inr rfl) (zH_ (zb_ (i:=5) rfl (by first|exact Or.inl rfl|exact Or.inr (Or.inl rfl)|exact Or.inr (Or.inr rfl)))) rfl (.inl rfl)))))) (fun _=>rfl))
  (zd_ (zX_ (sh:=[.f,.f,.dead,.f,.dead,.dead,.dead,.o,.dead,.dead,.dead,.dead]) (jY_ (i:=7) sc__law_rules.nd rfl (by first|exact Or.inl rfl|exact Or.inr rfl) (jt_ (jj_ zg_ (by decide +kernel))) rfl (.inl rfl)))
  (zd_ (je_ (sh:=[.f,.f,.dead,.f,.dead,.dead,.dead,.o,.dead,.dead,.dead,.dead]) PassesOwn.leaving rfl (jH_ (js_ rfl B.range (zc_ zf_ zg_ (za_ rfl)) rfl)) (zA_ (i:=8) (Nat.zero_le _) sc__law_rules.nd rfl (by first|exact Or.inl rfl|exact Or.inr rfl) (.inl rfl))
  (zd_ (zX_ (sh:=[.f,.f,.dead,.f,.dead,.dead,.dead,.o,.f,.f,.dead,.dead]) (zW_ (i:=9) sc__law_rules.nd rfl (by first|exact Or.inl rfl|exact Or.inr rfl) (zH_ (u6_ j9_ Jh_ rfl B.tuple (by decide +kernel) (zr_ (ao (ap_z (jZ_ (N':=N__law_rules_1) (k:=1) rfl (z5_ (N:=zR_) (sc:=(ze_ zj_)) (by decide +kernel) rfl rfl) (js_ rfl B.range (zc_ (zb_ (i:=0) rfl (by first|exact Or.inl rfl|exact Or.inr (Or.inl rfl)|exact Or.inr (Or.inr rfl))) zg_ (za_ rfl)) rfl) (fun cl s' H' fp C'=>(zA_ (i:=12) (show 12≤12 by decide) un_ rfl (by first|exact Or.inl rfl|exact Or.inr rfl) (.inr rfl))) (fun cl s' H' fp C'=>yX_) (fun cl s' H' fp C'=>(zh_ uy_ uz_ (ao (zh_ jW_ uP_ (ao (zh_ jW_ uP_ (ao (zb_ (i:=8) rfl (by first|exact Or.inl rfl|exact Or.inr (Or.inl rfl)|exact Or.inr (Or.inr rfl)))) (ao zf_))) (ao (ut_ (jq_ (zx_ hr)) jo_ (ao (ap_z (jj_ (zc_ zf_ (zc_ (zb_ (i:=1) rfl (by first|exact Or.inl rfl|exact Or.inr (Or.inl rfl)|exact Or.inr (Or.inr rfl))) zg_ (za_ rfl)) (za_ rfl)) (by decide +kernel)))) (ao (zb_ (i:=12) rfl (by first|exact Or.inl rfl|exact Or.inr (Or.inl rfl)|exact Or.inr (Or.inr rfl)))) (fun _ _=>rfl))))) (ao (zb_ (i:=1) rfl (by first|exact Or.inl rfl|exact Or.inr (Or.inl rfl)|exact Or.inr (Or.inr rfl)))))) (fun _=>rfl)))) zI_ (za_ rfl)) (by decide) (by decide) rfl rfl)) rfl (.inl rfl)))
  (zd_ (zX_ (sh:=[.f,.f,.dead,.f,.dead,.dead,.dead,.o,.dead,.f,.f,.dead]) (zW_ (i:=10) sc__law_rules.nd rfl (by first|exact Or.inl rfl|exact Or.inr rfl) (zH_ (u6_ j9_ Jh_ rfl B.tuple (by decide +kernel) (zr_ (ao (ap_z (jZ_ (N':=N__law_rules_2) (k:=1) rfl (z5_ (N:=zR_) (sc:=(ze_ zj_)) (by decide +kernel) rfl rfl) (js_ rfl B.range (zc_ (zb_ (i:=1) rfl (by first|exact Or.inl rfl|exact Or.inr (Or.inl rfl)|exact Or.inr (Or.inr rfl))) zg_ (za_ rfl)) rfl) (fun cl s' H' fp C'=>(zA_ (i:=12) (show 12≤12 by decide) um_ rfl (by first|exact Or.inl rfl|exact Or.inr rfl) (.inr rfl))) (fun cl s' H' fp C'=>yX_) (fun cl s' H' fp C'=>(ap_b (QA_ (Ql_ (zx_ hr)) Zg_ (ao (zh_ uy_ uz_ (ao (zh_ jW_ uP_ (ao (zb_ (i:=8) rfl (by first|exact Or.inl rfl|exact Or.inr (Or.inl rfl)|exact Or.inr (Or.inr rfl)))) (ao (ut_ (jq_ (zx_ hr)) jo_ (ao (ap_z (jj_ (zc_ zf_ (zc_ zf_ zg_ (za_ rfl)) (za_ rfl)) (by decide +kernel)))) (ao (zb_ (i:=12) rfl (by first|exact Or.inl rfl|exact Or.inr (Or.inl rfl)|exact Or.inr (Or.inr rfl)))) (fun _ _=>rfl))))) (ao zf_))) (ao zf_) rfl))) (fun _=>rfl)))) zI_ (za_ rfl)) (by decide) (by decide) rfl rfl)) rfl (.inl rfl)))
  (zq_ (yY_ (i:=7) rfl (by first|exact Or.inl rfl|exact Or.inr (Or.inl rfl)|exact Or.inr (Or.inr rfl)) (jt_ (jZ_ (N':=N__law_rules_3) (k:=1) rfl (z5_ (N:=zR_) (sc:=(ze_ zj_)) (by decide +kernel) rfl rfl) (jr_ (zb_ (i:=3) rfl (by first|exact Or.inl rfl|exact Or.inr (Or.inl rfl)|exact Or.inr (Or.inr rfl)))) (fun cl s' H' fp C'=>(zA_ (i:=12) (show 12≤12 by decide) ul_ rfl (by first|exact Or.inl rfl|exact Or.inr rfl) (.inr rfl))) (fun cl s' H' fp C'=>yX_) (fun cl s' H' fp C'=>(jG_ (zc_ (zb_ (i:=1) rfl (by first|exact Or.inl rfl|exact Or.inr (Or.inl rfl)|exact Or.inr (Or.inr rfl))) (zc_ (zb_ (i:=9) rfl (by first|exact Or.inl rfl|exact Or.inr (Or.inl rfl)|exact Or.inr (Or.inr rfl))) (zc_ (zb_ (i:=12) rfl (by first|exact Or.inl rfl|exact Or.inr (Or.inl rfl)|exact Or.inr (Or.inr rfl))) (zc_ (zb_ (i:=10) rfl (by first|exact Or.inl rfl|exact Or.inr (Or.inl rfl)|exact Or.inr (Or.inr rfl))) zg_ (za_ rfl)) (za_ rfl)) (za_ rfl)) (za_ rfl)) (by decide +kernel))) (fun _=>rfl))) rfl rfl rfl rfl rfl rfl)))) (fun _=>rfl))
  (zd_ (zX_ (sh:=[.dead,.dead,.dead,.dead,.dead,.dead,.dead,.dead,.dead,.dead,.dead,.f]) (zW_ (i:=11) sc__law_rules.nd rfl (by first|exact Or.inl rfl|exact Or.inr rfl) (zH_ (ap_z (Jv_ (yu_ (g:=jf_) (zx_ hr)) Jj_ rfl B.sorted (by decide +kernel) (zr_ (uu_ (i:=7) rfl (by first|exact Or.inl rfl|exact Or.inr (Or.inl rfl)|exact Or.inr (Or.inr rfl))) zI_ (za_ rfl)) (by decide) (by decide) rfl rfl))) rfl (.inl rfl)))
  (zq_ (ud_ (zH_ (ap_z (jZ_ (N':=N__law_rules_0) (k:=1) rfl (z5_ (N:=zR_) (sc:=(ze_ zj_)) (by decide +kernel) rfl rfl) (js_ rfl B.range (zc_ (z4_ jF_ Zd_ rfl B.len PySem.boot_len (zr_ (ao (zb_ (i:=11) rfl (by first|exact Or.inl rfl|exact Or.inr (Or.inl rfl)|exact Or.inr (Or.inr rfl)))) zI_ (za_ rfl)) (by decide) (by decide) rfl rfl) zg_ (za_ rfl)) rfl) (fun cl s' H' fp C'=>(zA_ (i:=12) (show 12≤12 by decide) uo_ rfl (by first|exact Or.inl rfl|exact Or.inr rfl) (.inr rfl))) (fun cl s' H' fp C'=>(yW_ (XK_ (XJ_ (jU_ (Ql_ (zx_ hr)) Zg_ (ao (zb_ (i:=12) rfl (by first|exact Or.inl rfl|exact Or.inr (Or.inl rfl)|exact Or.inr (Or.inr rfl)))) (ao zf_) rfl) (WO_ (jU_ (ym_ (zx_ hr)) Zg_ (ao (ut_ (jq_ (zx_ hr)) jo_ (ao (zb_ (i:=11) rfl (by first|exact Or.inl rfl|exact Or.inr (Or.inl rfl)|exact Or.inr (Or.inr rfl)))) (ao (zh_ Jg_ Ji_ (ao (zb_ (i:=12) rfl (by first|exact Or.inl rfl|exact Or.inr (Or.inl rfl)|exact Or.inr (Or.inr rfl)))) (ao zf_))) (fun _ _=>rfl))) (ao (ut_ (jq_ (zx_ hr)) jo_ (ao (zb_ (i:=11) rfl (by first|exact Or.inl rfl|exact Or.inr (Or.inl rfl)|exact Or.inr (Or.inr rfl)))) (ao (zb_ (i:=12) rfl (by first|exact Or.inl rfl|exact Or.inr (Or.inl rfl)|exact Or.inr (Or.inr rfl)))) (fun _ _=>rfl))) rfl)))))) (fun cl s' H' fp C'=>(ut_ (jq_ (zx_ hr)) jo_ (ao (zb_ (i:=11) rfl (by first|exact Or.inl rfl|exact Or.inr (Or.inl rfl)|exact Or.inr (Or.inr rfl)))) (ao (zb_ (i:=12) rfl (by first|exact Or.inl rfl|exact Or.inr (Or.inl rfl)|exact Or.inr (Or.inr rfl)))) (fun _ _=>rfl))) (fun _=>rfl)))))))))))))
 (fun ds hl=>match ds,hl with | [p_law_sorts,p_law_rooms],_=>by kernel_rfl)
theorem yH_ {f:Addr} {fd:FuncData} (Fn:Fun K "_law_rules" "_law_rules" zj_ f fd) (hmg:mg "_law_rules" = some (.ref f)) (B:BN mg) (Kn:KN mg):CF P w K mg base "_law_rules" 1 (spD K 2 z9_) :=
 ⟨f,fd,["_law_sorts", "_law_rooms"],yP_ Fn B Kn,hmg,Fn.kp,(Fn.binds fun _ _ _ _ _ _ us hl=>match us,hl with | [_,_],_=>rfl)⟩
abbrev u9_:Stmt:=top 8
abbrev XL_:List Str:=["_law_script", "_law_feed_here", "_law_turn", "_law_sorts", "_law_rooms", "_law_due", "_law_found"]
theorem sc_law:FnScope XL_ ["_law_script"] (ze_ u9_):=⟨rfl,rfl,rfl,by decide +kernel,rfl,by decide +kernel,by decide +kernel⟩
def Y5_ (v_law_feed_here:List D):M D :=
 .ret (.bool true)
def yV_ (v_law_feed_here:List D) (d_:D) (kn3:List D×Unit→M D):M D :=
 bd (zG_ v_law_feed_here (.int 2)) fun r4=>bd (oM (jk_ (.int 1) r4.1)) fun x5=>bd (zG_ r4.2 (.int 2)) fun r6=>bd (oM (jk_ (.int 1) r6.1)) fun x7=>bd (zk_ x5 x7) fun x8=>bd (bd (oM (fLen [x8])) fun x12=>bd (bd (bd (oM (yE_ x7 (.int 1))) fun x9=>oM (jb_ (PyData.list [(PyData.list [(.int 2),(.int 2)]),(PyData.list [(.int 216),(.int 432)])]) x9)) fun x10=>bd (oM (yE_ x5 (.int 1))) fun x11=>oM (jb_ x10 x11)) fun x13=>oM (opNe x12 x13)) fun b14=>if b14 then
  .ret (.bool false)
  else
  bd (zo_ x5 x7) fun l15=>bd (bd (oM (Zs_ [(PyData.list l15)])) fun x16=>bd (oM (Zs_ [x8])) fun x17=>oM (opNe x16 x17)) fun b18=>if b18 then
  .ret (.bool false)
  else
  bd (oM (mRev l15 [])) fun l19=>bd (oM (mPop l19 [])) fun l20=>bd (bd (bd (bd (zo_ x5 x7) fun l21=>.ret (PyData.list l21)) fun x22=>oM (Zs_ [x22])) fun x23=>bd (oM (Zs_ [x8])) fun x24=>oM (opNe x23 x24)) fun b25=>if b25 then
  .ret (.bool false)
  else
  kn3 (r6.2,())
def Y6_ (p_law_script:D):M D :=
 bd (jd_ p_law_script (.int 0)) fun l1=>bd (oM (z1_ [(.int 3)])) fun l2=>forS (fun s26 d27 kn=>yV_ s26.1 d27 kn) l2 (l1,()) (fun s26=>Y5_ s26.1)
def Zh_:List D→M D:=fun l=>match l with
 | [p_law_script]=>Y6_ p_law_script
 | _=>.bad
set_option maxHeartbeats 4000000 in
theorem Qq_ {f:Addr} {fd:FuncData} (Fn:Fun K "law" "law" u9_ f fd) (B:BN mg) (Kn:KN mg) (C__law_feed:CF P w K mg base "_law_feed" 1 (spL K 2 jg_)) (C__law_rules:CF P w K mg base "_law_rules" 1 (spD K 2 z9_)) (C_rules_of:CF P w K mg base "rules_of" 3 (spL K 2 jx_)) (C__law_draw:CF P w K mg base "_law_draw" 1 (sp1 K 2 jh_)):FnOk P w K mg base (CX1 P w) 4 f fd ["_law_script"] (spD K 1 Zh_) :=
 Jp_ (k:=3) Fn sc_law (fun cdv A outer s H E hr =>
 (zd_ (zX_ (sh:=[.dead,.o,.dead,.dead,.dead,.dead,.dead]) (jY_ (i:=1) sc_law.nd rfl (by first|exact Or.inl rfl|exact Or.inr rfl) (jt_ (Vx_ C__law_feed (hr.mono (by decide)) rfl (zc_ (zb_ (i:=0) rfl (by first|exact Or.inl rfl|exact Or.inr (Or.inl rfl)|exact Or.inr (Or.inr rfl))) (zc_ zf_ zg_ (za_ rfl)) (za_ rfl)) rfl (by decide) rfl rfl)) rfl (.inl rfl)))
  (zd_ (je_ (sh:=[.dead,.o,.dead,.dead,.dead,.dead,.dead]) PassesOwn.leaving rfl (jH_ (js_ rfl B.range (zc_ zf_ zg_ (za_ rfl)) rfl)) (zA_ (i:=2) (Nat.zero_le _) sc_law.nd rfl (by first|exact Or.inl rfl|exact Or.inr rfl) (.inl rfl))
  (zd_ (zX_ (sh:=[.dead,.o,.dead,.f,.dead,.dead,.dead]) (zW_ (i:=3) sc_law.nd rfl (by first|exact Or.inl rfl|exact Or.inr rfl) (Qy_ zZ_ jp_ (zH_ zf_) (Qx_ (i:=1) C__law_draw (hr.mono (by decide)) rfl rfl (by first|exact Or.inl rfl|exact Or.inr (Or.inl rfl)|exact Or.inr (Or.inr rfl)) (yZ_ (zH_ zf_) ZZ_ (za_ rfl)) rfl (by decide) rfl rfl)) rfl (.inl rfl)))
  (zd_ (zX_ (sh:=[.dead,.o,.dead,.f,.f,.dead,.dead]) (zW_ (i:=4) sc_law.nd rfl (by first|exact Or.inl rfl|exact Or.inr rfl) (Qy_ zZ_ jp_ (zH_ zf_) (Qx_ (i:=1) C__law_draw (hr.mono (by decide)) rfl rfl (by first|exact Or.inl rfl|exact Or.inr (Or.inl rfl)|exact Or.inr (Or.inr rfl)) (yZ_ (zH_ zf_) ZZ_ (za_ rfl)) rfl (by decide) rfl rfl)) rfl (.inl rfl)))
  (zd_ (zX_ (sh:=[.dead,.o,.dead,.f,.f,.f,.dead]) (zW_ (i:=5) sc_law.nd rfl (by first|exact Or.inl rfl|exact Or.inr rfl) (zH_ (Ym_ C__law_rules (hr.mono (by decide)) rfl (zc_ (zb_ (i:=3) rfl (by first|exact Or.inl rfl|exact Or.inr (Or.inl rfl)|exact Or.inr (Or.inr rfl))) (zc_ (zb_ (i:=4) rfl (by first|exact Or.inl rfl|exact Or.inr (Or.inl rfl)|exact Or.inr (Or.inr rfl))) zg_ (za_ rfl)) (za_ rfl)) rfl (by decide) rfl rfl)) rfl (.inl rfl)))
  (zd_ (Yk_ (ZE_ (jU_ (ym_ (zx_ hr)) Zg_ (ao (z4_ jF_ Zd_ rfl B.len PySem.boot_len (zr_ (ao (zb_ (i:=5) rfl (by first|exact Or.inl rfl|exact Or.inr (Or.inl rfl)|exact Or.inr (Or.inr rfl)))) zI_ (za_ rfl)) (by decide) (by decide) rfl rfl)) (ao (ut_ (jq_ (zx_ hr)) jo_ (ao (ut_ (jq_ (zx_ hr)) jo_ (ao (ap_z (jj_ (zc_ (ap_z (jj_ (zc_ zf_ (zc_ zf_ zg_ (za_ rfl)) (za_ rfl)) (by decide +kernel))) (zc_ (ap_z (jj_ (zc_ zf_ (zc_ zf_ zg_ (za_ rfl)) (za_ rfl)) (by decide +kernel))) zg_ (za_ rfl)) (za_ rfl)) (by decide +kernel)))) (ao (zh_ Jg_ Ji_ (ao (zb_ (i:=4) rfl (by first|exact Or.inl rfl|exact Or.inr (Or.inl rfl)|exact Or.inr (Or.inr rfl)))) (ao zf_))) (fun _ _=>rfl))) (ao (zh_ Jg_ Ji_ (ao (zb_ (i:=3) rfl (by first|exact Or.inl rfl|exact Or.inr (Or.inl rfl)|exact Or.inr (Or.inr rfl)))) (ao zf_))) (fun _ _=>rfl))) rfl))
  (zq_ (ud_ (zH_ J4_)))
  u5_)
  (zd_ (zX_ (sh:=[.dead,.o,.dead,.f,.f,.f,.o]) (jY_ (i:=6) sc_law.nd rfl (by first|exact Or.inl rfl|exact Or.inr rfl) (jt_ (Vx_ C_rules_of (hr.mono (by decide)) rfl (zc_ (zb_ (i:=3) rfl (by first|exact Or.inl rfl|exact Or.inr (Or.inl rfl)|exact Or.inr (Or.inr rfl))) (zc_ (zb_ (i:=4) rfl (by first|exact Or.inl rfl|exact Or.inr (Or.inl rfl)|exact Or.inr (Or.inr rfl))) zg_ (za_ rfl)) (za_ rfl)) rfl (by decide) rfl rfl)) rfl (.inl rfl)))
  (zd_ (Yk_ (ZE_ (jU_ (ym_ (zx_ hr)) Zg_ (ao (z4_ (ua_ (zx_ hr) hr.gd) yF_ rfl B.repr (by decide +kernel) (zr_ (uu_ (i:=6) rfl (by first|exact Or.inl rfl|exact Or.inr (Or.inl rfl)|exact Or.inr (Or.inr rfl))) zI_ (za_ rfl)) (by decide) (by decide) rfl rfl)) (ao (z4_ (ua_ (zx_ hr) hr.gd) yF_ rfl B.repr (by decide +kernel) (zr_ (ao (zb_ (i:=5) rfl (by first|exact Or.inl rfl|exact Or.inr (Or.inl rfl)|exact Or.inr (Or.inr rfl)))) zI_ (za_ rfl)) (by decide) (by decide) rfl rfl)) rfl))
  (zq_ (ud_ (zH_ J4_)))
  u5_)
  (zd_ (zX_ (sh:=[.dead,.o,.dead,.f,.f,.f,.o]) (J3_ (i:=6) rfl (by first|exact Or.inl rfl|exact Or.inr (Or.inl rfl)|exact Or.inr (Or.inr rfl)) rfl rfl rfl))
  (zd_ (zX_ (sh:=[.dead,.o,.dead,.f,.f,.f,.dead]) (WQ_ (i:=6) rfl (by first|exact Or.inl rfl|exact Or.inr (Or.inl rfl)|exact Or.inr (Or.inr rfl)) rfl rfl rfl))
  (zq_ (Yk_ (ZE_ (jU_ (ym_ (zx_ hr)) Zg_ (ao (z4_ (ua_ (zx_ hr) hr.gd) yF_ rfl B.repr (by decide +kernel) (zr_ (ao (ap_z (Vx_ C_rules_of (hr.mono (by decide)) rfl (zc_ (zb_ (i:=3) rfl (by first|exact Or.inl rfl|exact Or.inr (Or.inl rfl)|exact Or.inr (Or.inr rfl))) (zc_ (zb_ (i:=4) rfl (by first|exact Or.inl rfl|exact Or.inr (Or.inl rfl)|exact Or.inr (Or.inr rfl))) zg_ (za_ rfl)) (za_ rfl)) rfl (by decide) rfl rfl))) zI_ (za_ rfl)) (by decide) (by decide) rfl rfl)) (ao (z4_ (ua_ (zx_ hr) hr.gd) yF_ rfl B.repr (by decide +kernel) (zr_ (ao (zb_ (i:=5) rfl (by first|exact Or.inl rfl|exact Or.inr (Or.inl rfl)|exact Or.inr (Or.inr rfl)))) zI_ (za_ rfl)) (by decide) (by decide) rfl rfl)) rfl))
  (zq_ (ud_ (zH_ J4_)))
  u5_)))))))))) (fun _=>rfl))
  (zq_ (ud_ (zH_ J4_))))))
 (fun ds hl=>match ds,hl with | [p_law_script],_=>by kernel_rfl)
theorem XO_ {f:Addr} {fd:FuncData} (Fn:Fun K "law" "law" u9_ f fd) (hmg:mg "law" = some (.ref f)) (B:BN mg) (Kn:KN mg) (C__law_feed:CF P w K mg base "_law_feed" 1 (spL K 2 jg_)) (C__law_rules:CF P w K mg base "_law_rules" 1 (spD K 2 z9_)) (C_rules_of:CF P w K mg base "rules_of" 3 (spL K 2 jx_)) (C__law_draw:CF P w K mg base "_law_draw" 1 (sp1 K 2 jh_)):CF P w K mg base "law" 4 (spD K 1 Zh_) :=
 ⟨f,fd,["_law_script"],Qq_ Fn B Kn C__law_feed C__law_rules C_rules_of C__law_draw,hmg,Fn.kp,(Fn.binds fun _ _ _ _ _ _ us hl=>match us,hl with | [_],_=>rfl)⟩
end
end
end K44
set_option Elab.async false
set_option linter.all false
set_option maxRecDepth 100000
namespace L4
open PySem PySem.Spec PyProof.Rows L2 L3
theorem bdR {S T:Type} (s:S) (k:S→M T):bd (.ret s) k=k s:=id rfl
theorem oMS {S:Type} (s:S):oM (some s)=.ret s:=id rfl
theorem UR_ {S T:Type} {step:T→D→(T→M S)→M S} {R:M S} {P:Nat→T→Prop}:∀ (ds:List D) (i:Nat) (s:T) (k:T→M S),
  (∀ (j:Nat) (s:T) (d:D),d∈ds→i≤j→j<i+ds.length→P j s→∀ kn:T→M S,(∀ s',P (j+1) s'→kn s'=R)→step s d kn=R) →
  P i s→(∀ s',P (i+ds.length) s'→k s'=R)→forC step ds s k=R
 | [],i,s,k,_,hp,hk=>hk s hp
 | d::r,i,s,k,h,hp,hk=>by
  show step s d _=R
  refine h i s d List.mem_cons_self (Nat.le_refl _) (by simp) hp _ fun s' hp'=>?_
  refine UR_ r (i+1) s' k (fun j s d hd hj hl=>h j s d (List.mem_cons_of_mem _ hd) (by omega) (by simp;omega)) hp' fun s' hs=>hk s' ?_
  have:i+(d::r).length=i+1+r.length:=by simp;omega
  rw [this];exact hs
theorem Vk_ {S T:Type} {step:T→D→(T→M S)→M S} {R:M S} {P:Nat→T→Prop} (ds:List D) (i:Nat) (s:T) (k:T→M S)
  (h:∀ (j:Nat) (s:T) (d:D),d∈ds→i≤j→j<i+ds.length→P j s→∀ kn:T→M S,(∀ s',P (j+1) s'→kn s'=R)→step s d kn=R)
  (hp:P i s) (hk:∀ s',P (i+ds.length) s'→k s'=R):forS step ds s k=R:=by
 rw [jc_]
 exact UR_ ds i s k h hp hk
theorem Vl_ {S:Type} {ds:List S} (h:ds.length≤1000):fitM ds=.ret ds:=if_pos (Uz_ h)
theorem Yi_ {α:Type} (xs:List α) (i:Nat) (h:i<xs.length):atI xs (i:Int)=some (xs[i]'h):=by
 unfold atI ixN
 rw [if_pos (Int.natCast_nonneg _),if_pos (by omega)]
 simp [h]
theorem WP_ {α:Type} (xs:List α) (i:Int) (h0:0≤i) (h:i<xs.length):∃ x∈xs,atI xs i=some x:=by
 obtain ⟨n,rfl⟩:=Int.eq_ofNat_of_zero_le h0
 exact ⟨_,List.getElem_mem _,Yi_ xs n (by omega)⟩
def yd_ (s:Str):Bool:=PyData.strOk s&&decide ((reprText s).length≤24)&&PyData.strOk (reprText s)
def Ok (k:Nat):Nat→D→Prop
 | 0,_=>False
 | _+1,.none=>True
 | _+1,.bool _=>True
 | _+1,.int i=>i.natAbs<10^(16+k)
 | _+1,.str s=>yd_ s=true
 | n+1,.list ds=>ds.length≤6+k∧∀ d∈ds,Ok k n d
 | n+1,.tuple ds=>ds.length≤6+k∧∀ d∈ds,Ok k n d
 | _+1,.dict _=>False
theorem Jq_ {n:Nat}:∀ {ds:List D},(∀ d∈ds,d.depth≤n)→PyData.depthAll ds≤n
 | [],_=>by simp [PyData.depthAll]
 | d::r,h=>by
  simp only [PyData.depthAll]
  exact Nat.max_le.mpr ⟨h d List.mem_cons_self,Jq_ fun e he=>h e (List.mem_cons_of_mem _ he)⟩
theorem Wo_ {m:Nat} (h:m<10^36):m.log2<1920:=by
 by_cases h0:m=0
 ·subst h0;decide
 ·exact (Nat.log2_lt h0).mpr (Nat.lt_of_lt_of_le h (by decide +kernel))
theorem strOk_iff {s:Str}:PyData.strOk s=true↔∀ c∈s.cps.toList,c<1114112:=by
 unfold PyData.strOk
 rw [←Array.all_toList,List.all_eq_true]
 simp
theorem zS_ (s:String):PyData.strOk (Str.ofString s)=true:=by
 rw [strOk_iff,signs_ofString]
 intro c hc
 obtain ⟨ch,_,rfl⟩:=List.mem_map.mp hc
 have:=ch.valid
 have e:ch.toNat=ch.val.toNat:=rfl
 rw [e]
 rcases this with h|⟨_,h⟩
 ·have h':ch.val.toNat<0xd800:=h
  omega
 ·have h':ch.val.toNat<0x110000:=h
  omega
theorem j0_ {a b:Str} (ha:PyData.strOk a=true) (hb:PyData.strOk b=true):PyData.strOk (a++b)=true:=by
 rw [strOk_iff] at *
 intro c hc
 rcases mem_cps_append.mp hc with h|h
 ·exact ha c h
 ·exact hb c h
theorem ye_ {sep:Str} {ts:List Str} (hs:PyData.strOk sep=true) (h:∀ t∈ts,PyData.strOk t=true):PyData.strOk (Str.join sep ts)=true:=by
 rw [strOk_iff] at *
 intro c hc
 rcases (mem_join sep c ts).mp hc with ⟨t,ht,hc⟩|⟨_,hc⟩
 ·exact strOk_iff.mp (h t ht) c hc
 ·exact hs c hc
theorem UK_ {ts:List Str}:(Str.join ", " ts).length≤piled ts:=by
 by_cases h:ts=[]
 ·subst h;exact Nat.zero_le _
 ·have:=join_length_add ts h;omega
def lim:Nat→Nat
 | 0=>24
 | n+1=>4+9*(lim n+2)
end L4
set_option Elab.async false
set_option linter.all false
set_option maxRecDepth 100000
namespace L4
open PySem PySem.Spec PyProof.Rows L2 L3
theorem eqI (a b:Int):opEq (.int a) (.int b)=some (a==b):=by
 unfold opEq eqOk
 simp [PyData.canLay0,PyData.depth,PyData.eqv]
theorem gtI (a b:Int):opGt (.int a) (.int b)=some (decide (b<a)):=id rfl
theorem geI (a b:Int):opGe (.int a) (.int b)=some (decide (b≤a)):=id rfl
theorem addI (a b:Int):jk_ (.int a) (.int b)=some (.int (a+b)):=id rfl
theorem modI (i j:Int) (h:0<j):uO_ (.int i) (.int j)=some (.int (i % j)):=if_pos h
theorem divI (i j:Int) (h:0<j) (h2:j<1073741824):ya_ (.int i) (.int j)=some (.int (i / j)):=if_pos (by simp [h,h2])
theorem mulL (i j:Int) (h : -(2^64)<i) (h2:i<2^64):jn_ (.int i) (.int j)=some (.int (i*j)):=if_pos (by simp only [YM_,Bool.or_eq_true,Bool.and_eq_true,decide_eq_true_eq];exact .inl ⟨h,h2⟩)
theorem mulR (i j:Int) (h : -(2^64)<j) (h2:j<2^64):jn_ (.int i) (.int j)=some (.int (i*j)):=if_pos (by simp only [YM_,Bool.or_eq_true,Bool.and_eq_true,decide_eq_true_eq];exact .inr ⟨h,h2⟩)
theorem lenL (ds:List D):fLen [.list ds]=some (.int ds.length):=id rfl
theorem seqT (ds:List D):seqD (.tuple ds)=some ds:=id rfl
theorem seqL (ds:List D):seqD (.list ds)=some ds:=id rfl
theorem tupL (ds:List D):yr_ [.list ds]=some (.tuple ds):=id rfl
theorem tupT (ds:List D):yr_ [.tuple ds]=some (.tuple ds):=id rfl
theorem cutT (ds:List D) (lo hi:Option Int):fCut (.tuple ds) lo hi=some (.tuple (L4.cutD ds lo hi)):=id rfl
theorem XY_ (ds:List D) (lo hi:Option Int):fCut (.list ds) lo hi=some (.list (L4.cutD ds lo hi)):=id rfl
theorem ix3_0 (a b c:D):opIx (.list [a,b,c]) (.int 0)=some a:=id rfl
theorem ix3_1 (a b c:D):opIx (.list [a,b,c]) (.int 1)=some b:=id rfl
theorem ix3_2 (a b c:D):opIx (.list [a,b,c]) (.int 2)=some c:=id rfl
theorem put3_2 (a b c d:D):putD [a,b,c] (.int 2) d=some [a,b,d]:=id rfl
theorem Vt_ (n m:Nat):((n:Int)==(m:Int))=decide (n=m):=by
 by_cases h:n=m
 ·simp [h]
 ·simp only [h,decide_false];rw [beq_eq_false_iff_ne];omega
def sW (lo hi:Int):D→Bool
 | .int i=>decide (lo≤i)&&decide (i≤hi)
 | _=>false
def sS (w:Str):D→Bool
 | .str s=>s==w
 | _=>false
def Ey (d:D):Prop:=d.canLay0=true∧d.depth≤1000
end L4
set_option Elab.async false
set_option linter.all false
set_option maxRecDepth 100000
namespace L4
open PySem PySem.Spec PyProof.Rows L2 L3
theorem Js_ {ι:Type} {step:D→M (Option D)} {e:ι→D} {g:ι→Option D}:∀ (is:List ι),(∀ i∈is,step (e i)=.ret (g i))→jm_ step (is.map e)=.ret (is.filterMap g)
 | [],_=>rfl
 | i::r,h=>by
  rw [List.map_cons,jm_,h i List.mem_cons_self,Js_ r fun d hd=>h d (List.mem_cons_of_mem _ hd)]
  cases q:g i<;>simp [jX_,bdR,List.filterMap_cons,q]
abbrev iN (n:Nat):D:=.int (n:Int)
def rng (lo hi:Nat):List Nat:=(List.range (hi - lo)).map (lo + ·)
theorem JI_ (lo n:Nat):jD_ (lo:Int) n=((List.range n).map (lo + ·)).map iN:=by
 unfold jD_
 rw [List.map_map]
 apply List.map_congr_left
 intro a _
 show PyData.int _=PyData.int _
 congr 1
theorem Ub_ {n:Nat} (h:n≤100000):uJ_ (n:Int)=true:=by
 unfold uJ_
 simp only [Bool.and_eq_true,decide_eq_true_eq]
 omega
theorem Ui_ (n:Nat) (h:n≤100000):z1_ [.int (n:Int)]=some ((List.range n).map iN):=by
 unfold z1_
 simp only [Ub_ h,if_true]
 have:=JI_ 0 n
 simp only [Int.toNat_natCast]
 rw [show (0:Int)=((0:Nat):Int) from rfl,this]
 simp
mutual
def sz:D→Nat
 | .list ds=>1+szs ds
 | .tuple ds=>1+szs ds
 | .none=>1
 | .bool _=>1
 | .int _=>1
 | .str _=>1
 | .dict _=>1
def szs:List D→Nat
 | []=>0
 | d::r=>sz d+szs r
end
mutual
def Sm:D→Prop
 | .list ds=>Sms ds
 | .tuple ds=>Sms ds
 | .none=>True
 | .bool _=>True
 | .int i=>i.natAbs<10^19
 | .str s=>yd_ s=true
 | .dict _=>False
def Sms:List D→Prop
 | []=>True
 | d::r=>Sm d∧Sms r
end
theorem Yn_:∀ {ds:List D},(∀ d∈ds,Sm d)→Sms ds
 | [],_=>by simp [Sms]
 | e::r,h=>by
  simp only [Sms]
  exact ⟨h e List.mem_cons_self,Yn_ fun d hd=>h d (List.mem_cons_of_mem _ hd)⟩
theorem Qc_ {B:Nat}:∀ {ds:List D},(∀ d∈ds,sz d≤B)→szs ds≤ds.length*B
 | [],_=>by simp [szs]
 | e::r,h=>by
  simp only [szs,List.length_cons,Nat.succ_mul]
  have h1:=h e List.mem_cons_self
  have h2:=Qc_ (ds:=r) fun d hd=>h d (List.mem_cons_of_mem _ hd)
  omega
mutual
theorem Sm.lay:∀ {d:D},Sm d→d.canLay0=true
 | .none,h=>by simp [PyData.canLay0]
 | .bool _,h=>by simp [PyData.canLay0]
 | .int _,h=>by simp [PyData.canLay0]
 | .str s,h=>by
  have h':yd_ s=true:=by simpa [Sm] using h
  unfold yd_ at h'
  simp only [Bool.and_eq_true] at h'
  simp [PyData.canLay0,h'.1.1]
 | .list ds,h=>by simp only [PyData.canLay0];exact Sms.lay (by simpa [Sm] using h)
 | .tuple ds,h=>by simp only [PyData.canLay0];exact Sms.lay (by simpa [Sm] using h)
 | .dict _,h=>by simp [Sm] at h
theorem Sms.lay:∀ {ds:List D},Sms ds→PyData.canLayAll0 ds=true
 | [],_=>by simp [PyData.canLayAll0]
 | d::r,h=>by
  simp only [Sms] at h
  simp only [PyData.canLayAll0,Bool.and_eq_true]
  exact ⟨Sm.lay h.1,Sms.lay h.2⟩
end
mutual
theorem Sm.show:∀ {d:D},Sm d→d.showable=true
 | .none,h=>by simp [PyData.showable]
 | .bool _,h=>by simp [PyData.showable]
 | .int i,h=>by
  have h':i.natAbs<10^19:=by simpa [Sm] using h
  simp only [PyData.showable,decide_eq_true_eq]
  exact Wo_ (Nat.lt_of_lt_of_le h' (Nat.pow_le_pow_right (by decide) (by decide)))
 | .str s,h=>by simp [PyData.showable]
 | .list ds,h=>by simp only [PyData.showable];exact Sms.show (by simpa [Sm] using h)
 | .tuple ds,h=>by simp only [PyData.showable];exact Sms.show (by simpa [Sm] using h)
 | .dict _,h=>by simp [Sm] at h
theorem Sms.show:∀ {ds:List D},Sms ds→PyData.showableAll ds=true
 | [],_=>by simp [PyData.showableAll]
 | d::r,h=>by
  simp only [Sms] at h
  simp only [PyData.showableAll,Bool.and_eq_true]
  exact ⟨Sm.show h.1,Sms.show h.2⟩
end
mutual
theorem Sm.text:∀ {d:D},Sm d→d.shown.length+2≤30*sz d∧PyData.strOk d.shown=true
 | .none,h=>by refine ⟨?_,by simp only [PyData.shown];exact zS_ _⟩;simp only [PyData.shown,sz];decide
 | .bool b,h=>by
  refine ⟨?_,by cases b<;>simp only [PyData.shown]<;>exact zS_ _⟩
  cases b<;>simp only [PyData.shown,sz]<;>decide
 | .int i,h=>by
  have h':i.natAbs<10^19:=by simpa [Sm] using h
  refine ⟨?_,by simp only [PyData.shown];exact zS_ _⟩
  simp only [PyData.shown,sz]
  have h1:=int_text_length_le10 (a:=i) (k:=19) (by decide) h'
  have h2:(Str.ofString (toString i)).length=(toString i).length:=by
   show (Str.ofString (toString i)).cps.size=_
   rw [←Array.length_toList,signs_ofString,List.length_map,String.length_toList]
  omega
 | .str s,h=>by
  have h':yd_ s=true:=by simpa [Sm] using h
  unfold yd_ at h'
  simp only [Bool.and_eq_true,decide_eq_true_eq] at h'
  simp only [PyData.shown,sz]
  exact ⟨by omega,h'.2⟩
 | .list ds,h=>by
  obtain ⟨h1,h2⟩:=Sms.text (ds:=ds) (by simpa [Sm] using h)
  have h5:(Str.join ", " (PyData.shownAll ds)).length≤piled (PyData.shownAll ds):=UK_
  have h6:PyData.strOk (Str.join ", " (PyData.shownAll ds))=true:=ye_ (zS_ _) h2
  simp only [PyData.shown,listText_eq_join,sz]
  refine ⟨?_,j0_ (j0_ (zS_ _) h6) (zS_ _)⟩
  rw [strLen_append,strLen_append]
  have e1:((("[" : String):Str)).length=1:=rfl
  have e2:((("]" : String):Str)).length=1:=rfl
  rw [e1,e2];omega
 | .tuple ds,h=>by
  obtain ⟨h1,h2⟩:=Sms.text (ds:=ds) (by simpa [Sm] using h)
  have h5:(Str.join ", " (PyData.shownAll ds)).length≤piled (PyData.shownAll ds):=UK_
  have h6:PyData.strOk (Str.join ", " (PyData.shownAll ds))=true:=ye_ (zS_ _) h2
  simp only [PyData.shown,tupleText,sz]
  refine ⟨?_,j0_ (j0_ (zS_ _) h6) (zS_ _)⟩
  rw [strLen_append,strLen_append]
  have e1:((("(" : String):Str)).length=1:=rfl
  have e3:(((if (PyData.shownAll ds).length==1 then ",)" else ")" : String):Str)).length≤2:=by split<;>decide
  rw [e1];omega
 | .dict _,h=>by simp [Sm] at h
theorem Sms.text:∀ {ds:List D},Sms ds→piled (PyData.shownAll ds)≤30*szs ds∧∀ t∈PyData.shownAll ds,PyData.strOk t=true
 | [],_=>by simp [PyData.shownAll,piled,szs]
 | d::r,h=>by
  simp only [Sms] at h
  obtain ⟨h1,h2⟩:=Sm.text h.1
  obtain ⟨h3,h4⟩:=Sms.text h.2
  simp only [PyData.shownAll,szs]
  refine ⟨?_,fun t ht=>?_⟩
  ·rw [piled_cons];omega
  ·rcases List.mem_cons.mp ht with rfl|ht
   ·exact h2
   ·exact h4 t ht
end
theorem Xa_ {d:D} (h:Sm d) (hs:sz d≤30000) (hd:d.depth≤60):Zs_ [d]=some (.str d.shown):=by
 obtain ⟨t1,t2⟩:=h.text
 show (if y8_ d then some (PyData.str d.shown) else none)=_
 unfold y8_
 rw [if_pos]
 simp only [Bool.and_eq_true,decide_eq_true_eq]
 exact ⟨⟨⟨h.show,h.lay⟩,by omega⟩,Nat.le_trans (show d.shown.length≤1000000 by omega) (by decide)⟩
theorem Wi_ {d:D} (h:Sm d):opNe (.str d.shown) (.str d.shown)=some false:=by
 obtain ⟨t1,t2⟩:=h.text
 unfold opNe eqOk
 rw [if_pos]
 ·simp [PyData.eqv]
 ·simp [PyData.canLay0,t2,PyData.depth]
end L4
set_option Elab.async false
set_option linter.all false
set_option maxRecDepth 100000
namespace L4
open PySem PySem.Spec PyProof.Rows L2 L3
theorem XA_ (ds:List D) (k:D):jb_ (.list ds) k=opIx (.list ds) k:=id rfl
theorem XV_ (d:D) (ds:List D):Wb_ d (.list ds)=opIn d (.list ds):=id rfl
theorem XU_ (d:D) (ds:List D):Wb_ d (.tuple ds)=opIn d (.tuple ds):=id rfl
abbrev pD (p:Nat×Nat):D:=.tuple [iN p.1,iN p.2]
theorem Xs_ (a b:Nat):((a:Int)==(b:Int))=decide (a=b):=Vt_ a b
theorem eqN (a b:Nat):opEq (iN a) (iN b)=some (decide (a=b)):=by
 show opEq (.int a) (.int b)=_
 rw [eqI,Xs_]
theorem addN (a b:Nat):jk_ (iN a) (iN b)=some (iN (a+b)):=by
 show some (PyData.int ((a:Int)+(b:Int)))=_
 rw [←Int.natCast_add]
abbrev Mt:=Nat×Nat×Nat×Nat
abbrev mD (m:Mt):D:=.tuple [iN m.1,iN m.2.1,iN m.2.2.1,iN m.2.2.2]
structure Rl where
 n:Nat
 st:List Nat
 ms:List Mt
 sy:List Bool
abbrev Rl.d (r:Rl):D:=.tuple [iN r.n,.tuple (r.st.map iN),.tuple (r.ms.map mD),.tuple (r.sy.map PyData.bool)]
def plt (p q:Nat×Nat):Prop:=p.1<q.1∨p.1=q.1∧p.2<q.2
structure MtOk (n:Nat) (m:Mt):Prop where
 ab:m.1≤m.2.1
 b:m.2.1<n
 c:m.2.2.1<n
 d:m.2.2.2<n
 ne:m.2.2≠(m.1,m.2.1)
 ne':m.2.2≠(m.2.1,m.1)
structure Wf (r:Rl):Prop where
 n1:1≤r.n
 st:∀ s∈r.st,s<r.n
 sy:r.sy.length=r.n
 ms:∀ m∈r.ms,MtOk r.n m
 so:r.ms.Pairwise fun m m'=>plt (m.1,m.2.1) (m'.1,m'.2.1)
def look (ms:List Mt) (p:Nat×Nat):Option (Nat×Nat):=(ms.find? fun m=>decide (m.1=p.1)&&decide (m.2.1=p.2)).map (·.2.2)
def turn (ms:List Mt) (i j:Nat):Nat×Nat:=if i≤j then (look ms (i,j)).getD (i,j) else let t:=(look ms (j,i)).getD (j,i);(t.2,t.1)
end L4
set_option Elab.async false
set_option linter.all false
set_option maxRecDepth 100000
namespace L4
open PySem PySem.Spec PyProof.Rows L2 L3
abbrev kvM (m:Mt):D×D:=(pD (m.1,m.2.1),pD m.2.2)
theorem WU_ (p:Nat×Nat):uR_ (pD p)=true:=id rfl
theorem WD_ (p:Nat×Nat):j8_ (pD p)=false:=id rfl
structure Ahd (n a b:Nat) (ms:List Mt):Prop where
 ok:∀ m∈ms,MtOk n m
 so:ms.Pairwise fun m m'=>plt (m.1,m.2.1) (m'.1,m'.2.1)
 ah:∀ m∈ms,plt (m.1,m.2.1) (a,b)
 le:ms.length≤a*n+b
end L4
set_option Elab.async false
set_option linter.all false
set_option maxRecDepth 100000
namespace L4
open PySem PySem.Spec PyProof.Rows L2 L3
def tab (n:Nat) (f:Nat→Nat):List Nat:=(List.range n).map f
abbrev tabD (n:Nat) (f:Nat→Nat):List D:=(tab n f).map iN
def up (f:Nat→Nat) (i v:Nat):Nat→Nat:=fun r=>if r=i then v else f r
theorem W4_ (a:Nat) (h:1≤a):yE_ (iN a) (.int 1)=some (iN (a - 1)):=by
 show some (PyData.int ((a:Int) - 1))=some (PyData.int ((a - 1:Nat):Int))
 congr 2
 omega
def cnt (hs:List Nat) (r:Nat):Nat:=hs.count r
def canB (f:Nat→Nat) (m:Mt):Bool:=let w:=if m.1=m.2.1 then 2 else 1;decide (w≤f m.1)&&decide (w≤f m.2.1)
def ledF (f:Nat→Nat) (m:Mt):Nat→Nat :=
 let f1:=up f m.1 (f m.1 - 1)
 let f2:=up f1 m.2.1 (f1 m.2.1 - 1)
 let f3:=up f2 m.2.2.1 (f2 m.2.2.1+1)
 up f3 m.2.2.2 (f3 m.2.2.2+1)
end L4
set_option Elab.async false
set_option linter.all false
set_option maxRecDepth 100000
namespace L4
open PySem PySem.Spec PyProof.Rows L2 L3
def XQ_ (bs:List Bool):D:=if bs.all id then .str "yes" else if bs.any id then .str "both" else .str "no"
end L4
set_option Elab.async false
set_option linter.all false
set_option maxRecDepth 100000
namespace L4
open PySem PySem.Spec PyProof.Rows L2 L3
def XM_ (l:List (Nat×Nat)):List Nat:=l.flatMap fun p=>List.replicate p.2 p.1
def XZ_ (f:Nat→Nat) (ms:List Mt):List Nat:=(ms.zipIdx.filter fun p=>canB f p.1).map (·.2)
def XT_ (r:Rl) (hs:List Nat) (i j:Nat):List Nat:=(hs.set i (turn r.ms (hs.getD i 0) (hs.getD j 0)).1).set j (turn r.ms (hs.getD i 0) (hs.getD j 0)).2
def cdOf (r q:Rl) (i j:Nat):Nat×Nat:=((turn r.ms (i / q.n) (j / q.n)).1*q.n+(turn q.ms (i % q.n) (j % q.n)).1,(turn r.ms (i / q.n) (j / q.n)).2*q.n+(turn q.ms (i % q.n) (j % q.n)).2)
def cell (r q:Rl) (i j:Nat):List Mt:=if cdOf r q i j=(i,j) then [] else [(i,j,cdOf r q i j)]
def W9_ (r q:Rl) (i:Nat):List Mt:=(rng i (r.n*q.n)).flatMap (cell r q i)
def VC_ (r q:Rl):List Mt:=(List.range (r.n*q.n)).flatMap (W9_ r q)
structure Two (r q:Rl):Prop where
 wr:Wf r
 wq:Wf q
 rn:r.n≤40
 qn:q.n≤40
 R:r.n*q.n≤40
 st:r.st.length=q.st.length
 s4:q.st.length≤4
def W6_ (both a b:Bool):Bool:=if both then a&&b else a||b
def VD_ (r q:Rl) (both:Bool) (p:Nat):Bool:=W6_ both (r.sy.getD (p / q.n) false) (q.sy.getD (p % q.n) false)
def Yv_ (r q:Rl):List Nat:=(List.range r.st.length).map fun k=>r.st.getD k 0*q.n+q.st.getD k 0
def side (r q:Rl) (both:Bool):Rl:=⟨r.n*q.n,Yv_ r q,VC_ r q,(List.range (r.n*q.n)).map (VD_ r q both)⟩
def XP_ (both:Bool):D:=if both then .str "both" else .str "either"
end L4
set_option Elab.async false
set_option linter.all false
set_option maxRecDepth 100000
namespace K44
open PySem PySem.Spec PyProof.Rows L2 L3 L4
def Fe (T:Nat) (f:List D):Prop:=∃ a b t:Int,f=[.int a,.int b,.int t]∧0≤t∧t≤T
theorem Fe.le {T T':Nat} {f:List D} (h:Fe T f) (hl:T≤T'):Fe T' f:=by
 obtain ⟨a,b,t,e,h0,h1⟩:=h
 exact ⟨a,b,t,e,h0,by omega⟩
theorem VR_ (a b c d:D):putD [a,b,c] (.int 1) d=some [a,d,c]:=rfl
theorem Y4_ {T:Nat} {f:List D} {m:Int} (h:Fe T f) (hT:T≤1000000) (hm:0<m) (hm2:m<1073741824) :
  ∃ (r:Int) (f':List D),zG_ f (.int m)=.ret (.int r,f')∧0≤r∧r<m∧Fe (T+1) f':=by
 obtain ⟨a,b,t,rfl,h0,h1⟩:=h
 unfold zG_
 simp only [XA_]
 rw [L4.ix3_2,oMS,bdR,L4.addI,oMS,bdR,L4.put3_2,oMS,bdR,L4.ix3_1,oMS,bdR,L4.gtI,oMS,bdR]
 by_cases hb:0<b
 ·rw [if_pos (by simp [hb]),L4.divI _ _ hm hm2,oMS,bdR,VR_,oMS,bdR,L4.modI _ _ hm,oMS,bdR]
  exact ⟨_,_,rfl,Int.emod_nonneg _ (by omega),Int.emod_lt_of_pos _ hm,_,_,_,rfl,by omega,by omega⟩
 ·have g1:=Int.emod_nonneg a (b:=(2147483647:Int)) (by decide)
  have g2:=Int.emod_lt_of_pos a (b:=(2147483647:Int)) (by decide)
  rw [if_neg (by simp [hb]),L4.ix3_0,oMS,bdR,L4.modI _ _ (by decide),oMS,bdR,L4.mulL 31 _ (by decide) (by decide),oMS,bdR,L4.mulR _ t (by omega) (by omega),oMS,bdR,L4.addI,oMS,bdR,L4.addI,oMS,bdR,L4.mulL 40 _ (by decide) (by decide),oMS,bdR,L4.addI,oMS,bdR,L4.mulR _ _ (by omega) (by omega),oMS,bdR,L4.modI _ _ (by decide),oMS,bdR,L4.divI _ _ (by decide) (by decide),oMS,bdR,L4.mulR _ _ (by decide) (by decide),oMS,bdR,L4.addI,oMS,bdR,L4.modI _ _ (by decide),oMS,bdR,L4.divI _ _ (by decide) (by decide),oMS,bdR,L4.modI _ _ hm,oMS,bdR]
  exact ⟨_,_,rfl,Int.emod_nonneg _ (by omega),Int.emod_lt_of_pos _ hm,_,_,_,rfl,by omega,by omega⟩
theorem U0_ {T:Nat} {f:List D} {m:Nat} (h:Fe T f) (hT:T≤1000000) (hm:0<m) (hm2:m≤1000000000) :
  ∃ (r:Nat) (f':List D),zG_ f (.int (m:Int))=.ret (iN r,f')∧r<m∧Fe (T+1) f':=by
 obtain ⟨r,f',e,h1,h2,h3⟩:=Y4_ h hT (m:=(m:Int)) (by omega) (by omega)
 obtain ⟨n,rfl⟩:=Int.eq_ofNat_of_zero_le h1
 exact ⟨n,f',e,by omega,h3⟩
theorem UU_ (c:Int):∃ f,z3_ (.int c)=.ret f∧Fe 0 f:=by
 unfold z3_
 have e1:YZ_ [.int 0,.int c]=some (.int (if 0<c then c else 0)):=by
  rfl
 have ep:YJ_ (.int 10) (.int 18)=some (.int 1000000000000000000):=id rfl
 rw [e1,oMS,bdR,ep,oMS,bdR,geI,oMS,bdR,bdR]
 have ei:∀ p:Bool,fInt [.bool p]=some (.int (if p then 1 else 0)):=fun p=>rfl
 rw [ei,oMS,bdR,L4.mulR _ _ (by split<;>decide) (by split<;>decide),oMS,bdR,bdR]
 exact ⟨_,rfl,_,_,_,rfl,by omega,by omega⟩
theorem Vm_ (ns:List Int) (k:Nat) (hk:k≤1000) (hn:ns.length≤63):∃ f,jd_ (.list (ns.map PyData.int)) (.int (k:Int))=.ret f∧Fe 0 f:=by
 unfold jd_
 have el:fLen [.list (ns.map PyData.int)]=some (.int (ns.length:Int)):=by rw [L4.lenL,List.length_map]
 rw [L4.mulL 31 _ (by decide) (by decide),oMS,bdR,el,oMS,bdR,gtI,oMS,bdR]
 by_cases h:(0:Int)<(ns.length:Int)
 ·rw [if_pos (by simpa using h)]
  have m0:=Int.emod_nonneg (k:Int) (b:=(ns.length:Int)) (by omega)
  have m1:=Int.emod_lt_of_pos (k:Int) h
  obtain ⟨x,hx,ex⟩:=WP_ (ns.map PyData.int) ((k:Int) % (ns.length:Int)) m0 (by rw [List.length_map];exact m1)
  obtain ⟨n,_,rfl⟩:=List.mem_map.mp hx
  have ix:jb_ (.list (ns.map PyData.int)) (.int ((k:Int) % (ns.length:Int)))=some (.int n):=ex
  rw [bdR,L4.modI _ _ h,oMS,bdR,ix,oMS,bdR,bdR,L4.divI _ _ h (by omega),oMS,bdR,L4.mulL 7919 _ (by decide) (by decide),oMS,bdR,L4.addI,oMS,bdR]
  exact UU_ _
 ·rw [if_neg (by simpa using h)]
  exact UU_ _
end K44
set_option Elab.async false
set_option linter.all false
set_option maxRecDepth 100000
namespace K44
open PySem PySem.Spec PyProof.Rows L2 L3 L4
def stN (s r n:Nat):List Nat:=(List.range s).map fun k=>n / 4 / (if k=0 then 1 else r) % r
def syN (r n:Nat):List Bool:=(List.range r).map fun k=>n / (if k=0 then 1 else 2) % 2==1
def rowD (r:Nat) (st:List Nat) (m:D) (sy:List Bool):D:=.tuple [iN r,.tuple (st.map iN),m,.tuple (sy.map PyData.bool)]
def prs (r:Nat):List (Nat×Nat):=if r=1 then [(0,0)] else [(0,0),(0,1),(1,1)]
def grow (ps:List (Nat×Nat)) (p:Nat×Nat) (told:List (List (Nat×Nat×Nat×Nat))):List (List (Nat×Nat×Nat×Nat)):=told++told.flatMap fun m=>(ps.filter fun t=>t≠p).map fun t=>m++[(p.1,p.2,t.1,t.2)]
def mts (r:Nat):List (List (Nat×Nat×Nat×Nat)):=(prs r).foldl (fun told p=>grow (prs r) p told) [[]]
def mtD (m:List (Nat×Nat×Nat×Nat)):D:=.tuple (m.map mD)
def starts (s r:Nat):List (List Nat):=if r=1 then [List.replicate s 0] else if s=1 then [[0],[1]] else [[0,0],[0,1],[1,0],[1,1]]
def says (r:Nat):List (List Bool):=if r=1 then [[false],[true]] else [[false,false],[false,true],[true,false],[true,true]]
def Xl (s r:Nat):List D:=(List.range 64).flatMap fun n=>(mts r).map fun m=>rowD r (stN s r n) (mtD m) (syN r n)
def Yl (s r:Nat):List D:=(starts s r).flatMap fun st=>(mts r).flatMap fun m=>(says r).map fun sy=>rowD r st (mtD m) sy
theorem ro (x y:D):z2_ x y=bd (oM (z1_ [y])) fun l1=>forC (fun s12 d13 kn=>bd (oM (seqD s12.2.1)) fun l3=>forC (fun s10 d11 kn4=>jQ_ kn s10.1 s10.2.1 d11 kn4) l3 (s12.1,[],()) (fun s10=>jS_ kn s10.1 s10.2.1)) l1 (x,(PyData.list [(.tuple [])]),()) (fun s12=>jT_ s12.1 s12.2.1):=by
 unfold z2_ jR_
 simp only [jc_]
theorem QO_:zo_ (iN 1) (iN 1)=zz_ (iN 1) (Yl 1 1):=by
 unfold zo_ zV_ zU_ zQ_ zD_
 simp only [jc_,ro]
 kernel_rfl
theorem QM_:zo_ (iN 2) (iN 1)=zz_ (iN 1) (Yl 2 1):=by
 unfold zo_ zV_ zU_ zQ_ zD_
 simp only [jc_,ro]
 kernel_rfl
theorem QN_:zo_ (iN 1) (iN 2)=zz_ (iN 2) (Yl 1 2):=by
 unfold zo_ zV_ zU_ zQ_ zD_
 simp only [jc_,ro]
 kernel_rfl
theorem QL_:zo_ (iN 2) (iN 2)=zz_ (iN 2) (Yl 2 2):=by
 unfold zo_ zV_ zU_ zQ_ zD_
 simp only [jc_,ro]
 kernel_rfl
theorem Xw_:zk_ (iN 1) (iN 1)=zp_ (iN 1) (iN 1) (.list ((mts 1).map mtD)) (Xl 1 1):=by
 unfold zk_ zE_ zF_
 simp only [jc_]
 kernel_rfl
theorem Xu_:zk_ (iN 2) (iN 1)=zp_ (iN 2) (iN 1) (.list ((mts 1).map mtD)) (Xl 2 1):=by
 unfold zk_ zE_ zF_
 simp only [jc_]
 kernel_rfl
theorem Xv_:zk_ (iN 1) (iN 2)=zp_ (iN 1) (iN 2) (.list ((mts 2).map mtD)) (Xl 1 2):=by
 unfold zk_ zE_ zF_
 simp only [jc_]
 kernel_rfl
theorem Xt_:zk_ (iN 2) (iN 2)=zp_ (iN 2) (iN 2) (.list ((mts 2).map mtD)) (Xl 2 2):=by
 unfold zk_ zE_ zF_
 simp only [jc_]
 kernel_rfl
end K44
set_option Elab.async false
set_option linter.all false
set_option maxRecDepth 100000
namespace K44
open PySem PySem.Spec PyProof.Rows L2 L3 L4
def smI:D→Bool
 | .int i=>decide (0≤i)&&decide (i≤9)
 | _=>false
def smB:D→Bool
 | .bool _=>true
 | _=>false
def smT (p:D→Bool):D→Bool
 | .tuple xs=>xs.all p
 | _=>false
def y7_ (d:D):Bool:=(match d with
 | .tuple [a,b,c,e]=>smI a&&smT smI b&&smT (smT smI) c&&smT smB e
 | _=>false)&&decide (d.depth≤10)&&decide (sz d≤60)
theorem Uc_ {d:D} (h:smI d=true):fits .i d∧Sm d:=by
 cases d<;>first|(cases h;done)|skip
 rename_i i
 have h:(decide (0≤i)&&decide (i≤9))=true:=h
 rw [Bool.and_eq_true,decide_eq_true_eq,decide_eq_true_eq] at h
 exact ⟨⟨i,rfl⟩,show i.natAbs<10^19 by omega⟩
theorem VB_ {d:D} (h:smB d=true):fits .b d∧Sm d:=by
 cases d<;>first|(cases h;done)|skip
 exact ⟨⟨_,rfl⟩,trivial⟩
theorem Z7_ {p:D→Bool} {s:Sh} (hp:∀ x,p x=true→fits s x∧Sm x) {d:D} (h:smT p d=true):fits (.f fun _=>s) d∧Sm d:=by
 cases d<;>first|(cases h;done)|skip
 rename_i xs
 have h:xs.all p=true:=h
 rw [List.all_eq_true] at h
 exact ⟨⟨xs,rfl,fun k x hx=>(hp x (h x (List.mem_of_getElem? hx))).1⟩,Yn_ fun x hx=>(hp x (h x hx)).2⟩
theorem yh_ {d:D} (h:y7_ d=true):fits (.f jf_) d∧d.depth≤10∧(∃ x r,d=.tuple (x::r))∧Sm d∧sz d≤60:=by
 unfold y7_ at h
 rw [Bool.and_eq_true,Bool.and_eq_true,decide_eq_true_eq,decide_eq_true_eq] at h
 obtain ⟨⟨h1,h2⟩,h3⟩:=h
 split at h1
 ·rename_i a b c e
  rw [Bool.and_eq_true,Bool.and_eq_true,Bool.and_eq_true] at h1
  obtain ⟨⟨⟨ha,hb⟩,hc⟩,he⟩:=h1
  have fa:=Uc_ ha
  have fb:=Z7_ (s:=.i) (fun _=>Uc_) hb
  have fc:=Z7_ (s:=.f fun _=>.i) (fun _=>Z7_ fun _=>Uc_) hc
  have fe:=Z7_ (s:=.b) (fun _=>VB_) he
  refine ⟨⟨_,rfl,fun k x hx=>?_⟩,h2,⟨_,_,rfl⟩,⟨fa.2,fb.2,fc.2,fe.2,trivial⟩,h3⟩
  match k,hx with
  | 0,hx=>cases hx;exact fa.1
  | 1,hx=>cases hx;exact fb.1
  | 2,hx=>cases hx;exact fc.1
  | 3,hx=>cases hx;exact fe.1
  | k+4,hx=>simp at hx
 ·cases h1
theorem Wh_ {l:List D} (h:l.all y7_=true):OkN jf_ l:=⟨rfl,fun d hd=>by
 have:=yh_ (List.all_eq_true.mp h d hd)
 exact ⟨this.1,by omega,this.2.2.1⟩⟩
theorem okX {s r:Nat} (hs:s=1∨s=2) (hr:r=1∨r=2):(Xl s r).all y7_=true:=by
 rcases hs with rfl|rfl<;>rcases hr with rfl|rfl<;>decide +kernel
theorem okY {s r:Nat} (hs:s=1∨s=2) (hr:r=1∨r=2):(Yl s r).all y7_=true:=by
 rcases hs with rfl|rfl<;>rcases hr with rfl|rfl<;>decide +kernel
theorem JR_ {a b:List Nat} (h:a.map iN=b.map iN):a=b:=by
 refine List.map_inj_right (f:=iN) (fun x y e=>?_) |>.mp h
 injection e with e
 omega
theorem Zj_ {a b:List Bool} (h:a.map PyData.bool=b.map PyData.bool):a=b :=
 List.map_inj_right (f:=PyData.bool) (fun x y e=>by injection e) |>.mp h
theorem Wl_ {a b:Mt} (h:mD a=mD b):a=b:=by
 obtain ⟨a1,a2,a3,a4⟩:=a
 obtain ⟨b1,b2,b3,b4⟩:=b
 have h:PyData.tuple [iN a1,iN a2,iN a3,iN a4]=.tuple [iN b1,iN b2,iN b3,iN b4]:=h
 simp only [PyData.tuple.injEq,List.cons.injEq,PyData.int.injEq,Int.natCast_inj,and_true] at h
 obtain ⟨rfl,rfl,rfl,rfl⟩:=h
 rfl
theorem Va_ {a b:List Mt} (h:mtD a=mtD b):a=b:=by
 unfold mtD at h
 injection h with h
 exact (List.map_inj_right (f:=mD) fun x y e=>Wl_ e).mp h
theorem ZG_ {r:Nat} {st st':List Nat} {m m':List Mt} {sy sy':List Bool} (h:rowD r st (mtD m) sy=rowD r st' (mtD m') sy'):st=st'∧m=m'∧sy=sy':=by
 unfold rowD at h
 simp only [PyData.tuple.injEq,List.cons.injEq,and_true,true_and] at h
 exact ⟨JR_ h.1,Va_ h.2.1,Zj_ h.2.2⟩
theorem Wj_ {r:Nat} (hr:r=1∨r=2):(mts r).Nodup:=by rcases hr with rfl|rfl<;>decide +kernel
theorem W5_ {s r:Nat} (hs:s=1∨s=2) (hr:r=1∨r=2):(starts s r).Nodup:=by rcases hs with rfl|rfl<;>rcases hr with rfl|rfl<;>decide +kernel
theorem W3_ {r:Nat} (hr:r=1∨r=2):(says r).Nodup:=by rcases hr with rfl|rfl<;>decide +kernel
theorem Y_nd {s r:Nat} (hs:s=1∨s=2) (hr:r=1∨r=2):(Yl s r).Pairwise (· ≠ ·):=by
 unfold Yl
 rw [List.pairwise_flatMap]
 refine ⟨fun st _=>?_,(W5_ hs hr).imp fun {a b} hab x hx y hy e=>?_⟩
 ·rw [List.pairwise_flatMap]
  refine ⟨fun m _=>?_,(Wj_ hr).imp fun {a b} hab x hx y hy e=>?_⟩
  ·rw [List.pairwise_map]
   exact (W3_ hr).imp fun {a b} hab e=>hab (ZG_ e).2.2
  ·obtain ⟨sy,_,rfl⟩:=List.mem_map.mp hx
   obtain ⟨sy',_,rfl⟩:=List.mem_map.mp hy
   exact hab (ZG_ e).2.1
 ·obtain ⟨m,_,hx⟩:=List.mem_flatMap.mp hx
  obtain ⟨sy,_,rfl⟩:=List.mem_map.mp hx
  obtain ⟨m',_,hy⟩:=List.mem_flatMap.mp hy
  obtain ⟨sy',_,rfl⟩:=List.mem_map.mp hy
  exact hab (ZG_ e).1
theorem to_Y {s r:Nat} (hs:s=1∨s=2) (hr:r=1∨r=2):∀ n∈List.range 64,stN s r n∈starts s r∧syN r n∈says r:=by
 rcases hs with rfl|rfl<;>rcases hr with rfl|rfl<;>decide +kernel
theorem to_X {s r:Nat} (hs:s=1∨s=2) (hr:r=1∨r=2):∀ st∈starts s r,∀ sy∈says r,∃ n,n∈List.range 64∧stN s r n=st∧syN r n=sy:=by
 rcases hs with rfl|rfl<;>rcases hr with rfl|rfl<;>decide +kernel
theorem Yy_ {s r:Nat} (hs:s=1∨s=2) (hr:r=1∨r=2) (d:D):d∈Xl s r↔d∈Yl s r:=by
 constructor
 ·intro h
  obtain ⟨n,hn,h⟩:=List.mem_flatMap.mp h
  obtain ⟨m,hm,rfl⟩:=List.mem_map.mp h
  obtain ⟨h1,h2⟩:=to_Y hs hr n hn
  exact List.mem_flatMap.mpr ⟨_,h1,List.mem_flatMap.mpr ⟨m,hm,List.mem_map.mpr ⟨_,h2,rfl⟩⟩⟩
 ·intro h
  obtain ⟨st,hst,h⟩:=List.mem_flatMap.mp h
  obtain ⟨m,hm,h⟩:=List.mem_flatMap.mp h
  obtain ⟨sy,hsy,rfl⟩:=List.mem_map.mp h
  obtain ⟨n,hn,e1,e2⟩:=to_X hs hr st hst sy hsy
  exact List.mem_flatMap.mpr ⟨n,hn,List.mem_map.mpr ⟨m,hm,by rw [e1,e2]⟩⟩
theorem uI_ {R:D→D→Prop} (irr:∀ x,¬R x x) (asy:∀ x y,R x y→¬R y x):∀ {a b:List D},a.Pairwise R→b.Pairwise R→(∀ x,x∈a↔x∈b)→a=b
 | [],[],_,_,_=>rfl
 | [],y::b,_,_,h=>by have:=(h y).mpr List.mem_cons_self;cases this
 | x::a,[],_,_,h=>by have:=(h x).mp List.mem_cons_self;cases this
 | x::a,y::b,ha,hb,h=>by
  rw [List.pairwise_cons] at ha hb
  have e:x=y:=by
   rcases List.mem_cons.mp ((h x).mp List.mem_cons_self) with e|h1
   ·exact e
   ·rcases List.mem_cons.mp ((h y).mpr List.mem_cons_self) with e|h2
    ·exact e.symm
    ·exact (asy _ _ (hb.1 x h1) (ha.1 y h2)).elim
  subst e
  rw [uI_ irr asy ha.2 hb.2 fun z=>?_]
  constructor
  ·intro hz
   rcases List.mem_cons.mp ((h z).mp (List.mem_cons_of_mem _ hz)) with e|h1
   ·subst e;exact (irr _ (ha.1 _ hz)).elim
   ·exact h1
  ·intro hz
   rcases List.mem_cons.mp ((h z).mpr (List.mem_cons_of_mem _ hz)) with e|h1
   ·subst e;exact (irr _ (hb.1 _ hz)).elim
   ·exact h1
def ltN (x y:D):Prop:=HT.lexLt (enc x) (enc y)=true
theorem Wn_ {x y:D} (hx:fits (.f jf_) x) (hy:fits (.f jf_) y) (h:leN x y=true) (ne:x≠y):ltN x y:=by
 unfold ltN
 cases e:HT.lexLt (enc x) (enc y) with
 | true=>rfl
 | false =>
  exfalso
  refine ne (Qm_ hx hy h ?_)
  unfold leN
  rw [e];rfl
theorem UX_:∀ (s:Sh) {x y:D},fits s x→fits s y→(PyData.eqv x y=true↔x=y)
 | .i,x,y,hx,hy=>by
  obtain ⟨a,rfl⟩:=hx
  obtain ⟨b,rfl⟩:=hy
  rw [show PyData.eqv (.int a) (.int b)=(a==b) by simp [PyData.eqv]]
  simp
 | .b,x,y,hx,hy=>by
  obtain ⟨a,rfl⟩:=hx
  obtain ⟨b,rfl⟩:=hy
  rw [show PyData.eqv (.bool a) (.bool b)=(a==b) by simp [PyData.eqv]]
  simp
 | .f g,x,y,hx,hy=>by
  obtain ⟨xs,rfl,hx⟩:=hx
  obtain ⟨ys,rfl,hy⟩:=hy
  rw [show PyData.eqv (.tuple xs) (.tuple ys)=PyData.eqvAll xs ys by simp [PyData.eqv]]
  have go:∀ (xs ys:List D) (k:Nat),(∀ j x,xs[j]? = some x→fits (g (k+j)) x)→(∀ j x,ys[j]? = some x→fits (g (k+j)) x)→(PyData.eqvAll xs ys=true↔xs=ys):=by
   intro xs
   induction xs with
   | nil=>intro ys k hx hy;cases ys<;>simp [PyData.eqvAll]
   | cons x xs ih =>
    intro ys k hx hy
    cases ys with
    | nil=>simp [PyData.eqvAll]
    | cons y ys =>
     have ih':=ih ys (k+1) (fun j z hz=>by have:=hx (j+1) z (by simpa using hz);rwa [show k+(j+1)=k+1+j by omega] at this) (fun j z hz=>by have:=hy (j+1) z (by simpa using hz);rwa [show k+(j+1)=k+1+j by omega] at this)
     have e:=UX_ (g (k+0)) (hx 0 x rfl) (hy 0 y rfl)
     rw [show PyData.eqvAll (x::xs) (y::ys)=(PyData.eqv x y&&PyData.eqvAll xs ys) by simp [PyData.eqvAll],Bool.and_eq_true,e,ih',List.cons.injEq]
  have:=go xs ys 0 (by simpa using hx) (by simpa using hy)
  rw [this]
  simp
def news (l:List D):List D:=(List.range l.length).filterMap fun k=>if (decide (k=0) || !PyData.eqv (l.getD (k - 1) .none) (l.getD k .none))=true then some (l.getD k .none) else none
theorem mem_getD {l:List D} {k:Nat} (h:k<l.length):l.getD k .none∈l:=by
 rw [List.getD_eq_getElem?_getD,List.getElem?_eq_getElem h]
 exact List.getElem_mem _
theorem ZM_ {l:List D} (hf:∀ d∈l,fits (.f jf_) d) (hs:l.Pairwise fun x y=>leN x y=true):(news l).Pairwise ltN:=by
 unfold news
 rw [List.pairwise_filterMap]
 refine List.Pairwise.imp_of_mem (fun {j k} hj hk hjk x hx y hy=>?_) List.pairwise_lt_range
 have hj:=List.mem_range.mp hj
 have hk:=List.mem_range.mp hk
 split at hx
 ·split at hy
  ·rename_i c2
   cases hx;cases hy
   rw [Bool.or_eq_true,decide_eq_true_eq,Bool.not_eq_true'] at c2
   rcases c2 with c2|c2
   ·omega
   have c2:l.getD (k - 1) .none≠l.getD k .none:=fun e=>by
    rw [(UX_ _ (hf _ (mem_getD (by omega))) (hf _ (mem_getD hk))).mpr e] at c2
    cases c2
   have le:∀ a b:Nat,a<b→b<l.length→leN (l.getD a .none) (l.getD b .none)=true:=fun a b hab hb=>by
    have:=List.pairwise_iff_getElem.mp hs a b (by omega) hb hab
    rw [List.getD_eq_getElem?_getD,List.getD_eq_getElem?_getD,List.getElem?_eq_getElem (by omega:a<l.length),List.getElem?_eq_getElem hb]
    exact this
   have l1:=le (k - 1) k (by omega) hk
   have s1:ltN (l.getD (k - 1) .none) (l.getD k .none):=Wn_ (hf _ (mem_getD (by omega))) (hf _ (mem_getD hk)) l1 c2
   by_cases h:j=k - 1
   ·rw [h];exact s1
   ·have l2:=le j (k - 1) (by omega) (by omega)
    unfold ltN at s1 ⊢
    unfold leN at l2
    rw [Bool.not_eq_true'] at l2
    cases e:HT.lexLt (enc (l.getD j .none)) (enc (l.getD (k - 1) .none)) with
    | true=>exact Uv_ e s1
    | false=>rw [Zk_ e l2];exact s1
  ·cases hy
 ·cases hx
theorem YN_ {l:List D} (hf:∀ d∈l,fits (.f jf_) d) (d:D):d∈news l↔d∈l:=by
 unfold news
 rw [List.mem_filterMap]
 constructor
 ·rintro ⟨k,hk,h⟩
  split at h
  ·cases h;exact mem_getD (List.mem_range.mp hk)
  ·cases h
 ·intro h
  have h:∃ j,j<l.length∧l.getD j .none=d:=by
   obtain ⟨j,hj,e⟩:=List.getElem_of_mem h
   exact ⟨j,hj,by rw [List.getD_eq_getElem?_getD,List.getElem?_eq_getElem hj];exact e⟩
  obtain ⟨j,hj,e⟩:=h
  induction j with
  | zero=>exact ⟨0,List.mem_range.mpr hj,by rw [if_pos (by simp),e]⟩
  | succ j ih =>
   cases c:PyData.eqv (l.getD j .none) (l.getD (j+1) .none) with
   | true =>
    have c':=(UX_ _ (hf _ (mem_getD (by omega))) (hf _ (mem_getD hj))).mp c
    exact ih (by omega) (by rw [c',e])
   | false=>exact ⟨j+1,List.mem_range.mpr hj,by rw [if_pos (by rw [show j+1 - 1=j from rfl,c];simp),e]⟩
theorem J1_ {s r:Nat} (hs:s=1∨s=2) (hr:r=1∨r=2):news (zB_ (Xl s r))=zB_ (Yl s r):=by
 have fx:∀ d∈Xl s r,fits (.f jf_) d:=fun d hd=>(yh_ (List.all_eq_true.mp (okX hs hr) d hd)).1
 have fy:∀ d∈Yl s r,fits (.f jf_) d:=fun d hd=>(yh_ (List.all_eq_true.mp (okY hs hr) d hd)).1
 refine uI_ (R:=ltN) (fun x h=>?_) (fun x y h1 h2=>?_) (ZM_ (fun d hd=>fx d ((zi_ _).mem_iff.mp hd)) (jB_ _)) ?_ fun d=>?_
 ·unfold ltN at h;rw [Jl_] at h;cases h
 ·unfold ltN at h1 h2;rw [Wm_ h1] at h2;cases h2
 ·have nd:(zB_ (Yl s r)).Pairwise (· ≠ ·):=((zi_ (Yl s r)).pairwise_iff fun {x y} h=>h.symm).mpr (Y_nd hs hr)
  refine List.Pairwise.imp_of_mem (fun {x y} hx hy h=>Wn_ (fy x ((zi_ _).mem_iff.mp hx)) (fy y ((zi_ _).mem_iff.mp hy)) h.1 h.2) ((jB_ (Yl s r)).and nd)
 ·rw [YN_ (fun d hd=>fx d ((zi_ _).mem_iff.mp hd)),(zi_ _).mem_iff,(zi_ _).mem_iff]
  exact Yy_ hs hr d
end K44
set_option Elab.async false
set_option linter.all false
set_option maxRecDepth 100000
namespace K44
open PySem PySem.Spec PyProof.Rows L2 L3 L4
theorem yz_ {l:List D} (h:l.all y7_=true):Zr_ jf_ [.list l]=some (zB_ l):=by
 show (@ite _ (OkN jf_ l) (Classical.propDecidable _) (some (zB_ l)) none)=_
 exact if_pos (Wh_ h)
theorem JG_ {s r:Nat} (hs:s=1∨s=2) (hr:r=1∨r=2):zo_ (iN s) (iN r)=.ret (zB_ (Yl s r)):=by
 have e:zo_ (iN s) (iN r)=zz_ (iN r) (Yl s r):=by
  rcases hs with rfl|rfl<;>rcases hr with rfl|rfl
  ·exact QO_
  ·exact QN_
  ·exact QM_
  ·exact QL_
 rw [e]
 unfold zz_
 rw [yz_ (okY hs hr),oMS,bdR]
theorem lenX {s r:Nat} (hs:s=1∨s=2) (hr:r=1∨r=2):(Xl s r).length≤1728:=by
 rcases hs with rfl|rfl<;>rcases hr with rfl|rfl<;>decide +kernel
theorem lenY {s r:Nat} (hs:s=1∨s=2) (hr:r=1∨r=2):(Yl s r).length=if r=1 then 2 else if s=1 then 216 else 432:=by
 rcases hs with rfl|rfl<;>rcases hr with rfl|rfl<;>decide +kernel
theorem Vi_ {l:List D} {k:Nat} (h:k<l.length):jb_ (.list l) (iN k)=some (l.getD k .none):=by
 show opIx (.list l) (.int (k:Int))=_
 refine (Yi_ l k h).trans ?_
 rw [List.getD_eq_getElem?_getD,List.getElem?_eq_getElem h]
 rfl
theorem Xr_ {l:List D} (hl:l.all y7_=true) {x y:D} (hx:x∈l) (hy:y∈l):opNe x y=some (!PyData.eqv x y):=by
 have a:=yh_ (List.all_eq_true.mp hl x hx)
 have b:=yh_ (List.all_eq_true.mp hl y hy)
 refine if_pos ?_
 unfold eqOk
 rw [ji_ _ a.1,ji_ _ b.1,decide_eq_true (by omega)]
 rfl
theorem ZQ_ {s r:Nat} (hs:s=1∨s=2) (hr:r=1∨r=2):zk_ (iN s) (iN r)=.ret (.list (zB_ (Yl s r))):=by
 have e:zk_ (iN s) (iN r)=zp_ (iN s) (iN r) (.list ((mts r).map mtD)) (Xl s r):=by
  rcases hs with rfl|rfl<;>rcases hr with rfl|rfl
  ·exact Xw_
  ·exact Xv_
  ·exact Xu_
  ·exact Xt_
 rw [e]
 unfold zp_
 rw [yz_ (okX hs hr),oMS,bdR,bdR]
 have hl:(zB_ (Xl s r)).length≤1728:=by rw [(zi_ _).length_eq];exact lenX hs hr
 have hok:(zB_ (Xl s r)).all y7_=true:=by
  rw [List.all_eq_true]
  intro d hd
  exact List.all_eq_true.mp (okX hs hr) d ((zi_ _).mem_iff.mp hd)
 have nw:=J1_ hs hr
 generalize hL:zB_ (Xl s r)=L at hl hok nw
 have cc:=Js_ (e:=iN) (g:=fun k=>if (decide (k=0) || !PyData.eqv (L.getD (k - 1) .none) (L.getD k .none))=true then some (L.getD k .none) else none) (step:=fun d10=>bd (bd (oM (opEq d10 (.int 0))) fun b14=>if b14 then .ret true else bd (bd (oM (yE_ d10 (.int 1))) fun x11=>oM (jb_ (PyData.list L) x11)) fun x12=>bd (oM (jb_ (PyData.list L) d10)) fun x13=>oM (opNe x12 x13)) fun b16=>if b16 then bd (oM (jb_ (PyData.list L) d10)) fun x15=>.ret (some x15) else .ret none) (List.range L.length) (fun k hk=>by
  have hk:=List.mem_range.mp hk
  have e0:opEq (iN k) (.int 0)=some (decide (k=0)):=eqN k 0
  rw [e0,oMS,bdR]
  by_cases h:k=0
  ·subst h
   rw [if_pos (by decide),bdR,if_pos rfl,Vi_ hk,oMS,bdR,if_pos (by simp)]
  ·rw [if_neg (by simp [h]),W4_ k (by omega),oMS,bdR,Vi_ (by omega),oMS,bdR,Vi_ hk,oMS,bdR,Xr_ hok (mem_getD (by omega)) (mem_getD hk),oMS,bdR,decide_eq_false h,Bool.false_or]
   cases PyData.eqv (L.getD (k - 1) .none) (L.getD k .none)
   ·rw [if_pos (by decide),bdR,if_pos (by decide)]
   ·rw [if_neg (by decide),if_neg (by decide)])
 rw [L4.lenL,oMS,bdR,Ui_ _ (by omega),oMS,bdR,cc,bdR]
 have e2:(List.range L.length).filterMap (fun k=>if (decide (k=0) || !PyData.eqv (L.getD (k - 1) .none) (L.getD k .none))=true then some (L.getD k .none) else none)=zB_ (Yl s r):=nw
 rw [e2,Vl_ (by rw [(zi_ _).length_eq,lenY hs hr];split<;>(try split)<;>omega),bdR,bdR]
theorem QP_ {s r:Nat} (hs:s=1∨s=2) (hr:r=1∨r=2):Zs_ [.list (zB_ (Yl s r))]=some (.str (PyData.list (zB_ (Yl s r))).shown)∧opNe (.str (PyData.list (zB_ (Yl s r))).shown) (.str (PyData.list (zB_ (Yl s r))).shown)=some false:=by
 have row:∀ d∈zB_ (Yl s r),d.depth≤10∧Sm d∧sz d≤60:=fun d hd=>by
  have:=yh_ (List.all_eq_true.mp (okY hs hr) d ((zi_ _).mem_iff.mp hd))
  exact ⟨this.2.1,this.2.2.2.1,this.2.2.2.2⟩
 have hS:Sm (.list (zB_ (Yl s r))):=Yn_ fun d hd=>(row d hd).2.1
 refine ⟨Xa_ hS ?_ ?_,Wi_ hS⟩
 ·have h1:sz (.list (zB_ (Yl s r)))=1+szs (zB_ (Yl s r)):=by simp [sz]
  have h2:=Qc_ (B:=60) fun d hd=>(row d hd).2.2
  have h3:(zB_ (Yl s r)).length≤432:=by rw [(zi_ _).length_eq,lenY hs hr];split<;>(try split)<;>omega
  rw [h1]
  omega
 ·have h1:(PyData.list (zB_ (Yl s r))).depth=PyData.depthAll (zB_ (Yl s r))+1:=by simp [PyData.depth]
  have h2:=Jq_ (n:=10) fun d hd=>(row d hd).1
  omega
theorem Wq_ {T:Nat} {f:List D} (hf:Fe T f) (hT:T≤900000) (d:D) (kn:List D×Unit→M D):∃ f',yV_ f d kn=kn (f',())∧Fe (T+2) f':=by
 obtain ⟨a,f1,e1,ha,hf1⟩:=U0_ (m:=2) hf (by omega) (by omega) (by omega)
 obtain ⟨b,f2,e2,hb,hf2⟩:=U0_ (m:=2) hf1 (by omega) (by omega) (by omega)
 have e1:zG_ f (.int 2)=.ret (iN a,f1):=e1
 have e2:zG_ f1 (.int 2)=.ret (iN b,f2):=e2
 have a1:jk_ (.int 1) (iN a)=some (iN (1+a)):=addN 1 a
 have b1:jk_ (.int 1) (iN b)=some (iN (1+b)):=addN 1 b
 have hs:1+a=1∨1+a=2:=by omega
 have hr:1+b=1∨1+b=2:=by omega
 obtain ⟨r1,r2⟩:=QP_ hs hr
 have hlen:(zB_ (Yl (1+a) (1+b))).length=if 1+b=1 then 2 else if 1+a=1 then 216 else 432:=by rw [(zi_ _).length_eq,lenY hs hr]
 refine ⟨f2,?_,hf2⟩
 unfold yV_
 rw [e1,bdR,a1,oMS,bdR,e2,bdR,b1,oMS,bdR,ZQ_ hs hr,bdR,L4.lenL,hlen,oMS,bdR]
 have ex:bd (bd (bd (oM (yE_ (iN (1+b)) (.int 1))) fun x9=>oM (jb_ (PyData.list [(PyData.list [(.int 2),(.int 2)]),(PyData.list [(.int 216),(.int 432)])]) x9)) fun x10=>bd (oM (yE_ (iN (1+a)) (.int 1))) fun x11=>oM (jb_ x10 x11)) (fun x13=>oM (opNe (.int ((if 1+b=1 then 2 else if 1+a=1 then 216 else 432:Nat):Int)) x13))=.ret false:=by
  have ha':a=0∨a=1:=by omega
  have hb':b=0∨b=1:=by omega
  rcases ha' with rfl|rfl<;>rcases hb' with rfl|rfl<;>kernel_rfl
 rw [ex,bdR,if_neg (by decide),JG_ hs hr,bdR,r1,oMS,bdR,bdR,r2,oMS,bdR,if_neg (by decide)]
 have er:mRev (zB_ (Yl (1+a) (1+b))) []=some (zB_ (Yl (1+a) (1+b))).reverse:=rfl
 have ep:∃ l,mPop (zB_ (Yl (1+a) (1+b))).reverse []=some l:=by
  have hne:(zB_ (Yl (1+a) (1+b))).reverse.length≠0:=by rw [List.length_reverse,hlen];split<;>(try split)<;>omega
  cases h:(zB_ (Yl (1+a) (1+b))).reverse with
  | nil=>rw [h] at hne;simp at hne
  | cons x l=>exact ⟨_,rfl⟩
 obtain ⟨l,ep⟩:=ep
 rw [er,oMS,bdR,ep,oMS,bdR,bdR,bdR,r1,oMS,bdR,bdR,r2,oMS,bdR,if_neg (by decide)]
theorem main:∀ ns:List Int,ns.length≤63→Y6_ (.list (ns.map PyData.int))=.ret (.bool true):=by
 intro ns hn
 unfold Y6_
 obtain ⟨f,e,hf⟩:=Vm_ ns 0 (by omega) hn
 have e:jd_ (.list (ns.map PyData.int)) (.int 0)=.ret f:=e
 have er:z1_ [.int 3]=some ((List.range 3).map iN):=Ui_ 3 (by omega)
 rw [e,bdR,er,oMS,bdR]
 refine Vk_ (P:=fun i (s:List D×Unit)=>∃ f,s=(f,())∧Fe (2*i) f) (R:=(M.ret (PyData.bool true):M D)) _ 0 (f,()) _ ?_ ⟨f,rfl,hf⟩ (fun s' _=>rfl)
 rintro j s d _ _ hj ⟨f,rfl,hf⟩ kn hk
 rw [List.length_map,List.length_range] at hj
 obtain ⟨f',e,hf'⟩:=Wq_ hf (by omega) d kn
 dsimp only
 rw [e]
 exact hk _ ⟨f',rfl,hf'.le (by omega)⟩
end K44
set_option Elab.async false
set_option linter.all false
set_option maxRecDepth 100000
set_option maxHeartbeats 8000000
namespace K44
open PySem PySem.Spec PyProof.Rows L2 L3 L4
theorem all_mk {l:PySem.W.OpenLaw} {w:World} {K:Fg} {h:Heap} {mg:Str→Option Value} {fa f0 f1 f2 f3 f4 f5 f6:Addr} (X:K.In h) (G:h.Ns mainGlobals mg) (hfa:mg "law" = some (.ref fa))
  {oc0 kV0 dc0 pm0 cd0 ct0:Value} {od0 an0:Option Addr} {sl0:Array (Option Value)}
  {oc1 kV1 dc1 pm1 cd1 ct1:Value} {od1 an1:Option Addr} {sl1:Array (Option Value)}
  {oc2 kV2 dc2 pm2 cd2 ct2:Value} {od2 an2:Option Addr} {sl2:Array (Option Value)}
  {oc3 kV3 dc3 pm3 cd3 ct3:Value} {od3 an3:Option Addr} {sl3:Array (Option Value)}
  {oc4 kV4 dc4 pm4 cd4 ct4:Value} {od4 an4:Option Addr} {sl4:Array (Option Value)}
  {oc5 kV5 dc5 pm5 cd5 ct5:Value} {od5 an5:Option Addr} {sl5:Array (Option Value)}
  {oc6 kV6 dc6 pm6 cd6 ct6:Value} {od6 an6:Option Addr} {sl6:Array (Option Value)}
  (a0:PySem.W.nsIn K mainGlobals "rows_over" = some (some (.ref f0))) (l0:K.lookup f0=some ⟨oc0,od0,.func (PySem.W.fnOf "rows_over" "rows_over" (z6_ zC_) (zK_ zC_) (ze_ zC_) .none kV0 dc0 pm0 an0 cd0 ct0),sl0⟩) (c0:PySem.W.codeIn K cd0 "rows_over" = true) (k0:PySem.W.keepIn K (.ref f0)=true)
  (a1:PySem.W.nsIn K mainGlobals "meets_over" = some (some (.ref f1))) (l1:K.lookup f1=some ⟨oc1,od1,.func (PySem.W.fnOf "meets_over" "meets_over" (z6_ zt_) (zK_ zt_) (ze_ zt_) .none kV1 dc1 pm1 an1 cd1 ct1),sl1⟩) (c1:PySem.W.codeIn K cd1 "meets_over" = true) (k1:PySem.W.keepIn K (.ref f1)=true)
  (a2:PySem.W.nsIn K mainGlobals "rules_of" = some (some (.ref f2))) (l2:K.lookup f2=some ⟨oc2,od2,.func (PySem.W.fnOf "rules_of" "rules_of" (z6_ zY_) (zK_ zY_) (ze_ zY_) .none kV2 dc2 pm2 an2 cd2 ct2),sl2⟩) (c2:PySem.W.codeIn K cd2 "rules_of" = true) (k2:PySem.W.keepIn K (.ref f2)=true)
  (a3:PySem.W.nsIn K mainGlobals "_law_feed" = some (some (.ref f3))) (l3:K.lookup f3=some ⟨oc3,od3,.func (PySem.W.fnOf "_law_feed" "_law_feed" (z6_ zM_) (zK_ zM_) (ze_ zM_) .none kV3 dc3 pm3 an3 cd3 ct3),sl3⟩) (c3:PySem.W.codeIn K cd3 "_law_feed" = true) (k3:PySem.W.keepIn K (.ref f3)=true)
  (a4:PySem.W.nsIn K mainGlobals "_law_draw" = some (some (.ref f4))) (l4:K.lookup f4=some ⟨oc4,od4,.func (PySem.W.fnOf "_law_draw" "_law_draw" (z6_ zN_) (zK_ zN_) (ze_ zN_) .none kV4 dc4 pm4 an4 cd4 ct4),sl4⟩) (c4:PySem.W.codeIn K cd4 "_law_draw" = true) (k4:PySem.W.keepIn K (.ref f4)=true)
  (a5:PySem.W.nsIn K mainGlobals "_law_rules" = some (some (.ref f5))) (l5:K.lookup f5=some ⟨oc5,od5,.func (PySem.W.fnOf "_law_rules" "_law_rules" (z6_ zj_) (zK_ zj_) (ze_ zj_) .none kV5 dc5 pm5 an5 cd5 ct5),sl5⟩) (c5:PySem.W.codeIn K cd5 "_law_rules" = true) (k5:PySem.W.keepIn K (.ref f5)=true)
  (a6:PySem.W.nsIn K mainGlobals "law" = some (some (.ref f6))) (l6:K.lookup f6=some ⟨oc6,od6,.func (PySem.W.fnOf "law" "law" (z6_ u9_) (zK_ u9_) (ze_ u9_) .none kV6 dc6 pm6 an6 cd6 ct6),sl6⟩) (c6:PySem.W.codeIn K cd6 "law" = true) (k6:PySem.W.keepIn K (.ref f6)=true)
  (z_range:PySem.W.nsIn K mainGlobals "range" = some none)
  (z_len:PySem.W.nsIn K mainGlobals "len" = some none)
  (z_tuple:PySem.W.nsIn K mainGlobals "tuple" = some none)
  (z_list:PySem.W.nsIn K mainGlobals "list" = some none)
  (z_max:PySem.W.nsIn K mainGlobals "max" = some none)
  (z_min:PySem.W.nsIn K mainGlobals "min" = some none)
  (z_sum:PySem.W.nsIn K mainGlobals "sum" = some none)
  (z_abs:PySem.W.nsIn K mainGlobals "abs" = some none)
  (z_repr:PySem.W.nsIn K mainGlobals "repr" = some none)
  (z_enumerate:PySem.W.nsIn K mainGlobals "enumerate" = some none)
  (z_isinstance:PySem.W.nsIn K mainGlobals "isinstance" = some none)
  (z_all:PySem.W.nsIn K mainGlobals "all" = some none)
  (z_any:PySem.W.nsIn K mainGlobals "any" = some none)
  (z_int:PySem.W.nsIn K mainGlobals "int" = some none)
  (z_str:PySem.W.nsIn K mainGlobals "str" = some none)
  (z_bool:PySem.W.nsIn K mainGlobals "bool" = some none)
  (z_zip:PySem.W.nsIn K mainGlobals "zip" = some none)
  (z_sorted:PySem.W.nsIn K mainGlobals "sorted" = some none)
  (z_set:PySem.W.nsIn K mainGlobals "set" = some none)
  (z_dict:PySem.W.nsIn K mainGlobals "dict" = some none)
  (z_reversed:PySem.W.nsIn K mainGlobals "reversed" = some none) :
  ∃ fd:FuncData,(∀ (s:Shared) (v:Value),BindsTo s fd ⟨[v],[]⟩ [("_law_script",v)])∧∀ base:Heap,K.In base→base.Ns mainGlobals mg→FnOk l.prog w K mg base (CX1 l.prog w) 4 fa fd ["_law_script"] (spD K 1 Zh_):=by
 have e:=hfa.symm.trans (PySem.W.mg_of X G a6)
 cases e
 have B:BN mg:=⟨PySem.W.mg_none_of X G z_range,PySem.W.mg_none_of X G z_len,PySem.W.mg_none_of X G z_tuple,PySem.W.mg_none_of X G z_list,PySem.W.mg_none_of X G z_max,PySem.W.mg_none_of X G z_min,PySem.W.mg_none_of X G z_sum,PySem.W.mg_none_of X G z_abs,PySem.W.mg_none_of X G z_repr,PySem.W.mg_none_of X G z_enumerate,PySem.W.mg_none_of X G z_isinstance,PySem.W.mg_none_of X G z_all,PySem.W.mg_none_of X G z_any,PySem.W.mg_none_of X G z_int,PySem.W.mg_none_of X G z_str,PySem.W.mg_none_of X G z_bool,PySem.W.mg_none_of X G z_zip,PySem.W.mg_none_of X G z_sorted,PySem.W.mg_none_of X G z_set,PySem.W.mg_none_of X G z_dict,PySem.W.mg_none_of X G z_reversed⟩
 have Kn:KN mg:=⟨trivial⟩
 have F0:=uW_ (st:=zC_) l0 c0 k0
 have F1:=uW_ (st:=zt_) l1 c1 k1
 have F2:=uW_ (st:=zY_) l2 c2 k2
 have F3:=uW_ (st:=zM_) l3 c3 k3
 have F4:=uW_ (st:=zN_) l4 c4 k4
 have F5:=uW_ (st:=zj_) l5 c5 k5
 have F6:=uW_ (st:=u9_) l6 c6 k6
 refine ⟨PySem.W.fnOf "law" "law" (z6_ u9_) (zK_ u9_) (ze_ u9_) .none kV6 dc6 pm6 an6 cd6 ct6,fun s v=>.of_eq rfl,fun base _ _=>?_⟩
 have C_rows_over:=Zc_ (P:=l.prog) (w:=w) (base:=base) F0 (PySem.W.mg_of X G a0) B Kn
 have C_meets_over:=yG_ (P:=l.prog) (w:=w) (base:=base) F1 (PySem.W.mg_of X G a1) B Kn C_rows_over
 have C_rules_of:=ZK_ (P:=l.prog) (w:=w) (base:=base) F2 (PySem.W.mg_of X G a2) B Kn C_rows_over C_meets_over
 have C__law_feed:=Ze_ (P:=l.prog) (w:=w) (base:=base) F3 (PySem.W.mg_of X G a3) B Kn
 have C__law_draw:=Zf_ (P:=l.prog) (w:=w) (base:=base) F4 (PySem.W.mg_of X G a4) B Kn
 have C__law_rules:=yH_ (P:=l.prog) (w:=w) (base:=base) F5 (PySem.W.mg_of X G a5) B Kn
 exact Qq_ F6 B Kn C__law_feed C__law_rules C_rules_of C__law_draw
theorem walk {l:PySem.W.OpenLaw} {q:Program} {loose:List Str} {XP:(Str→Option Value)→Heap→Prop} {YP:World→Heap→Prop} {d:DefRec} {K:Params→Fg} (main:∀ ns:List Int,ns.length≤63→Y6_ (.list (ns.map PyData.int))=.ret (.bool true)) (hn:l.most=some 63) (hdf:d.params.defaults=[])
  (hY:∀ (w:World) (h:Heap),YP w h→(K w.params).In h)
  (F:∀ (w:World) (mg:Str→Option Value) (fa:Addr) (h:Heap),(K w.params).In h→h.Ns mainGlobals mg→mg d.name=some (.ref fa) →
   ∃ fd:FuncData,(∀ (s:Shared) (u:Value),BindsTo s fd ⟨[u],[]⟩ [("_law_script",u)])∧∀ base:Heap,(K w.params).In base→base.Ns mainGlobals mg→FnOk l.prog w (K w.params) mg base (CX1 l.prog w) 4 fa fd ["_law_script"] (spD (K w.params) 1 Zh_)) :
  PySem.W.WalkO q loose XP YP l.row.toRowW d [] (fun f vs=>PySem.call f vs) :=
 L2.walk_of (n:=63) (k:=4) (x := "_law_script") (CX:=fun w=>CX1 l.prog w) (sp:=fun w=>spD (K w.params) 1 Zh_) hn (by decide) hdf ⟨rfl,by decide,by decide,rfl⟩ hY F (fun w H a ns hl _ hS=>UB_ hS (main ns hl)) fun _ _ _ _ _ ⟨_,_,_,_,_,_,_,_,_,_,z⟩=>z
end K44
open PySem PySem.W PyProof.Rows
set_option maxRecDepth 100000 in
set_option maxHeartbeats 0 in
theorem PySem.Challenge.cw_passersby_k44_rules_of_so_few_holds : PySem.Challenge.rw_passersby_k44_rules_of_so_few.Holds := by
 w_on;o_law;k_head;(case hw=>w_witness2)
 k_fill
 refine K44.walk (l:=PySem.Challenge.rw_passersby_k44_rules_of_so_few) K44.main rfl rfl (fun w h Y=>PySem.W.kIn_of Y) ?F
 case F =>
  intro w mg fa h KX G hmg
  refine' K44.all_mk KX G hmg ?a0 ?l0 ?c0 ?k0 ?a1 ?l1 ?c1 ?k1 ?a2 ?l2 ?c2 ?k2 ?a3 ?l3 ?c3 ?k3 ?a4 ?l4 ?c4 ?k4 ?a5 ?l5 ?c5 ?k5 ?a6 ?l6 ?c6 ?k6 ?z_range ?z_len ?z_tuple ?z_list ?z_max ?z_min ?z_sum ?z_abs ?z_repr ?z_enumerate ?z_isinstance ?z_all ?z_any ?z_int ?z_str ?z_bool ?z_zip ?z_sorted ?z_set ?z_dict ?z_reversed
  (case a0=>k_is)
  (case l0=>k_is)
  (case c0=>k_is)
  (case k0=>k_is)
  (case a1=>k_is)
  (case l1=>k_is)
  (case c1=>k_is)
  (case k1=>k_is)
  (case a2=>k_is)
  (case l2=>k_is)
  (case c2=>k_is)
  (case k2=>k_is)
  (case a3=>k_is)
  (case l3=>k_is)
  (case c3=>k_is)
  (case k3=>k_is)
  (case a4=>k_is)
  (case l4=>k_is)
  (case c4=>k_is)
  (case k4=>k_is)
  (case a5=>k_is)
  (case l5=>k_is)
  (case c5=>k_is)
  (case k5=>k_is)
  (case a6=>k_is)
  (case l6=>k_is)
  (case c6=>k_is)
  (case k6=>k_is)
  (case z_range=>k_is)
  (case z_len=>k_is)
  (case z_tuple=>k_is)
  (case z_list=>k_is)
  (case z_max=>k_is)
  (case z_min=>k_is)
  (case z_sum=>k_is)
  (case z_abs=>k_is)
  (case z_repr=>k_is)
  (case z_enumerate=>k_is)
  (case z_isinstance=>k_is)
  (case z_all=>k_is)
  (case z_any=>k_is)
  (case z_int=>k_is)
  (case z_str=>k_is)
  (case z_bool=>k_is)
  (case z_zip=>k_is)
  (case z_sorted=>k_is)
  (case z_set=>k_is)
  (case z_dict=>k_is)
  (case z_reversed=>k_is)
