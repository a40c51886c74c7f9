import PyProof.Rows.All
import Wide.All
import OpenK.AllK
import Wide.FinOn
import Lean
import PyProof.EqAt
import PyProof.EqKinds
import PyProof.TupleCall
import PySem.Challenge.RW_passersby_k06_hands_that_meet
set_option Elab.async false
set_option linter.all false
set_option maxRecDepth 100000
namespace L2
open PySem PySem.Spec PyProof.Rows
abbrev Key := Sum Int Str
def keyIs : Key → Value → Bool
  | .inl k, v => Value.isInt k v
  | .inr x, v => Value.isStrOf x v
def keyH (w : World) : Key → Int
  | .inl k => hashInt k
  | .inr x => hashStr w x
theorem keyIs_shape : ∀ {k : Key} {v : Value}, keyIs k v = true → (∃ i t, k = Sum.inl i ∧ v = Value.int i t) ∨ (∃ x t, k = Sum.inr x ∧ v = Value.str x t)
  | .inl i, v, h => by
    obtain ⟨t, e⟩ := Value.isInt_shape (k := i) (v := v) h
    exact .inl ⟨i, t, rfl, e⟩
  | .inr x, v, h => by
    obtain ⟨t, e⟩ := Value.isStrOf_shape (x := x) (v := v) h
    exact .inr ⟨x, t, rfl, e⟩
theorem keyIs_int (i : Int) (t : Tok) : keyIs (.inl i) (.int i t) = true := by simp [keyIs, Value.isInt]
theorem keyIs_str (x : Str) (t : Tok) : keyIs (.inr x) (.str x t) = true := by simp [keyIs, Value.isStrOf]
theorem key_ll (a b : Int) : decide ((Sum.inl a : Key) = Sum.inl b) = (a == b) := by
  by_cases e : a = b
  · subst e; simp
  · have h : ¬ (Sum.inl a : Key) = Sum.inl b := fun q => e (Sum.inl.inj q)
    rw [decide_eq_false h]
    exact (beq_eq_false_iff_ne.mpr e).symm
theorem key_rr (a b : Str) : decide ((Sum.inr a : Key) = Sum.inr b) = decide (a = b) := by
  by_cases e : a = b
  · subst e; simp
  · have h : ¬ (Sum.inr a : Key) = Sum.inr b := fun q => e (Sum.inr.inj q)
    rw [decide_eq_false h, decide_eq_false e]
theorem key_lr (a : Int) (b : Str) : decide ((Sum.inl a : Key) = Sum.inr b) = false := decide_eq_false (fun q => nomatch q)
theorem key_rl (a : Str) (b : Int) : decide ((Sum.inr a : Key) = Sum.inl b) = false := decide_eq_false (fun q => nomatch q)
def mixKind (prog : Program) (w : World) : PySem.KeyKind prog w Key where
  is := keyIs
  hash := keyH w
  inj := fun v a b ha hb => by
    rcases keyIs_shape ha with ⟨i, t, rfl, rfl⟩ | ⟨x, t, rfl, rfl⟩
    · rcases keyIs_shape hb with ⟨j, u, rfl, e⟩ | ⟨y, u, rfl, e⟩
      · injection e with e1 _; rw [e1]
      · exact nomatch e
    · rcases keyIs_shape hb with ⟨j, u, rfl, e⟩ | ⟨y, u, rfl, e⟩
      · exact nomatch e
      · injection e with e1 _; rw [e1]
  byValue := fun k v h => by
    rcases keyIs_shape h with ⟨i, t, rfl, rfl⟩ | ⟨x, t, rfl, rfl⟩ <;> rfl
  pyHash := fun hv h => by
    rcases keyIs_shape hv with ⟨i, t, rfl, rfl⟩ | ⟨x, t, rfl, rfl⟩
    · exact wpAny_pyHash_int h
    · exact wpAny_pyHash_str h
  eqBool := fun hu hv h => by
    rcases keyIs_shape hu with ⟨i, t, rfl, rfl⟩ | ⟨x, t, rfl, rfl⟩
    · rcases keyIs_shape hv with ⟨j, u, rfl, rfl⟩ | ⟨y, u, rfl, rfl⟩
      · rw [key_ll] at h; exact wpAny_eqBool_int h
      · rw [key_lr] at h; exact SeqAt.EqAt.int_str i t y u _ _ _ _ h
    · rcases keyIs_shape hv with ⟨j, u, rfl, rfl⟩ | ⟨y, u, rfl, rfl⟩
      · rw [key_rl] at h; exact SeqAt.EqAt.str_int x t j u _ _ _ _ h
      · rw [key_rr] at h; exact wpAny_eqBool_str h
  «strs» := fun k x t v h => by
    rcases keyIs_shape h with ⟨i, u, rfl, e⟩ | ⟨y, u, rfl, e⟩
    · exact nomatch e
    · injection e with e1 _
      subst e1
      cases v <;> rfl
theorem mixKind_int (prog : Program) (w : World) (i : Int) (t : Tok) : (mixKind prog w).is (.inl i) (.int i t) = true := keyIs_int i t
theorem mixKind_str (prog : Program) (w : World) (x : Str) (t : Tok) : (mixKind prog w).is (.inr x) (.str x t) = true := keyIs_str x t
end L2
namespace L2
open PySem PySem.Spec PyProof.Rows
inductive V where
  | non | bl (b : Bool) | int (i : Int) | str (x : Str) | byt (b : Array UInt8) | flt (b : UInt64) | ref (a : Addr) | ty (n : String)
  deriving DecidableEq
def RelV : V → Value → Prop
  | .non, u => u = Value.none
  | .bl b, u => u = Value.bool b
  | .int i, u => ∃ t, u = Value.int i t
  | .str x, u => ∃ t, u = Value.str x t
  | .byt b, u => ∃ t, u = Value.bytes b t
  | .flt b, u => ∃ t, u = Value.float b t
  | .ref a, u => u = Value.ref a
  | .ty n, u => u = Value.type n
abbrev Vals : List V → List Value → Prop := Paired RelV
theorem Vals.length {xs : List V} {us : List Value} (r : Vals xs us) : xs.length = us.length := Paired.length r
theorem Vals.get : ∀ {xs : List V} {us : List Value} {i : Nat} {x : V}, Vals xs us → xs[i]? = some x → ∃ u, us[i]? = some u ∧ RelV x u
  | _, _, _, _, .nil, e => by simp at e
  | _, _, 0, _, .cons r _, e => by simp at e; subst e; exact ⟨_, rfl, r⟩
  | _, _, i + 1, x, .cons _ t, e => by
    obtain ⟨u, h1, h2⟩ := Vals.get (i := i) (x := x) t (by simpa using e)
    exact ⟨u, by simpa using h1, h2⟩
theorem Vals.set {x : V} {u : Value} (r : RelV x u) : ∀ {xs : List V} {us : List Value} (i : Nat), Vals xs us → Vals (xs.set i x) (us.set i u)
  | _, _, _, .nil => .nil
  | _, _, 0, .cons _ t => .cons r t
  | _, _, i + 1, .cons q t => .cons q (Vals.set r i t)
theorem Vals.append : ∀ {xs ys : List V} {us ws : List Value}, Vals xs us → Vals ys ws → Vals (xs ++ ys) (us ++ ws)
  | _, _, _, _, .nil, s => s
  | _, _, _, _, .cons r t, s => .cons r (Vals.append t s)
theorem Vals.take : ∀ {xs : List V} {us : List Value} (n : Nat), Vals xs us → Vals (xs.take n) (us.take n)
  | _, _, 0, _ => .nil
  | _, _, _ + 1, .nil => .nil
  | _, _, n + 1, .cons r t => .cons r (Vals.take n t)
theorem Vals.drop : ∀ {xs : List V} {us : List Value} (n : Nat), Vals xs us → Vals (xs.drop n) (us.drop n)
  | _, _, 0, r => r
  | _, _, _ + 1, .nil => .nil
  | _, _, n + 1, .cons _ t => Vals.drop n t
def RelO : Option V → Option Value → Prop
  | some v, some u => RelV v u
  | none, none => True
  | _, _ => False
def KV {κ : Type} : List (κ × V) → List (κ × Value) → Prop := Paired fun (p : κ × V) (q : κ × Value) => p.1 = q.1 ∧ RelV p.2 q.2
def kV : Key → V
  | .inl i => .int i
  | .inr x => .str x
inductive HO where
  | lst (xs : List V)
  | tup (xs : List V)
  | dK (kvs : List (Key × V)) | dT (kvs : List (List Key × V))
  | set (S : Int → Bool) (n : Nat)
  | ins (C dx : Addr) (fs : List (Str × V))
  | own (x : Addr)
  | xd (fs : List (Str × V))
  | met (f x : Addr)
  | rng (lo hi : Int)
  | frz (o : Obj) (u : HO)
  | tbl (ps : Array Value)
  | ext (φ : Heap → Prop)
abbrev Hp := Addr → Option HO
def upd (H : Hp) (a : Addr) (o : HO) : Hp := fun b => if b = a then some o else H b
theorem upd_same {H : Hp} {a : Addr} {o : HO} : upd H a o a = some o := by unfold upd; rw [if_pos rfl]
theorem upd_ne {H : Hp} {a b : Addr} {o : HO} (h : b ≠ a) : upd H a o b = H b := by unfold upd; rw [if_neg h]
theorem ne_of {H : Hp} {a b : Addr} {o u : HO} (h : H a = some o) (h' : H b = some u) (d : o ≠ u) : a ≠ b := by
  intro e; subst e; rw [h] at h'; exact d (Option.some.inj h')
theorem ne_of_none {H : Hp} {a b : Addr} {o : HO} (h : H a = some o) (h' : H b = none) : a ≠ b := by
  intro e; subst e; rw [h] at h'; cases h'
section
variable (P : Program) (w : World)
def _root_.L2.TupN (h : Heap) (a : Addr) : Prop := ∃ o, h.get? a = some o ∧ o.dict = none
theorem _root_.L2.TupN.new (h : Heap) (items : Array Value) : TupN (h.push { cls := .type "tuple", data := .seq items }) h.objs.size := ⟨_, Heap.get?_push_size _ rfl, rfl⟩
def ObjOk (H : Hp) (h : Heap) (a : Addr) : HO → Prop
  | .lst xs => xs.length ≤ sizeLine ∧ ∃ (its : List Value) (n : Nat), Vals xs its ∧ h.get? a = some { cls := .type "list", data := .seq its.toArray n }
  | .tup xs => xs.length ≤ sizeLine ∧ ∃ its : List Value, Vals xs its ∧ IsTup h a its.toArray ∧ TupN h a
  | .dK kvs => kvs.length ≤ sizeLine ∧ (a == sysModules) = false ∧ ∃ vs, KV kvs vs ∧ h.DictOf (mixKind P w) a vs
  | .dT kvs => kvs.length ≤ sizeLine ∧ (a == sysModules) = false ∧ ∃ xs : List (List Key × Addr × Value),
      Paired (fun (p : List Key × V) (q : List Key × Addr × Value) => p.1 = q.1 ∧ H q.2.1 = some (.tup (p.1.map kV)) ∧ RelV p.2 q.2.2) kvs xs ∧
      ∃ o es ep, h.get? a = some o ∧ o.ExactDict ∧ o.data = .dict es ep ∧ es.toList = xs.map (entryOfKey (tupleKind (mixKind P w))) ∧ (xs.map (·.1)).Nodup
  | .set S n => h.SetOf (intKind P w) a S n
  | .ins C dx fs => H dx = some (.own a) ∧ fs.length ≤ 1000 ∧ dx ≠ a ∧ h.get? a = some (PySem.W.instObj C dx) ∧
      ∃ mA, h.Ns1 dx mA ∧ (∀ f, RelO (fs.lookup f) (mA f)) ∧ PySem.Within mA (fs.map (·.1))
  | .own _ => ∃ o, h.get? a = some o
  | .xd fs => ∃ mA, h.Ns1 a mA ∧ ∀ f, RelO (fs.lookup f) (mA f)
  | .rng lo hi => ∃ t u v, h.get? a = some { cls := .type "range", data := .fields #[.int lo t, .int hi u, .int 1 v] }
  | .frz o u => h.get? a = some o ∧ ObjOk H h a u
  | .tbl ps => h.get? a = some { cls := .none, data := .fields ps }
  | .met f x => h.get? a = some (PySem.W.methodObj (.ref f) (.ref x))
  | .ext φ => φ h ∧ (∃ o, h.get? a = some o) ∧ ∀ h1 h2 : Heap, φ h1 → (∀ o, h1.get? a = some o → h2.get? a = some o) → φ h2
def HOk (H : Hp) (h : Heap) : Prop := ∀ a o, H a = some o → ObjOk P w H h a o
end
section
variable {P : Program} {w : World} {H H' : Hp} {h h' : Heap} {a : Addr} {o : HO}
theorem ObjOk.lt (x : ObjOk P w H h a o) : a < h.objs.size := by
  cases o with
  | lst xs => obtain ⟨_, _, _, _, e⟩ := x; exact Heap.lt_size e
  | tup xs => obtain ⟨_, _, _, p⟩ := x; exact p.1.lt
  | dK kvs => obtain ⟨_, _, _, _, o, _, _, e, _⟩ := x; exact Heap.lt_size e
  | dT kvs => obtain ⟨_, _, _, _, o, _, _, e, _⟩ := x; exact Heap.lt_size e
  | set S n => obtain ⟨o, _, _, _, e, _⟩ := x; exact Heap.lt_size e
  | ins C dx fs => obtain ⟨_, _, _, e, _⟩ := x; exact Heap.lt_size e
  | own y => obtain ⟨_, e⟩ := x; exact Heap.lt_size e
  | xd fs => obtain ⟨_, ⟨_, _, _, e, _⟩, _⟩ := x; exact Heap.lt_size e
  | rng lo hi => obtain ⟨_, _, _, e⟩ := x; exact Heap.lt_size e
  | frz ob u => obtain ⟨e, _⟩ := x; exact Heap.lt_size e
  | tbl ps => exact Heap.lt_size (show h.get? a = some _ from x)
  | met f y => exact Heap.lt_size (show h.get? a = some _ from x)
  | ext φ => obtain ⟨_, ⟨_, e⟩, _⟩ := x; exact Heap.lt_size e
theorem Paired.mapP {α β : Type} {F G : α → β → Prop} : ∀ {l₁ : List α} {l₂ : List β}, Paired F l₁ l₂ → (∀ a b, F a b → G a b) → Paired G l₁ l₂
  | _, _, .nil, _ => .nil
  | _, _, .cons r t, f => .cons (f _ _ r) (Paired.mapP t f)
theorem ObjOk.stay (x : ObjOk P w H h a o) (k : ∀ b u, (b = a ∨ H b = some (.own a)) → h.get? b = some u → h'.get? b = some u)
    (ho : ∀ b, H b = some (.own a) → H' b = some (.own a)) (ht : ∀ b xs, H b = some (.tup xs) → H' b = some (.tup xs)) : ObjOk P w H' h' a o := by
  induction o with
  | lst xs => obtain ⟨z, its, n, r, e⟩ := x; exact ⟨z, its, n, r, k _ _ (.inl rfl) e⟩
  | tup xs => obtain ⟨z, its, r, ⟨ob, e, c⟩, ob2, e2, c2⟩ := x; exact ⟨z, its, r, ⟨ob, k _ _ (.inl rfl) e, c⟩, ob2, k _ _ (.inl rfl) e2, c2⟩
  | dK kvs => obtain ⟨z, y, vs, r, ob, es, ep, e, c⟩ := x; exact ⟨z, y, vs, r, ob, es, ep, k _ _ (.inl rfl) e, c⟩
  | dT kvs =>
    obtain ⟨z, y, xs, r, ob, es, ep, e, c⟩ := x
    exact ⟨z, y, xs, Paired.mapP r fun p q z => ⟨z.1, ht _ _ z.2.1, z.2.2⟩, ob, es, ep, k _ _ (.inl rfl) e, c⟩
  | set S n => obtain ⟨ob, es, ep, t, e, c⟩ := x; exact ⟨ob, es, ep, t, k _ _ (.inl rfl) e, c⟩
  | ins C dx fs =>
    obtain ⟨d, z, ne, e, mA, ⟨od, es, ep, e2, c⟩, r⟩ := x
    exact ⟨ho _ d, z, ne, k _ _ (.inl rfl) e, mA, ⟨od, es, ep, k _ _ (.inr d) e2, c⟩, r⟩
  | own y => obtain ⟨ob, e⟩ := x; exact ⟨ob, k _ _ (.inl rfl) e⟩
  | xd fs => obtain ⟨mA, ⟨od, es, ep, e, c⟩, r⟩ := x; exact ⟨mA, ⟨od, es, ep, k _ _ (.inl rfl) e, c⟩, r⟩
  | rng lo hi => obtain ⟨t, u, v, e⟩ := x; exact ⟨t, u, v, k _ _ (.inl rfl) e⟩
  | frz ob u ih => obtain ⟨e, q⟩ := x; exact ⟨k _ _ (.inl rfl) e, ih q⟩
  | tbl ps =>
    have e : h.get? a = some { cls := .none, data := .fields ps } := x
    show h'.get? a = some { cls := .none, data := .fields ps }
    exact k a _ (.inl rfl) e
  | met f y =>
    have e : h.get? a = some (PySem.W.methodObj (.ref f) (.ref y)) := x
    show h'.get? a = some (PySem.W.methodObj (.ref f) (.ref y))
    exact k a _ (.inl rfl) e
  | ext φ => obtain ⟨p, ⟨o, e⟩, st⟩ := x; exact ⟨st _ _ p fun o q => k _ _ (.inl rfl) q, ⟨o, k _ _ (.inl rfl) e⟩, st⟩
theorem HOk.lt (x : HOk P w H h) (e : H a = some o) : a < h.objs.size := (x a o e).lt
theorem HOk.fresh (x : HOk P w H h) (e : h.objs.size ≤ a) : H a = none := by
  cases q : H a with
  | none => rfl
  | some u => exact absurd (Nat.lt_of_lt_of_le (x.lt q) e) (Nat.lt_irrefl _)
theorem HOk.kept (x : HOk P w H h) (k : ∀ b u, h.get? b = some u → h'.get? b = some u) : HOk P w H h' := fun a o e =>
  (x a o e).stay (fun b u _ q => k b u q) (fun _ q => q) fun _ _ q => q
theorem HOk.laid (x : HOk P w H h) (k : ∀ b u, h.get? b = some u → h'.get? b = some u) (hp : h.objs.size ≤ a) (new : ObjOk P w (upd H a o) h' a o) : HOk P w (upd H a o) h' := fun b u e => by
  have hn := x.fresh hp
  by_cases hb : b = a
  · subst hb; rw [upd_same] at e; cases e; exact new
  · rw [upd_ne hb] at e
    exact (x b u e).stay (fun c v _ q => k c v q) (fun c q => by rw [upd_ne (ne_of_none q hn)]; exact q) fun c xs q => by rw [upd_ne (ne_of_none q hn)]; exact q
end
def Rd (H : Hp) (a : Addr) (u : HO) : Prop := H a = some u ∨ ∃ o, H a = some (.frz o u)
theorem Rd.ok {P : Program} {w : World} {H : Hp} {h : Heap} {a : Addr} {u : HO} (r : Rd H a u) (x : HOk P w H h) : ObjOk P w H h a u := by
  rcases r with r | ⟨o, r⟩
  · exact x a u r
  · obtain ⟨_, q⟩ := x a _ r
    exact q
def Mut : Option HO → Prop
  | some (.lst _) => True
  | some (.dK _) => True
  | some (.dT _) => True
  | some (.set _ _) => True
  | some (.ins _ _ _) => True
  | some (.ext _) => True
  | _ => False
section
variable {P : Program} {w : World} {H : Hp} {h h' : Heap} {x e : Addr} {o' : HO}
theorem HOk.write (ok : HOk P w H h) (mu : Mut (H x)) (he : e = x ∨ H e = some (.own x)) (k : ∀ b u, b ≠ e → h.get? b = some u → h'.get? b = some u) (heo : ∃ u, h'.get? e = some u)
    (new : ObjOk P w (upd H x o') h' x o') : HOk P w (upd H x o') h' := fun b u q => by
  have nown : ∀ c y, H c = some (.own y) → c ≠ x := fun c y r z => by subst z; rw [r] at mu; exact mu
  have ntup : ∀ c xs, H c = some (.tup xs) → c ≠ x := fun c xs r z => by subst z; rw [r] at mu; exact mu
  by_cases hb : b = x
  · subst hb; rw [upd_same] at q; cases q; exact new
  · rw [upd_ne hb] at q
    by_cases hbe : b = e
    · have q' : H b = some (.own x) := by
        rcases he with z | z
        · exact absurd (hbe.trans z) hb
        · rw [hbe]; exact z
      rw [q] at q'; cases q'
      obtain ⟨v, hv⟩ := heo
      exact ⟨v, by rw [hbe]; exact hv⟩
    · refine (ok b u q).stay (fun c v hc r => k c v ?_ r) (fun c r => by rw [upd_ne (nown c b r)]; exact r) fun c xs r => by rw [upd_ne (ntup c xs r)]; exact r
      rcases hc with rfl | hc
      · exact hbe
      · rintro rfl
        rcases he with z | z
        · exact nown c b hc z
        · rw [hc] at z; cases z; exact hb rfl
end
structure Un (fs ex : List Addr) (H H' : Hp) (h h' : Heap) : Prop where
  keep : ∀ b o, h.get? b = some o → H b = none → b ∉ fs → b ∉ ex → h'.get? b = some o
  slot : ∀ b o, h.get? b = some o → H b = none → b ∈ fs → b ∉ ex → ∃ sl, h'.get? b = some { o with slots := sl }
  free : ∀ b o, h.get? b = some o → H b = none → b ∉ ex → H' b = none
  there : ∀ b o, h.get? b = some o → b ∉ ex → ∃ o', h'.get? b = some o'
  tups : ∀ b xs, H b = some (.tup xs) → H' b = some (.tup xs)
  frzs : ∀ b o u, H b = some (.frz o u) → H' b = some (.frz o u)
  tbls : ∀ b ps, H b = some (.tbl ps) → ∃ more, H' b = some (.tbl (ps ++ more))
section
variable {fs fs' ex ex' : List Addr} {H H1 H2 : Hp} {h h1 h2 h' : Heap} {a x e : Addr} {o : HO}
theorem Un.any (u : Un fs ex H H1 h h1) {b : Addr} {ob : Obj} (q : h.get? b = some ob) (n : H b = none) (hx : b ∉ ex) : ∃ sl, h1.get? b = some { ob with slots := sl } := by
  by_cases hb : b ∈ fs
  · exact u.slot b ob q n hb hx
  · exact ⟨ob.slots, u.keep b ob q n hb hx⟩
theorem Un.kept (k : ∀ b u, h.get? b = some u → h'.get? b = some u) : Un fs ex H H h h' :=
  ⟨fun b ob q _ _ _ => k b ob q, fun b ob q _ _ _ => ⟨ob.slots, k b ob q⟩, fun _ _ _ n _ => n, fun b ob q _ => ⟨ob, k b ob q⟩, fun _ _ q => q, fun _ _ _ q => q, fun _ ps q => ⟨#[], by rw [q]; simp⟩⟩
theorem Un.refl : Un fs ex H H h h := Un.kept fun _ _ q => q
theorem Un.laid (k : ∀ b u, h.get? b = some u → h'.get? b = some u) (hp : h.objs.size ≤ a) (hn : H a = none) : Un fs ex H (upd H a o) h h' where
  keep := fun b u q _ _ _ => k b u q
  slot := fun b u q _ _ _ => ⟨u.slots, k b u q⟩
  free := fun b u q n _ => by rw [upd_ne (Nat.ne_of_lt (Nat.lt_of_lt_of_le (Heap.lt_size q) hp))]; exact n
  there := fun b u q _ => ⟨u, k b u q⟩
  tups := fun b xs q => by rw [upd_ne (ne_of_none q hn)]; exact q
  frzs := fun b u xs q => by rw [upd_ne (ne_of_none q hn)]; exact q
  tbls := fun b ps q => ⟨#[], by rw [upd_ne (ne_of_none q hn), q]; simp⟩
theorem Un.write (mu : Mut (H x)) (he : e = x ∨ H e = some (.own x)) (k : ∀ b u, b ≠ e → h.get? b = some u → h'.get? b = some u) (heo : ∃ u, h'.get? e = some u) : Un fs ex H (upd H x o) h h' := by
  have hx : ∀ b, H b = none → b ≠ x := fun b n z => by subst z; rw [n] at mu; exact mu
  have hb : ∀ b, H b = none → b ≠ e := fun b n z => by
    subst z
    rcases he with r | r
    · exact hx b n r
    · rw [n] at r; cases r
  have hm : ∀ b u, H b = some u → ¬ Mut (some u) → b ≠ x := fun b u q nm z => by subst z; rw [q] at mu; exact nm mu
  refine ⟨fun b u q n _ _ => k b u (hb b n) q, fun b u q n _ _ => ⟨u.slots, k b u (hb b n) q⟩, fun b u q n _ => by rw [upd_ne (hx b n)]; exact n, fun b u q _ => ?_,
    fun b xs q => by rw [upd_ne (hm b _ q fun z => z)]; exact q, fun b u xs q => by rw [upd_ne (hm b _ q fun z => z)]; exact q, fun b ps q => ⟨#[], by rw [upd_ne (hm b _ q fun z => z), q]; simp⟩⟩
  by_cases hbe : b = e
  · subst hbe; exact heo
  · exact ⟨u, k b u hbe q⟩
end
def trk (h : Heap) (H : Hp) : List Addr := (List.range h.objs.size).filter fun a => (H a).isSome
def hidT (h : Heap) (H : Hp) : Heap := PySem.W.hideAll h (trk h H)
theorem hidT_size (h : Heap) (H : Hp) : (hidT h H).objs.size = h.objs.size := PySem.W.hideAll_size _ _
theorem hidT_get {h : Heap} {H : Hp} {b : Addr} {o : Obj} (e : h.get? b = some o) (n : H b = none) : (hidT h H).get? b = some o :=
  PySem.W.hideAll_get _ e fun hm => by
    have q : (H b).isSome = true := (List.mem_filter.mp hm).2
    rw [n] at q; simp at q
theorem of_hidT {h : Heap} {H : Hp} {b : Addr} {o : Obj} (e : (hidT h H).get? b = some o) : h.get? b = some o ∧ H b = none := by
  have e' : h.get? b = some o := PySem.W.of_hideAll (trk h H) e
  refine ⟨e', ?_⟩
  cases q : H b with
  | none => rfl
  | some x =>
    have hm : b ∈ trk h H := List.mem_filter.mpr ⟨List.mem_range.mpr (Heap.lt_size e'), by simp [q]⟩
    have z : (hidT h H).get? b = none := PySem.W.hideAll_none (trk h H) hm
    rw [z] at e; cases e
end L2
namespace L2
open PySem PySem.Spec PyProof.Rows
structure Mod (K : PySem.W.Frag) (mg : Str → Option Value) (base : Heap) : Prop where
  kin : K.In base
  glob : base.Ns mainGlobals mg
  blt : ∃ mb, base.Ns builtinsNs mb ∧ ∀ x : Str, x ≠ "__name__" → mb x = bootBuiltins x
  nolimit : base.NoLimit
structure Cx where
  prog : Program
  w : World
  K : PySem.W.Frag
  mg : Str → Option Value
  base : Heap
  A : Around
  N : List Str
  s₀ : Shared
  H₀ : Hp
  env : Env
  outer : List Env
  stack : List Env
  ex : List Addr
  fn : Str → Bool
  calm : Bool
  pn : List (Addr × Obj)
  xe : Value → Shared → Prop
def frs (l : List Env) : List Addr := l.filterMap (·.frame)
abbrev Cx.fs (X : Cx) : List Addr := frs X.outer
def Vis (sc : Scope) (x : Str) : Prop := sc.names.lookup x = some .local ∨ sc.names.lookup x = some .cell ∨ sc.names.lookup x = some .free
def Loc (sc : Scope) (x : Str) : Prop := sc.names.lookup x = some .local ∨ sc.names.lookup x = some .cell
def Look (env : Env) (h : Heap) (m : Str → Option Value) (x : Str) (u : Value) : Prop :=
  (env.kindOf x = some .local ∧ m x = some u) ∨ ((env.kindOf x = some .cell ∨ env.kindOf x = some .free) ∧ ∃ c, env.cells.lookup x = some c ∧ h.IsCell c (some u))
structure Cx.Ok (X : Cx) : Prop where
  mod : Mod X.K X.mg X.base
  kind : X.env.scope.kind = .function
  glob : X.env.globals = mainGlobals
  blt : X.env.builtins = builtinsNs
  above : X.s₀.heap.objs.size ≤ X.env.locals
  inj : ∀ x y c, X.env.cells.lookup x = some c → X.env.cells.lookup y = some c → x = y
  has : ∀ x, (X.env.kindOf x = some .cell ∨ X.env.kindOf x = some .free) → ∃ c, X.env.cells.lookup x = some c
  cab : ∀ x c, X.fn x = true → X.env.cells.lookup x = some c → X.s₀.heap.objs.size ≤ c
  hd : X.calm = true → X.A.handled = none
  frames : X.A.frames = some X.stack
  stk : X.stack = X.outer ∨ (X.stack = X.env :: X.outer ∧ X.env.frame = some X.env.locals)
  exf : ∀ b ∈ X.ex, b ≠ X.env.locals ∧ ∀ x c, X.env.cells.lookup x = some c → c ≠ b
  bs : ∀ b o, X.base.get? b = some o → X.s₀.heap.get? b = some o ∧ X.H₀ b = none
  bsz : X.base.objs.size ≤ X.s₀.heap.objs.size
  noex : ∀ b o, X.base.get? b = some o → b ∉ X.ex
  exfs : ∀ b ∈ X.ex, b ∉ X.fs
  funs : X.s₀.heap.FunFrames X.base X.outer
  frf : ∀ b ∈ X.fs, X.H₀ b = none
structure Inv (X : Cx) (pins : List (Addr × Obj)) (σ : List (Option V)) (H : Hp) (s : Shared) : Prop where
  ok : X.Ok
  os : s.os = X.s₀.os
  bare : AllBare s.gens
  base : Un X.fs X.ex X.H₀ H X.s₀.heap s.heap
  loc : ∃ m, s.heap.Ns X.env.locals m ∧ ∀ (i : Nat) (x : Str) (v : V), X.N[i]? = some x → σ[i]? = some (some v) → Vis X.env.scope x → ∃ u, RelV v u ∧ Look X.env s.heap m x u
  cell : ∀ x c, X.env.cells.lookup x = some c → ∃ v, s.heap.IsCell c v
  free : H X.env.locals = none
  freeC : ∀ x c, X.env.cells.lookup x = some c → H c = none
  pin : ∀ p ∈ X.pn ++ pins, s.heap.get? p.1 = some p.2 ∧ H p.1 = none ∧ p.1 ≠ X.env.locals ∧ p.1 ∉ X.fs ∧ ∀ v, p.2.data ≠ .cell v
  hok : HOk X.prog X.w H s.heap
  len : σ.length = X.N.length
section
variable {X : Cx} {pins : List (Addr × Obj)} {σ : List (Option V)} {H H' : Hp} {s : Shared} {h' : Heap}
theorem Cx.Ok.nofr (ok : X.Ok) {b : Addr} {o : Obj} (e : X.base.get? b = some o) : b ∉ X.fs := fun hb => by
  have := (ok.funs.mem hb).1
  rw [e] at this; cases this
theorem Inv.bs (I : Inv X pins σ H s) : ∀ b o, X.base.get? b = some o → s.heap.get? b = some o ∧ H b = none := fun b o e =>
  ⟨I.base.keep b o (I.ok.bs b o e).1 (I.ok.bs b o e).2 (I.ok.nofr e) (I.ok.noex b o e), I.base.free b o (I.ok.bs b o e).1 (I.ok.bs b o e).2 (I.ok.noex b o e)⟩
theorem Inv.bk (I : Inv X pins σ H s) : ∀ b o, X.base.get? b = some o → s.heap.get? b = some o := fun b o e => (I.bs b o e).1
theorem Inv.mod (I : Inv X pins σ H s) : Mod X.K X.mg X.base := I.ok.mod
theorem Inv.kIn (I : Inv X pins σ H s) : X.K.In s.heap := I.ok.mod.kin.keeps I.bk
theorem Inv.lt (I : Inv X pins σ H s) : X.env.locals < s.heap.objs.size := let ⟨_, hn, _⟩ := I.loc; hn.lt
theorem Inv.sz (I : Inv X pins σ H s) : X.s₀.heap.objs.size ≤ s.heap.objs.size := Nat.le_trans I.ok.above (Nat.le_of_lt I.lt)
theorem Inv.nofs (I : Inv X pins σ H s) {a : Addr} (h : s.heap.objs.size ≤ a) : a ∉ X.fs := fun hb => by
  obtain ⟨_, o, ho, _⟩ := I.ok.funs.mem hb
  exact absurd (Nat.lt_of_lt_of_le (Heap.lt_size ho) (Nat.le_trans I.sz h)) (Nat.lt_irrefl _)
theorem Inv.cne (I : Inv X pins σ H s) : ∀ x c, X.env.cells.lookup x = some c → c ≠ X.env.locals := fun x c e z => by
  obtain ⟨v, o, ho, hd⟩ := I.cell x c e
  obtain ⟨m, ⟨o', es, ep, ho', hd', _⟩, _⟩ := I.loc
  rw [z, ho'] at ho; cases ho; rw [hd'] at hd; cases hd
theorem Inv.funs (I : Inv X pins σ H s) : s.heap.FunFrames X.base X.outer := by
  have all : ∀ (l : List Env), (∀ b ∈ frs l, b ∈ X.fs) → X.s₀.heap.FunFrames X.base l → s.heap.FunFrames X.base l := by
    intro l
    induction l with
    | nil => intro _ _; trivial
    | cons env r ih =>
      intro hs hl
      obtain ⟨hk, ⟨L, o, hf, hn, ho, hd⟩, hr⟩ := hl
      have hL : L ∈ X.fs := hs L (by unfold frs; rw [List.filterMap_cons, hf]; exact List.mem_cons_self)
      obtain ⟨sl, e⟩ := I.base.slot L o ho (I.ok.frf L hL) hL fun z => I.ok.exfs L z hL
      exact ⟨hk, ⟨L, _, hf, hn, e, hd⟩, ih (fun b hb => hs b (by unfold frs; rw [List.filterMap_cons, hf]; exact List.mem_cons_of_mem _ hb)) hr⟩
  exact all X.outer (fun _ hb => hb) I.ok.funs
theorem Inv.stack (I : Inv X pins σ H s) : s.heap.FunFrames X.base X.stack := by
  rcases I.ok.stk with e | ⟨e, hf⟩
  · rw [e]; exact I.funs
  · rw [e]
    obtain ⟨m, hn, _⟩ := I.loc
    refine .cons (by rw [I.ok.kind]; decide) hf hn ?_ I.funs
    exact Heap.get?_none_of_le (Nat.le_trans I.ok.bsz I.ok.above)
theorem Inv.stkSub (I : Inv X pins σ H s) : ∀ b ∈ frs X.stack, b ∈ X.env.locals :: X.fs := fun b hb => by
  rcases I.ok.stk with e | ⟨e, hf⟩
  · rw [e] at hb; exact List.mem_cons_of_mem _ hb
  · rw [e] at hb
    unfold frs at hb
    rw [List.filterMap_cons, hf] at hb
    exact hb
theorem Inv.stkFree (I : Inv X pins σ H s) : ∀ b ∈ frs X.stack, H b = none := fun b hb => by
  rcases List.mem_cons.mp (I.stkSub b hb) with e | hb
  · rw [e]; exact I.free
  · obtain ⟨_, o, ho, _⟩ := I.ok.funs.mem hb
    exact I.base.free b o ho (I.ok.frf b hb) fun z => I.ok.exfs b z hb
theorem Inv.step {g' : Array GenState} {t' : Nat} {d' : Drawn} {ch : List Addr} (I : Inv X pins σ H s)
    (hch : ∀ b ∈ ch, (b ∈ X.ex ∨ X.s₀.heap.objs.size ≤ b) ∧ b ≠ X.env.locals ∧ (∀ x c, X.env.cells.lookup x = some c → c ≠ b) ∧ ∀ p ∈ X.pn ++ pins, p.1 ≠ b)
    (keep : ∀ b o, b ≠ X.env.locals → b ∉ X.fs → b ∉ ch → s.heap.get? b = some o → H b = none → h'.get? b = some o)
    (slot : ∀ b o, b ≠ X.env.locals → b ∈ X.fs → b ∉ ch → s.heap.get? b = some o → H b = none → ∃ sl, h'.get? b = some { o with slots := sl }) (free : ∀ b o, b ∉ ch → s.heap.get? b = some o → H b = none → H' b = none)
    (there : ∀ b o, b ∉ ch → s.heap.get? b = some o → ∃ o', h'.get? b = some o')
    (tups : ∀ b xs, H b = some (.tup xs) → H' b = some (.tup xs)) (frzs : ∀ b o u, H b = some (.frz o u) → H' b = some (.frz o u)) (tbls : ∀ b ps, H b = some (.tbl ps) → ∃ more, H' b = some (.tbl (ps ++ more)))
    (ns : ∀ m, s.heap.Ns X.env.locals m → h'.Ns X.env.locals m) (hok : HOk X.prog X.w H' h') (hg : AllBare g') :
    Inv X pins σ H' { s with heap := h', gens := g', drawn := d', toks := t' } := by
  have neL : ∀ b o, X.s₀.heap.get? b = some o → b ≠ X.env.locals := fun b o e => Nat.ne_of_lt (Nat.lt_of_lt_of_le (Heap.lt_size e) I.ok.above)
  have neC : ∀ b o, X.s₀.heap.get? b = some o → b ∉ X.ex → b ∉ ch := fun b o e hx hb => by
    rcases (hch b hb).1 with z | z
    · exact hx z
    · exact absurd (Nat.lt_of_lt_of_le (Heap.lt_size e) z) (Nat.lt_irrefl _)
  have cellK : ∀ x c, X.env.cells.lookup x = some c → ∀ v, s.heap.IsCell c v → h'.IsCell c v := fun x c e v ⟨o, ho, hd⟩ => by
    have nch : c ∉ ch := fun z => (hch c z).2.2.1 x c e rfl
    by_cases hc : c ∈ X.fs
    · obtain ⟨sl, q⟩ := slot c o (I.cne x c e) hc nch ho (I.freeC x c e)
      exact ⟨_, q, hd⟩
    · exact ⟨o, keep c o (I.cne x c e) hc nch ho (I.freeC x c e), hd⟩
  refine ⟨I.ok, I.os, hg, ⟨fun b o e n hb hx => ?_, fun b o e n hb hx => ?_, fun b o e n hx => ?_, fun b o e hx => ?_, fun b xs e => tups b xs (I.base.tups b xs e), fun b o xs e => frzs b o xs (I.base.frzs b o xs e), fun b ps e => ?_⟩, ?_, fun x c e => ?_, ?_, fun x c e => ?_, fun p hp => ?_, hok, I.len⟩
  · exact keep b o (neL b o e) hb (neC b o e hx) (I.base.keep b o e n hb hx) (I.base.free b o e n hx)
  · obtain ⟨sl, e1⟩ := I.base.slot b o e n hb hx
    obtain ⟨sl', e2⟩ := slot b _ (neL b o e) hb (neC b o e hx) e1 (I.base.free b o e n hx)
    exact ⟨sl', e2⟩
  · obtain ⟨o', e1⟩ := I.base.there b o e hx
    exact free b o' (neC b o e hx) e1 (I.base.free b o e n hx)
  · obtain ⟨o', e1⟩ := I.base.there b o e hx
    exact there b o' (neC b o e hx) e1
  · obtain ⟨m1, e1⟩ := I.base.tbls b ps e
    obtain ⟨m2, e2⟩ := tbls b _ e1
    exact ⟨m1 ++ m2, by rw [e2, Array.append_assoc]⟩
  · obtain ⟨m, hn, hl⟩ := I.loc
    refine ⟨m, ns m hn, fun i x v e1 e2 e3 => ?_⟩
    obtain ⟨u, r, l⟩ := hl i x v e1 e2 e3
    refine ⟨u, r, ?_⟩
    rcases l with l | ⟨k, c, e, z⟩
    · exact .inl l
    · exact .inr ⟨k, c, e, cellK x c e _ z⟩
  · obtain ⟨v, z⟩ := I.cell x c e
    exact ⟨v, cellK x c e v z⟩
  · obtain ⟨m, ⟨o, _, _, ho, _⟩, _⟩ := I.loc
    exact free _ o (fun z => (hch _ z).2.1 rfl) ho I.free
  · obtain ⟨v, o, ho, hd⟩ := I.cell x c e
    exact free c o (fun z => (hch c z).2.2.1 x c e rfl) ho (I.freeC x c e)
  · obtain ⟨e, n, ne, nf, d⟩ := I.pin p hp
    have nch : p.1 ∉ ch := fun z => (hch p.1 z).2.2.2 p hp rfl
    exact ⟨keep p.1 p.2 ne nf nch e n, free p.1 p.2 nch e n, ne, nf, d⟩
theorem Inv.un {t' : Nat} (I : Inv X pins σ H s) (u : Un X.fs [] H H' s.heap h') (hok : HOk X.prog X.w H' h') : Inv X pins σ H' { s with heap := h', toks := t' } := by
  obtain ⟨m, ⟨o, es, ep, ho, r⟩, _⟩ := id I.loc
  obtain ⟨sl, hL⟩ := u.any ho I.free (by simp)
  exact I.step (g' := s.gens) (d' := s.drawn) (ch := []) (fun _ z => nomatch z) (fun b o _ hb _ e n => u.keep b o e n hb (by simp)) (fun b o _ hb _ e n => u.slot b o e n hb (by simp)) (fun b o _ e n => u.free b o e n (by simp)) (fun b o _ e => u.there b o e (by simp)) u.tups u.frzs u.tbls (fun m' hm => by
    obtain ⟨o', es', ep', ho', r'⟩ := hm
    rw [ho] at ho'; cases ho'
    exact ⟨_, es', ep', hL, r'⟩) hok I.bare
theorem Inv.call {g' : Array GenState} {t' : Nat} {d' : Drawn} {ch : List Addr} (I : Inv X pins σ H s) (u : Un (frs X.stack) ch H H' s.heap h') (hok : HOk X.prog X.w H' h') (hg : AllBare g')
    (hch : ∀ b ∈ ch, (b ∈ X.ex ∨ X.s₀.heap.objs.size ≤ b) ∧ b ≠ X.env.locals ∧ (∀ x c, X.env.cells.lookup x = some c → c ≠ b) ∧ ∀ p ∈ X.pn ++ pins, p.1 ≠ b) :
    Inv X pins σ H' { s with heap := h', gens := g', drawn := d', toks := t' } := by
  obtain ⟨m, ⟨o, es, ep, ho, r⟩, _⟩ := id I.loc
  obtain ⟨sl, hL⟩ := u.any ho I.free fun z => (hch _ z).2.1 rfl
  exact I.step (ch := ch) hch (fun b o hL hb hc e n => u.keep b o e n (fun z => (List.mem_cons.mp (I.stkSub b z)).elim hL hb) hc) (fun b o _ _ hc e n => u.any e n hc) (fun b o hc e n => u.free b o e n hc) (fun b o hc e => u.there b o e hc) u.tups u.frzs u.tbls (fun m' hm => by
    obtain ⟨o', es', ep', ho', r'⟩ := hm
    rw [ho] at ho'; cases ho'
    exact ⟨_, es', ep', hL, r'⟩) hok hg
theorem Inv.turned {t' : Nat} {it : Addr} (I : Inv X pins σ H s) (k : ∀ b o, b ≠ it → s.heap.get? b = some o → h'.get? b = some o) (hn : H it = none) (hL : it ≠ X.env.locals)
    (h1 : it ∈ X.ex ∨ X.s₀.heap.objs.size ≤ it) (h2 : ∀ x c, X.env.cells.lookup x = some c → c ≠ it) (h3 : ∀ p ∈ X.pn ++ pins, p.1 ≠ it) : Inv X pins σ H { s with heap := h', toks := t' } := by
  have nit : ∀ b u, H b = some u → b ≠ it := fun b u e z => by rw [z, hn] at e; cases e
  refine I.step (g' := s.gens) (d' := s.drawn) (ch := [it]) (fun b hb => ?_) (fun b o _ _ hc e _ => k b o (fun z => hc (by simp [z])) e) (fun b o _ _ hc e _ => ⟨o.slots, k b o (fun z => hc (by simp [z])) e⟩) (fun _ _ _ _ n => n)
    (fun b o hc e => ⟨o, k b o (fun z => hc (by simp [z])) e⟩) (fun _ _ e => e) (fun _ _ _ e => e) (fun b ps e => ⟨#[], by rw [e]; simp⟩) (fun m hm => ?_) (fun b u e => ?_) I.bare
  · have e : b = it := by simpa using hb
    subst e
    exact ⟨h1, hL, h2, h3⟩
  · obtain ⟨o, es, ep, ho, r⟩ := hm
    exact ⟨o, es, ep, k _ o (Ne.symm hL) ho, r⟩
  · refine (I.hok b u e).stay (fun c v hc q => k c v ?_ q) (fun _ q => q) fun _ _ q => q
    rcases hc with z | z
    · rw [z]; exact nit b u e
    · exact nit c _ z
theorem Inv.tok (I : Inv X pins σ H s) (t : Nat) : Inv X pins σ H { s with toks := t } := I.un (h' := s.heap) (t' := t) Un.refl I.hok
theorem Inv.kept {t' : Nat} (I : Inv X pins σ H s) (k : ∀ b u, s.heap.get? b = some u → h'.get? b = some u) : Inv X pins σ H { s with heap := h', toks := t' } := I.un (Un.kept k) (I.hok.kept k)
theorem Inv.laid {a : Addr} {o : HO} {t' : Nat} (I : Inv X pins σ H s) (k : ∀ b u, s.heap.get? b = some u → h'.get? b = some u) (hp : s.heap.objs.size ≤ a) (new : ObjOk X.prog X.w (upd H a o) h' a o) :
    Inv X pins σ (upd H a o) { s with heap := h', toks := t' } := I.un (Un.laid k hp (I.hok.fresh hp)) (I.hok.laid k hp new)
theorem Inv.write {x e : Addr} {o : HO} {t' : Nat} (I : Inv X pins σ H s) (mu : Mut (H x)) (he : e = x ∨ H e = some (.own x)) (k : ∀ b u, b ≠ e → s.heap.get? b = some u → h'.get? b = some u) (heo : ∃ u, h'.get? e = some u)
    (new : ObjOk X.prog X.w (upd H x o) h' x o) : Inv X pins σ (upd H x o) { s with heap := h', toks := t' } := I.un (Un.write mu he k heo) (I.hok.write mu he k heo new)
theorem Inv.pins_of {pins' : List (Addr × Obj)} (I : Inv X pins σ H s) (h : ∀ p ∈ pins', s.heap.get? p.1 = some p.2 ∧ H p.1 = none ∧ p.1 ≠ X.env.locals ∧ p.1 ∉ X.fs ∧ ∀ v, p.2.data ≠ .cell v) : Inv X pins' σ H s :=
  ⟨I.ok, I.os, I.bare, I.base, I.loc, I.cell, I.free, I.freeC, fun p hp => (List.mem_append.mp hp).elim (fun z => I.pin p (List.mem_append_left _ z)) (h p), I.hok, I.len⟩
theorem nodup_ix {N : List Str} (hN : N.Nodup) {i j : Nat} {x : Str} (a : N[i]? = some x) (b : N[j]? = some x) : i = j := by
  obtain ⟨h1, e1⟩ := List.getElem?_eq_some_iff.mp a
  obtain ⟨h2, e2⟩ := List.getElem?_eq_some_iff.mp b
  exact (List.getElem_inj hN).mp (e1.trans e2.symm)
theorem store_ok2 {M : Model} {A : Around} {E : Value → Shared → Prop} {i : Nat} {x : Str} {v : V} {u : Value} {Q : Unit → Shared → Prop} (I : Inv X pins σ H s) (hN : X.N.Nodup) (hi : X.N[i]? = some x) (hx : Loc X.env.scope x) (r : RelV v u)
    (h : ∀ s', Inv X pins (σ.set i (some v)) H s' → (∃ a, Heap.SameBut a s.heap s'.heap ∧ (a = X.env.locals ∨ X.env.cells.lookup x = some a)) → Q () s') (hf : X.fn x = true ∨ X.env.scope.names.lookup x = some .local := by first | exact .inl rfl | exact .inr rfl | assumption) : wpAny M A (storeName X.env x u) Q E s := by
  obtain ⟨m, hn, hl⟩ := id I.loc
  have hcls : (X.env.scope.kind == .class || (X.env.scope.kind == .module && X.env.locals != X.env.globals)) = false := by rw [I.ok.kind]; rfl
  have hiσ : i < σ.length := by rw [I.len]; exact (List.getElem?_eq_some_iff.mp hi).1
  have cne := I.cne
  have tracked : ∀ {a : Addr} {h' : Heap}, (∃ o, s.heap.get? a = some o ∧ H a = none) → Heap.SameBut a s.heap h' → HOk X.prog X.w H h' := fun {a h'} ha hs b ob e => by
    obtain ⟨_, _, hfree⟩ := ha
    refine (I.hok b ob e).stay (fun c w' hc q => (hs.2 c ?_).trans q) (fun _ q => q) fun _ _ q => q
    rintro rfl
    rcases hc with rfl | hc
    · rw [hfree] at e; cases e
    · rw [hfree] at hc; cases hc
  rcases hx with hk | hk
  · refine wpAny_storeName_local hk hn (fun h' hn' hs => ?_) hcls
    obtain ⟨oL, _, _, hoL, _⟩ := id hn
    refine h _ ⟨I.ok, I.os, I.bare, ⟨fun b o e n hb hx => ?_, fun b o e n hb hx => ?_, I.base.free, fun b o e hx => ?_, I.base.tups, I.base.frzs, I.base.tbls⟩, ⟨_, hn', fun j y v' e1 e2 e3 => ?_⟩, fun y c e => ?_, I.free, I.freeC, fun p hp => ?_, tracked ⟨oL, hoL, I.free⟩ hs, by simpa using I.len⟩ ⟨_, hs, .inl rfl⟩
    · exact (hs.2 b (Nat.ne_of_lt (Nat.lt_of_lt_of_le (Heap.lt_size e) I.ok.above))).trans (I.base.keep b o e n hb hx)
    · obtain ⟨sl, e1⟩ := I.base.slot b o e n hb hx
      exact ⟨sl, (hs.2 b (Nat.ne_of_lt (Nat.lt_of_lt_of_le (Heap.lt_size e) I.ok.above))).trans e1⟩
    · obtain ⟨o', e1⟩ := I.base.there b o e hx
      exact ⟨o', (hs.2 b (Nat.ne_of_lt (Nat.lt_of_lt_of_le (Heap.lt_size e) I.ok.above))).trans e1⟩
    · by_cases hj : j = i
      · subst hj
        rw [hi] at e1; cases e1
        rw [List.getElem?_set_self hiσ] at e2
        cases e2
        exact ⟨u, r, .inl ⟨hk, by simp⟩⟩
      · rw [List.getElem?_set_ne (Ne.symm hj)] at e2
        obtain ⟨u', r', q⟩ := hl j y v' e1 e2 e3
        refine ⟨u', r', ?_⟩
        rcases q with ⟨k, e⟩ | ⟨k, c, e, z⟩
        · refine .inl ⟨k, ?_⟩
          have : y ≠ x := fun e => hj (nodup_ix hN e1 (e ▸ hi))
          simp [this, e]
        · exact .inr ⟨k, c, e, z.sameBut hs (cne y c e)⟩
    · obtain ⟨w', z⟩ := I.cell y c e
      exact ⟨w', z.sameBut hs (cne y c e)⟩
    · obtain ⟨e, n, ne, nf, d⟩ := I.pin p hp
      exact ⟨(hs.2 p.1 ne).trans e, n, ne, nf, d⟩
  · have hfn : X.fn x = true := by
      rcases hf with z | z
      · exact z
      · rw [z] at hk; cases hk
    obtain ⟨c, hc⟩ := I.ok.has x (.inl hk)
    obtain ⟨w', z⟩ := I.cell x c hc
    refine wpAny_storeName_cell I.ok.kind hk hc z (fun h' hc' hs => ?_)
    obtain ⟨oc, hoc, hocd⟩ := id z
    refine h { s with heap := h' } ⟨I.ok, I.os, I.bare, ⟨fun b o e n hb hx => ?_, fun b o e n hb hx => ?_, I.base.free, fun b o e hx => ?_, I.base.tups, I.base.frzs, I.base.tbls⟩, ⟨m, hn.sameBut hs (Ne.symm (cne x c hc)), fun j y v' e1 e2 e3 => ?_⟩, fun y c' e => ?_, I.free, I.freeC, fun p hp => ?_, tracked ⟨oc, hoc, I.freeC x c hc⟩ hs, by simpa using I.len⟩ ⟨c, hs, .inr hc⟩
    · exact (hs.2 b (Nat.ne_of_lt (Nat.lt_of_lt_of_le (Heap.lt_size e) (I.ok.cab x c hfn hc)))).trans (I.base.keep b o e n hb hx)
    · obtain ⟨sl, e1⟩ := I.base.slot b o e n hb hx
      exact ⟨sl, (hs.2 b (Nat.ne_of_lt (Nat.lt_of_lt_of_le (Heap.lt_size e) (I.ok.cab x c hfn hc)))).trans e1⟩
    · obtain ⟨o', e1⟩ := I.base.there b o e hx
      exact ⟨o', (hs.2 b (Nat.ne_of_lt (Nat.lt_of_lt_of_le (Heap.lt_size e) (I.ok.cab x c hfn hc)))).trans e1⟩
    · by_cases hj : j = i
      · subst hj
        rw [hi] at e1; cases e1
        rw [List.getElem?_set_self hiσ] at e2
        cases e2
        exact ⟨u, r, .inr ⟨.inl hk, c, hc, hc'⟩⟩
      · rw [List.getElem?_set_ne (Ne.symm hj)] at e2
        obtain ⟨u', r', q⟩ := hl j y v' e1 e2 e3
        refine ⟨u', r', ?_⟩
        rcases q with q | ⟨k, c', e, z'⟩
        · exact .inl q
        · refine .inr ⟨k, c', e, z'.sameBut hs ?_⟩
          rintro rfl
          exact hj (nodup_ix hN e1 (I.ok.inj _ _ _ e hc ▸ hi))
    · by_cases hcc : c' = c
      · subst hcc; exact ⟨_, hc'⟩
      · obtain ⟨w2, z2⟩ := I.cell y c' e
        exact ⟨w2, z2.sameBut hs hcc⟩
    · obtain ⟨e, n, ne, nf, d⟩ := I.pin p hp
      refine ⟨(hs.2 p.1 ?_).trans e, n, ne, nf, d⟩
      intro q
      rw [q, hoc] at e
      have q' : oc = p.2 := Option.some.inj e
      exact d w' (by rw [← q']; exact hocd)
theorem store_ok {M : Model} {A : Around} {E : Value → Shared → Prop} {i : Nat} {x : Str} {v : V} {u : Value} {Q : Unit → Shared → Prop} (I : Inv X pins σ H s) (hN : X.N.Nodup) (hi : X.N[i]? = some x) (hx : Loc X.env.scope x) (r : RelV v u)
    (h : ∀ s', Inv X pins (σ.set i (some v)) H s' → Q () s') (hf : X.fn x = true ∨ X.env.scope.names.lookup x = some .local := by first | exact .inl rfl | exact .inr rfl | assumption) : wpAny M A (storeName X.env x u) Q E s :=
  store_ok2 I hN hi hx r (fun s' I' _ => h s' I') hf
theorem Inv.call' {s' : Shared} {ch : List Addr} (I : Inv X pins σ H s) (ho : s'.os = s.os) (u : Un (frs X.stack) ch H H' s.heap s'.heap) (hok : HOk X.prog X.w H' s'.heap) (hg : AllBare s'.gens)
    (hch : ∀ b ∈ ch, (b ∈ X.ex ∨ X.s₀.heap.objs.size ≤ b) ∧ b ≠ X.env.locals ∧ (∀ x c, X.env.cells.lookup x = some c → c ≠ b) ∧ ∀ p ∈ X.pn ++ pins, p.1 ≠ b) : Inv X pins σ H' s' := by
  obtain ⟨h', g', d', t', o'⟩ := s'
  have e : o' = s.os := ho
  subst e
  exact I.call (g' := g') (t' := t') (d' := d') u hok hg hch
end
abbrev XK := Value → Option Addr → Hp → Prop
abbrev St := List (Option V)
abbrev VK := V → Hp → Prop
abbrev TE := St → Hp → VK → Prop
abbrev TT := St → Hp → (Bool → Hp → Prop) → Prop
abbrev TA := St → Hp → (List V → Hp → Prop) → Prop
structure Ends where
  nx : St → Hp → Prop
  rt : VK
  bk : St → Hp → Prop := fun _ _ => False
  ct : St → Hp → Prop := fun _ _ => False
abbrev TS := Ends → St → Hp → Prop
def EP (X : Cx) (pins : List (Addr × Obj)) (σ : St) (Q : VK) (u : Value) (s' : Shared) : Prop := ∃ v H', Inv X pins σ H' s' ∧ RelV v u ∧ Q v H'
def TP (X : Cx) (pins : List (Addr × Obj)) (σ : St) (Q : Bool → Hp → Prop) (b : Bool) (s' : Shared) : Prop := ∃ H', Inv X pins σ H' s' ∧ Q b H'
def AP (X : Cx) (pins : List (Addr × Obj)) (σ : St) (Q : List V → Hp → Prop) (us : List Value) (s' : Shared) : Prop := ∃ vs H', Inv X pins σ H' s' ∧ Vals vs us ∧ Q vs H'
def SP (X : Cx) (pins : List (Addr × Obj)) (D : Ends) (f : Flow) (s' : Shared) : Prop :=
  match f with
  | .next => ∃ σ' H', Inv X pins σ' H' s' ∧ D.nx σ' H'
  | .brk => ∃ σ' H', Inv X pins σ' H' s' ∧ D.bk σ' H'
  | .cont => ∃ σ' H', Inv X pins σ' H' s' ∧ D.ct σ' H'
  | .ret u => ∃ v σ' H', Inv X pins σ' H' s' ∧ RelV v u ∧ D.rt v H'
def PE (X : Cx) (e : Expr) (t : TE) : Prop :=
  ∀ (pins : List (Addr × Obj)) (s : Shared) (σ : St) (H : Hp) (Q : VK), Inv X pins σ H s → t σ H Q → wpAny (model X.prog X.w) X.A (eval e X.env) (EP X pins σ Q) X.xe s
def PT (X : Cx) (e : Expr) (t : TT) : Prop :=
  ∀ (pins : List (Addr × Obj)) (s : Shared) (σ : St) (H : Hp) (Q : Bool → Hp → Prop), Inv X pins σ H s → t σ H Q → wpAny (model X.prog X.w) X.A (isTrue e X.env (eval e X.env)) (TP X pins σ Q) X.xe s
def PW (X : Cx) (e : Expr) (t : TT) : Prop :=
  ∀ (whole : Sem Value) (pins : List (Addr × Obj)) (s : Shared) (σ : St) (H : Hp) (Q : Bool → Hp → Prop), Inv X pins σ H s → t σ H Q → wpAny (model X.prog X.w) X.A (isTrue e X.env whole) (TP X pins σ Q) X.xe s
def PA (X : Cx) (es : List Expr) (t : TA) : Prop :=
  ∀ (pos : Pos) (pins : List (Addr × Obj)) (s : Shared) (σ : St) (H : Hp) (Q : List V → Hp → Prop), Inv X pins σ H s → t σ H Q → wpAny (model X.prog X.w) X.A (spliced (backTo pos (starEach es X.env))) (AP X pins σ Q) X.xe s
def PS (X : Cx) (st : Stmt) (t : TS) : Prop :=
  ∀ (pins : List (Addr × Obj)) (s : Shared) (σ : St) (H : Hp) (D : Ends), Inv X pins σ H s → t D σ H → wpAny (model X.prog X.w) X.A (exec st X.env) (SP X pins D) X.xe s
def PSs (X : Cx) (st : List Stmt) (t : TS) : Prop :=
  ∀ (pins : List (Addr × Obj)) (s : Shared) (σ : St) (H : Hp) (D : Ends), Inv X pins σ H s → t D σ H → wpAny (model X.prog X.w) X.A (execs st X.env) (SP X pins D) X.xe s
theorem thn {α : Type} {t : Sem α} {Q Q' : α → Shared → Prop} {M : Model} {A : Around} {E : Value → Shared → Prop} {s : Shared} (h : wpAny M A t Q E s) (hQ : ∀ a s, Q a s → Q' a s) : wpAny M A t Q' E s := wpAny_mono h hQ fun _ _ x => x
end L2
namespace L2
open PySem PySem.Spec PyProof.Rows
section
variable {X : Cx}
theorem bin {a b : Expr} {ta tb : TE} (ha : PE X a ta) (hb : PE X b tb) {pins : List (Addr × Obj)} {s : Shared} {σ : St} {H : Hp} {R : V → V → Hp → Prop} (I : Inv X pins σ H s) (h : ta σ H fun x H1 => tb σ H1 fun y H2 => R x y H2)
    {α : Type} {Q : α → Shared → Prop} {f : Value → Value → Sem α}
    (hf : ∀ v u s2 x y H2, Inv X pins σ H2 s2 → RelV x v → RelV y u → R x y H2 → wpAny (model X.prog X.w) X.A (f v u) Q X.xe s2) :
    wpAny (model X.prog X.w) X.A (eval a X.env) (fun v s₁ => wpAny (model X.prog X.w) X.A (eval b X.env) (fun u s₂ => wpAny (model X.prog X.w) X.A (f v u) Q X.xe s₂) X.xe s₁) X.xe s := by
  refine thn (ha pins s σ H _ I h) fun v s1 ⟨x, H1, I1, r1, q1⟩ => ?_
  refine thn (hb pins s1 σ H1 _ I1 q1) fun u s2 ⟨y, H2, I2, r2, q2⟩ => ?_
  exact hf v u s2 x y H2 I2 r1 r2 q2
def tVar (i : Nat) : TE := fun σ H Q => ∃ v, σ[i]? = some (some v) ∧ Q v H
def tC (v : V) : TE := fun _ H Q => Q v H
theorem pe_var {i : Nat} {x : Str} {pos : Pos} (hN : X.N[i]? = some x) (hv : Vis X.env.scope x) (hd : (x == ("__debug__" : Str)) = false := by decide) (hcd : (x == ("__classdict__" : Str)) = false := by decide) : PE X (.Name x pos) (tVar i) := by
  intro pins s σ H Q I h
  obtain ⟨v, e, h⟩ := h
  obtain ⟨m, hn, hl⟩ := I.loc
  obtain ⟨u, r, l⟩ := hl i x v hN e hv
  have fin : EP X pins σ Q u s := ⟨v, H, I, r, h⟩
  rcases l with ⟨hk, hm⟩ | ⟨hk, c, hc, hcell⟩
  · exact wpAny_Name (wpAny_loadName_local I.ok.kind hk hn hm fin) hd
  · rcases hk with hk | hk
    · exact wpAny_Name (wpAny_loadName_cell I.ok.kind hk hc hcell fin) hd
    · exact wpAny_Name (wpAny_loadName_free I.ok.kind hk hc hcell fin hcd) hd
theorem pe_int {i j pos} : PE X (.Constant (.int i) j pos) (tC (.int i)) := fun _ _ _ H _ I h => wpAny_Constant_int ⟨.int i, H, I.tok _, ⟨_, rfl⟩, h⟩
theorem pe_bl {b j pos} : PE X (.Constant (.bool b) j pos) (tC (.bl b)) := fun _ _ _ H _ I h => Constant_bool ⟨.bl b, H, I, rfl, h⟩
theorem pe_non {j pos} : PE X (.Constant .none j pos) (tC .non) := fun _ _ _ H _ I h => Constant_none ⟨.non, H, I, rfl, h⟩
theorem pe_str {x j pos} : PE X (.Constant (.str x) j pos) (tC (.str x)) := fun _ _ _ H _ I h => Calls.Constant_str ⟨.str x, H, I.tok _, ⟨_, rfl⟩, h⟩
def Gl (X : Cx) (x : Str) : Prop := X.env.kindOf x = some .globalImplicit
theorem ld_glob {E : Value → Shared → Prop} {pins : List (Addr × Obj)} {s : Shared} {σ : St} {H : Hp} {x : Str} {u : Value} {pos : Pos} {Q : Value → Shared → Prop} (I : Inv X pins σ H s) (hg : Gl X x) (hm : X.mg x = some u) (h : Q u s)
    (hd : (x == ("__debug__" : Str)) = false := by decide) : wpAny (model X.prog X.w) X.A (eval (.Name x pos) X.env) Q E s :=
  Calls.Name_function_global I.ok.kind hg (Calls.loadGlobal_global (by rw [I.ok.glob]; exact I.mod.glob.keeps I.bk) hm h) hd
theorem ld_blt {E : Value → Shared → Prop} {pins : List (Addr × Obj)} {s : Shared} {σ : St} {H : Hp} {x : Str} {u : Value} {pos : Pos} {Q : Value → Shared → Prop} (I : Inv X pins σ H s) (hg : Gl X x) (hm : X.mg x = none) (hv : bootBuiltins x = some u) (h : Q u s)
    (hn : x ≠ "__name__" := by decide) (hd : (x == ("__debug__" : Str)) = false := by decide) : wpAny (model X.prog X.w) X.A (eval (.Name x pos) X.env) Q E s := by
  obtain ⟨mb, h1, h2⟩ := I.mod.blt
  exact Calls.Name_function_global I.ok.kind hg (Calls.loadGlobal_builtin (by rw [I.ok.glob]; exact I.mod.glob.keeps I.bk) hm (by rw [I.ok.blt]; exact h1.keeps I.bk) ((h2 x hn).trans hv) h) hd
variable {a b : Expr} {ta tb : TE} {pos : Pos}
variable {tA tB' : TT} {rest : List Expr}
def tAnd (t u : TT) : TT := fun σ H Q => t σ H fun c H1 => if c = true then u σ H1 Q else Q false H1
def tOr (t u : TT) : TT := fun σ H Q => t σ H fun c H1 => if c = true then Q true H1 else u σ H1 Q
def tNot (t : TT) : TT := fun σ H Q => t σ H fun c H1 => Q (!c) H1
theorem pw_and1 (ha : PT X a tA) : PW X (.BoolOp .And [a] pos) tA := by
  intro wh pins s σ H Q I h
  refine isTrue_and (thn (ha pins s σ H Q I h) fun c s1 e => ?_)
  cases c with
  | true => exact isTrue_and_nil e
  | false => exact e
theorem pw_or1 (ha : PT X a tA) : PW X (.BoolOp .Or [a] pos) tA := by
  intro wh pins s σ H Q I h
  refine isTrue_or (thn (ha pins s σ H Q I h) fun c s1 e => ?_)
  cases c with
  | false => exact isTrue_or_nil e
  | true => exact e
theorem pw_and (ha : PT X a tA) (hb : PW X (.BoolOp .And (b :: rest) pos) tB') : PW X (.BoolOp .And (a :: b :: rest) pos) (tAnd tA tB') := by
  intro wh pins s σ H Q I h
  refine isTrue_and (thn (ha pins s σ H _ I h) fun c s1 ⟨H1, I1, q1⟩ => ?_)
  cases c with
  | true => exact hb wh pins s1 σ H1 Q I1 q1
  | false => exact ⟨H1, I1, q1⟩
theorem pw_or (ha : PT X a tA) (hb : PW X (.BoolOp .Or (b :: rest) pos) tB') : PW X (.BoolOp .Or (a :: b :: rest) pos) (tOr tA tB') := by
  intro wh pins s σ H Q I h
  refine isTrue_or (thn (ha pins s σ H _ I h) fun c s1 ⟨H1, I1, q1⟩ => ?_)
  cases c with
  | true => exact ⟨H1, I1, q1⟩
  | false => exact hb wh pins s1 σ H1 Q I1 q1
theorem pt_not (ha : PT X a tA) : PT X (.UnaryOp .Not a pos) (tNot tA) := by
  intro pins s σ H Q I h
  exact isTrue_not (ha pins s σ H (fun c H1 => Q (!c) H1) I h)
def tIf (t : TT) (ta tb : TE) : TE := fun σ H Q => t σ H fun c H1 => if c = true then ta σ H1 Q else tb σ H1 Q
theorem pe_ifExp {c : Expr} (hc : PT X c tA) (ha : PE X a ta) (hb : PE X b tb) : PE X (.IfExp c a b pos) (tIf tA ta tb) := by
  intro pins s σ H Q I h
  refine wpAny_IfExp (thn (hc pins s σ H _ I h) fun d s1 ⟨H1, I1, q1⟩ => ?_)
  cases d with
  | true => exact ha pins s1 σ H1 Q I1 q1
  | false => exact hb pins s1 σ H1 Q I1 q1
end
end L2
namespace L2
open PySem PySem.Spec PyProof.Rows
def SqL (K : PySem.W.Frag) (H : Hp) (a : Addr) (xs : List V) : Prop :=
  Rd H a (.lst xs) ∨
    ∃ (o : Obj) (its : Array Value) (n : Nat), K.lookup a = some o ∧ o.cls = .type "list" ∧ o.dict = none ∧ o.data = .seq its n ∧ its.size ≤ sizeLine ∧ Vals xs its.toList
def SqT (K : PySem.W.Frag) (H : Hp) (a : Addr) (xs : List V) : Prop :=
  Rd H a (.tup xs) ∨
    ∃ (o : Obj) (its : Array Value) (n : Nat), K.lookup a = some o ∧ o.cls = .type "tuple" ∧ o.data = .seq its n ∧ its.size ≤ sizeLine ∧ Vals xs its.toList
def absV : Value → Option V
  | .none => some .non
  | .bool b => some (.bl b)
  | .int i _ => some (.int i)
  | .str x _ => some (.str x)
  | .bytes b _ => some (.byt b)
  | .float b _ => some (.flt b)
  | .ref a => some (.ref a)
  | .type n => some (.ty n)
  | _ => none
theorem RelV.abs {x : V} {u : Value} (r : RelV x u) : absV u = some x := by
  cases x with
  | non => cases r; rfl
  | bl _ => cases r; rfl
  | int _ => obtain ⟨t, rfl⟩ := r; rfl
  | str _ => obtain ⟨t, rfl⟩ := r; rfl
  | byt _ => obtain ⟨t, rfl⟩ := r; rfl
  | flt _ => obtain ⟨t, rfl⟩ := r; rfl
  | ref _ => cases r; rfl
  | ty _ => cases r; rfl
theorem RelV.inj {x y : V} {u : Value} (r : RelV x u) (q : RelV y u) : x = y := Option.some.inj (r.abs.symm.trans q.abs)
theorem Vals.inj : ∀ {xs ys : List V} {us : List Value}, Vals xs us → Vals ys us → xs = ys
  | _, _, _, .nil, .nil => rfl
  | _, _, _, .cons r t, .cons r' t' => by rw [r.inj r', Vals.inj t t']
section
variable {X : Cx} {pins : List (Addr × Obj)} {σ : St} {H : Hp} {s : Shared} {a : Addr} {xs ys : List V}
theorem SqL.of {K : PySem.W.Frag} (h : H a = some (.lst xs)) : SqL K H a xs := .inl (.inl h)
theorem SqT.of {K : PySem.W.Frag} (h : H a = some (.tup xs)) : SqT K H a xs := .inl (.inl h)
theorem Inv.list (I : Inv X pins σ H s) (h : SqL X.K H a xs) : ∃ its : List Value, Vals xs its ∧ PlainL s.heap a its.toArray ∧ xs.length ≤ sizeLine := by
  rcases h with h | ⟨o, its, n, hk, hc, hd, hs, hz, r⟩
  · obtain ⟨z, its, n, r, e⟩ := h.ok I.hok
    exact ⟨its, r, ⟨_, n, e, rfl, rfl, rfl⟩, z⟩
  · refine ⟨its.toList, r, ⟨o, n, I.kIn a o hk, hc, hd, by simpa using hs⟩, ?_⟩
    have e := r.length
    simp only [Array.length_toList] at e
    omega
theorem Inv.tuple (I : Inv X pins σ H s) (h : SqT X.K H a xs) : ∃ its : List Value, Vals xs its ∧ IsTup s.heap a its.toArray ∧ xs.length ≤ sizeLine := by
  rcases h with h | ⟨o, its, n, hk, hc, hs, hz, r⟩
  · obtain ⟨z, its, r, p⟩ := h.ok I.hok
    exact ⟨its, r, p.1, z⟩
  · refine ⟨its.toList, r, ⟨o, I.kIn a o hk, hc, n, by simpa using hs⟩, ?_⟩
    have e := r.length
    simp only [Array.length_toList] at e
    omega
theorem Inv.list_inj (I : Inv X pins σ H s) (h : SqL X.K H a xs) (h' : SqL X.K H a ys) : xs = ys := by
  obtain ⟨its, r, ⟨o, n, e, _, _, d⟩, _⟩ := I.list h
  obtain ⟨its', r', ⟨o', n', e', _, _, d'⟩, _⟩ := I.list h'
  rw [e] at e'; cases e'
  rw [d] at d'
  injection d' with d1 _
  have : its = its' := by simpa using congrArg Array.toList d1
  subst this
  exact r.inj r'
theorem Inv.tuple_inj (I : Inv X pins σ H s) (h : SqT X.K H a xs) (h' : SqT X.K H a ys) : xs = ys := by
  obtain ⟨its, r, ⟨o, e, _, n, d⟩, _⟩ := I.tuple h
  obtain ⟨its', r', ⟨o', e', _, n', d'⟩, _⟩ := I.tuple h'
  rw [e] at e'; cases e'
  rw [d] at d'
  injection d' with d1 _
  have : its = its' := by simpa using congrArg Array.toList d1
  subst this
  exact r.inj r'
end
abbrev Cx.wish (X : Cx) (E : Value → Shared → Prop) : Cx := { X with xe := E }
theorem Cx.Ok.wish {X : Cx} (ok : X.Ok) (E : Value → Shared → Prop) : (X.wish E).Ok :=
  ⟨ok.mod, ok.kind, ok.glob, ok.blt, ok.above, ok.inj, ok.has, ok.cab, ok.hd, ok.frames, ok.stk, ok.exf, ok.bs, ok.bsz, ok.noex, ok.exfs, ok.funs, ok.frf⟩
theorem Cx.Ok.unwish {X : Cx} {E : Value → Shared → Prop} (ok : (X.wish E).Ok) : X.Ok :=
  ⟨ok.mod, ok.kind, ok.glob, ok.blt, ok.above, ok.inj, ok.has, ok.cab, ok.hd, ok.frames, ok.stk, ok.exf, ok.bs, ok.bsz, ok.noex, ok.exfs, ok.funs, ok.frf⟩
section
variable {X : Cx} {pins : List (Addr × Obj)} {σ : St} {H : Hp} {s : Shared} {E : Value → Shared → Prop}
theorem Inv.wish (I : Inv X pins σ H s) (E : Value → Shared → Prop) : Inv (X.wish E) pins σ H s := ⟨I.ok.wish E, I.os, I.bare, I.base, I.loc, I.cell, I.free, I.freeC, I.pin, I.hok, I.len⟩
theorem Inv.unwish (I : Inv (X.wish E) pins σ H s) : Inv X pins σ H s := ⟨I.ok.unwish, I.os, I.bare, I.base, I.loc, I.cell, I.free, I.freeC, I.pin, I.hok, I.len⟩
end
section
variable {X : Cx} {st : Stmt} {rest : List Stmt} {t u : TS} {e : Expr} {te : TE} {pos : Pos}
def tNext : TS := fun D σ H => D.nx σ H
def tSeq (t u : TS) : TS := fun D σ H => t { D with nx := u D } σ H
theorem pss_nil : PSs X [] tNext := fun _ _ σ H _ I h => wpAny_execs_nil ⟨σ, H, I, h⟩
theorem pss_cons (h1 : PS X st t) (h2 : PSs X rest u) : PSs X (st :: rest) (tSeq t u) := by
  intro pins s σ H D I h
  refine wpAny_execs_cons (thn (h1 pins s σ H { D with nx := u D } I h) fun f s1 q => ?_)
  cases f with
  | next =>
    obtain ⟨σ', H', I', q⟩ := q
    exact h2 pins s1 σ' H' D I' q
  | ret v => exact q
  | brk => exact q
  | cont => exact q
theorem pss_one (h1 : PS X st t) : PSs X [st] t := by
  intro pins s σ H D I h
  refine wpAny_execs_cons (thn (h1 pins s σ H D I h) fun f s1 q => ?_)
  cases f with
  | next => exact wpAny_execs_nil q
  | ret v => exact q
  | brk => exact q
  | cont => exact q
theorem Inv.quiet {pins : List (Addr × Obj)} {σ : St} {H : Hp} {s : Shared} (I : Inv X pins σ H s) : interactive X.env = false := by simp [interactive, I.ok.kind]
def tDrop (te : TE) : TS := fun D σ H => te σ H fun _ H1 => D.nx σ H1
theorem ps_expr (he : PE X e te) (hs : swapsWith e none pos.line X.env = pure false := by rfl) : PS X (.Expr e pos) (tDrop te) := by
  intro pins s σ H D I h
  exact wpAny_Expr_any (thn (he pins s σ H _ I h) fun v s1 ⟨x, H1, I1, r1, q1⟩ => ⟨σ, H1, I1, q1⟩) I.quiet hs
def tRet (te : TE) : TS := fun D σ H => te σ H D.rt
theorem ps_ret (he : PE X e te) : PS X (.Return (some e) pos) (tRet te) := by
  intro pins s σ H D I h
  exact wpAny_Return_some (thn (he pins s σ H _ I h) fun v s1 ⟨x, H1, I1, r1, q1⟩ => ⟨x, σ, H1, I1, r1, q1⟩)
def tIfS (c : TT) (t u : TS) : TS := fun D σ H => c σ H fun b H1 => if b = true then t D σ H1 else u D σ H1
theorem ps_if {c : Expr} {a b : List Stmt} {tc : TT} (hc : PT X c tc) (ha : PSs X a t) (hb : PSs X b u) : PS X (.If c a b pos) (tIfS tc t u) := by
  intro pins s σ H D I h
  refine wpAny_If (thn (hc pins s σ H _ I h) fun d s1 ⟨H1, I1, q1⟩ => ?_)
  cases d with
  | true => exact ha pins s1 σ H1 D I1 q1
  | false => exact hb pins s1 σ H1 D I1 q1
end
abbrev TG := V → St → Hp → (St → Hp → Prop) → Prop
abbrev TGs := List V → St → Hp → (St → Hp → Prop) → Prop
def PG (X : Cx) (target : Expr) (t : TG) : Prop :=
  ∀ (pins : List (Addr × Obj)) (s : Shared) (σ : St) (H : Hp) (v : V) (u : Value) (Q : St → Hp → Prop), Inv X pins σ H s → RelV v u → t v σ H Q →
    wpAny (model X.prog X.w) X.A (assign target X.env u) (fun _ s' => ∃ σ' H', Inv X pins σ' H' s' ∧ Q σ' H') X.xe s
def PGs (X : Cx) (ts : List Expr) (t : TGs) : Prop :=
  ∀ (pins : List (Addr × Obj)) (s : Shared) (σ : St) (H : Hp) (vs : List V) (us : List Value) (Q : St → Hp → Prop), Inv X pins σ H s → Vals vs us → t vs σ H Q →
    wpAny (model X.prog X.w) X.A (assignInOrder ((assignEach ts X.env).map (·.2)) us) (fun _ s' => ∃ σ' H', Inv X pins σ' H' s' ∧ Q σ' H') X.xe s
abbrev TSet := V → V → V → Hp → (Hp → Prop) → Prop
def PSet (X : Cx) (t : TSet) : Prop :=
  ∀ (pins : List (Addr × Obj)) (s : Shared) (σ : St) (H : Hp) (o i v : V) (ov iv u : Value) (Q : Hp → Prop), Inv X pins σ H s → RelV o ov → RelV i iv → RelV v u → t o i v H Q →
    wpAny (model X.prog X.w) X.A (setItem ov iv u) (fun _ s' => ∃ H', Inv X pins σ H' s' ∧ Q H') X.xe s
abbrev TIp := V → V → Hp → VK → Prop
def PIp (X : Cx) (op : Operator) (t : TIp) : Prop :=
  ∀ (pins : List (Addr × Obj)) (s : Shared) (σ : St) (H : Hp) (x y : V) (v u : Value) (Q : VK), Inv X pins σ H s → RelV x v → RelV y u → t x y H Q →
    wpAny (model X.prog X.w) X.A (inplaceOp op v u) (EP X pins σ Q) X.xe s
section
variable {X : Cx} {pos : Pos}
def gName (i : Nat) : TG := fun v σ H Q => Q (σ.set i (some v)) H
theorem pg_name {i : Nat} {x : Str} (hN : X.N.Nodup) (hi : X.N[i]? = some x) (hx : Loc X.env.scope x) (hf : X.fn x = true ∨ X.env.scope.names.lookup x = some .local := by first | exact .inl rfl | exact .inr rfl | assumption) : PG X (.Name x pos) (gName i) := by
  intro pins s σ H v u Q I r h
  exact wpAny_assign_Name (store_ok I hN hi hx r (fun s' I' => ⟨_, H, I', h⟩) hf)
def gNil : TGs := fun vs σ H Q => vs = [] ∧ Q σ H
def gCons (t : TG) (u : TGs) : TGs := fun vs σ H Q => ∃ v r, vs = v :: r ∧ t v σ H fun σ' H' => u r σ' H' Q
theorem pgs_nil : PGs X [] gNil := by
  intro pins s σ H vs us Q I r h
  obtain ⟨e, h⟩ := h
  subst e
  cases r
  exact assignInOrder_nil ⟨σ, H, I, h⟩
theorem pgs_cons {e : Expr} {es : List Expr} {t : TG} {u : TGs} (h1 : PG X e t) (h2 : PGs X es u)
    (hs : (assignEach (e :: es) X.env).map (·.2) = assign e X.env :: (assignEach es X.env).map (·.2) := by rfl) : PGs X (e :: es) (gCons t u) := by
  intro pins s σ H vs us Q I r h
  obtain ⟨v, vr, e1, h⟩ := h
  subst e1
  cases r with
  | cons r rr =>
    rw [hs]
    refine assignInOrder_cons (thn (h1 pins s σ H _ _ _ I r h) fun _ s1 ⟨σ1, H1, I1, q1⟩ => ?_)
    exact h2 pins s1 σ1 H1 _ _ Q I1 rr q1
def gTup (K : PySem.W.Frag) (n : Nat) (t : TGs) : TG := fun v σ H Q => ∃ a xs, v = .ref a ∧ SqT K H a xs ∧ xs.length = n ∧ t xs σ H Q
theorem pg_tup {es : List Expr} {k : Nat} {t : TGs} {n : Nat} (hc : X.calm = true) (h : PGs X es t)
    (hn : (assignEach es X.env).length = n := by rfl) (hst : (assignEach es X.env).findIdx? (·.1) = none := by rfl) : PG X (.Tuple es k pos) (gTup X.K n t) := by
  intro pins s σ H v u Q I r hw
  obtain ⟨a, xs, e1, hq, hl, hw⟩ := hw
  subst e1
  cases r
  obtain ⟨its, rv, ht, hz⟩ := I.tuple hq
  refine assign_Tuple_tuple (I.ok.hd hc) ht (by simp [hn, ← hl, rv.length]) hst fun h' hx => ?_
  have I1 : Inv X pins σ H { s with heap := h' } := I.kept (t' := s.toks) fun b o e => hx b o (Nat.ne_of_lt (Heap.lt_size e)) e
  exact h pins _ σ H xs _ Q I1 (by simpa using rv) hw
def gSub (to ti : TE) (t : TSet) : TG := fun v σ H Q => to σ H fun o H1 => ti σ H1 fun i H2 => t o i v H2 fun H3 => Q σ H3
theorem pg_sub {o i : Expr} {to ti : TE} {t : TSet} (ho : PE X o to) (hi : PE X i ti) (hs : PSet X t)
    (ha : ∀ v, assign (.Subscript o i pos) X.env v = (do
      let ov ← holding [v] (eval o X.env)
      let iv ← holding [v, ov] (eval i X.env)
      standAt pos
      holding [v, ov, iv] (setItem ov iv v)
      release [v, ov, iv] []) := by intro _; rfl) : PG X (.Subscript o i pos) (gSub to ti t) := by
  intro pins s σ H v u Q I r h
  rw [ha]
  refine wpAny_bind (wpAny_holding (thn (ho pins s σ H _ I h) fun ov s1 ⟨x, H1, I1, r1, q1⟩ => ?_))
  refine wpAny_bind (wpAny_holding (thn (hi pins s1 σ H1 _ I1 q1) fun iv s2 ⟨y, H2, I2, r2, q2⟩ => ?_))
  refine wpAny_bind (wpAny_standAt (wpAny_bind (wpAny_holding (thn (hs pins s2 σ H2 x y v ov iv u _ I2 r1 r2 r q2) fun _ s3 ⟨H3, I3, q3⟩ => ?_))))
  exact wpAny_release ⟨σ, H3, I3, q3⟩
def tAsg (te : TE) (g : TG) : TS := fun D σ H => te σ H fun x H1 => g x σ H1 D.nx
theorem ps_asg {tg e : Expr} {te : TE} {g : TG} (he : PE X e te) (hg : PG X tg g) (hs : swapsWithSole [tg] e pos.line X.env = pure false := by rfl) (hw : swappedStores [tg] e X.env = pure none := by rfl)
    (h1 : (assignEach [tg] X.env).map (·.2) = [assign tg X.env] := by rfl) : PS X (.Assign [tg] e pos) (tAsg te g) := by
  intro pins s σ H D I h
  refine wpAny_Assign_stores (thn (he pins s σ H _ I h) fun v s1 ⟨x, H1, I1, r1, q1⟩ => ?_) hs hw
  rw [h1]
  exact thn (hg pins s1 σ H1 x v _ I1 r1 q1) fun _ s2 q => q
theorem ps_set {i : Nat} {x : Str} {e : Expr} {te : TE} {pos' : Pos} (hN : X.N.Nodup) (hi : X.N[i]? = some x) (hx : Loc X.env.scope x) (he : PE X e te) (hs : swapsWith e (some (.Name x pos')) pos.line X.env = pure false := by rfl) (hf : X.fn x = true ∨ X.env.scope.names.lookup x = some .local := by first | exact .inl rfl | exact .inr rfl | assumption) :
    PS X (.Assign [.Name x pos'] e pos) (tAsg te (gName i)) := by
  intro pins s σ H D I h
  refine wpAny_Assign_Name (thn (he pins s σ H _ I h) fun v s1 ⟨y, H1, I1, r1, q1⟩ => ?_) hs
  exact store_ok I1 hN hi hx r1 (fun s2 I2 => ⟨_, H1, I2, q1⟩) hf
def tPar (i j : Nat) (ta : TA) : TS := fun D σ H => ta σ H fun vs H1 => ∃ v w, vs = [v, w] ∧ D.nx ((σ.set i (some v)).set j (some w)) H1
theorem ps_par {i j : Nat} {x y : Str} {a b : Expr} {ta : TA} {px py pt : Pos} {kt k2 pt2} (hc : X.calm = true) (hN : X.N.Nodup) (hi : X.N[i]? = some x) (hj : X.N[j]? = some y) (hij : i ≠ j)
    (hx : X.env.scope.names.lookup x = some .local) (hy : X.env.scope.names.lookup y = some .local) (ha : PA X [a, b] ta)
    (hw : swappedStores [.Tuple [.Name x px, .Name y py] kt pt] (.Tuple [a, b] k2 pt2) X.env = pure (some [x, y]))
    (hs : swapsWithSole [.Tuple [.Name x px, .Name y py] kt pt] (.Tuple [a, b] k2 pt2) pos.line X.env = pure false := by rfl) :
    PS X (.Assign [.Tuple [.Name x px, .Name y py] kt pt] (.Tuple [a, b] k2 pt2) pos) (tPar i j ta) := by
  intro pins s σ H D I h
  rw [exec_Assign_arm]
  refine wpAny_bind (wpAny_standAt ?_)
  rw [hs]
  refine wpAny_bind (wpAny_pure ?_)
  rw [if_neg (by decide)]
  refine wpAny_bind (Tuple_ (thn (ha _ pins s σ H _ I h) fun us s1 ⟨vs, H1, I1, r1, q1⟩ => ?_))
  obtain ⟨v, w, e1, q1⟩ := q1
  subst e1
  obtain ⟨u1, u2, rfl, rv, rw'⟩ : ∃ u1 u2, us = [u1, u2] ∧ RelV v u1 ∧ RelV w u2 := by
    cases r1 with
    | cons p q =>
      cases q with
      | cons p' q' =>
        cases q'
        exact ⟨_, _, rfl, p, p'⟩
  refine wpAny_newObj_type ?_ (by show 2 ≤ sizeLine; decide)
  have I2 : Inv X pins σ H1 { s1 with heap := s1.heap.push { cls := .type "tuple", data := .seq [u1, u2].toArray } } := I1.kept (t' := s1.toks) fun b o e => Heap.get?_push_of_some _ e
  rw [hw]
  refine wpAny_bind (wpAny_pure ?_)
  show wpAny (model X.prog X.w) X.A (do rule "assign.swapped-stores"; let items ← unpackItems (.ref s1.heap.objs.size) 2 none; assignInOrder [fun v => bindName X.env y v, fun v => bindName X.env x v] items.reverse; pure Flow.next) _ _ _
  refine wpAny_bind (wpAny_rule (wpAny_bind (unpackItems_tuple (items := #[u1, u2]) (I.ok.hd hc) (IsTup.new s1.heap _) fun h' hx' => ?_)))
  have I3 := I2.kept (h' := h') (t' := s1.toks) fun b o e => hx' b o (Nat.ne_of_lt (Heap.lt_size e)) e
  show wpAny _ _ (assignInOrder [fun v => bindName X.env y v, fun v => bindName X.env x v] [u2, u1] >>= fun _ => pure Flow.next) _ _ _
  refine wpAny_bind (assignInOrder_cons (wpAny_bindName (store_ok I3 hN hj (.inl hy) rw' (fun s2 I4 => ?_) (.inr hy))))
  refine assignInOrder_cons (wpAny_bindName (store_ok I4 hN hi (.inl hx) rv (fun s3 I5 => assignInOrder_nil (wpAny_pure ?_)) (.inr hx)))
  rw [List.set_comm _ _ (Ne.symm hij)] at I5
  exact ⟨_, H1, I5, q1⟩
def tAugS (to ti te : TE) (tget : V → V → Hp → VK → Prop) (tip : TIp) (tset : TSet) : TS := fun D σ H => to σ H fun o H1 => ti σ H1 fun i H2 => tget o i H2 fun x H3 => te σ H3 fun y H4 => tip x y H4 fun z H5 => tset o i z H5 fun H6 => D.nx σ H6
def PGet (X : Cx) (t : V → V → Hp → VK → Prop) : Prop :=
  ∀ (pins : List (Addr × Obj)) (s : Shared) (σ : St) (H : Hp) (o i : V) (ov iv : Value) (Q : VK), Inv X pins σ H s → RelV o ov → RelV i iv → t o i H Q →
    wpAny (model X.prog X.w) X.A (getItem ov iv) (EP X pins σ Q) X.xe s
theorem ps_augS {o i e : Expr} {to ti te : TE} {tget : V → V → Hp → VK → Prop} {tip : TIp} {tset : TSet} {op : Operator} {tpos : Pos} (ho : PE X o to) (hi : PE X i ti) (hg : PGet X tget) (he : PE X e te) (hp : PIp X op tip) (hs : PSet X tset)
    (ha : ∀ ov iv new, augStore i ov iv new = (do holding [new, ov, iv] (setItem ov iv new); release [new, ov, iv] []; pure .next) := by intros; rfl) : PS X (.AugAssign (.Subscript o i tpos) op e pos) (tAugS to ti te tget tip tset) := by
  intro pins s σ H D I h
  refine wpAny_AugAssign_SubscriptAny (thn (ho pins s σ H _ I h) fun ov s1 ⟨x1, H1, I1, r1, q1⟩ => ?_) ha
  refine thn (hi pins s1 σ H1 _ I1 q1) fun iv s2 ⟨x2, H2, I2, r2, q2⟩ => ?_
  refine thn (hg pins s2 σ H2 x1 x2 ov iv _ I2 r1 r2 q2) fun old s3 ⟨x3, H3, I3, r3, q3⟩ => ?_
  refine thn (he pins s3 σ H3 _ I3 q3) fun v s4 ⟨x4, H4, I4, r4, q4⟩ => ?_
  refine thn (hp pins s4 σ H4 x3 x4 old v _ I4 r3 r4 q4) fun new s5 ⟨x5, H5, I5, r5, q5⟩ => ?_
  exact thn (hs pins s5 σ H5 x1 x2 x5 ov iv new _ I5 r1 r2 r5 q5) fun _ s6 ⟨H6, I6, q6⟩ => ⟨σ, H6, I6, q6⟩
def ipI (f : Int → Int → Int) : TIp := fun x y H Q => ∃ i j, x = .int i ∧ y = .int j ∧ Q (.int (f i j)) H
theorem ip_add : PIp X .Add (ipI fun i j => i + j) := by
  intro pins s σ H x y v u Q I r1 r2 h
  obtain ⟨i, j, e1, e2, q⟩ := h
  subst e1; subst e2
  obtain ⟨t, rfl⟩ := r1
  obtain ⟨t', rfl⟩ := r2
  exact iadd_int ⟨.int _, H, I.tok _, ⟨_, rfl⟩, q⟩
end
section
variable {X : Cx} {pos : Pos}
end
structure It where
  go : Nat → Hp → Prop
  yld : Nat → Hp → V → Hp → Prop
  stop : Nat → Hp → Prop
def FpOk (X : Cx) (pins : List (Addr × Obj)) (H : Hp) (b : Addr) : Prop :=
  H b = none ∧ b ≠ X.env.locals ∧ b ∉ X.fs ∧ (b ∈ X.ex ∨ X.s₀.heap.objs.size ≤ b) ∧ (∀ x c, X.env.cells.lookup x = some c → c ≠ b) ∧ ∀ p ∈ X.pn ++ pins, p.1 ≠ b
theorem Inv.fpOk {X : Cx} {pins : List (Addr × Obj)} {σ : St} {H H' : Hp} {s : Shared} {b : Addr} (I : Inv X pins σ H s) (hb : s.heap.objs.size ≤ b) (hn : H' b = none) : FpOk X pins H' b := by
  refine ⟨hn, Nat.ne_of_gt (Nat.lt_of_lt_of_le I.lt hb), I.nofs hb, .inr (Nat.le_trans I.sz hb), fun x c e z => ?_, fun p hp z => ?_⟩
  · obtain ⟨v, q⟩ := I.cell x c e
    exact absurd (Nat.lt_of_lt_of_le q.lt (by rw [z]; exact hb)) (Nat.lt_irrefl _)
  · exact absurd (Nat.lt_of_lt_of_le (Heap.lt_size (I.pin p hp).1) (by rw [z]; exact hb)) (Nat.lt_irrefl _)
structure Turn (P : Program) (w : World) (K : PySem.W.Frag) (tg : Expr) (J : It) (fp : List Addr) (it : Addr) (tn : Nat → Heap → Prop) : Prop where
  mem : it ∈ fp
  obj : ∀ i h, tn i h → ∀ b ∈ fp, ∃ o, h.get? b = some o ∧ ∀ v, o.data ≠ .cell v
  keep : ∀ i h h', tn i h → (∀ b ∈ fp, ∀ o, h.get? b = some o → h'.get? b = some o) → tn i h'
  item : ∀ (X : Cx), X.prog = P → X.w = w → X.K = K → X.calm = true → ∀ (i : Nat) (pins : List (Addr × Obj)) (s : Shared) (σ : St) (H : Hp) (E : Value → Shared → Prop), Inv X pins σ H s → (∀ b ∈ fp, FpOk X pins H b) → tn i s.heap → J.go i H →
    wpAny (model P w) X.A (pyNext (.ref it)) (fun r s1 => ∃ u, r = some u ∧
      wpAny (model P w) X.A (letOwnedTupleGo tg (.ref it) u) (fun _ s2 => ∃ x H', Inv X pins σ H' s2 ∧ RelV x u ∧ J.yld i H x H' ∧ tn (i + 1) s2.heap ∧ ∀ b ∈ fp, H' b = none) E s1) E s
  done : ∀ (X : Cx), X.prog = P → X.w = w → X.K = K → X.calm = true → ∀ (i : Nat) (pins : List (Addr × Obj)) (s : Shared) (σ : St) (H : Hp) (E : Value → Shared → Prop), Inv X pins σ H s → (∀ b ∈ fp, FpOk X pins H b) → tn i s.heap → J.stop i H →
    wpAny (model P w) X.A (pyNext (.ref it)) (fun r s1 => r = none ∧ Inv X pins σ H s1) E s
  self : ∀ (A : Around) (i : Nat) (s : Shared) (Q : Value → Shared → Prop) (E : Value → Shared → Prop), tn i s.heap → Q (.ref it) s → wpAny (model P w) A (pyIter (.ref it)) Q E s
abbrev TI := St → Hp → (It → Hp → Prop) → Prop
def PIE (X : Cx) (pins : List (Addr × Obj)) (σ : St) (tg : Expr) (R : It → Hp → Prop) (itv : Value) (s2 : Shared) : Prop :=
  ∃ (it : Addr) (fp : List Addr) (tn : Nat → Heap → Prop) (J : It) (H' : Hp), itv = .ref it ∧ Inv X pins σ H' s2 ∧ Turn X.prog X.w X.K tg J fp it tn ∧ tn 0 s2.heap ∧ (∀ b ∈ fp, FpOk X pins H' b) ∧ R J H'
def PI (X : Cx) (tg iter : Expr) (wi : TI) : Prop :=
  ∀ (pins : List (Addr × Obj)) (s : Shared) (σ : St) (H : Hp) (R : It → Hp → Prop), Inv X pins σ H s → wi σ H R →
    wpAny (model X.prog X.w) X.A (eval iter X.env) (fun v s1 => wpAny (model X.prog X.w) X.A (pyIter v) (PIE X pins σ tg R) X.xe s1) X.xe s
theorem go_of {M : Model} {A : Around} {E : Value → Shared → Prop} {s : Shared} {tg : Expr} {it : Addr} {u : Value} {o : Obj} {n : String} {vs : Array Value} {Q : Unit → Shared → Prop} (ho : s.heap.get? it = some o) (hc : o.cls = .type n) (hd : o.data = .fields vs)
    (hn : ["enumerate", "zip", "dict_itemiterator", "dict_reverseitemiterator", "odict_iterator", "itertools.zip_longest", "itertools.pairwise"].contains n = false) (hQ : Q () s) : wpAny M A (letOwnedTupleGo tg (.ref it) u) Q E s := by
  unfold letOwnedTupleGo
  cases tg <;> first
    | exact wpAny_pure hQ
    | (cases u <;> first
        | exact wpAny_pure hQ
        | (refine wpAny_bind (wpAny_load ho ?_)
           rw [hc, hd]
           show wpAny M A (if (["enumerate", "zip", "dict_itemiterator", "dict_reverseitemiterator", "odict_iterator", "itertools.zip_longest", "itertools.pairwise"].contains n && vs[0]? == some (rawInt _)) = true then _ else _) Q E s
           rw [if_neg (by intro h; rw [hn, Bool.false_and] at h; cases h)]
           exact wpAny_pure hQ))
def Itl (K : PySem.W.Frag) (a : Addr) : It :=
  ⟨fun i H => ∃ xs x, SqL K H a xs ∧ xs[i]? = some x, fun i H x H' => H' = H ∧ ∀ xs, SqL K H a xs → xs[i]? = some x, fun i H => ∃ xs, SqL K H a xs ∧ xs.length ≤ i⟩
def Itt (K : PySem.W.Frag) (a : Addr) : It :=
  ⟨fun i H => ∃ xs x, SqT K H a xs ∧ xs[i]? = some x, fun i H x H' => H' = H ∧ ∀ xs, SqT K H a xs → xs[i]? = some x, fun i H => ∃ xs, SqT K H a xs ∧ xs.length ≤ i⟩
def Itr (lo : Int) (n : Nat) : It := ⟨fun i _ => i < n, fun i H x H' => H' = H ∧ x = .int (lo + i), fun i _ => n ≤ i⟩
theorem turn_list {P : Program} {w : World} {K : PySem.W.Frag} {tg : Expr} (a it : Addr) : Turn P w K tg (Itl K a) [it] it (fun i h => h.IsListIter it a i) where
  mem := by simp
  obj := fun i h st b hb => by
    have e : b = it := by simpa using hb
    subst e
    obtain ⟨o, e, c, d⟩ := st
    exact ⟨o, e, fun v z => by rw [d] at z; cases z⟩
  keep := fun i h h' st k => st.at fun o e => k it (by simp) o e
  item := by
    intro X hP hw hK hc i pins s σ H E I hf st hg
    subst hP hw hK
    obtain ⟨xs, x, hq, hx⟩ := hg
    obtain ⟨its, rv, p, hz⟩ := I.list hq
    obtain ⟨u, hu, ru⟩ := rv.get hx
    obtain ⟨f0, f1, f2, f3, f4, f5⟩ := hf it (by simp)
    refine wpAny_pyNext_list_item st p.isList (x := u) (by simpa using hu) fun h' st' sb => ?_
    have I1 : Inv X pins σ H { s with heap := h' } := I.turned (t' := s.toks) (fun b o hb e => (sb.2 b hb).trans e) f0 f1 f3 f4 f5
    obtain ⟨o, e, c, d⟩ := id st'
    exact ⟨u, rfl, go_of (s := { s with heap := h' }) e c d (by decide) ⟨x, H, I1, ru, ⟨rfl, fun ys hy => by rw [I.list_inj hy hq]; exact hx⟩, st', fun b hb => (hf b hb).1⟩⟩
  done := by
    intro X hP hw hK hc i pins s σ H E I hf st hg
    subst hP hw hK
    obtain ⟨xs, hq, hx⟩ := hg
    obtain ⟨its, rv, p, hz⟩ := I.list hq
    obtain ⟨f0, f1, f2, f3, f4, f5⟩ := hf it (by simp)
    have hl := rv.length
    exact wpAny_pyNext_list_end (I.ok.hd hc) st p.isList (by simp; omega) fun h' eb => ⟨rfl, I.turned (t' := s.toks) (fun b o hb e => eb b o hb e) f0 f1 f3 f4 f5⟩
  self := fun _ _ _ _ _ st h => wpAny_pyIter_listiter st h
theorem turn_tuple {P : Program} {w : World} {K : PySem.W.Frag} {tg : Expr} (a it : Addr) : Turn P w K tg (Itt K a) [it] it (fun i h => h.IsTupleIter it a i) where
  mem := by simp
  obj := fun i h st b hb => by
    have e : b = it := by simpa using hb
    subst e
    obtain ⟨o, e, c, d⟩ := st
    exact ⟨o, e, fun v z => by rw [d] at z; cases z⟩
  keep := fun i h h' st k => st.at fun o e => k it (by simp) o e
  item := by
    intro X hP hw hK hc i pins s σ H E I hf st hg
    subst hP hw hK
    obtain ⟨xs, x, hq, hx⟩ := hg
    obtain ⟨its, rv, p, hz⟩ := I.tuple hq
    obtain ⟨u, hu, ru⟩ := rv.get hx
    obtain ⟨f0, f1, f2, f3, f4, f5⟩ := hf it (by simp)
    refine wpAny_pyNext_tuple_item st (show s.heap.IsTuple a its.toArray from p) (x := u) (by simpa using hu) fun h' st' sb => ?_
    have I1 : Inv X pins σ H { s with heap := h' } := I.turned (t' := s.toks) (fun b o hb e => (sb.2 b hb).trans e) f0 f1 f3 f4 f5
    obtain ⟨o, e, c, d⟩ := id st'
    exact ⟨u, rfl, go_of (s := { s with heap := h' }) e c d (by decide) ⟨x, H, I1, ru, ⟨rfl, fun ys hy => by rw [I.tuple_inj hy hq]; exact hx⟩, st', fun b hb => (hf b hb).1⟩⟩
  done := by
    intro X hP hw hK hc i pins s σ H E I hf st hg
    subst hP hw hK
    obtain ⟨xs, hq, hx⟩ := hg
    obtain ⟨its, rv, p, hz⟩ := I.tuple hq
    obtain ⟨f0, f1, f2, f3, f4, f5⟩ := hf it (by simp)
    have hl := rv.length
    exact wpAny_pyNext_tuple_end (I.ok.hd hc) st (show s.heap.IsTuple a its.toArray from p) (by simp; omega) fun h' eb => ⟨rfl, I.turned (t' := s.toks) (fun b o hb e => eb b o hb e) f0 f1 f3 f4 f5⟩
  self := fun _ _ _ _ _ st h => wpAny_pyIter_tupleiter st h
theorem turn_range {P : Program} {w : World} {K : PySem.W.Frag} {tg : Expr} (it : Addr) (lo : Int) (n : Nat) : Turn P w K tg (Itr lo n) [it] it (fun i h => IsRangeIter h it (lo + (i : Nat) * 1) ((n : Int) - (i : Nat)) 1) where
  mem := by simp
  obj := fun i h st b hb => by
    have e : b = it := by simpa using hb
    subst e
    exact ⟨_, st, fun v z => by
      have z' : Data.fields _ = Data.cell v := z
      cases z'⟩
  keep := fun i h h' st k => k it (by simp) _ st
  item := by
    intro X hP hw hK hc i pins s σ H E I hf st hg
    subst hP hw hK
    obtain ⟨f0, f1, f2, f3, f4, f5⟩ := hf it (by simp)
    have W := Walks.range (prog := X.prog) (w := X.w) (I.ok.hd hc) it lo 1 n
    refine W.item i s _ _ hg st fun v h' tk hv st' kk => ?_
    obtain ⟨t, rfl⟩ := hv
    have I1 : Inv X pins σ H { s with heap := h', toks := tk } := I.turned (fun b o hb e => kk b o (by simpa using hb) e) f0 f1 f3 f4 f5
    refine ⟨_, rfl, go_of (s := { s with heap := h', toks := tk }) (n := "range_iterator") st' rfl rfl (by decide) ⟨.int (lo + i), H, I1, ⟨t, ?_⟩, ⟨rfl, rfl⟩, st', fun b hb => (hf b hb).1⟩⟩
    rw [Int.mul_one]
  done := by
    intro X hP hw hK hc i pins s σ H E I hf st hg
    subst hP hw hK
    obtain ⟨f0, f1, f2, f3, f4, f5⟩ := hf it (by simp)
    exact wpAny_pyNext_range_end (I.ok.hd hc) st (by have : n ≤ i := hg; omega) fun h' eb => ⟨rfl, I.turned (t' := s.toks) (fun b o hb e => eb b o hb e) f0 f1 f3 f4 f5⟩
  self := fun _ _ _ _ _ st h => wpAny_pyIter_rangeiter st h
end L2
namespace L2
open PySem PySem.Spec PyProof.Rows
section
variable {X : Cx} {tg : Expr}
theorem range_it {pins : List (Addr × Obj)} {σ : St} {H : Hp} {s : Shared} {R : It → Hp → Prop} {E : Value → Shared → Prop} {lo hi : Int} {t u v : Tok} {tk : Nat} (I : Inv X pins σ H s) (h1 : -(2 ^ 62) ≤ lo) (h2 : lo < 2 ^ 62) (h3 : -(2 ^ 62) ≤ hi) (h4 : hi < 2 ^ 62)
    (q : R (Itr lo (hi - lo).toNat) H) : wpAny (model X.prog X.w) X.A (pyIter (.ref s.heap.objs.size)) (PIE X pins σ tg R) E { s with heap := s.heap.push { cls := .type "range", data := .fields #[.int lo t, .int hi u, .int 1 v] }, toks := tk } := by
  refine wpAny_pyIter_range (IsRange.new ..) (small_one h1 h2 h3 h4) ?_
  have I1 : Inv X pins σ H { s with heap := s.heap.push { cls := .type "range", data := .fields #[.int lo t, .int hi u, .int 1 v] }, toks := tk } := I.kept fun b o e => Heap.get?_push_of_some _ e
  refine ⟨(s.heap.push { cls := .type "range", data := .fields #[.int lo t, .int hi u, .int 1 v] }).objs.size, [(s.heap.push { cls := .type "range", data := .fields #[.int lo t, .int hi u, .int 1 v] }).objs.size], _, _, H, rfl,
    I1.kept (t' := tk) fun b o e => Heap.get?_push_of_some _ e, turn_range _ lo (hi - lo).toNat, ?_, fun b hb => ?_, q⟩
  · have e1 : lo + ((0 : Nat) : Int) * 1 = lo := by simp
    have e2 : (((hi - lo).toNat : Nat) : Int) - ((0 : Nat) : Int) = Builtin.Range.rangeSize lo hi 1 := by rw [rangeSize_one]; split <;> omega
    show IsRangeIter _ _ (lo + ((0 : Nat) : Int) * 1) ((((hi - lo).toNat : Nat) : Int) - ((0 : Nat) : Int)) 1
    rw [e1, e2]
    exact Heap.get?_push_size _ rfl
  · have e : b = (s.heap.push { cls := .type "range", data := .fields #[.int lo t, .int hi u, .int 1 v] }).objs.size := by simpa using hb
    subst e
    exact I1.fpOk (Nat.le_refl _) (I1.hok.fresh (Nat.le_refl _))
def iRng1 (ta : TA) : TI := fun σ H R => ta σ H fun vs H1 => ∃ j : Int, vs = [.int j] ∧ -(2 ^ 62) ≤ j ∧ j < 2 ^ 62 ∧ R (Itr 0 j.toNat) H1
def iRng2 (ta : TA) : TI := fun σ H R => ta σ H fun vs H1 => ∃ i j : Int, vs = [.int i, .int j] ∧ (-(2 ^ 62) ≤ i ∧ i < 2 ^ 62 ∧ -(2 ^ 62) ≤ j ∧ j < 2 ^ 62) ∧ R (Itr i (j - i).toNat) H1
theorem pi_range1 {a : Expr} {ta : TA} {p pos : Pos} (hg : Gl X "range") (hm : X.mg "range" = none) (ha : PA X [a] ta) (hs : starEach [a] X.env = [(false, eval a X.env)] := by rfl) : PI X tg (.Call (.Name "range" p) [a] [] pos) (iRng1 ta) := by
  intro pins s σ H R I h
  refine Call_ (ld_blt I hg hm boot_range (PyProof.Rows.callWith_type1 (thn (ha pos pins s σ H _ I h) fun us s1 ⟨vs, H1, I1, r1, q1⟩ => ?_) hs rfl))
  obtain ⟨j, e, q1, q2, q⟩ := q1
  subst e
  cases r1 with
  | cons r rr =>
    cases rr
    obtain ⟨t, rfl⟩ := r
    exact call_range_1 (range_it I1 (by omega) (by omega) q1 q2 (by simpa using q))
theorem pi_range2 {a b : Expr} {ta : TA} {p pos : Pos} (hg : Gl X "range") (hm : X.mg "range" = none) (ha : PA X [a, b] ta) (hs : starEach [a, b] X.env = [(false, eval a X.env), (false, eval b X.env)] := by rfl) (hs2 : starEach [b] X.env = [(false, eval b X.env)] := by rfl) :
    PI X tg (.Call (.Name "range" p) [a, b] [] pos) (iRng2 ta) := by
  intro pins s σ H R I h
  refine Call_ (ld_blt I hg hm boot_range (PyProof.Rows.callWith_type1 (thn (ha pos pins s σ H _ I h) fun us s1 ⟨vs, H1, I1, r1, q1⟩ => ?_) (by rw [hs, hs2]) (by rw [hs2]; rfl)))
  obtain ⟨i, j, e, ⟨q1, q2, q3, q4⟩, q⟩ := q1
  subst e
  cases r1 with
  | cons r rr =>
    cases rr with
    | cons r' rr =>
      cases rr
      obtain ⟨t, rfl⟩ := r
      obtain ⟨t', rfl⟩ := r'
      exact call_range_2 (range_it I1 q1 q2 q3 q4 q)
def tFor (wi : TI) (g : TG) (tb : TS) : TS := fun D σ H => wi σ H fun J H1 => ∃ W : Nat → Nat → St → Hp → Prop, (∃ m, W 0 m σ H1) ∧ ∀ i m σ H, W i m σ H →
  (J.stop i H ∧ D.nx σ H) ∨ (J.go i H ∧ ∃ N : St → Hp → Prop, (∀ σ' H', N σ' H' → ∃ m', m' < m ∧ W (i + 1) m' σ' H') ∧ ∀ x H', J.yld i H x H' → g x σ H' fun σ2 H2 => tb { D with nx := N, ct := N, bk := D.nx } σ2 H2)
def pinsAt (fp : List Addr) (h : Heap) : List (Addr × Obj) := fp.filterMap fun b => (h.get? b).map fun o => (b, o)
theorem mem_pinsAt {fp : List Addr} {h : Heap} {b : Addr} {o : Obj} (hb : b ∈ fp) (e : h.get? b = some o) : (b, o) ∈ pinsAt fp h := List.mem_filterMap.mpr ⟨b, hb, by rw [e]; rfl⟩
theorem of_pinsAt {fp : List Addr} {h : Heap} {p : Addr × Obj} (hp : p ∈ pinsAt fp h) : p.1 ∈ fp ∧ h.get? p.1 = some p.2 := by
  obtain ⟨b, hb, e⟩ := List.mem_filterMap.mp hp
  cases q : h.get? b with
  | none => rw [q] at e; cases e
  | some o =>
    rw [q] at e
    have e' : (b, o) = p := Option.some.inj e
    subst e'
    exact ⟨hb, q⟩
theorem Inv.pinned {pins : List (Addr × Obj)} {σ : St} {H : Hp} {s : Shared} {fp : List Addr} (I : Inv X pins σ H s) (hf : ∀ b ∈ fp, FpOk X pins H b) (ho : ∀ b ∈ fp, ∃ o, s.heap.get? b = some o ∧ ∀ v, o.data ≠ .cell v) : Inv X (pins ++ pinsAt fp s.heap) σ H s :=
  I.pins_of fun p hp => (List.mem_append.mp hp).elim (fun z => I.pin p (List.mem_append_right _ z)) fun z => by
    obtain ⟨hb, e⟩ := of_pinsAt z
    obtain ⟨f0, f1, f2, _⟩ := hf p.1 hb
    obtain ⟨o, e', d⟩ := ho p.1 hb
    rw [e] at e'; cases e'
    exact ⟨e, f0, f1, f2, d⟩
theorem Inv.unpinned {pins pl : List (Addr × Obj)} {σ : St} {H : Hp} {s : Shared} (I : Inv X (pins ++ pl) σ H s) : Inv X pins σ H s := I.pins_of fun p hp => I.pin p (List.mem_append_right _ (List.mem_append_left _ hp))
theorem ps_for {iter : Expr} {body : List Stmt} {wi : TI} {g : TG} {tb : TS} {pos : Pos} (hp : PassesOwn (model X.prog X.w) X.A X.env X.xe) (hc : X.calm = true) (hi : PI X tg iter wi) (hg : PG X tg g) (hb : PSs X body tb)
    (hs : ∀ x, foldedSetIterable iter X.env x = pure x := by intro _; rfl) : PS X (.For tg iter body [] pos) (tFor wi g tb) := by
  intro pins s σ H D I h
  refine wpAny_For (thn (hi pins s σ H _ I h) fun v s1 h1 => thn h1 fun itv s2 h2 => ?_) hs
  obtain ⟨it, fp, tn, J, H2, e, I2, T, st2, f2, W, ⟨m0, w0⟩, turn⟩ := h2
  subst e
  have stat : ∀ {H' : Hp}, (∀ b ∈ fp, H' b = none) → ∀ b ∈ fp, FpOk X pins H' b := fun hn b hb => ⟨hn b hb, (f2 b hb).2⟩
  refine codeAny_forLoop_any (fun n s' => ∃ i σ' H', Inv X pins σ' H' s' ∧ tn i s'.heap ∧ (∀ b ∈ fp, H' b = none) ∧ W i n σ' H') ?_ m0 ⟨0, σ, H2, I2, st2, fun b hb => (f2 b hb).1, w0⟩
  rintro n s3 ⟨i, σ3, H3, I3, st3, fr3, w3⟩
  rcases turn i n σ3 H3 w3 with ⟨stop, qn⟩ | ⟨go, N, hN, step⟩
  · refine wpAny_passesOwn hp (thn (T.done X rfl rfl rfl hc i pins s3 σ3 H3 X.xe I3 (stat fr3) st3 stop) fun r s4 ⟨hr, I4⟩ => ?_)
    subst hr
    exact wpAny_execs_nil ⟨σ3, H3, I4, qn⟩
  · refine wpAny_passesOwn hp (thn (T.item X rfl rfl rfl hc i pins s3 σ3 H3 X.xe I3 (stat fr3) st3 go) fun r s4 ⟨u, hr, h4⟩ => ?_)
    subst hr
    refine wpAny_passesOwn hp (thn h4 fun _ s5 ⟨x, H5, I5, r5, y5, st5, fr5⟩ => ?_)
    have I5' := I5.pinned (stat fr5) (T.obj _ _ st5)
    refine wpAny_passesOwn hp (thn (hg _ s5 σ3 H5 x u _ I5' r5 (step x H5 y5)) fun _ s6 ⟨σ6, H6, I6, q6⟩ => ?_)
    refine wpAny_passesOwn hp (thn (hb _ s6 σ6 H6 _ I6 q6) fun f s7 q7 => ?_)
    have again : ∀ {σ7 : St} {H7 : Hp}, Inv X (pins ++ pinsAt fp s5.heap) σ7 H7 s7 → N σ7 H7 → ∃ m, m < n ∧ ∃ i σ' H', Inv X pins σ' H' s7 ∧ tn i s7.heap ∧ (∀ b ∈ fp, H' b = none) ∧ W i m σ' H' := fun {σ7 H7} I7 n7 => by
      obtain ⟨m', hm, w7⟩ := hN σ7 H7 n7
      refine ⟨m', hm, i + 1, σ7, H7, I7.unpinned, T.keep _ _ _ st5 fun b hb o e => (I7.pin (b, o) (List.mem_append_right _ (List.mem_append_right _ (mem_pinsAt hb e)))).1, fun b hb => ?_, w7⟩
      obtain ⟨o, e, d⟩ := T.obj _ _ st5 b hb
      exact (I7.pin (b, o) (List.mem_append_right _ (List.mem_append_right _ (mem_pinsAt hb e)))).2.1
    cases f with
    | next => obtain ⟨σ7, H7, I7, n7⟩ := q7; exact again I7 n7
    | cont => obtain ⟨σ7, H7, I7, n7⟩ := q7; exact again I7 n7
    | brk => obtain ⟨σ7, H7, I7, q7⟩ := q7; exact ⟨σ7, H7, I7.unpinned, q7⟩
    | ret v => obtain ⟨x7, σ7, H7, I7, r7, q7⟩ := q7; exact ⟨x7, σ7, H7, I7.unpinned, r7, q7⟩
end
end L2
namespace L2
open PySem PySem.Spec PyProof.Rows
abbrev R2 := V → V → Hp → VK → Prop
def OpR (X : Cx) (f : Value → Value → Sem Value) (r : R2) : Prop :=
  ∀ (pins : List (Addr × Obj)) (s : Shared) (σ : St) (H : Hp) (x y : V) (v u : Value) (Q : VK), Inv X pins σ H s → RelV x v → RelV y u → r x y H Q →
    wpAny (model X.prog X.w) X.A (f v u) (EP X pins σ Q) X.xe s
def UnR (X : Cx) (f : Value → Sem Value) (r : V → Hp → VK → Prop) : Prop :=
  ∀ (pins : List (Addr × Obj)) (s : Shared) (σ : St) (H : Hp) (x : V) (v : Value) (Q : VK), Inv X pins σ H s → RelV x v → r x H Q →
    wpAny (model X.prog X.w) X.A (f v) (EP X pins σ Q) X.xe s
def CallR (X : Cx) (f : Value) (r : List V → Hp → VK → Prop) : Prop :=
  ∀ (pins : List (Addr × Obj)) (s : Shared) (σ : St) (H : Hp) (xs : List V) (us : List Value) (Q : VK), Inv X pins σ H s → Vals xs us → r xs H Q →
    wpAny (model X.prog X.w) X.A (call f us) (EP X pins σ Q) X.xe s
def tOp (r : R2) (ta tb : TE) : TE := fun σ H Q => ta σ H fun x H1 => tb σ H1 fun y H2 => r x y H2 Q
def tUn (r : V → Hp → VK → Prop) (ta : TE) : TE := fun σ H Q => ta σ H fun x H1 => r x H1 Q
def rI (C : Int → Int → Prop) (g : Int → Int → V) : R2 := fun x y H Q => ∃ i j, x = .int i ∧ y = .int j ∧ C i j ∧ Q (g i j) H
def rI0 (g : Int → Int → V) : R2 := fun x y H Q => ∃ i j, x = .int i ∧ y = .int j ∧ Q (g i j) H
def rU (g : Int → V) : V → Hp → VK → Prop := fun x H Q => ∃ i, x = .int i ∧ Q (g i) H
section
variable {X : Cx} {a b c : Expr} {ta tb tc : TE} {pos : Pos}
theorem binT (ha : PE X a ta) (hb : PE X b tb) {pins : List (Addr × Obj)} {s : Shared} {σ : St} {H : Hp} {R : V → V → Hp → Prop} (I : Inv X pins σ H s)
    (h : ta σ H fun x H1 => tb σ H1 fun y H2 => R x y H2) {Q : Value → Shared → Prop} {f : Value → Value → Sem Value}
    (hf : ∀ v u s2 x y H2, Inv X pins σ H2 s2 → RelV x v → RelV y u → R x y H2 → wpAny (model X.prog X.w) X.A (f v u) Q X.xe s2) :
    wpAny (model X.prog X.w) X.A (eval a X.env) (fun v s₁ => wpAny (model X.prog X.w) X.A (eval b X.env) (fun u s₂ => wpAny (model X.prog X.w) X.A (f v u) Q X.xe s₂) X.xe s₁) X.xe s := by
  refine thn (ha pins s σ H _ I h) fun v s1 ⟨x, H1, I1, r1, q1⟩ => ?_
  refine thn (hb pins s1 σ H1 _ I1 q1) fun u s2 ⟨y, H2, I2, r2, q2⟩ => ?_
  exact hf v u s2 x y H2 I2 r1 r2 q2
theorem pe_op {op : Operator} {r : R2} (ho : OpR X (binaryOp op) r) (ha : PE X a ta) (hb : PE X b tb) : PE X (.BinOp a op b pos) (tOp r ta tb) := by
  intro pins s σ H Q I h
  exact wpAny_BinOp (binT ha hb I h fun v u s2 x y H2 I2 rx ry q => ho pins s2 σ H2 x y v u Q I2 rx ry q)
theorem pe_un {op : UnaryOp} {r : V → Hp → VK → Prop} (ho : UnR X (unaryOp op) r) (ha : PE X a ta) : PE X (.UnaryOp op a pos) (tUn r ta) := by
  intro pins s σ H Q I h
  exact UnaryOp_ (thn (ha pins s σ H _ I h) fun v s1 ⟨x, H1, I1, r1, q1⟩ => ho pins s1 σ H1 x v Q I1 r1 q1)
theorem opI {f : Value → Value → Sem Value} {C : Int → Int → Prop} {g : Int → Int → Int}
    (rule : ∀ (i j : Int) (t u : Tok) (s : Shared) (Q : Value → Shared → Prop) (E : Value → Shared → Prop), C i j → Q (.int (g i j) s.toks) { s with toks := s.toks + 1 } → wpAny (model X.prog X.w) X.A (f (.int i t) (.int j u)) Q E s) :
    OpR X f (rI C fun i j => .int (g i j)) := by
  intro pins s σ H x y v u Q I rx ry h
  obtain ⟨i, j, rfl, rfl, hc, q⟩ := h
  obtain ⟨t, rfl⟩ := rx
  obtain ⟨t', rfl⟩ := ry
  exact rule i j t t' s _ _ hc ⟨.int (g i j), H, I.tok _, ⟨_, rfl⟩, q⟩
theorem opI0 {f : Value → Value → Sem Value} {g : Int → Int → Int}
    (rule : ∀ (i j : Int) (t u : Tok) (s : Shared) (Q : Value → Shared → Prop) (E : Value → Shared → Prop), Q (.int (g i j) s.toks) { s with toks := s.toks + 1 } → wpAny (model X.prog X.w) X.A (f (.int i t) (.int j u)) Q E s) :
    OpR X f (rI0 fun i j => .int (g i j)) := by
  intro pins s σ H x y v u Q I rx ry h
  obtain ⟨i, j, rfl, rfl, q⟩ := h
  obtain ⟨t, rfl⟩ := rx
  obtain ⟨t', rfl⟩ := ry
  exact rule i j t t' s _ _ ⟨.int (g i j), H, I.tok _, ⟨_, rfl⟩, q⟩
theorem opB0 {f : Value → Value → Sem Value} {g : Int → Int → Bool}
    (rule : ∀ (i j : Int) (t u : Tok) (s : Shared) (Q : Value → Shared → Prop) (E : Value → Shared → Prop), Q (.bool (g i j)) s → wpAny (model X.prog X.w) X.A (f (.int i t) (.int j u)) Q E s) :
    OpR X f (rI0 fun i j => .bl (g i j)) := by
  intro pins s σ H x y v u Q I rx ry h
  obtain ⟨i, j, rfl, rfl, q⟩ := h
  obtain ⟨t, rfl⟩ := rx
  obtain ⟨t', rfl⟩ := ry
  exact rule i j t t' s _ _ ⟨.bl (g i j), H, I, rfl, q⟩
def CDiv (i j : Int) : Prop := 0 < j ∧ j < 1073741824
def CPow (i j : Int) : Prop := 0 ≤ j ∧ j ≤ 1000000 ∧ i.natAbs < 2 ^ 64
def CMul (i j : Int) : Prop := (-(2 ^ 64) < i ∧ i < 2 ^ 64) ∨ (-(2 ^ 64) < j ∧ j < 2 ^ 64)
theorem CMul.ok {i j : Int} (h : CMul i j) : IntMulOk i j := by
  rcases h with ⟨h1, h2⟩ | ⟨h1, h2⟩
  · exact .of_left (intBits_le_64 h1 h2)
  · exact .of_right (intBits_le_64 h1 h2)
theorem op_add : OpR X (binaryOp .Add) (rI0 fun i j => .int (i + j)) := opI0 fun _ _ _ _ _ _ _ q => add_int q
theorem op_mul : OpR X (binaryOp .Mult) (rI CMul fun i j => .int (i * j)) := opI fun _ _ _ _ _ _ _ hc q => mul_int q hc.ok
theorem op_fdiv : OpR X (binaryOp .FloorDiv) (rI CDiv fun i j => .int (i / j)) := opI fun i j _ _ _ _ _ hc q => by
  have h1 : (0 : Int) < j := hc.1
  have h2 : j < 1073741824 := hc.2
  exact floordiv_int (by omega) (by rw [Int.fdiv_eq_ediv_of_nonneg i (by omega)]; exact q) (.inl (PyProof.noPylong_small (by omega)))
theorem op_mod : OpR X (binaryOp .Mod) (rI (fun _ j => 0 < j) fun i j => .int (i % j)) := opI fun i j _ _ _ _ _ hc q => by
  have h1 : (0 : Int) < j := hc
  exact mod_int' (by omega) (by rw [Int.fmod_eq_emod_of_nonneg i (by omega)]; exact q)
theorem op_pow : OpR X (binaryOp .Pow) (rI CPow fun i j => .int (i ^ j.toNat)) := opI fun _ _ _ _ _ _ _ hc q => pow_int_small hc.1 hc.2.1 hc.2.2 q
theorem unI {f : Value → Sem Value} {g : Int → Int}
    (rule : ∀ (i : Int) (t : Tok) (s : Shared) (Q : Value → Shared → Prop) (E : Value → Shared → Prop), Q (.int (g i) s.toks) { s with toks := s.toks + 1 } → wpAny (model X.prog X.w) X.A (f (.int i t)) Q E s) :
    UnR X f (rU fun i => .int (g i)) := by
  intro pins s σ H x v Q I rx h
  obtain ⟨i, rfl, q⟩ := h
  obtain ⟨t, rfl⟩ := rx
  exact rule i t s _ _ ⟨.int (g i), H, I.tok _, ⟨_, rfl⟩, q⟩
theorem un_neg : UnR X (unaryOp .USub) (rU fun i => .int (-i)) := unI fun _ _ _ _ _ q => neg_int q
end
section
variable {X : Cx} {a b c : Expr} {ta tb tc : TE} {pos : Pos}
theorem fin_bl {pins : List (Addr × Obj)} {σ : St} {H : Hp} {s : Shared} {Q : VK} {k k' : Bool} (I : Inv X pins σ H s) (q : Q (.bl k) H) (e : k = k') : EP X pins σ Q (.bool k') s := by
  subst e
  exact ⟨.bl k, H, I, rfl, q⟩
theorem op_lt : OpR X (compareOp .Lt) (rI0 fun i j => .bl (decide (i < j))) := opB0 fun _ _ _ _ _ _ _ q => lt_int q
theorem op_le : OpR X (compareOp .LtE) (rI0 fun i j => .bl (decide (i ≤ j))) := opB0 fun _ _ _ _ _ _ _ q => le_int q
theorem op_gt : OpR X (compareOp .Gt) (rI0 fun i j => .bl (decide (j < i))) := opB0 fun _ _ _ _ _ _ _ q => gt_int q
theorem op_ge : OpR X (compareOp .GtE) (rI0 fun i j => .bl (decide (j ≤ i))) := opB0 fun _ _ _ _ _ _ _ q => ge_int q
theorem op_in_str : OpR X (compareOp .In) (fun x y H Q => ∃ i j, x = .str i ∧ y = .str j ∧ Q (.bl (!(Builtin.Str.occurrences j i 0 j.length 1).isEmpty)) H) := by
  intro pins s σ H x y v u Q I rx ry h
  obtain ⟨i, j, rfl, rfl, q⟩ := h
  obtain ⟨t, rfl⟩ := rx
  obtain ⟨t', rfl⟩ := ry
  exact in_str (fin_bl I q rfl)
theorem op_notin_str : OpR X (compareOp .NotIn) (fun x y H Q => ∃ i j, x = .str i ∧ y = .str j ∧ Q (.bl (!(!(Builtin.Str.occurrences j i 0 j.length 1).isEmpty))) H) := by
  intro pins s σ H x y v u Q I rx ry h
  obtain ⟨i, j, rfl, rfl, q⟩ := h
  obtain ⟨t, rfl⟩ := rx
  obtain ⟨t', rfl⟩ := ry
  exact notIn_str (fin_bl I q rfl)
theorem OpR.or {f : Value → Value → Sem Value} {r r' : R2} (h : OpR X f r) (h' : OpR X f r') : OpR X f (fun x y H Q => r x y H Q ∨ r' x y H Q) := by
  intro pins s σ H x y v u Q I rx ry q
  rcases q with q | q
  · exact h pins s σ H x y v u Q I rx ry q
  · exact h' pins s σ H x y v u Q I rx ry q
theorem pe_cmpR {op : CmpOp} {r : R2} (ho : OpR X (compareOp op) r) (ha : PE X a ta) (hb : PE X b tb) (hm : behindInMarks op b = false) : PE X (.Compare a [op] [b] pos) (tOp r ta tb) := by
  intro pins s σ H Q I h
  exact wpAny_Compare1 (binT ha hb I h fun v u s2 x y H2 I2 rx ry q => ho pins s2 σ H2 x y v u Q I2 rx ry q) hm
def tTest (t : TE) : TT := fun σ H Q => t σ H fun x H' => ∃ k, x = .bl k ∧ Q k H'
theorem pt_cmpR {op : CmpOp} {r : R2} (ho : OpR X (compareOp op) r) (ha : PE X a ta) (hb : PE X b tb) (hm : behindInMarks op b = false) : PT X (.Compare a [op] [b] pos) (tTest (tOp r ta tb)) := by
  intro pins s σ H Q I h
  refine wpAny_isTrue_Compare1 (thn (ha pins s σ H _ I h) fun v s1 ⟨x, H1, I1, r1, q1⟩ => thn (hb pins s1 σ H1 _ I1 q1) fun u s2 ⟨y, H2, I2, r2, q2⟩ =>
    thn (ho pins s2 σ H2 x y v u _ I2 r1 r2 q2) fun c s3 ⟨z, H3, I3, r3, k, e, q3⟩ => ?_) hm
  subst e
  cases r3
  exact wpAny_truthy_bool ⟨H3, I3, q3⟩
def tChain (r r' : R2) (ta tb tc : TE) : TE := fun σ H Q => ta σ H fun x H1 => tb σ H1 fun y H2 => r x y H2 fun z H3 => ∃ k, z = .bl k ∧
  (if k = true then tc σ H3 fun w' H4 => r' y w' H4 Q else Q (.bl false) H3)
theorem pt_chain {op op' : CmpOp} {r r' : R2} (ho : OpR X (compareOp op) r) (ho' : OpR X (compareOp op') r') (ha : PE X a ta) (hb : PE X b tb) (hc : PE X c tc)
    (hm : lastMarks [op, op'] [b, c] = false := by with_unfolding_all rfl) : PT X (.Compare a [op, op'] [b, c] pos) (tTest (tChain r r' ta tb tc)) := by
  intro pins s σ H Q I h
  refine isTrue_chain (thn (ha pins s σ H _ I h) fun v s1 ⟨x, H1, I1, r1, q1⟩ => test_link (thn (hb pins s1 σ H1 _ I1 q1) fun u s2 ⟨y, H2, I2, r2, q2⟩ =>
    thn (ho pins s2 σ H2 x y v u _ I2 r1 r2 q2) fun d s3 ⟨z, H3, I3, r3, k, e, q3⟩ => ?_)) hm
  subst e
  cases r3
  refine wpAny_truthy_bool ?_
  cases k with
  | false =>
    obtain ⟨k', e', q'⟩ := q3
    cases e'
    exact ite_ff ⟨H3, I3, q'⟩
  | true =>
    refine ite_tt (test_last (thn (hc pins s3 σ H3 _ I3 q3) fun w' s4 ⟨z', H4, I4, r4, q4⟩ => thn (ho' pins s4 σ H4 y z' u w' _ I4 r2 r4 q4) fun d' s5 ⟨z2, H5, I5, r5, k2, e2, q5⟩ => ?_))
    subst e2
    cases r5
    exact wpAny_truthy_bool ⟨H5, I5, q5⟩
theorem line63 : (sizeLine : Nat) < 2 ^ 63 := by rw [sizeLine_eq]; decide
theorem op_add_str : OpR X (binaryOp .Add) (fun x y H Q => ∃ i j, x = .str i ∧ y = .str j ∧ i.length + j.length ≤ sizeLine ∧ Q (.str (i ++ j)) H) := by
  intro pins s σ H x y v u Q I rx ry h
  obtain ⟨i, j, rfl, rfl, hz, q⟩ := h
  obtain ⟨t, rfl⟩ := rx
  obtain ⟨t', rfl⟩ := ry
  exact add_str (fun t' tk => ⟨.str (i ++ j), H, I.tok _, ⟨_, rfl⟩, q⟩) hz
theorem vals1 {x : V} {us : List Value} (r : Vals [x] us) : ∃ u, us = [u] ∧ RelV x u := by
  cases r with
  | cons r1 r2 => cases r2; exact ⟨_, rfl, r1⟩
theorem vals2 {x y : V} {us : List Value} (r : Vals [x, y] us) : ∃ u w', us = [u, w'] ∧ RelV x u ∧ RelV y w' := by
  cases r with
  | cons r1 r2 =>
    cases r2 with
    | cons r3 r4 => cases r4; exact ⟨_, _, rfl, r1, r3⟩
theorem call_abs : CallR X (.builtin "abs") (fun xs H Q => ∃ i, xs = [.int i] ∧ Q (.int (if i < 0 then -i else i)) H) := by
  intro pins s σ H xs us Q I r h
  obtain ⟨i, rfl, q⟩ := h
  obtain ⟨u, rfl, t, rfl⟩ := vals1 r
  exact call_abs_int fun u tk => ⟨.int (if i < 0 then -i else i), H, I.tok _, ⟨_, rfl⟩, q⟩
theorem call_max2 (hc : X.calm = true) : CallR X (.builtin "max") (fun xs H Q => ∃ i j, xs = [.int i, .int j] ∧ Q (.int (if j > i then j else i)) H) := by
  intro pins s σ H xs us Q I r h
  obtain ⟨i, j, rfl, q⟩ := h
  obtain ⟨u, w', rfl, ⟨t, rfl⟩, ⟨t', rfl⟩⟩ := vals2 r
  refine max_two_ints (I.ok.hd hc) fun h' tk k => ⟨_, H, I.kept k, ?_, q⟩
  by_cases hj : j > i
  · rw [if_pos hj, if_pos hj]; exact ⟨_, rfl⟩
  · rw [if_neg hj, if_neg hj]; exact ⟨_, rfl⟩
theorem call_min2 (hc : X.calm = true) : CallR X (.builtin "min") (fun xs H Q => ∃ i j, xs = [.int i, .int j] ∧ Q (.int (if j < i then j else i)) H) := by
  intro pins s σ H xs us Q I r h
  obtain ⟨i, j, rfl, q⟩ := h
  obtain ⟨u, w', rfl, ⟨t, rfl⟩, ⟨t', rfl⟩⟩ := vals2 r
  refine min_two_ints (I.ok.hd hc) fun h' tk k => ⟨_, H, I.kept k, ?_, q⟩
  by_cases hj : j < i
  · rw [if_pos hj, if_pos hj]; exact ⟨_, rfl⟩
  · rw [if_neg hj, if_neg hj]; exact ⟨_, rfl⟩
end
end L2
namespace L2
open PySem PySem.Spec PyProof.Rows
theorem lookIn_ns {h : Heap} {dx : Addr} {mA : Str → Option Value} (n : h.Ns1 dx mA) : ∃ od, h.get? dx = some od ∧ ∀ name, PySem.W.lookIn name od = some (mA name) := by
  obtain ⟨o, es, ep, ho, hd, hk, _, hm⟩ := n
  refine ⟨o, ho, fun name => ?_⟩
  have e := hm name
  unfold nsFind findBy at e
  rw [← Array.find?_toList] at e
  unfold PySem.W.lookIn
  rw [hd]
  dsimp only
  split
  · rename_i y q
    rw [q] at e
    exact congrArg some e
  · rename_i q
    rw [q] at e
    have a : es.toList.any (·.refKey) = false := by
      rw [List.any_eq_false]
      intro y hy
      obtain ⟨z, t, hkey⟩ := hk y (Array.mem_toList_iff.mp hy)
      simp [DictEntry.refKey, hkey]
    have a' : ¬ es.toList.any (·.refKey) = true := by rw [a]; exact Bool.false_ne_true
    rw [if_neg a']
    exact congrArg some e
section
variable {prog : Program} {w : World} {A : Around} {E : Value → Shared → Prop} {s : Shared} {K : PySem.W.Frag} {x dx C f : Addr} {mA : Str → Option Value} {name : Str} {v : Value}
end
theorem RelO.some_of {v : V} {o : Option Value} (r : RelO (some v) o) : ∃ u, o = some u ∧ RelV v u := by
  cases o with
  | none => exact (show False from r).elim
  | some u => exact ⟨u, rfl, r⟩
theorem handed_of {v : V} {u : Value} (r : RelV v u) : PySem.W.handedIn u = true := by
  cases v with
  | non => cases (show u = Value.none from r); rfl
  | bl b => cases (show u = Value.bool b from r); rfl
  | int i => obtain ⟨t, e⟩ := (show ∃ t, u = Value.int i t from r); cases e; rfl
  | str x => obtain ⟨t, e⟩ := (show ∃ t, u = Value.str x t from r); cases e; rfl
  | byt b => obtain ⟨t, e⟩ := (show ∃ t, u = Value.bytes b t from r); cases e; rfl
  | flt b => obtain ⟨t, e⟩ := (show ∃ t, u = Value.float b t from r); cases e; rfl
  | ref a => cases (show u = Value.ref a from r); rfl
  | ty n => cases (show u = Value.type n from r); rfl
section
variable {P : Program} {w : World} {H H' : Hp} {h h' : Heap} {a C dx : Addr} {fs fs' : List (Str × V)}
end
def NoAttr (K : PySem.W.Frag) (C : Addr) (f : Str) : Prop := PySem.W.findIn K (.ref C) f = some none
section
variable {X : Cx} {pins : List (Addr × Obj)} {σ : St} {H : Hp} {s : Shared} {a C dx : Addr} {fs : List (Str × V)} {f : Str} {v : V} {A : Around} {E : Value → Shared → Prop}
theorem attr_of {prog : Program} {w : World} {env : Env} {e : Expr} {f : Str} {pos : Pos} {s : Shared} {Q : Value → Shared → Prop} (hb : attributeBase e f env (eval e env) = eval e env)
    (h : wpAny (model prog w) A (eval e env) (fun o s₁ => wpAny (model prog w) A (getAttr o f true) Q E s₁) E s) : wpAny (model prog w) A (eval (.Attribute e f pos) env) Q E s :=
  Attribute_any_ h (by rw [arm_eval_Attribute, hb])
end
section
variable {X : Cx} {o e value : Expr} {f : Str} {pos pos' tpos : Pos} {ta tv : TE}
end
section
variable {X : Cx} {pins : List (Addr × Obj)} {σ : St} {H : Hp} {s : Shared} {A : Around} {E : Value → Shared → Prop} {Q : Value → Shared → Prop} {c : Value} {b : Bool}
end
end L2
namespace L2
open PySem PySem.Spec PyProof.Rows
structure Room (k : Nat) (A : Around) : Prop where
  hd : A.handled = none
  dp : A.depth + 3 * k + 5 < recursionLimit
  un : A.units + 16 * k + 1200 < cLine
  gd : A.guards = some []
theorem Room.mono {j k : Nat} {A : Around} (r : Room k A) (h : j ≤ k) : Room j A := ⟨r.hd, by have := r.dp; omega, by have := r.un; omega, r.gd⟩
theorem Room.deeper {k : Nat} {A : Around} (r : Room (k + 1) A) (env : Env) : Room k (A.deeper env) :=
  ⟨r.hd, by have := r.dp; show A.depth + 1 + 3 * k + 5 < _; omega, by have := r.un; show A.units + 3 + 16 * k + 1200 < _; omega, r.gd⟩
theorem make_depth {A : Around} {C : Addr} {us : List Value} {kw : List (Str × Value)} : (A.under (.builtin "type.__call__" ⟨.ref C :: us, kw⟩)).depth = A.depth + 1 := by
  first | rfl | simp [Around.under, Code.weight, Code.isCreation, Code.isGuard, Code.isCaller, Code.frames, Code.isFrame, guardIds]
theorem make_units {A : Around} {C : Addr} {us : List Value} {kw : List (Str × Value)} : (A.under (.builtin "type.__call__" ⟨.ref C :: us, kw⟩)).units = A.units + 1 := by
  first | rfl | simp [Around.under, Code.cUnits, Code.frames, Code.isFrame]
theorem Room.make {k : Nat} {A : Around} (r : Room (k + 1) A) (C : Addr) (us : List Value) (kw : List (Str × Value)) : Room k (A.under (.builtin "type.__call__" ⟨.ref C :: us, kw⟩)) :=
  ⟨r.hd, by have := r.dp; rw [make_depth]; omega, by have := r.un; rw [make_units]; omega, by first | exact r.gd | simpa [Around.under, Code.isGuard, guardIds] using r.gd⟩
theorem Room.depth {k : Nat} {A : Around} (r : Room k A) : A.depth < recursionLimit := by have := r.dp; omega
def tNil : TA := fun _ H Q => Q [] H
def tCons (ta : TE) (tr : TA) : TA := fun σ H Q => ta σ H fun x H1 => tr σ H1 fun xs H2 => Q (x :: xs) H2
section
variable {X : Cx} {e : Expr} {es : List Expr} {te : TE} {t : TA} {pos : Pos}
theorem pa_nil : PA X [] tNil := fun _ _ _ _ H Q I h => Calls.spliced_nil ⟨[], H, I, .nil, h⟩
theorem pa_cons (ha : PE X e te) (hr : PA X es t) (hs : starEach (e :: es) X.env = (false, eval e X.env) :: starEach es X.env := by rfl) : PA X (e :: es) (tCons te t) := by
  intro pos pins s σ H Q I h
  rw [hs]
  show wpAny _ _ (spliced ((false, eval e X.env) :: backTo pos (starEach es X.env))) _ _ s
  refine Calls.spliced_cons (thn (ha pins s σ H _ I h) fun u s1 ⟨x, H1, I1, r1, q1⟩ => ?_)
  exact thn (hr pos pins s1 σ H1 _ I1 q1) fun us s2 ⟨xs, H2, I2, r2, q2⟩ => ⟨x :: xs, H2, I2, .cons r1 r2, q2⟩
def tTup (t : TA) : TE := fun σ H Q => t σ H fun xs H1 => xs.length ≤ sizeLine ∧ ∀ p, H1 p = none → Q (.ref p) (upd H1 p (.tup xs))
def tLst (t : TA) : TE := fun σ H Q => t σ H fun xs H1 => xs.length ≤ sizeLine ∧ ∀ p, H1 p = none → Q (.ref p) (upd H1 p (.lst xs))
theorem pe_tup {x1} (h : PA X es t) : PE X (.Tuple es x1 pos) (tTup t) := by
  intro pins s σ H Q I hq
  refine wpAny_Tuple_spliced (thn (h pos pins s σ H _ I hq) fun us s1 ⟨xs, H1, I1, r, z, q⟩ => ⟨by rw [← r.length]; exact z, ?_⟩)
  have hf : H1 s1.heap.objs.size = none := I1.hok.fresh (Nat.le_refl _)
  refine ⟨.ref s1.heap.objs.size, upd H1 s1.heap.objs.size (.tup xs), I1.laid (t' := s1.toks) (fun b u e => Heap.get?_push_of_some _ e) (Nat.le_refl _) ?_, rfl, q _ hf⟩
  exact ⟨z, us, r, ⟨_, Heap.get?_push_size _ rfl, rfl, _, rfl⟩, ⟨_, Heap.get?_push_size _ rfl, rfl⟩⟩
theorem pe_lst (h : PA X es t) : PE X (.List es pos) (tLst t) := by
  intro pins s σ H Q I hq
  refine wpAny_List_spliced (thn (h pos pins s σ H _ I hq) fun us s1 ⟨xs, H1, I1, r, z, q⟩ => ⟨by rw [← r.length]; exact z, ?_⟩)
  have hf : H1 s1.heap.objs.size = none := I1.hok.fresh (Nat.le_refl _)
  refine ⟨.ref s1.heap.objs.size, upd H1 s1.heap.objs.size (.lst xs), I1.laid (t' := s1.toks) (fun b u e => Heap.get?_push_of_some _ e) (Nat.le_refl _) ?_, rfl, q _ hf⟩
  exact ⟨z, us, 0, r, Heap.get?_push_size _ rfl⟩
end
abbrev Sp := List V → Hp → VK → XK → Prop
abbrev CXT := List Env → Hp → Shared → XK → Value → Shared → Prop
structure Env0 (P : Program) (w : World) (K : PySem.W.Frag) (mg : Str → Option Value) (base : Heap) (A : Around) (outer : List Env) (s : Shared) (H : Hp) : Prop where
  frames : A.frames = some outer
  mod : Mod K mg base
  bs : ∀ b o, base.get? b = some o → s.heap.get? b = some o ∧ H b = none
  bsz : base.objs.size ≤ s.heap.objs.size
  funs : s.heap.FunFrames base outer
  frf : ∀ b ∈ frs outer, H b = none
  hok : HOk P w H s.heap
  bare : AllBare s.gens
def CE (outer : List Env) (P : Program) (w : World) (H : Hp) (s : Shared) (Q : VK) (u : Value) (s' : Shared) : Prop :=
  ∃ v H', s'.os = s.os ∧ AllBare s'.gens ∧ Un (frs outer) [] H H' s.heap s'.heap ∧ HOk P w H' s'.heap ∧ RelV v u ∧ Q v H'
def CR (CX : CXT) (outer : List Env) (P : Program) (w : World) (H : Hp) (s : Shared) (Q : VK) (E : XK) (r : Result) (s' : Shared) : Prop :=
  match r with
  | .ok (.ret u) => CE outer P w H s Q u s'
  | .ok _ => False
  | .error e => CX outer H s E e s'
structure FnOk (P : Program) (w : World) (K : PySem.W.Frag) (mg : Str → Option Value) (base : Heap) (CX : CXT) (k : Nat) (f : Addr) (fd : FuncData) (ps : List Str) (sp : Sp) : Prop where
  len : ∀ vs H Q E, sp vs H Q E → vs.length = ps.length
  run : ∀ (A : Around) (outer : List Env) (s : Shared) (H : Hp) (args : Args) (us : List Value) (vs : List V) (Q : VK) (E : XK), Room k A → Env0 P w K mg base A outer s H → BindsTo s fd args (ps.zip us) → Vals vs us → sp vs H Q E →
    codeAny (model P w) A (.call (.ref f) args) (CR CX outer P w H s Q E) s
theorem Env0.make {P : Program} {w : World} {K : PySem.W.Frag} {mg : Str → Option Value} {base : Heap} {A : Around} {outer : List Env} {s : Shared} {H : Hp} (e : Env0 P w K mg base A outer s H) (C : Addr) (us : List Value) (kw : List (Str × Value)) :
    Env0 P w K mg base (A.under (.builtin "type.__call__" ⟨.ref C :: us, kw⟩)) outer s H := ⟨by first | exact e.frames | (simpa [Around.under, Code.envs, Code.isFrame, pushEnvs] using e.frames), e.mod, e.bs, e.bsz, e.funs, e.frf, e.hok, e.bare⟩
section
variable {X : Cx} {pins : List (Addr × Obj)} {σ : St} {H : Hp} {s s' : Shared}
theorem Inv.env0 (I : Inv X pins σ H s) : Env0 X.prog X.w X.K X.mg X.base X.A X.stack s H :=
  ⟨I.ok.frames, I.ok.mod, I.bs, Nat.le_trans I.ok.bsz I.sz, I.stack, I.stkFree, I.hok, I.bare⟩
theorem Inv.after {Q : VK} {u : Value} (I : Inv X pins σ H s) (h : CE X.stack X.prog X.w H s Q u s') : EP X pins σ Q u s' := by
  obtain ⟨v, H', os, bare, un, hok, r, q⟩ := h
  obtain ⟨hh, g, d, t, os'⟩ := s'
  obtain rfl : os' = s.os := os
  exact ⟨v, H', I.call (h' := hh) (g' := g) (d' := d) (t' := t) (ch := []) un hok bare (fun b z => absurd z (by simp)), r, q⟩
end
def tCall (sp : Sp) (dvs : List V) (E : XK) (t : TA) : TE := fun σ H Q => t σ H fun vs H1 => sp (vs ++ dvs) H1 Q E
def Binds (K : PySem.W.Frag) (fd : FuncData) (ps : List Str) (ds : List Value) : Prop :=
  ∀ (s : Shared) (us : List Value), K.In s.heap → (us ++ ds).length = ps.length → BindsTo s fd ⟨us, []⟩ (ps.zip (us ++ ds))
theorem Binds.all {K : PySem.W.Frag} {fd : FuncData} {ps : List Str} (h : ∀ us : List Value, us.length = ps.length → bindArgs fd ⟨us, []⟩ = pure (ps.zip us)) : Binds K fd ps [] := fun s us _ hl => by
  rw [List.append_nil] at hl ⊢
  exact .of_eq (h us hl)
def Passes (CX : CXT) (X : Cx) (E : XK) : Prop := ∀ (pins : List (Addr × Obj)) (σ : St) (H : Hp) (s : Shared) (e : Value) (s' : Shared), Inv X pins σ H s → CX X.stack H s E e s' → X.xe e s'
section
variable {X : Cx} {CX : CXT} {k : Nat} {f C : Addr} {fd : FuncData} {ps : List Str} {sp : Sp} {dvs : List V} {ds : List Value} {E : XK} {x m : Str} {p pos apos : Pos} {e o : Expr} {es : List Expr} {ta : TE} {t : TA}
theorem run_fn {pins : List (Addr × Obj)} {σ : St} {H : Hp} {s : Shared} {Q : VK} {us : List Value} {vs : List V} (F : FnOk X.prog X.w X.K X.mg X.base CX k f fd ps sp) (hr : Room k X.A) (hb : Binds X.K fd ps ds) (hd : Vals dvs ds) (hx : Passes CX X E)
    (I : Inv X pins σ H s) (r : Vals vs us) (h : sp (vs ++ dvs) H Q E) : wpAny (model X.prog X.w) X.A (call (.ref f) us) (EP X pins σ Q) X.xe s := by
  have r2 : Vals (vs ++ dvs) (us ++ ds) := r.append hd
  have hl : (us ++ ds).length = ps.length := by rw [← r2.length]; exact F.len _ _ _ _ h
  refine wpAny_call (codeAny_mono (F.run X.A X.stack s H ⟨us, []⟩ (us ++ ds) (vs ++ dvs) Q E hr I.env0 (hb s us I.kIn hl) r2 h) fun r s' hq => ?_)
  cases r with
  | error e => exact hx pins σ H s e s' I hq
  | ok fl =>
    cases fl with
    | ret u => exact I.after hq
    | next => exact False.elim hq
    | brk => exact False.elim hq
    | cont => exact False.elim hq
theorem pe_call (F : FnOk X.prog X.w X.K X.mg X.base CX k f fd ps sp) (hr : Room k X.A) (hg : Gl X x) (hm : X.mg x = some (.ref f)) (hk : PySem.W.keepIn X.K (.ref f) = true) (hb : Binds X.K fd ps ds) (hd : Vals dvs ds) (hx : Passes CX X E)
    (ha : PA X (e :: es) t) (hdb : (x == ("__debug__" : Str)) = false := by decide) (he : starEach (e :: es) X.env = (false, eval e X.env) :: starEach es X.env := by rfl) (hpl : (backTo pos (starEach es X.env)).any (·.1) = false := by rfl) :
    PE X (.Call (.Name x p) (e :: es) [] pos) (tCall sp dvs E t) := by
  intro pins s σ H Q I h
  refine wpAny_Call_Name_kw (ld_glob I hg hm ?_ hdb)
  refine PySem.W.callWith_K (h₀ := X.base) I.ok.mod.kin hk (thn (ha pos pins s σ H _ I h) fun us s1 ⟨vs, H1, I1, r, q⟩ => ⟨I1.kIn, ?_⟩) he hpl
  exact run_fn F hr hb hd hx I1 r q
end
section
variable {X : Cx} {CX : CXT} {k : Nat} {f C : Addr} {fd : FuncData} {ps ks : List Str} {sp : Sp} {E : XK} {x m : Str} {p pos apos kpos : Pos} {e o : Expr} {es : List Expr} {kws : List Keyword} {te ta : TE} {t tk : TA} {nm : Option Str}
variable {g : List Value → List Value → List Value} {gV : List V → List V → List V}
end
structure FnScope (N P : List Str) (sc : Scope) : Prop where
  kind : sc.kind = .function
  co : sc.isCoroutine = false
  gen : sc.isGenerator = false
  nd : N.Nodup
  pre : N.take P.length = P
  par : ∀ x ∈ P, sc.names.lookup x = some .local ∨ sc.names.lookup x = some .cell
  nofree : ∀ y ∈ sc.names, y.2 ≠ .free
theorem bindL_out {kindOf : Str → Option NameKind} {x : Str} : ∀ {binds : List (Str × Value)} {m : Str → Option Value}, (∀ v, (x, v) ∉ binds) → bindL kindOf binds m x = m x
  | [], _, _ => rfl
  | (n, v) :: r, m, h => by
    unfold bindL
    rw [bindL_out fun w hw => h w (List.mem_cons_of_mem _ hw)]
    split
    · have : x ≠ n := by rintro rfl; exact h v List.mem_cons_self
      simp [this]
    · rfl
theorem bindC_out {kindOf : Str → Option NameKind} {x : Str} : ∀ {binds : List (Str × Value)} {m : Str → Option Value}, (∀ v, (x, v) ∉ binds) → bindC kindOf binds m x = m x
  | [], _, _ => rfl
  | (n, v) :: r, m, h => by
    unfold bindC
    rw [bindC_out fun w hw => h w (List.mem_cons_of_mem _ hw)]
    split
    · rfl
    · have : x ≠ n := by rintro rfl; exact h v List.mem_cons_self
      simp [this]
theorem bindL_get {kindOf : Str → Option NameKind} {x : Str} {v : Value} : ∀ {P : List Str} {vs : List Value} {i : Nat} {m : Str → Option Value}, P.Nodup → P[i]? = some x → vs[i]? = some v → kindOf x = some .local →
    bindL kindOf (P.zip vs) m x = some v
  | [], _, _, _, _, h, _, _ => by simp at h
  | _ :: _, [], _, _, _, _, h, _ => by simp at h
  | p :: P, w :: vs, 0, m, nd, h1, h2, hk => by
    simp at h1 h2; subst h1; subst h2
    show bindL kindOf ((p, w) :: P.zip vs) m p = _
    unfold bindL
    rw [bindL_out fun v hv => (List.nodup_cons.mp nd).1 (List.of_mem_zip hv).1, if_pos hk]
    simp
  | p :: P, w :: vs, i + 1, m, nd, h1, h2, hk => by
    show bindL kindOf ((p, w) :: P.zip vs) m x = _
    unfold bindL
    exact bindL_get (i := i) (List.nodup_cons.mp nd).2 (by simpa using h1) (by simpa using h2) hk
theorem bindC_get {kindOf : Str → Option NameKind} {x : Str} {v : Value} : ∀ {P : List Str} {vs : List Value} {i : Nat} {m : Str → Option Value}, P.Nodup → P[i]? = some x → vs[i]? = some v → kindOf x ≠ some .local →
    bindC kindOf (P.zip vs) m x = some v
  | [], _, _, _, _, h, _, _ => by simp at h
  | _ :: _, [], _, _, _, _, h, _ => by simp at h
  | p :: P, w :: vs, 0, m, nd, h1, h2, hk => by
    simp at h1 h2; subst h1; subst h2
    show bindC kindOf ((p, w) :: P.zip vs) m p = _
    unfold bindC
    rw [bindC_out fun v hv => (List.nodup_cons.mp nd).1 (List.of_mem_zip hv).1, if_neg hk]
    simp
  | p :: P, w :: vs, i + 1, m, nd, h1, h2, hk => by
    show bindC kindOf ((p, w) :: P.zip vs) m x = _
    unfold bindC
    exact bindC_get (i := i) (List.nodup_cons.mp nd).2 (by simpa using h1) (by simpa using h2) hk
def start (N : List Str) (vs : List V) : St := vs.map some ++ List.replicate (N.length - vs.length) none
def cxOf (CX : CXT) (P : Program) (w : World) (K : PySem.W.Frag) (mg : Str → Option Value) (base : Heap) (N : List Str) (qual : Str) (scope : Scope) (f : Addr) (cd : Value) (A : Around) (outer : List Env) (s : Shared) (H : Hp) (E : XK) : Cx where
  prog := P
  w := w
  K := K
  mg := mg
  base := base
  A := A.deeper (envOfC qual scope s.heap.objs.size f cd)
  N := N
  s₀ := s
  H₀ := H
  env := envOfC qual scope s.heap.objs.size f cd
  outer := outer
  stack := envOfC qual scope s.heap.objs.size f cd :: outer
  ex := []
  calm := true
  fn := fun _ => true
  pn := []
  xe := fun e s' => wpAny (model P w) (A.deeper (envOfC qual scope s.heap.objs.size f cd)) (leaving (envOfC qual scope s.heap.objs.size f cd) e) (fun _ s'' => CX outer H s E e s'') (fun e' s'' => CX outer H s E e' s'') s'
theorem cell_has {sc : Scope} {n : Nat} {x : Str} (h : sc.names.lookup x = some .cell) : ∃ c, (cellsFrom n sc.names []).lookup x = some c := by
  have q := PySem.W.cellsFrom_some sc.names n [] (.inl h)
  exact Option.isSome_iff_exists.mp q
theorem inv_start {CX : CXT} {P : Program} {w : World} {K : PySem.W.Frag} {mg : Str → Option Value} {base : Heap} {N ps : List Str} {qual : Str} {scope : Scope} {f : Addr} {cd : Value} {A : Around} {outer : List Env} {s s1 : Shared} {H : Hp} {E : XK} {us : List Value} {vs : List V}
    (S : FnScope N ps scope) (hd : A.handled = none) (e0 : Env0 P w K mg base A outer s H) (hl : vs.length = ps.length) (r : Vals vs us)
    (x : InCallC s s.heap.objs.size (bindL (envOfC qual scope s.heap.objs.size f cd).kindOf (ps.zip us) fun _ => none) (cellsFrom (s.heap.objs.size + 1) scope.names []) (bindC (envOfC qual scope s.heap.objs.size f cd).kindOf (ps.zip us) fun _ => none) s1) :
    Inv (cxOf CX P w K mg base N qual scope f cd A outer s H E) [] (start N vs) H s1 := by
  have hpl : ps.length ≤ N.length := by have := congrArg List.length S.pre; rw [List.length_take] at this; omega
  obtain ⟨h1, tk, rfl, hk⟩ := x.done
  have noA : ∀ b : Addr, b ∉ (cxOf CX P w K mg base N qual scope f cd A outer s H E).ex := fun b z => absurd (show b ∈ ([] : List Addr) from z) (by simp)
  refine ⟨⟨e0.mod, S.kind, rfl, rfl, Nat.le_refl _, fun y z c h1 h2 => ?_, fun y hy => ?_, fun y c _ h => ?_, fun _ => hd, Around.frames_deeper e0.frames, .inr ⟨rfl, rfl⟩, fun b z => absurd z (noA b), e0.bs, e0.bsz, fun b _ _ => noA b, fun b z => absurd z (noA b), e0.funs, e0.frf⟩,
    rfl, e0.bare, Un.kept hk, ⟨_, x.toInCall.ns, fun i y v h1 h2 h3 => ?_⟩, fun y c h => ⟨_, x.cell y c h⟩, e0.hok.fresh (Nat.le_refl _), fun y c h => ?_, fun p hp => absurd (show p ∈ ([] : List (Addr × Obj)) from hp) (by simp), e0.hok.kept hk, ?_⟩
  · exact name_of_addr x.apart (PySem.mem_of_lookup h1) (PySem.mem_of_lookup h2)
  · have hy : scope.names.lookup y = some .cell ∨ scope.names.lookup y = some .free := hy
    rcases hy with hy | hy
    · exact cell_has hy
    · exact absurd rfl (S.nofree _ (PySem.mem_of_lookup hy))
  · exact Nat.le_of_lt (x.above y c (PySem.mem_of_lookup h))
  · have hi : i < vs.length := by
      unfold start at h2
      by_cases hi : i < vs.length
      · exact hi
      · rw [List.getElem?_append_right (by simpa using hi)] at h2
        rw [List.getElem?_replicate] at h2
        split at h2 <;> cases h2
    have ha : vs[i]? = some v := by
      unfold start at h2
      rw [List.getElem?_append_left (by simpa using hi), List.getElem?_map] at h2
      cases e : vs[i]? with
      | none => rw [e] at h2; cases h2
      | some a => rw [e] at h2; cases h2; rfl
    obtain ⟨u, hu, rv⟩ := r.get ha
    have hp : ps[i]? = some y := by
      rw [← S.pre, List.getElem?_take_of_lt (by omega)]; exact h1
    have ndP : ps.Nodup := by rw [← S.pre]; exact S.nd.sublist (List.take_sublist _ _)
    refine ⟨u, rv, ?_⟩
    rcases S.par y (List.mem_of_getElem? hp) with k | k
    · exact .inl ⟨k, bindL_get ndP hp hu k⟩
    · obtain ⟨c, e⟩ := cell_has (n := s.heap.objs.size + 1) k
      refine .inr ⟨.inl k, c, e, ?_⟩
      have q := x.cell y c e
      rw [bindC_get ndP hp hu (by show scope.names.lookup y ≠ _; rw [k]; decide)] at q
      exact q
  · exact e0.hok.fresh (Nat.le_of_lt (x.above y c (PySem.mem_of_lookup h)))
  · unfold start
    show _ = N.length
    rw [List.length_append, List.length_map, List.length_replicate]
    omega
theorem fn_of {CX : CXT} {P : Program} {w : World} {K : PySem.W.Frag} {mg : Str → Option Value} {base : Heap} {k : Nat} {f : Addr} {name qual : Str} {params : Arguments} {body : List Stmt} {scope : Scope} {dV kV doc pm cdv ct oc : Value} {an od : Option Addr}
    {osl : Array (Option Value)} {N ps : List Str} {sp : Sp} (lk : K.lookup f = some ⟨oc, od, .func (PySem.W.fnOf name qual params body scope dV kV doc pm an cdv ct), osl⟩) (hcd : PySem.W.codeIn K cdv qual = true) (S : FnScope N ps scope)
    (len : ∀ vs H Q E, sp vs H Q E → vs.length = ps.length)
    (hbody : ∀ (A : Around) (outer : List Env) (s : Shared) (H : Hp) (vs : List V) (Q : VK) (E : XK), Room k (A.deeper (envOfC qual scope s.heap.objs.size f cdv)) → sp vs H Q E →
      ∃ t, PSs (cxOf CX P w K mg base N qual scope f cdv A outer s H E) body t ∧ t { nx := fun _ H' => Q .non H', rt := Q } (start N vs) H) :
    FnOk P w K mg base CX (k + 1) f (PySem.W.fnOf name qual params body scope dV kV doc pm an cdv ct) ps sp := by
  refine ⟨len, fun A outer s H args us vs Q E hr e0 hb r hsp => ?_⟩
  have hl := len _ _ _ _ hsp
  have KX : K.In s.heap := e0.mod.kin.keeps fun b o e => (e0.bs b o e).1
  have lim : s.heap.NoLimit := e0.mod.nolimit.keeps fun b o e => (e0.bs b o e).1
  have hkind : ∀ y ∈ ps.zip us, scope.names.lookup y.1 = some .local ∨ (scope.names.lookup y.1 = some .cell ∧ ((cellsFrom (s.heap.objs.size + 1) scope.names []).lookup y.1).isSome = true) := fun ⟨n, v⟩ hy => by
    rcases S.par n (List.of_mem_zip hy).1 with q | q
    · exact .inl q
    · exact .inr ⟨q, PySem.W.cellsFrom_some _ _ _ (.inl q)⟩
  refine codeAny_call_function hr.depth (KX _ _ lk) rfl S.co S.gen rfl (PySem.W.codeRec_of KX hcd) (hb _ _ _ _ ?_)
  refine wpAny_newFunctionEnv_cells S.kind hkind fun env he s1 x => ?_
  subst he
  refine ⟨lim.keeps x.toInCall.keep, codeAny_func ?_⟩
  obtain ⟨t, ht, hq⟩ := hbody A outer s H vs Q E (hr.deeper _) hsp
  have I : Inv (cxOf CX P w K mg base N qual scope f cdv A outer s H E) [] (start N vs) H s1 := inv_start S hr.hd e0 hl r x
  refine wpAny_mono (ht [] s1 (start N vs) H _ I hq) (fun fl s' hs => ?_) fun e s' hs => hs
  have fin : ∀ {σ' : St} {H' : Hp} {v : V} {u : Value}, Inv (cxOf CX P w K mg base N qual scope f cdv A outer s H E) [] σ' H' s' → RelV v u → Q v H' → CE outer P w H s Q u s' :=
    fun {σ' H' v u} J rv q => ⟨v, H', J.os, J.bare, J.base, J.hok, rv, q⟩
  cases fl with
  | ret u =>
    obtain ⟨v, σ', H', J, rv, q⟩ := hs
    exact fin J rv q
  | next =>
    obtain ⟨σ', H', J, q⟩ := hs
    exact fin (v := V.non) (u := Value.none) J rfl q
  | brk =>
    obtain ⟨_, _, _, q⟩ := hs
    exact False.elim q
  | cont =>
    obtain ⟨_, _, _, q⟩ := hs
    exact False.elim q
end L2
namespace L2
open PySem PySem.Spec PyProof.Rows
section
variable {X : Cx} {x : Str} {p pos : Pos} {e : Expr} {es : List Expr} {t : TA} {id T : String} {r : List V → Hp → VK → Prop}
def tCB (r : List V → Hp → VK → Prop) (t : TA) : TE := fun σ H Q => t σ H fun vs H1 => r vs H1 Q
theorem pe_callB (hc : CallR X (.builtin id) r) (hg : Gl X x) (hm : X.mg x = none) (hv : bootBuiltins x = some (.builtin id)) (ha : PA X (e :: es) t) (hn : x ≠ "__name__" := by decide) (hdb : (x == ("__debug__" : Str)) = false := by decide)
    (he : starEach (e :: es) X.env = (false, eval e X.env) :: starEach es X.env := by rfl) (hpl : (backTo pos (starEach es X.env)).any (·.1) = false := by rfl) : PE X (.Call (.Name x p) (e :: es) [] pos) (tCB r t) := by
  intro pins s σ H Q I h
  refine wpAny_Call_Name_kw (ld_blt I hg hm hv ?_ hn hdb)
  exact PyProof.Rows.callWith_builtin1 (thn (ha pos pins s σ H _ I h) fun us s1 ⟨vs, H1, I1, r1, q1⟩ => hc pins s1 σ H1 vs us Q I1 r1 q1) he hpl
theorem pe_callTy (hc : CallR X (.type T) r) (hg : Gl X x) (hm : X.mg x = none) (hv : bootBuiltins x = some (.type T)) (ha : PA X (e :: es) t) (hn : x ≠ "__name__" := by decide) (hdb : (x == ("__debug__" : Str)) = false := by decide)
    (he : starEach (e :: es) X.env = (false, eval e X.env) :: starEach es X.env := by rfl) (hpl : (backTo pos (starEach es X.env)).any (·.1) = false := by rfl) : PE X (.Call (.Name x p) (e :: es) [] pos) (tCB r t) := by
  intro pins s σ H Q I h
  refine wpAny_Call_Name_kw (ld_blt I hg hm hv ?_ hn hdb)
  exact PyProof.Rows.callWith_type1 (thn (ha pos pins s σ H _ I h) fun us s1 ⟨vs, H1, I1, r1, q1⟩ => hc pins s1 σ H1 vs us Q I1 r1 q1) he hpl
end
end L2
namespace HT
open PySem PyProof.Rows
def lexLt : List Int → List Int → Bool
  | [], [] => false
  | [], _ :: _ => true
  | _ :: _, [] => false
  | x :: xs, y :: ys => if x = y then lexLt xs ys else decide (x < y)
theorem lexLt_cons (x y : Int) (xs ys : List Int) : lexLt (x :: xs) (y :: ys) = if x = y then lexLt xs ys else decide (x < y) := rfl
theorem lexLt_nil_nil : lexLt [] [] = false := rfl
theorem lexLt_nil_cons (y : Int) (ys : List Int) : lexLt [] (y :: ys) = true := rfl
theorem lexLt_cons_nil (x : Int) (xs : List Int) : lexLt (x :: xs) [] = false := rfl
theorem eqAt_int (A : Around) (s : Shared) (a : Int) (t : Tok) (c : Int) (u : Tok) : ∃ e, SeqAt.EqAt A s (.int a t) (.int c u) e ∧ (e = true ↔ a = c) :=
  ⟨(a == c), SeqAt.EqAt.int_int a t c u, by simp⟩
theorem rcLt_int (A : Around) (s : Shared) (a : Int) (t : Tok) (c : Int) (u : Tok) (prog : Program) (w : World) (E : Value → Shared → Prop) (Q : Value → Shared → Prop) (h : Q (.bool (decide (a < c))) s) :
    wpAny (model prog w) A (richCompare .Lt (.int a t) (.int c u)) Q E s :=
  (PyProof.Rows.lt_int h : wpAny (model prog w) A (compareOp .Lt (.int a t) (.int c u)) Q E s)
section
open PySem.SeqAt
open PySem.AutoSeq1 (wpAny_loadPart')
open PySem.MeetsSeq PySem.MeetsSeq2 PySem.MeetsSeq3
theorem tuple_lt_ints (l b : Addr) (items items2 : Array Value) (n n2 : Nat) (dd dd2 : Option Addr) (sl sl2 : Array (Option Value)) (ns ms : List Int) (hi : IntsAre items.toList ns) (hj : IntsAre items2.toList ms) :
    Meets (Builtin.«tuple.__lt__» ⟨[.ref l, .ref b], []⟩)
      (fun _ R s => s.heap.get? l = some { cls := .type "tuple", dict := dd, data := .seq items n, slots := sl } ∧ s.heap.get? b = some { cls := .type "tuple", dict := dd2, data := .seq items2 n2, slots := sl2 } ∧
        R (.ok (.ret (.bool (lexLt ns ms)))) s) :=
  .of_wp fun prog w A R s h => by
    obtain ⟨hp, g, d, tk, os⟩ := s; obtain ⟨hl, hb, h⟩ := h
    have f2 := AutoSeq1.sub_tuple_tuple
    have z1 : items.size = ns.length := by rw [← hi.length]; simp
    have z2 : items2.size = ms.length := by rw [← hj.length]; simp
    wp_walk using wpAny_loadPart' hl, wpAny_loadPart' hb, wpAny_forIn_list _ (fun rest b s' => b.1 = none ∧ s' = ⟨hp, g, d, tk, os⟩ ∧ ∃ (vs ws : List Value) (ns' ms' : List Int), rest = vs.zip ws ∧
      IntsAre vs ns' ∧ IntsAre ws ms' ∧ ns'.length + items2.size = ms'.length + items.size ∧ R (.ok (.ret (.bool (lexLt ns' ms')))) ⟨hp, g, d, tk, os⟩) _
    case turn =>
      rintro ⟨y, x⟩ rest b s' ⟨hb', rfl, vs, ws, ns', ms', hz, hvi, hwi, hlen, hR⟩
      cases hvi with
      | nil => rw [List.zip_nil_left] at hz; cases hz
      | cons a t hvi' =>
        cases hwi with
        | nil => rw [List.zip_nil_right] at hz; cases hz
        | cons c u hwi' =>
          rw [List.zip_cons_cons] at hz
          injection hz with hyx hrest
          injection hyx with hy hx
          subst hy hx
          rw [lexLt_cons] at hR
          simp only [List.length_cons] at hlen
          obtain ⟨e, he, hiff⟩ := eqAt_int A.in1 ⟨hp, g, d, tk, os⟩ a t c u
          refine wpAny_bind (he prog w _ _ ?_)
          cases e with
          | true =>
            rw [if_pos (hiff.mp rfl)] at hR
            wp_walk
            exact ⟨rfl, rfl, _, _, _, _, hrest, hvi', hwi', by omega, hR⟩
          | false =>
            rw [if_neg (fun q => absurd (hiff.mpr q) Bool.false_ne_true)] at hR
            have hri := rcLt_int A.in1 ⟨hp, g, d, tk, os⟩ a t c u prog w
            wp_walk using hri
            exact ⟨_, rfl, by simpa using hR⟩
    case fin =>
      rintro ⟨b1, b2⟩ s' ⟨hb', rfl, vs, ws, ns', ms', hz, hvi, hwi, hlen, hR⟩
      simp only at hb'
      subst hb'
      have hv : lexLt ns' ms' = decide (items.size < items2.size) := by
        cases hvi with
        | nil =>
          cases hwi with
          | nil =>
            simp only [List.length_nil] at hlen
            rw [lexLt_nil_nil]
            exact (decide_eq_false (by omega)).symm
          | cons c u hw =>
            simp only [List.length_nil, List.length_cons] at hlen
            rw [lexLt_nil_cons]
            exact (decide_eq_true (by omega)).symm
        | cons a t hv =>
          cases hwi with
          | nil =>
            simp only [List.length_nil, List.length_cons] at hlen
            rw [lexLt_cons_nil]
            exact (decide_eq_false (by omega)).symm
          | cons c u hw =>
            rw [List.zip_cons_cons] at hz
            cases hz
      rw [hv] at hR
      wp_walk
      exact ⟨_, rfl, by simpa [Builtin.Tuple.tupleCompareSizes] using hR⟩
    case h =>
      exact ⟨rfl, rfl, items.toList, items2.toList, ns, ms, rfl, hi, hj, by omega, h⟩
end
section
variable {prog : Program} {w : World} {A : Around} {E : Value → Shared → Prop} {s : Shared}
theorem lt_tupInts {l b : Addr} {items items2 : Array Value} {ns ms : List Int} {Q : Value → Shared → Prop} (hl : IsTup s.heap l items) (hb : IsTup s.heap b items2) (hi : IntsAre items.toList ns) (hj : IntsAre items2.toList ms)
    (hu : A.units < cLine) (h : Q (.bool (lexLt ns ms)) s) : wpAny (model prog w) A (compareOp .Lt (.ref l) (.ref b)) Q E s := by
  obtain ⟨⟨cls, dd, data, sl⟩, ho, hc, n, hd⟩ := id hl
  obtain ⟨⟨cls2, dd2, data2, sl2⟩, ho2, hc2, n2, hd2⟩ := id hb
  simp only at hc hd hc2 hd2
  subst hc hd hc2 hd2
  exact richCompare_meets_room (op := .Lt) ⟨_, ho, rfl⟩ ⟨_, ho2, rfl⟩ PySem.F.slot_tuple_lt PySem.F.entry_tuple_lt (PySem.F.args_tuple_lt_2 _ _) (tuple_lt_ints l b items items2 n n2 dd dd2 sl sl2 ns ms hi hj)
    ⟨ho, ho2, show Value.bool (lexLt ns ms) ≠ Value.notImplemented ∧ Q (.bool (lexLt ns ms)) s from ⟨(fun x => nomatch x), h⟩⟩ hu
theorem cat_tup {t b : Addr} {vs ws : List Value} {Q : Value → Shared → Prop} (ht : IsTup s.heap t vs.toArray) (hb : IsTup s.heap b ws.toArray) (hv : vs ≠ [])
    (h1 : ws = [] → Q (.ref t) s) (h2 : ws ≠ [] → Q (.ref s.heap.objs.size) { s with heap := s.heap.push { cls := .type "tuple", data := .seq (vs ++ ws).toArray } })
    (hsz : vs.length + ws.length ≤ sizeLine) : wpAny (model prog w) A (binaryOp .Add (.ref t) (.ref b)) Q E s := by
  obtain ⟨⟨cls, dd, data, sl⟩, ho, hc, n, hd⟩ := id ht
  obtain ⟨⟨cls2, dd2, data2, sl2⟩, ho2, hc2, n2, hd2⟩ := id hb
  simp only at hc hd hc2 hd2
  subst hc hd hc2 hd2
  have e : vs.toArray ++ ws.toArray = (vs ++ ws).toArray := by simp
  by_cases hw : ws = []
  · exact concat_meets ⟨_, ho, rfl⟩ ⟨_, ho2, rfl⟩ noFill_tuple_add seq_tuple_add PySem.F.slot_tuple_add PySem.F.entry_tuple_add (PySem.F.args_tuple_add_2 _ _)
      (tuple_addW1 t b vs.toArray ws.toArray n n2 dd dd2 sl sl2 (by simpa using hv) (by simp [hw])) ⟨ho, ho2, h1 hw⟩
  · refine concat_meets ⟨_, ho, rfl⟩ ⟨_, ho2, rfl⟩ noFill_tuple_add seq_tuple_add PySem.F.slot_tuple_add PySem.F.entry_tuple_add (PySem.F.args_tuple_add_2 _ _)
      (tuple_addW2 t b vs.toArray ws.toArray n n2 dd dd2 sl sl2 (by simpa using hv) (by simpa using hw) (by rw [List.size_toArray, List.size_toArray]; exact hsz)) ⟨ho, ho2, ?_⟩
    rw [e]
    exact h2 hw
def sIx (n d : Nat) : Option Int → Nat
  | none => d
  | some v => if v < 0 then (v + (n : Int)).toNat else min v.toNat n
theorem sIx_le (n d : Nat) (hd : d ≤ n) (o : Option Int) : sIx n d o ≤ n := by
  cases o with
  | none => exact hd
  | some v =>
    show (if v < 0 then (v + (n : Int)).toNat else min v.toNat n) ≤ n
    by_cases hv : v < 0
    · rw [if_pos hv]; omega
    · rw [if_neg hv]; exact Nat.min_le_right _ _
theorem clip_eq (v : Int) (n d : Nat) : (if v < 0 then max (v + (n : Int)) 0 else min v (n : Int)) = ((sIx n d (some v) : Nat) : Int) := by
  show (if v < 0 then max (v + (n : Int)) 0 else min v (n : Int)) = (((if v < 0 then (v + (n : Int)).toNat else min v.toNat n) : Nat) : Int)
  by_cases hv : v < 0
  · simp only [if_pos hv]; omega
  · simp only [if_neg hv]; omega
theorem adjust_gen (lo hi : Option Int) (n : Nat) : Builtin.Slice.sliceAdjust lo hi 1 (n : Int) = (((sIx n 0 lo : Nat) : Int), ((sIx n n hi : Nat) : Int)) := by
  have h1 : ¬ ((1 : Int) < 0) := by omega
  unfold Builtin.Slice.sliceAdjust
  simp only [h1, if_false]
  refine Prod.ext ?_ ?_
  · cases lo with
    | none => rfl
    | some v => exact clip_eq v n 0
  · cases hi with
    | none => rfl
    | some v => exact clip_eq v n n
theorem places_gen (i j : Nat) : Builtin.Slice.slicePlaces (i : Int) (j : Int) 1 = j - i := by
  unfold Builtin.Slice.slicePlaces
  have h1 : (1 : Int) > 0 := by omega
  simp only [h1, if_true, Int.ediv_one]
  split <;> omega
theorem slicePart_ {v : Value} {o : Option Int} {Q : Option Int → Shared → Prop} (p : IsPart v o) (h : Q o s) : wpAny (model prog w) A (Builtin.Slice.slicePartIndex v) Q E s := by
  cases p with
  | none => exact slicePart_none h
  | int i t => exact slicePart_int h
theorem sliceApplied_gen {sl : Addr} {vl vu : Value} {lo hi : Option Int} {n : Nat} {Q : Int × Int × Nat → Shared → Prop} (hs : s.heap.IsSliceOf sl vl vu .none) (pl : IsPart vl lo) (pu : IsPart vu hi)
    (h : Q (((sIx n 0 lo : Nat) : Int), 1, sIx n n hi - sIx n 0 lo) s) : wpAny (model prog w) A (Builtin.Slice.sliceApplied (.ref sl) (pure (n : Int))) Q E s := by
  obtain ⟨os, hos, hcs, hds⟩ := id hs
  unfold Builtin.Slice.sliceApplied Builtin.Slice.sliceFields
  refine wpAny_bind (wpAny_bind (wpAny_field hos hds (x := vl) rfl (wpAny_bind (wpAny_field hos hds (x := vu) rfl (wpAny_bind (wpAny_field hos hds (x := .none) rfl (wpAny_pure ?_)))))))
  refine wpAny_bind (slicePart_none ?_)
  show wpAny _ _ (if ((1 : Int) == 0) = true then _ else _) _ _ s
  rw [if_neg (by decide)]
  refine wpAny_bind (slicePart_ pl (wpAny_bind (slicePart_ pu (wpAny_bind (wpAny_pure ?_)))))
  show wpAny _ _ (match Builtin.Slice.sliceAdjust lo hi 1 (n : Int) with | (lo, hi) => pure (lo, (1 : Int), Builtin.Slice.slicePlaces lo hi 1)) _ _ s
  rw [adjust_gen lo hi n]
  show wpAny _ _ (pure (((sIx n 0 lo : Nat) : Int), (1 : Int), Builtin.Slice.slicePlaces ((sIx n 0 lo : Nat) : Int) ((sIx n n hi : Nat) : Int) 1)) _ _ s
  rw [places_gen]
  exact wpAny_pure h
theorem pick_gen (xs : Array Value) (i k : Nat) : ((List.range k).filterMap fun (m : Nat) => xs[((i : Int) + (m : Int) * 1).toNat]?).toArray = ((xs.toList.drop i).take k).toArray := by
  have e : (fun (m : Nat) => xs[((i : Int) + (m : Int) * 1).toNat]?) = fun m => xs[i + m]? := by
    funext m
    have : ((i : Int) + (m : Int) * 1).toNat = i + m := by omega
    rw [this]
  rw [e]
  have := pick_run xs i k
  rw [List.filterMap_map] at this
  have e2 : ((fun x => xs[x]?) ∘ fun x => i + x) = fun m => xs[i + m]? := rfl
  rw [e2] at this
  rw [this]
theorem getItem_tuple_cut {t sl : Addr} {items : Array Value} {vl vu : Value} {lo hi : Option Int} {Q : Value → Shared → Prop} (ht : IsTup s.heap t items) (hs : s.heap.IsSliceOf sl vl vu .none) (pl : IsPart vl lo) (pu : IsPart vu hi)
    (hw : ¬ (sIx items.size 0 lo = 0 ∧ sIx items.size items.size hi = items.size))
    (h : Q (.ref s.heap.objs.size) { s with heap := s.heap.push { cls := .type "tuple", data := .seq ((items.toList.drop (sIx items.size 0 lo)).take (sIx items.size items.size hi - sIx items.size 0 lo)).toArray } })
    (hsz : items.size ≤ sizeLine) : wpAny (model prog w) A (getItem (.ref t) (.ref sl)) Q E s := by
  have htake : sizeOk (.seq ((items.toList.drop (sIx items.size 0 lo)).take (sIx items.size items.size hi - sIx items.size 0 lo)).toArray) := by
    show ((items.toList.drop (sIx items.size 0 lo)).take (sIx items.size items.size hi - sIx items.size 0 lo)).toArray.size ≤ sizeLine
    rw [List.size_toArray, List.length_take, List.length_drop, Array.length_toList]
    omega
  have hj : sIx items.size items.size hi ≤ items.size := sIx_le _ _ (Nat.le_refl _) hi
  obtain ⟨os, hos, hcs, hds⟩ := id hs
  have hTs : s.TypeIs (.ref sl) "slice" := ⟨os, hos, hcs⟩
  unfold getItem
  try with_reducible refine wpAny_holding ?_
  first | refine wpAny_bind (wpAny_pure ?_) | skip
  refine wpAny_bind (wpAny_sequenceKey ht.typeIs (by decide) ?_)
  refine wpAny_bind (wpAny_callSpecial?_slot (name := Str.ofString "__getitem__") ht.typeIs PyProof.Rows.slot_tuple_getitem
    (wpAny_call_entry PyProof.Rows.slot_tuple_getitem ht.typeIs entry_tuple_getitem ?_ (args_tuple_getitem _ _)))
  show wpAny _ _ (Builtin.Tuple.tupleItemsOf (.ref t) >>= _) _ _ s
  refine wpAny_bind (tupleItemsOf_ ht ?_)
  refine wpAny_bind (wpAny_typeOf hTs ?_)
  rw [if_pos (by decide)]
  refine wpAny_bind (sliceApplied_gen hs pl pu ?_)
  have hno : ¬ ((((sIx items.size 0 lo : Nat) : Int) == 0 && (1 : Int) == 1 && (sIx items.size items.size hi - sIx items.size 0 lo) == items.size) = true) := by
    intro q
    rw [Bool.and_eq_true, Bool.and_eq_true] at q
    have q1 : ((sIx items.size 0 lo : Nat) : Int) = 0 := eq_of_beq q.1.1
    have q2 : sIx items.size items.size hi - sIx items.size 0 lo = items.size := eq_of_beq q.2
    exact hw ⟨by omega, by omega⟩
  show wpAny _ _ (if (((sIx items.size 0 lo : Nat) : Int) == 0 && (1 : Int) == 1 && (sIx items.size items.size hi - sIx items.size 0 lo) == items.size) = true then _ else _) _ _ s
  rw [if_neg hno, pick_gen]
  first
    | exact wpAny_bind (m := Builtin.Tuple.tupleExact _) (wpAny_newObj_type (wpAny_pure ⟨_, rfl, wpAny_pure h⟩) htake)
    | exact wpAny_bind (m := Builtin.Tuple.tupleExact _) (wpAny_newObj_type (wpAny_bind (wpAny_pure (wpAny_pure ⟨_, rfl, wpAny_pure h⟩))) htake)
    | exact wpAny_bind (wpAny_bind (m := Builtin.Tuple.tupleExact _) (wpAny_newObj_type (wpAny_pure (wpAny_pure ⟨_, rfl, wpAny_pure h⟩)) htake))
    | exact wpAny_bind (wpAny_bind (m := Builtin.Tuple.tupleExact _) (wpAny_newObj_type (wpAny_pure ⟨_, rfl, wpAny_pure h⟩) htake))
end
end HT
namespace L2
open PySem PySem.Spec PyProof.Rows
abbrev TO := St → Hp → (Option Int → Hp → Prop) → Prop
def PO (X : Cx) (e : Option Expr) (t : TO) : Prop :=
  ∀ (pins : List (Addr × Obj)) (s : Shared) (σ : St) (H : Hp) (Q : Option Int → Hp → Prop), Inv X pins σ H s → t σ H Q →
    wpAny (model X.prog X.w) X.A (evalPart e X.env) (fun u s' => ∃ o H', Inv X pins σ H' s' ∧ IsPart u o ∧ Q o H') X.xe s
def tNoPart : TO := fun _ H Q => Q none H
def tPart (t : TE) : TO := fun σ H Q => t σ H fun x H1 => ∃ i, x = .int i ∧ Q (some i) H1
theorem intsAre_of {ns : List Int} : ∀ {us : List Value}, Vals (ns.map V.int) us → IntsAre us ns := by
  induction ns with
  | nil => intro us r; rw [List.map_nil] at r; cases r; exact .nil
  | cons n ns ih =>
    intro us r
    rw [List.map_cons] at r
    cases r with
    | cons r1 r2 =>
      obtain ⟨t, e⟩ := r1
      subst e
      exact .cons n t (ih r2)
section
variable {X : Cx} {e : Expr} {te : TE} {lo hi : Option Expr} {tl th : TO} {pos p2 : Pos}
theorem po_none : PO X none tNoPart := by
  intro pins s σ H Q I h
  rw [evalPart_none]
  exact wpAny_pure ⟨none, H, I, .none, h⟩
theorem po_some (h : PE X e te) : PO X (some e) (tPart te) := by
  intro pins s σ H Q I hw
  rw [evalPart_some]
  refine thn (h pins s σ H _ I hw) fun u s1 ⟨x, H1, I1, r1, q1⟩ => ?_
  obtain ⟨i, rfl, q⟩ := q1
  obtain ⟨t, rfl⟩ := r1
  exact ⟨some i, H1, I1, .int i t, q⟩
def SlR (X : Cx) (r : V → Option Int → Option Int → Hp → VK → Prop) : Prop :=
  ∀ (pins : List (Addr × Obj)) (s : Shared) (σ : St) (H : Hp) (x : V) (v vl vu : Value) (lo hi : Option Int) (sl : Addr) (Q : VK), Inv X pins σ H s → RelV x v → s.heap.IsSliceOf sl vl vu .none → IsPart vl lo → IsPart vu hi → r x lo hi H Q →
    ∃ T id, typeLookup (.type T) "__getitem__" = pure (some (.builtin id)) ∧ s.TypeIs v T ∧ wpAny (model X.prog X.w) X.A (getItem v (.ref sl)) (EP X pins σ Q) X.xe s
theorem SlR.or {r r' : V → Option Int → Option Int → Hp → VK → Prop} (h : SlR X r) (h' : SlR X r') : SlR X (fun x lo hi H Q => r x lo hi H Q ∨ r' x lo hi H Q) := by
  intro pins s σ H x v vl vu lo hi sl Q I rx hs pl pu q
  rcases q with q | q
  · exact h pins s σ H x v vl vu lo hi sl Q I rx hs pl pu q
  · exact h' pins s σ H x v vl vu lo hi sl Q I rx hs pl pu q
def tSl (r : V → Option Int → Option Int → Hp → VK → Prop) (te : TE) (tl th : TO) : TE := fun σ H Q => te σ H fun x H1 => tl σ H1 fun l H2 => th σ H2 fun u H3 => r x l u H3 Q
theorem pe_slice {r : V → Option Int → Option Int → Hp → VK → Prop} (hr : SlR X r) (he : PE X e te) (hl : PO X lo tl) (hu : PO X hi th) : PE X (.Subscript e (.Slice lo hi none p2) pos) (tSl r te tl th) := by
  intro pins s σ H Q I h
  refine Subscript_ (thn (he pins s σ H _ I h) fun v s1 ⟨x, H1, I1, r1, q1⟩ => ?_)
  refine wpAny_Slice (thn (hl pins s1 σ H1 _ I1 q1) fun vl s2 ⟨l, H2, I2, pl, q2⟩ => thn (hu pins s2 σ H2 _ I2 q2) fun vu s3 ⟨u, H3, I3, pu, q3⟩ => ?_)
  rw [evalPart_none]
  refine wpAny_pure ?_
  have I4 : Inv X pins σ H3 { s3 with heap := s3.heap.push { cls := .type "slice", data := .fields #[vl, vu, .none] } } := I3.kept (t' := s3.toks) fun b ob q => Heap.get?_push_of_some _ q
  obtain ⟨T, id, hT, ht, hg⟩ := hr pins { s3 with heap := s3.heap.push { cls := .type "slice", data := .fields #[vl, vu, .none] } } σ H3 x v vl vu l u s3.heap.objs.size Q I4 r1 (Heap.IsSliceOf.new ..) pl pu q3
  show wpAny (model X.prog X.w) X.A (subscriptTail e (.Slice lo hi none p2) v (.ref s3.heap.objs.size)) (EP X pins σ Q) X.xe { s3 with heap := s3.heap.push { cls := .type "slice", data := .fields #[vl, vu, .none] } }
  exact tail_any (ops := [.ref s3.heap.objs.size, v]) ht hT hg (by with_unfolding_all rfl)
def cutV (xs : List V) (lo hi : Option Int) : List V := (xs.drop (HT.sIx xs.length 0 lo)).take (HT.sIx xs.length xs.length hi - HT.sIx xs.length 0 lo)
theorem cutV_length (xs : List V) (lo hi : Option Int) : (cutV xs lo hi).length ≤ xs.length := by
  unfold cutV
  rw [List.length_take, List.length_drop]
  omega
def rSlT (K : PySem.W.Frag) : V → Option Int → Option Int → Hp → VK → Prop := fun x lo hi H Q => ∃ a xs, x = .ref a ∧ SqT K H a xs ∧
  ¬ (HT.sIx xs.length 0 lo = 0 ∧ HT.sIx xs.length xs.length hi = xs.length) ∧ ∀ p, H p = none → Q (.ref p) (upd H p (.tup (cutV xs lo hi)))
theorem sl_tup : SlR X (rSlT X.K) := by
  intro pins s σ H x v vl vu lo hi sl Q I rx hs pl pu h
  obtain ⟨a, xs, rfl, hx, hw, q⟩ := h
  cases rx
  obtain ⟨its, r, ht, hz⟩ := I.tuple hx
  have hlen : its.toArray.size = xs.length := by rw [List.size_toArray]; exact r.length.symm
  refine ⟨"tuple", _, PyProof.Rows.slot_tuple_getitem.lookup, ht.typeIs, ?_⟩
  refine HT.getItem_tuple_cut ht hs pl pu (by rw [hlen]; exact hw) ?_ (by rw [hlen]; exact hz)
  rw [hlen]
  refine ⟨.ref s.heap.objs.size, _, I.laid (t' := s.toks) (o := .tup (cutV xs lo hi)) (fun b ob q => Heap.get?_push_of_some _ q) (Nat.le_refl _) ?_, rfl, q _ (I.hok.fresh (Nat.le_refl _))⟩
  exact ⟨Nat.le_trans (cutV_length xs lo hi) hz, _, (r.drop (HT.sIx xs.length 0 lo)).take (HT.sIx xs.length xs.length hi - HT.sIx xs.length 0 lo), IsTup.new _ _, TupN.new _ _⟩
def rLtT (K : PySem.W.Frag) : R2 := fun x y H Q => ∃ a b ns ms, x = .ref a ∧ y = .ref b ∧ SqT K H a (ns.map V.int) ∧ SqT K H b (ms.map V.int) ∧ Q (.bl (HT.lexLt ns ms)) H
theorem op_ltT (hu : X.A.units < cLine) : OpR X (compareOp .Lt) (rLtT X.K) := by
  intro pins s σ H x y v u Q I rx ry h
  obtain ⟨a, b, ns, ms, rfl, rfl, ha, hb, q⟩ := h
  cases rx
  cases ry
  obtain ⟨its, r1, p1, _⟩ := I.tuple ha
  obtain ⟨its2, r2, p2, _⟩ := I.tuple hb
  have i1 : IntsAre its.toArray.toList ns := intsAre_of r1
  have i2 : IntsAre its2.toArray.toList ms := intsAre_of r2
  exact HT.lt_tupInts p1 p2 i1 i2 hu ⟨.bl (HT.lexLt ns ms), H, I, rfl, q⟩
def rCatT (K : PySem.W.Frag) : R2 := fun x y H Q => ∃ a b xs ys, x = .ref a ∧ y = .ref b ∧ SqT K H a xs ∧ SqT K H b ys ∧ xs ≠ [] ∧ xs.length + ys.length ≤ sizeLine ∧
  (ys = [] → Q (.ref a) H) ∧ (ys ≠ [] → ∀ p, H p = none → Q (.ref p) (upd H p (.tup (xs ++ ys))))
theorem Vals.nil_iff {xs : List V} {us : List Value} (r : Vals xs us) : us = [] ↔ xs = [] := by
  cases r with
  | nil => simp
  | cons _ _ => simp
theorem op_catT : OpR X (binaryOp .Add) (rCatT X.K) := by
  intro pins s σ H x y v u Q I rx ry h
  obtain ⟨a, b, xs, ys, rfl, rfl, ha, hb, hx, hz, q1, q2⟩ := h
  cases rx
  cases ry
  obtain ⟨its, r1, p1, _⟩ := I.tuple ha
  obtain ⟨its2, r2, p2, _⟩ := I.tuple hb
  refine HT.cat_tup p1 p2 (fun z => hx (r1.nil_iff.mp z)) (fun z => ⟨.ref a, H, I, rfl, q1 (r2.nil_iff.mp z)⟩) (fun z => ?_) (by rw [← r1.length, ← r2.length]; exact hz)
  refine ⟨.ref s.heap.objs.size, _, I.laid (t' := s.toks) (o := .tup (xs ++ ys)) (fun b ob q => Heap.get?_push_of_some _ q) (Nat.le_refl _) ?_, rfl, q2 (fun w => z (r2.nil_iff.mpr w)) _ (I.hok.fresh (Nat.le_refl _))⟩
  exact ⟨by rw [List.length_append]; exact hz, _, r1.append r2, IsTup.new _ _, TupN.new _ _⟩
end
end L2
namespace L2
open PySem PySem.Spec PyProof.Rows
def ixN (n : Nat) (i : Int) : Option Nat := if 0 ≤ i then (if i < n then some i.toNat else none) else if -(n : Int) ≤ i then some (i + n).toNat else none
def atI {α : Type} (xs : List α) (i : Int) : Option α := (ixN xs.length i).bind fun j => xs[j]?
theorem ixN_seq {n : Nat} {i : Int} {j : Nat} (h : ixN n i = some j) : seqIndex? i n = some j ∧ j < n ∧ -(n : Int) ≤ i ∧ i < n := by
  unfold ixN at h
  by_cases h0 : 0 ≤ i
  · rw [if_pos h0] at h
    by_cases h1 : i < n
    · rw [if_pos h1] at h
      have e : i.toNat = j := Option.some.inj h
      exact ⟨by rw [seqIndex_of h0 h1, e], by omega, by omega, h1⟩
    · rw [if_neg h1] at h; cases h
  · rw [if_neg h0] at h
    by_cases h1 : -(n : Int) ≤ i
    · rw [if_pos h1] at h
      have e : (i + n).toNat = j := Option.some.inj h
      exact ⟨by rw [seqIndex_neg (by omega) h1, e], by omega, h1, by omega⟩
    · rw [if_neg h1] at h; cases h
theorem atI_get {α : Type} {xs : List α} {i : Int} {v : α} (h : atI xs i = some v) : ∃ j, seqIndex? i xs.length = some j ∧ xs[j]? = some v ∧ j < xs.length ∧ -(xs.length : Int) ≤ i ∧ i < xs.length := by
  unfold atI at h
  cases e : ixN xs.length i with
  | none => rw [e] at h; cases h
  | some j =>
    rw [e] at h
    obtain ⟨h1, h2, h3, h4⟩ := ixN_seq e
    exact ⟨j, h1, h, h2, h3, h4⟩
def PlainIx (b : Expr) : Prop := ∀ o i, subscripted b false o i = operate [o, i] (getItem o i)
def IxR (X : Cx) (r : R2) : Prop :=
  ∀ (value slice : Expr) (pins : List (Addr × Obj)) (s : Shared) (σ : St) (H : Hp) (x y : V) (v u : Value) (Q : VK), Inv X pins σ H s → RelV x v → RelV y u → r x y H Q →
    subscripted slice false v u = operate [v, u] (getItem v u) → wpAny (model X.prog X.w) X.A (subscriptTail value slice v u) (EP X pins σ Q) X.xe s
def MtR (X : Cx) (id : String) (r : V → List V → Hp → VK → Prop) : Prop :=
  ∀ (pins : List (Addr × Obj)) (s : Shared) (σ : St) (H : Hp) (x : V) (xs : List V) (v : Value) (us : List Value) (Q : VK), Inv X pins σ H s → RelV x v → Vals xs us → r x xs H Q →
    wpAny (model X.prog X.w) X.A (call (.builtin id) (v :: us)) (EP X pins σ Q) X.xe s
section
variable {X : Cx} {a b : Expr} {ta tb : TE} {pos : Pos}
theorem IxR.or {r r' : R2} (h : IxR X r) (h' : IxR X r') : IxR X (fun x y H Q => r x y H Q ∨ r' x y H Q) := by
  intro value slice pins s σ H x y v u Q I rx ry q hs
  rcases q with q | q
  · exact h value slice pins s σ H x y v u Q I rx ry q hs
  · exact h' value slice pins s σ H x y v u Q I rx ry q hs
theorem pe_ix {r : R2} (hr : IxR X r) (ha : PE X a ta) (hb : PE X b tb) (hs : PlainIx b) : PE X (.Subscript a b pos) (tOp r ta tb) := by
  intro pins s σ H Q I h
  exact Subscript_ (binT ha hb I h fun v u s2 x y H2 I2 rx ry q => hr a b pins s2 σ H2 x y v u Q I2 rx ry q (hs _ _))
def rIxL (K : PySem.W.Frag) : R2 := fun x y H Q => ∃ p xs i v, x = .ref p ∧ y = .int i ∧ SqL K H p xs ∧ atI xs i = some v ∧ Q v H
def rIxT (K : PySem.W.Frag) : R2 := fun x y H Q => ∃ p xs i v, x = .ref p ∧ y = .int i ∧ SqT K H p xs ∧ atI xs i = some v ∧ Q v H
def rIxS : R2 := fun x y H Q => ∃ z i c, x = .str z ∧ y = .int i ∧ z.length ≤ sizeLine ∧ atI z.cps.toList i = some c ∧ Q (.str ⟨#[c]⟩) H
theorem ix_list : IxR X (rIxL X.K) := by
  intro value slice pins s σ H x y v u Q I rx ry h hs
  obtain ⟨p, xs, i, z, rfl, rfl, hq, he, q⟩ := h
  cases rx
  obtain ⟨t, rfl⟩ := ry
  obtain ⟨its, r, pl, hz⟩ := I.list hq
  obtain ⟨j, h1, h2, h3, h4, h5⟩ := atI_get he
  obtain ⟨w, ew, rw'⟩ := r.get h2
  have hl := r.length
  have hn := line63
  have fin : EP X pins σ Q w s := ⟨z, H, I, rw', q⟩
  by_cases h0 : 0 ≤ i
  · have hj : i.toNat = j := by
      rw [seqIndex_of h0 h5] at h1
      exact Option.some.inj h1
    exact item_listR pl.isList h0 (by omega) (by rw [hj]; simpa using ew) fin hs
  · have hj : (i + (its.toArray.size : Int)).toNat = j := by
      rw [seqIndex_neg (by omega) h4] at h1
      rw [List.size_toArray, ← hl]
      exact Option.some.inj h1
    exact subscriptTail_builtinR (x := w) pl.isList.typeIs slot_list_getitem.lookup
      (wpAny_getItem_list_neg (Q := fun r s' => r = w ∧ EP X pins σ Q r s') pl.isList (by omega) (by rw [List.size_toArray] <;> omega) (by omega) (by rw [hj]; simpa using ew) ⟨rfl, fin⟩) hs
theorem ix_tup : IxR X (rIxT X.K) := by
  intro value slice pins s σ H x y v u Q I rx ry h hs
  obtain ⟨p, xs, i, z, rfl, rfl, hq, he, q⟩ := h
  cases rx
  obtain ⟨t, rfl⟩ := ry
  obtain ⟨its, r, pl, hz⟩ := I.tuple hq
  obtain ⟨j, h1, h2, h3, h4, h5⟩ := atI_get he
  obtain ⟨w, ew, rw'⟩ := r.get h2
  have hl := r.length
  have hn := line63
  have fin : EP X pins σ Q w s := ⟨z, H, I, rw', q⟩
  exact subscriptTail_builtinR (x := w) pl.typeIs slot_tuple_getitem.lookup
    (getItem_tuple (j := j) (Q := fun r s' => r = w ∧ EP X pins σ Q r s') pl (by omega) (by omega) (by rw [List.size_toArray, ← hl]; exact h1) (by simpa using ew) ⟨rfl, fin⟩) hs
theorem ix_str : IxR X rIxS := by
  intro value slice pins s σ H x y v u Q I rx ry h hs
  obtain ⟨z, i, c, rfl, rfl, hz, he, q⟩ := h
  obtain ⟨t, rfl⟩ := rx
  obtain ⟨t', rfl⟩ := ry
  obtain ⟨j, h1, h2, h3, h4, h5⟩ := atI_get he
  have hl : z.cps.toList.length = z.length := by simp [Str.length]
  rw [hl] at h1 h4 h5
  have hn := line63
  exact tail_any (typeIs_str s z t) slot_str_getitem.lookup (getItem_str (c := c) (by
    have e1 : decide (i < -(2 ^ 63 : Int)) = false := decide_eq_false (by omega)
    have e2 : decide (i ≥ 2 ^ 63) = false := decide_eq_false (by omega)
    rw [e1, e2, Bool.or_false]) (by rw [h1]; simpa using h2) ⟨.str ⟨#[c]⟩, H, I.tok _, ⟨_, rfl⟩, q⟩) hs
def rIx (K : PySem.W.Frag) : R2 := fun x y H Q => rIxL K x y H Q ∨ rIxT K x y H Q ∨ rIxS x y H Q
theorem ix_seq : IxR X (rIx X.K) := ix_list.or (ix_tup.or ix_str)
theorem mapSeq_set (its : List Value) (n j : Nat) (u : Value) : Obj.mapSeq (·.setIfInBounds j u) { cls := .type "list", data := .seq its.toArray n } = { cls := .type "list", data := .seq (its.set j u).toArray n } := by
  simp [Obj.mapSeq]
theorem Inv.lst {pins : List (Addr × Obj)} {σ : St} {H : Hp} {s : Shared} {p : Addr} {xs : List V} (I : Inv X pins σ H s) (h : H p = some (.lst xs)) :
    ∃ (its : List Value) (n : Nat), Vals xs its ∧ s.heap.get? p = some { cls := .type "list", data := .seq its.toArray n } ∧ xs.length ≤ sizeLine := by
  obtain ⟨z, its, n, r, e⟩ := I.hok p _ h
  exact ⟨its, n, r, e, z⟩
theorem Inv.lstUpd {pins : List (Addr × Obj)} {σ : St} {H : Hp} {s : Shared} {p : Addr} {xs ys : List V} {its its' : List Value} {n n' : Nat} {f : Obj → Obj} (I : Inv X pins σ H s) (h : H p = some (.lst xs))
    (ho : s.heap.get? p = some { cls := .type "list", data := .seq its.toArray n }) (hf : f { cls := .type "list", data := .seq its.toArray n } = { cls := .type "list", data := .seq its'.toArray n' }) (r : Vals ys its') (hz : ys.length ≤ sizeLine) (t : Nat) :
    Inv X pins σ (upd H p (.lst ys)) { s with heap := s.heap.update p f, toks := t } := by
  have e : (s.heap.update p f).get? p = some { cls := .type "list", data := .seq its'.toArray n' } := by
    rw [Heap.get?_update_self f ho (by rw [hf] <;> rfl), hf]
  refine I.write (x := p) (e := p) (by rw [h]; trivial) (.inl rfl) (fun b u hb q => (Heap.get?_update_other _ _ (Ne.symm hb)).trans q) ⟨_, e⟩ ?_
  exact ⟨hz, its', n', r, e⟩
def rSetL : V → V → V → Hp → (Hp → Prop) → Prop := fun o i v H Q => ∃ p xs k j, o = .ref p ∧ i = .int k ∧ H p = some (.lst xs) ∧ ixN xs.length k = some j ∧ Q (upd H p (.lst (xs.set j v)))
theorem set_list : PSet X rSetL := by
  intro pins s σ H o i v ov iv u Q I ro ri rv h
  obtain ⟨p, xs, k, j, rfl, rfl, hp, hj, q⟩ := h
  cases ro
  obtain ⟨t, rfl⟩ := ri
  obtain ⟨its, n, r, ho, hz⟩ := I.lst hp
  obtain ⟨h1, h2, h3, h4⟩ := ixN_seq hj
  have hl := r.length
  have hn := line63
  have I' : Inv X pins σ (upd H p (.lst (xs.set j v))) { s with heap := s.heap.update p (Obj.mapSeq (·.setIfInBounds j u)) } :=
    I.lstUpd hp ho (mapSeq_set its n j u) (r.set rv j) (by rw [List.length_set]; exact hz) s.toks
  by_cases h0 : 0 ≤ k
  · have hk : k.toNat = j := by
      rw [seqIndex_of h0 h4] at h1
      exact Option.some.inj h1
    exact PySem.W.ki_setAt ho h0 (by omega) (by rw [List.size_toArray, ← hl]; exact h4) (by rw [hk]; exact ⟨_, I', q⟩)
  · have hk : (k + (its.toArray.size : Int)).toNat = j := by
      rw [seqIndex_neg (by omega) h3] at h1
      rw [List.size_toArray, ← hl]
      exact Option.some.inj h1
    exact PySem.W.ki_setBack ho (by omega) (by rw [List.size_toArray, ← hl]; exact h3) (by omega) (by rw [hk]; exact ⟨_, I', q⟩)
theorem slice_bounds (lo hi : Option Int) (n : Nat) : (sliceBounds lo hi none n).1 = ((HT.sIx n 0 lo : Nat) : Int) ∧ (sliceBounds lo hi none n).2.1 = ((HT.sIx n n hi : Nat) : Int) ∧ (sliceBounds lo hi none n).2.2 = 1 := by
  refine ⟨?_, ?_, rfl⟩
  · cases lo with
    | none => simp [sliceBounds, HT.sIx]
    | some i =>
      simp only [sliceBounds, HT.sIx, Option.getD_none, show (1 : Int) > 0 by decide, if_true]
      by_cases h : i < 0
      · simp only [h, if_true] <;> omega
      · simp only [h, if_false] <;> omega
  · cases hi with
    | none => simp [sliceBounds, HT.sIx]
    | some i =>
      simp only [sliceBounds, HT.sIx, Option.getD_none, show (1 : Int) > 0 by decide, if_true]
      by_cases h : i < 0
      · simp only [h, if_true] <;> omega
      · simp only [h, if_false] <;> omega
theorem slicePick_cut (its : List Value) (lo hi : Option Int) : slicePick its.toArray lo hi none = ((its.drop (HT.sIx its.length 0 lo)).take (HT.sIx its.length its.length hi - HT.sIx its.length 0 lo)).toArray := by
  obtain ⟨h1, h2, h3⟩ := slice_bounds lo hi its.toArray.size
  unfold slicePick
  rw [h1, h2, h3]
  simp only [sliceRange_one, pick_run, List.size_toArray] <;> rfl
def rSlL (K : PySem.W.Frag) : V → Option Int → Option Int → Hp → VK → Prop := fun x lo hi H Q => ∃ a xs, x = .ref a ∧ SqL K H a xs ∧ ∀ p, H p = none → Q (.ref p) (upd H p (.lst (cutV xs lo hi)))
theorem sl_list : SlR X (rSlL X.K) := by
  intro pins s σ H x v vl vu lo hi sl Q I rx hs pl pu h
  obtain ⟨a, xs, rfl, hx, q⟩ := h
  cases rx
  obtain ⟨its, r, ht, hz⟩ := I.list hx
  have hlen := r.length
  refine ⟨"list", _, slot_list_getitem.lookup, ht.isList.typeIs, ?_⟩
  refine wpAny_getItem_list_slice ht.isList hs pl pu .none (by simp) ?_ (by rw [List.size_toArray] <;> omega)
  rw [slicePick_cut, ← hlen]
  refine ⟨.ref s.heap.objs.size, _, I.laid (t' := s.toks) (o := .lst (cutV xs lo hi)) (fun b ob q => Heap.get?_push_of_some _ q) (Nat.le_refl _) ?_, rfl, q _ (I.hok.fresh (Nat.le_refl _))⟩
  exact ⟨Nat.le_trans (cutV_length xs lo hi) hz, _, 0, (r.drop (HT.sIx xs.length 0 lo)).take (HT.sIx xs.length xs.length hi - HT.sIx xs.length 0 lo), Heap.get?_push_size _ rfl⟩
theorem call_len_seq : CallR X (.builtin "len") (fun xs H Q => ∃ p ys, xs = [.ref p] ∧ (SqL X.K H p ys ∨ SqT X.K H p ys) ∧ Q (.int ys.length) H) := by
  intro pins s σ H xs us Q I r h
  obtain ⟨p, ys, rfl, hq, q⟩ := h
  obtain ⟨u, rfl, rx⟩ := vals1 r
  cases rx
  have hn := line63
  rcases hq with hq | hq
  · obtain ⟨its, r', pl, hz⟩ := I.list hq
    have hlen := r'.length
    exact Calls.call_len_list pl.isList (by simp only [List.size_toArray] <;> omega) ⟨.int ys.length, H, I.tok _, ⟨s.toks + 1, by rw [List.size_toArray, hlen]⟩, q⟩
  · obtain ⟨its, r', pl, hz⟩ := I.tuple hq
    have hlen := r'.length
    exact len_tuple pl (by simp only [List.size_toArray] <;> omega) ⟨.int ys.length, H, I.tok _, ⟨s.toks + 1, by rw [List.size_toArray, hlen]⟩, q⟩
theorem call_len_str : CallR X (.builtin "len") (fun xs H Q => ∃ z, xs = [.str z] ∧ z.length ≤ sizeLine ∧ Q (.int z.length) H) := by
  intro pins s σ H xs us Q I r h
  obtain ⟨z, rfl, hz, q⟩ := h
  obtain ⟨u, rfl, t, rfl⟩ := vals1 r
  have hn := line63
  exact len_str (by omega) ⟨.int z.length, H, I.tok _, ⟨_, rfl⟩, q⟩
theorem CallR.or {f : Value} {r r' : List V → Hp → VK → Prop} (h : CallR X f r) (h' : CallR X f r') : CallR X f (fun xs H Q => r xs H Q ∨ r' xs H Q) := by
  intro pins s σ H xs us Q I rs q
  rcases q with q | q
  · exact h pins s σ H xs us Q I rs q
  · exact h' pins s σ H xs us Q I rs q
theorem call_list_of : CallR X (.type "list") (fun xs H Q => ∃ p ys, xs = [.ref p] ∧ (SqL X.K H p ys ∨ SqT X.K H p ys) ∧ ∀ l, H l = none → Q (.ref l) (upd H l (.lst ys))) := by
  intro pins s σ H xs us Q I r h
  obtain ⟨p, ys, rfl, hq, q⟩ := h
  obtain ⟨u, rfl, rx⟩ := vals1 r
  cases rx
  have fin : ∀ (its : List Value), Vals ys its → ys.length ≤ sizeLine → ∀ (h' : Heap) (c' : Nat), (∀ b o', s.heap.get? b = some o' → h'.get? b = some o') →
      h'.get? s.heap.objs.size = some { cls := .type "list", dict := none, data := .seq its.toArray c', slots := #[] } → EP X pins σ Q (.ref s.heap.objs.size) { s with heap := h' } := fun its r' hz h' c' kp e =>
    ⟨.ref s.heap.objs.size, _, I.laid (t' := s.toks) kp (Nat.le_refl _) (show ObjOk X.prog X.w _ h' _ (.lst ys) from ⟨hz, its, c', r', e⟩), rfl, q _ (I.hok.fresh (Nat.le_refl _))⟩
  rcases hq with hq | hq
  · obtain ⟨its, r', pl, hz⟩ := I.list hq
    have hlen := r'.length
    obtain ⟨o, ho, hc, n, hd⟩ := pl.isList
    exact call_list_seq p (.inl rfl) ho hc hd (fun h' c' kp e => fin its r' hz h' c' kp e) (by simp only [List.size_toArray] <;> omega)
  · obtain ⟨its, r', pl, hz⟩ := I.tuple hq
    have hlen := r'.length
    obtain ⟨o, ho, hc, n, hd⟩ := pl
    exact call_list_seq p (.inr rfl) ho hc hd (fun h' c' kp e => fin its r' hz h' c' kp e) (by simp only [List.size_toArray] <;> omega)
theorem call_tuple_of : CallR X (.type "tuple") (fun xs H Q => ∃ p ys, xs = [.ref p] ∧ ((SqL X.K H p ys ∧ ∀ l, H l = none → Q (.ref l) (upd H l (.tup ys))) ∨ (SqT X.K H p ys ∧ Q (.ref p) H))) := by
  intro pins s σ H xs us Q I r h
  obtain ⟨p, ys, rfl, h⟩ := h
  obtain ⟨u, rfl, rx⟩ := vals1 r
  cases rx
  rcases h with ⟨hq, q⟩ | ⟨hq, q⟩
  · obtain ⟨its, r', pl, hz⟩ := I.list hq
    have hlen := r'.length
    refine call_tuple_list pl.isList (fun h' kp => ?_) (by simp only [List.size_toArray] <;> omega)
    have I1 : Inv X pins σ H { s with heap := h' } := I.kept (t' := s.toks) kp
    have I2 : Inv X pins σ (upd H h'.objs.size (.tup ys)) { s with heap := h'.push { cls := .type "tuple", data := .seq its.toArray } } :=
      I1.laid (t' := s.toks) (fun b o e => Heap.get?_push_of_some _ e) (Nat.le_refl _) (show ObjOk X.prog X.w _ _ _ (.tup ys) from ⟨hz, its, r', IsTup.new _ _, TupN.new _ _⟩)
    exact ⟨.ref h'.objs.size, _, I2, rfl, q _ (I1.hok.fresh (Nat.le_refl _))⟩
  · obtain ⟨its, r', pl, hz⟩ := I.tuple hq
    exact call_tuple_same pl ⟨.ref p, H, I, rfl, q⟩
def tyV (K : PySem.W.Frag) (T : String) (x : V) (H : Hp) : Prop := match x with
  | .str _ => T = "str"
  | .int _ => T = "int"
  | .ref p => (T = "list" ∧ ∃ xs, SqL K H p xs) ∨ (T = "tuple" ∧ ∃ o, K.lookup p = some o ∧ o.cls = .type "tuple" ∧ o.dict = none) ∨
      (T = "dict" ∧ ((∃ kvs, H p = some (.dK kvs)) ∨ ∃ kvs, H p = some (.dT kvs))) ∨ (T = "set" ∧ ∃ S n, H p = some (.set S n))
  | _ => False
theorem tyV_is {pins : List (Addr × Obj)} {σ : St} {H : Hp} {s : Shared} {T : String} {x : V} {v : Value} (I : Inv X pins σ H s) (r : RelV x v) (ty : tyV X.K T x H) :
    s.TypeIs v T ∧ ∀ a, v = .ref a → ∃ ob, s.heap.get? a = some ob ∧ ob.dict = none := by
  cases x with
  | str z =>
    obtain ⟨t, rfl⟩ := r
    cases (show T = "str" from ty)
    exact ⟨typeIs_str s z t, fun _ e => nomatch e⟩
  | int i =>
    obtain ⟨t, rfl⟩ := r
    cases (show T = "int" from ty)
    exact ⟨typeIs_int s i t, fun _ e => nomatch e⟩
  | ref p =>
    cases r
    rcases ty with ⟨rfl, xs, hq⟩ | ⟨rfl, o, hk, hc, hd⟩ | ⟨rfl, hk⟩ | ⟨rfl, S, n, hk⟩
    · obtain ⟨its, _, pl, _⟩ := I.list hq
      refine ⟨pl.isList.typeIs, fun a e => ?_⟩
      cases e
      obtain ⟨o, n, e, c, hd, _⟩ := pl
      exact ⟨o, e, hd⟩
    · refine ⟨⟨o, I.kIn p o hk, hc⟩, fun a e => ?_⟩
      cases e
      exact ⟨o, I.kIn _ o hk, hd⟩
    · have z : ∃ o, s.heap.get? p = some o ∧ o.ExactDict := by
        rcases hk with ⟨kvs, hk⟩ | ⟨kvs, hk⟩
        · obtain ⟨_, _, _, _, o, _, _, e, ex, _⟩ := I.hok p _ hk
          exact ⟨o, e, ex⟩
        · obtain ⟨_, _, _, _, o, _, _, e, ex, _⟩ := I.hok p _ hk
          exact ⟨o, e, ex⟩
      obtain ⟨o, e, ex⟩ := z
      refine ⟨⟨o, e, ex.1⟩, fun a e2 => ?_⟩
      cases e2
      exact ⟨o, e, ex.2.1⟩
    · obtain ⟨o, _, _, _, e, ex, _⟩ := I.hok p _ hk
      refine ⟨⟨o, e, ex.1⟩, fun a e2 => ?_⟩
      cases e2
      exact ⟨o, e, ex.2.1⟩
  | _ => exact False.elim ty
def tBM (K : PySem.W.Frag) (T : String) (r : V → List V → Hp → VK → Prop) (to : TE) (t : TA) : TE := fun σ H Q => to σ H fun x H1 => tyV K T x H1 ∧ t σ H1 fun xs H2 => r x xs H2 Q
variable {o e : Expr} {es : List Expr} {to : TE} {t : TA} {name : Str} {apos cpos : Pos} {T id : String} {r : V → List V → Hp → VK → Prop}
theorem pe_bm (pa : PlainAttrs T) (slot : Slot T name id) (hty : typeOf (.builtin id) = pure (.type "method_descriptor")) (hm : MtR X id r) (ho : PE X o to) (ha : PA X (e :: es) t)
    (hbase : attributeBase o name X.env (eval o X.env) = eval o X.env := by rfl)
    (hfew : ((backTo cpos (starEach (e :: es) X.env)).all (fun x => !x.1) && (backToKw cpos (keywordEach [] X.env)).all (fun x => x.1.isSome)
      && decide ((e :: es).length + ([] : List Keyword).length + (if ([] : List Keyword).isEmpty then 0 else 1) < 30)) = true := by rfl)
    (hline : (apos.endLine == cpos.line) = true := by rfl) (hs : starEach (e :: es) X.env = (false, eval e X.env) :: starEach es X.env := by rfl) (hplain : (backTo cpos (starEach es X.env)).any (·.1) = false := by rfl) :
    PE X (.Call (.Attribute o name apos) (e :: es) [] cpos) (tBM X.K T r to t) := by
  intro pins s σ H Q I h
  refine wpAny_Call_method_late hbase hfew hline rfl (thn (ho pins s σ H _ I h) fun v s1 ⟨x, H1, I1, r1, ty, q1⟩ => ?_)
  obtain ⟨h1, h2⟩ := tyV_is I1 r1 ty
  refine ⟨T, id, pa, slot, hty, h1, h2, ?_⟩
  have hA := ha cpos pins s1 σ H1 _ I1 q1
  rw [hs] at hA ⊢
  refine Calls.callWith_builtin (by show (false || (backTo cpos (starEach es X.env)).any (·.1)) = false; rw [hplain] <;> rfl) (Calls.evalArgs_plain ?_)
  exact thn hA fun us s2 ⟨vs, H2, I2, r2, q2⟩ => hm pins s2 σ H2 x vs v us Q I2 r1 r2 q2
/- xs.append(e), list.index on a module's tuple .. are MtR facts of 06m -/
end
end L2
namespace L2
open PySem PySem.Spec PyProof.Rows
def MtM (X : Cx) (id : String) (r : V → List V → Hp → VK → Prop) : Prop :=
  ∀ (pins : List (Addr × Obj)) (s : Shared) (σ : St) (H : Hp) (x : V) (xs : List V) (v : Value) (us : List Value) (Q : VK), Inv X pins σ H s → RelV x v → Vals xs us → r x xs H Q →
    wpAny (model X.prog X.w) X.A (call (.builtin id) (v :: us)) (EP X pins σ Q) X.xe s
theorem Vals.one : ∀ {x : V} {us : List Value}, Vals [x] us → ∃ u, us = [u] ∧ RelV x u
  | _, _, .cons r .nil => ⟨_, rfl, r⟩
theorem Vals.rep {xs : List V} {us : List Value} (h : Vals xs us) : ∀ k : Nat, Vals (List.replicate k xs).flatten (List.replicate k us).flatten
  | 0 => .nil
  | k + 1 => by
    rw [List.replicate_succ, List.replicate_succ, List.flatten_cons, List.flatten_cons]
    exact Vals.append h (Vals.rep h k)
theorem foldl_rep (its : List Value) : ∀ (k : Nat) (acc : List Value),
    List.foldl (fun x1 x2 => x1 ++ x2) acc.toArray (List.replicate k its.toArray) = (acc ++ (List.replicate k its).flatten).toArray
  | 0, acc => by simp
  | k + 1, acc => by
    have e : acc.toArray ++ its.toArray = (acc ++ its).toArray := by simp
    have e2 : (acc ++ its) ++ (List.replicate k its).flatten = acc ++ (List.replicate (k + 1) its).flatten := by
      rw [List.replicate_succ, List.flatten_cons, List.append_assoc]
    rw [← e2, ← foldl_rep its k (acc ++ its), ← e, List.replicate_succ, List.foldl_cons]
section
variable {X : Cx} {pins : List (Addr × Obj)} {σ : St} {H : Hp} {s : Shared} {l b : Addr} {xs ys zs : List V}
theorem Inv.lset {its its' : List Value} {n : Nat} {f : Array Value → Array Value} {t' : Nat} (I : Inv X pins σ H s) (hH : H l = some (.lst xs))
    (e : s.heap.get? l = some { cls := .type "list", data := .seq its.toArray n }) (hf : f its.toArray = its'.toArray) (hv : Vals ys its') (hz : ys.length ≤ sizeLine) :
    Inv X pins σ (upd H l (.lst ys)) { s with heap := s.heap.update l (Obj.mapSeq f), toks := t' } := by
  have q := PySem.IsL.update e f
  rw [hf] at q
  refine I.write (x := l) (e := l) (by rw [hH]; exact trivial) (.inl rfl) (fun b' u hb hu => (Heap.get?_update_other s.heap (Obj.mapSeq f) (Ne.symm hb)).trans hu) ⟨_, q⟩ ?_
  exact ⟨hz, its', _, hv, q⟩
theorem Inv.lnew {its : List Value} {t' : Nat} (I : Inv X pins σ H s) (hv : Vals ys its) (hz : ys.length ≤ sizeLine) :
    Inv X pins σ (upd H s.heap.objs.size (.lst ys)) { s with heap := s.heap.push { cls := .type "list", data := .seq its.toArray }, toks := t' } :=
  I.laid (fun _ _ q => Heap.get?_push_of_some _ q) (Nat.le_refl _) ⟨hz, its, 0, hv, Heap.get?_push_size _ rfl⟩
theorem Inv.fresh (I : Inv X pins σ H s) : H s.heap.objs.size = none := I.hok.fresh (Nat.le_refl _)
theorem Inv.lstM (I : Inv X pins σ H s) (hH : H l = some (.lst xs)) : xs.length ≤ sizeLine ∧ ∃ (its : List Value) (n : Nat), Vals xs its ∧ xs.length = its.length ∧ s.heap.get? l = some { cls := .type "list", data := .seq its.toArray n } := by
  obtain ⟨z, its, n, r, e⟩ := I.hok l _ hH
  exact ⟨z, its, n, r, r.length, e⟩
theorem notLongL {n : Nat} (h : n ≤ sizeLine) : Builtin.List.listTooLong n = false := by
  unfold Builtin.List.listTooLong
  exact decide_eq_false (by omega)
end
section
variable {X : Cx}
def rAppend : V → List V → Hp → VK → Prop := fun x vs H Q => ∃ l xs y, x = .ref l ∧ vs = [y] ∧ H l = some (.lst xs) ∧ xs.length < sizeLine ∧ Q .non (upd H l (.lst (xs ++ [y])))
theorem mt_append : MtM X "list.append" rAppend := by
  intro pins s σ H x vs v us Q I rx rv h
  obtain ⟨l, xs, y, rfl, rfl, hH, hz, q⟩ := h
  cases rx
  obtain ⟨u, rfl, ru⟩ := rv.one
  obtain ⟨z, its, n, r, hl, e⟩ := I.lstM hH
  refine call_meets F.slot_list_append ⟨_, e, rfl⟩ F.entry_list_append (F.args_list_append_2 _ _) (PySem.list_append l its.toArray n u (by rw [List.size_toArray]; omega)) ⟨e, ?_⟩
  refine ⟨.non, _, I.lset (its' := its ++ [u]) hH e (by simp) (r.append (.cons ru .nil)) ?_, rfl, q⟩
  rw [List.length_append, List.length_singleton]
  omega
def rExtend : V → List V → Hp → VK → Prop := fun x vs H Q => ∃ l b xs zs, x = .ref l ∧ vs = [.ref b] ∧ H l = some (.lst xs) ∧ H b = some (.lst zs) ∧ xs.length + zs.length ≤ sizeLine ∧ Q .non (upd H l (.lst (xs ++ zs)))
theorem mt_extend : MtM X "list.extend" rExtend := by
  intro pins s σ H x vs v us Q I rx rv h
  obtain ⟨l, b, xs, zs, rfl, rfl, hH, hB, hz, q⟩ := h
  cases rx
  obtain ⟨u, rfl, ru⟩ := rv.one
  cases ru
  obtain ⟨z, its, n, r, hl, e⟩ := I.lstM hH
  obtain ⟨z2, its2, n2, r2, hl2, e2⟩ := I.lstM hB
  have hsz : its.toArray.size + its2.toArray.size ≤ sizeLine := by rw [List.size_toArray, List.size_toArray]; omega
  have hlong : ¬ (!its.toArray.isEmpty && Builtin.List.listTooLong (its.toArray.size + its2.toArray.size)) = true := by
    rw [notLongL hsz, Bool.and_false]
    exact Bool.false_ne_true
  refine call_meets F.slot_list_extend ⟨_, e, rfl⟩ F.entry_list_extend (F.args_list_extend_2 _ _)
    (AutoSeq1.list_extend_list_list_0 l its.toArray n b its2.toArray n2 hlong (by rw [List.size_toArray]; omega) (by omega)) ⟨e, e2, ?_⟩
  refine ⟨.non, _, I.lset (its' := its ++ its2) hH e (by simp) (r.append r2) ?_, rfl, q⟩
  rw [List.length_append]
  omega
def rRep : R2 := fun x y H Q => ∃ l k xs, x = .ref l ∧ y = .int k ∧ H l = some (.lst xs) ∧ -(2 ^ 63) ≤ k ∧ k < 2 ^ 63 ∧ xs.length * k.toNat ≤ sizeLine ∧
  ∀ p, H p = none → Q (.ref p) (upd H p (.lst (List.replicate k.toNat xs).flatten))
theorem len_rep {α : Type} (xs : List α) (k : Nat) : (List.replicate k xs).flatten.length = k * xs.length := by
  induction k with
  | zero => simp
  | succ k ih => rw [List.replicate_succ, List.flatten_cons, List.length_append, ih, Nat.succ_mul, Nat.add_comm]
theorem op_rep : OpR X (binaryOp .Mult) rRep := by
  intro pins s σ H x y v u Q I rx ry h
  obtain ⟨l, k, xs, rfl, rfl, hH, h1, h2, hz, q⟩ := h
  cases rx
  obtain ⟨t, rfl⟩ := ry
  obtain ⟨z, its, n, r, hl, e⟩ := I.lstM hH
  have hlen : its.toArray.size * k.toNat ≤ sizeLine := by rw [List.size_toArray, ← hl]; exact hz
  have hcap : ¬ its.toArray.size * k.toNat > (2 ^ 63 - 1) / 8 := by
    have : (sizeLine : Nat) ≤ (2 ^ 63 - 1) / 8 := by decide
    omega
  have hfit : ¬ (!Builtin.List.listFitsIndex k) = true := by
    rw [fitsIndex_both h1 h2]
    exact Bool.false_ne_true
  have hlong : ¬ Builtin.List.listTooLong (its.toArray.size * k.toNat) = true := by
    rw [notLongL hlen]
    exact Bool.false_ne_true
  have hnew : List.foldl (fun x1 x2 => x1 ++ x2) #[] (List.replicate (if its.toArray.isEmpty = true then 0 else k.toNat) its.toArray) = (List.replicate k.toNat its).flatten.toArray := by
    have f0 : ∀ m : Nat, List.foldl (fun x1 x2 => x1 ++ x2) #[] (List.replicate m its.toArray) = (List.replicate m its).flatten.toArray := fun m => by
      have := foldl_rep its m []
      rw [List.nil_append] at this
      exact this
    rw [f0]
    cases its with
    | nil => simp
    | cons a r' => rw [if_neg (by simp)]
  refine wpAny_binaryOp_repeat_ref (T := "list") (U := "int") (by decide) ⟨_, e, rfl⟩ (fun s' => typeIs_int s' k t) noFill_list_mul F.fills_int_mul F.slot_int_rmul repeat_list F.slot_int_index.lookup
    (call_meets F.slot_int_rmul (typeIs_int s k t) F.entry_int_rmul (F.args_int_rmul_2 _ _) (int___rmul___int_list k t l its.toArray n)
      ⟨e, rfl, ⟨_, e, rfl⟩, call_meets F.slot_list_mul ⟨_, e, rfl⟩ F.entry_list_mul (F.args_list_mul_2 _ _) (AutoListH.list___mul___list_int_3 l its.toArray n k t hfit hcap hlong) ⟨e, ?_⟩⟩)
  rw [hnew]
  exact ⟨.ref _, _, I.lnew (t' := s.toks) (r.rep k.toNat) (by rw [len_rep, Nat.mul_comm]; exact hz), rfl, q _ I.fresh⟩
end
section
variable {prog : Program} {w : World} {A : Around} {E : Value → Shared → Prop} {s : Shared}
end
section
variable {X : Cx}
end
end L2
namespace Att
open PySem PySem.W PySem.Calls PyProof.Rows
theorem ints_of_wellAll {P : Params} {h : Heap} : ∀ (ns : List Int) (vs : List Value), WellAll P h vs (ns.map WData.int) → IntsAre vs ns := by
  intro ns
  induction ns with
  | nil =>
    intro vs w
    rw [List.map_nil] at w
    cases w
    exact .nil
  | cons n ns ih =>
    intro vs w
    rw [List.map_cons] at w
    cases w with
    | cons a b =>
      cases a
      exact .cons _ _ (ih _ b)
theorem script_of {l : OpenLaw} {n : Nat} (hn : l.most = some n) {P : Params} {h : Heap} {args : List WData} {vals : List Value}
    (hpre : l.row.toRowW.claim.pre args = true) (hwl : WellAll P h vals args) :
    ∃ a vs ns, vals = [Value.ref a] ∧ args = [WData.list (ns.map WData.int)] ∧ h.get? a = some { cls := .type "list", data := .seq vs.toArray } ∧ IntsAre vs ns ∧ ns.length ≤ n := by
  have hsh : WShape.hasAll [] args [.list .int] = true := (pre_splitW hpre).1
  have hc : l.pre.holds [] { args := args } = true := (pre_splitW hpre).2
  obtain ⟨d, r, rfl, h1, h2⟩ := hasAllW_cons hsh
  obtain rfl := hasAllW_nil h2
  obtain ⟨xs, rfl, h3⟩ := hasW_list h1
  obtain ⟨ns, rfl⟩ := items_int h3
  have hlen : ns.length ≤ n := by
    unfold OpenLaw.pre at hc
    have h4 : (WTm.not (.lt (.lit (.int (n : Int))) (.len (.arg 0)))).holds [] { args := [.list (ns.map .int)] } = true := by
      have h4 := (holds_andW hc).1
      rw [hn] at h4
      exact h4
    have h5 := condW_of h4 (w_not (w_lt w_lit (w_len_list (w_arg rfl))))
    rw [List.length_map] at h5
    refine Nat.le_of_not_lt fun q => ?_
    have q' : (n : Int) < ((ns.length : Nat) : Int) := by omega
    first
      | (rw [decide_eq_true q'] at h5; exact absurd h5 (by decide))
      | (simp at h5; omega)
  cases hwl with
  | cons w1 w2 =>
    cases w2
    cases w1 with
    | list ho hall => exact ⟨_, _, ns, rfl, rfl, ho, ints_of_wellAll ns _ hall, hlen⟩
theorem post_true (l : OpenLaw) (args : List WData) : l.row.toRowW.claim.post args (.bool true) args = true :=
  postW_of (r := l.row.toRowW) (X := (true == true))
    (show WShape.has [] (.bool true) .bool = true by first | rfl | decide | simp [WShape.has, WShape.arms, WShape.armsAll])
    (show (WTm.eq .res (.lit (.bool true))).value [] { args := args, res := some (.bool true), after := args } = some (.bool (true == true)) from w_eq_bool (w_res rfl) w_lit) rfl
theorem attach_call {l : OpenLaw} {n : Nat} {q : Program} {loose : List Str} {XP : (Str → Option Value) → Heap → Prop} {YP : World → Heap → Prop} {d : DefRec}
    (hn : l.most = some n) (hdf : d.params.defaults = [])
    (call : ∀ (w : World) (s₀ s₁ : Shared) (mg mb : Str → Option Value) (fa : Addr) (o : Obj) (pm cd doc : Value) (a : Addr) (vs : List Value) (ns : List Int),
      Ground q loose [] XP w s₀ mg mb s₁.heap → YP w s₁.heap →
      s₁.heap.get? fa = some o → o.data = .func (docDef d.name d.params d.body d.scope pm cd doc) → s₁.heap.CodeRec cd d.name → mg d.name = some (.ref fa) →
      s₁.heap.get? a = some { cls := .type "list", data := .seq vs.toArray } → IntsAre vs ns → ns.length ≤ n → s₁.gens = #[] →
      codeAny (model l.prog w) callerA (.call (.ref fa) ⟨[.ref a], []⟩) (fun r s' => r = .ok (.ret (.bool true)) ∧ OldK s₁.heap s'.heap ∧ s'.os = s₁.os ∧ AllBare s'.gens) s₁) :
    WalkO q loose XP YP l.row.toRowW d [] (fun f vs => PySem.call f vs) := by
  intro w s₀ s₁ mg mb G Y fa o pm cd doc dV kV ho hd hcd hD hmg hg args vals as hpre hlay hrd hwl hlo
  obtain rfl : dV = .none := Dflts.none hD hdf
  obtain rfl : kV = .none := Dflts.noKw hD
  obtain ⟨a, vs, ns, rfl, rfl, hobj, hints, hlen⟩ := script_of hn hpre hwl
  refine enter_call (codeAny_mono (call w s₀ s₁ mg mb fa o pm cd doc a vs ns G Y ho (fd_plain hd) hcd hmg hobj hints hlen hg) fun r s' hq => ?_)
  obtain ⟨rfl, h2, h3, h4⟩ := hq
  exact ⟨.inl ⟨.bool true, .bool true, [], rfl, fun _ => rfl, .bool true, post_true l _, fun _ => ⟨List.Pairwise.nil, fun _ hm => (nomatch hm)⟩⟩, h2, h3, h4⟩
section
variable {prog : Program} {w : World} {A : Around} {E : Value → Shared → Prop} {s : Shared} {K : Frag}
end
end Att
namespace L2
open PySem PySem.Spec PyProof.Rows
theorem vals_ints : ∀ {vs : List Value} {ns : List Int}, IntsAre vs ns → Vals (ns.map V.int) vs
  | _, _, .nil => .nil
  | _, _, .cons n t h => .cons ⟨t, rfl⟩ (vals_ints h)
def Only (H : Hp) : Prop := ∀ b, H b = none ∨ ∃ o xs, H b = some (.frz o (.lst xs))
theorem law_call {P : Program} {w : World} {K : PySem.W.Frag} {mg mb : Str → Option Value} {CX : CXT} {k : Nat} {fa a : Addr} {fd : FuncData} {x : Str} {sp : Sp} {s₁ : Shared} {vs : List Value} {ns : List Int}
    (KX : K.In s₁.heap) (hns : s₁.heap.Ns mainGlobals mg) (hb : s₁.heap.Ns builtinsNs mb) (hbb : ∀ x : Str, x ≠ "__name__" → mb x = bootBuiltins x) (hlim : s₁.heap.NoLimit) (hg : s₁.gens = #[])
    (ha : s₁.heap.get? a = some { cls := .type "list", data := .seq vs.toArray }) (hi : IntsAre vs ns) (hl : ns.length ≤ sizeLine) (hr : Room k callerA)
    (F : ∀ base : Heap, K.In base → base.Ns mainGlobals mg → FnOk P w K mg base CX k fa fd [x] sp) (hbind : ∀ (s : Shared) (u : Value), BindsTo s fd ⟨[u], []⟩ [(x, u)])
    (hsp : ∀ H : Hp, Only H → SqL K H a (ns.map V.int) → sp [.ref a] H (fun v _ => v = .bl true) fun _ _ _ => False)
    (hCX : ∀ H e s', CX [] H s₁ (fun _ _ _ => False) e s' → False) :
    codeAny (model P w) callerA (.call (.ref fa) ⟨[.ref a], []⟩) (fun r s' => r = .ok (.ret (.bool true)) ∧ OldK s₁.heap s'.heap ∧ s'.os = s₁.os ∧ AllBare s'.gens) s₁ := by
  have rv := vals_ints hi
  have lenV := hi.length
  have core : ∀ H : Hp, Only H → SqL K H a (ns.map V.int) → HOk P w H s₁.heap → (∀ b, H b ≠ none → b = a) → (H a ≠ none → K.lookup a = none) →
      codeAny (model P w) callerA (.call (.ref fa) ⟨[.ref a], []⟩) (fun r s' => r = .ok (.ret (.bool true)) ∧ OldK s₁.heap s'.heap ∧ s'.os = s₁.os ∧ AllBare s'.gens) s₁ := by
    intro H hO hS hok hA hK
    have base_of : ∀ {b : Addr} {o : Obj}, s₁.heap.get? b = some o → H b = none → (hidT s₁.heap H).get? b = some o := fun e n => hidT_get e n
    have noA : ∀ {b : Addr} {o : Obj} {es : Array DictEntry} {ep : Nat}, s₁.heap.get? b = some o → o.data = .dict es ep → H b = none := fun {b o es ep} e d => by
      cases q : H b with
      | none => rfl
      | some u =>
        have e' : b = a := hA b (by rw [q]; simp)
        subst e'
        rw [ha] at e; cases e
        have d' : Data.seq vs.toArray _ = Data.dict es ep := d
        cases d'
    have nsK : ∀ {b : Addr} {m : Str → Option Value}, s₁.heap.Ns b m → (hidT s₁.heap H).Ns b m := fun {b m} ⟨o, es, ep, e, d, r⟩ => ⟨o, es, ep, base_of e (noA e d), d, r⟩
    have hKb : K.In (hidT s₁.heap H) := fun b o e => base_of (KX b o e) (by
      cases q : H b with
      | none => rfl
      | some u =>
        have e' : b = a := hA b (by rw [q]; simp)
        subst e'
        rw [hK (by rw [q]; simp)] at e; cases e)
    have hM : Mod K mg (hidT s₁.heap H) := ⟨hKb, nsK hns, ⟨mb, nsK hb, hbb⟩, let ⟨mc, h1, h2⟩ := hlim; ⟨mc, nsK h1, h2⟩⟩
    have e0 : Env0 P w K mg (hidT s₁.heap H) callerA [] s₁ H := ⟨rfl, hM, fun b o e => of_hidT e, Nat.le_of_eq (hidT_size _ _), trivial, fun b hb => absurd (show b ∈ ([] : List Addr) from hb) (by simp), hok, .of_eq hg⟩
    refine codeAny_mono ((F _ hKb (nsK hns)).run callerA [] s₁ H ⟨[.ref a], []⟩ [.ref a] [.ref a] _ _ hr e0 (hbind s₁ (.ref a)) (.cons rfl .nil) (hsp H hO hS)) fun r s' h => ?_
    cases r with
    | error e => exact (hCX H e s' h).elim
    | ok fl =>
      cases fl with
      | next => exact False.elim h
      | brk => exact False.elim h
      | cont => exact False.elim h
      | ret u =>
        obtain ⟨v, H', os, bare, un, hok', r', q⟩ := h
        have q' : v = .bl true := q
        subst q'
        obtain rfl : u = Value.bool true := r'
        refine ⟨rfl, OldK.of_keep fun b o e => ?_, os, bare⟩
        cases q : H b with
        | none => exact un.keep b o e q (by intro z; exact absurd (show b ∈ ([] : List Addr) from z) (by simp)) (by simp)
        | some u =>
          rcases hO b with z | ⟨ob, xs, z⟩
          · rw [q] at z; cases z
          · have z2 := un.frzs b ob _ z
            obtain ⟨e1, _⟩ := hok b _ z
            obtain ⟨e2, _⟩ := hok' b _ z2
            rw [e] at e1; cases e1
            exact e2
  cases hk : K.lookup a with
  | some o =>
    have e := KX a o hk
    rw [ha] at e
    cases e
    refine core (fun _ => none) (fun _ => .inl rfl) (.inr ⟨_, vs.toArray, _, hk, rfl, rfl, rfl, by rw [List.size_toArray, lenV]; exact hl, by simpa using rv⟩) (fun b u z => by have z' : (none : Option HO) = some u := z; cases z') (fun b z => absurd rfl z) fun z => absurd rfl z
  | none =>
    refine core (fun b => if b = a then some (.frz { cls := .type "list", data := .seq vs.toArray } (.lst (ns.map V.int))) else none) (fun b => ?_) (.inl (.inr ⟨{ cls := .type "list", data := .seq vs.toArray }, if_pos rfl⟩)) (fun b u z => ?_) (fun b z => ?_) fun _ => hk
    · by_cases hb : b = a
      · exact .inr ⟨_, _, if_pos hb⟩
      · exact .inl (if_neg hb)
    · by_cases hb : b = a
      · have z' := (if_pos hb).symm.trans z
        cases z'
        subst hb
        exact ⟨ha, by rw [List.length_map]; exact hl, vs, _, rv, ha⟩
      · have z' := (if_neg hb).symm.trans z
        cases z'
    · by_cases hb : b = a
      · exact hb
      · exact absurd (if_neg hb) z
end L2
namespace L2
open PySem PySem.Spec PyProof.Rows
theorem walk_of {l : PySem.W.OpenLaw} {n k : Nat} {q : Program} {loose : List Str} {XP : (Str → Option Value) → Heap → Prop} {YP : World → Heap → Prop} {d : DefRec} {K : Params → PySem.W.Frag} {CX : World → CXT} {sp : World → Sp} {x : Str}
    (hn : l.most = some n) (hn2 : n ≤ sizeLine) (hdf : d.params.defaults = []) (hr : Room k callerA)
    (hY : ∀ (w : World) (h : Heap), YP w h → (K w.params).In h)
    (F : ∀ (w : World) (mg : Str → Option Value) (fa : Addr) (h : Heap), (K w.params).In h → h.Ns mainGlobals mg → mg d.name = some (.ref fa) →
      ∃ fd : FuncData, (∀ (s : Shared) (u : Value), BindsTo s fd ⟨[u], []⟩ [(x, u)]) ∧
        ∀ base : Heap, (K w.params).In base → base.Ns mainGlobals mg → FnOk l.prog w (K w.params) mg base (CX w) k fa fd [x] (sp w))
    (hsp : ∀ (w : World) (H : Hp) (a : Addr) (ns : List Int), ns.length ≤ n → Only H → SqL (K w.params) H a (ns.map V.int) → sp w [.ref a] H (fun v _ => v = .bl true) fun _ _ _ => False)
    (hCX : ∀ (w : World) (H : Hp) (s : Shared) (e : Value) (s' : Shared), CX w [] H s (fun _ _ _ => False) e s' → False) :
    PySem.W.WalkO q loose XP YP l.row.toRowW d [] (fun f vs => PySem.call f vs) := by
  refine Att.attach_call hn hdf fun w s₀ s₁ mg mb fa o pm cd doc a vs ns G Y ho hd hcd hmg hobj hints hlen hg => ?_
  have KX := hY w _ Y
  obtain ⟨fd, hb, hF⟩ := F w mg fa _ KX G.T.g hmg
  exact law_call KX G.T.g G.T.b G.T.builtins G.T.nolimit hg hobj hints (Nat.le_trans hlen hn2) hr hF hb (fun H hO hS => hsp w H a ns hlen hO hS) fun H e s' => hCX w H s₁ e s'
end L2
/- THE LAST THEOREM (shape; LID, My.* are yours):
   My.Adr: a structure of the addresses that your layer names (classes, functions); My.Txt K t: a structure (Prop) of the equations over K;
   My.txt_mk : {K} {implicit addresses ..} (e1 : nsIn K mainGlobals "law" = some (some (.ref f))) (e2 : K.lookup f = some ⟨oc, od, .func (fnOf "law" "law" params body scope dV kV doc pm an cdv ct), sl⟩) (e3 : codeIn K cdv "law" = true) .. : ∃ t, My.Txt K t
set_option maxRecDepth 100000 in
set_option maxHeartbeats 0 in
theorem PySem.Challenge.cw_LID_holds : PySem.Challenge.rw_LID.Holds := by
  w_on; o_law; k_head; (case hw => w_witness2)
  k_fill
  refine L2.walk_of (l := PySem.Challenge.rw_LID) (n := 63) (k := 40) (x := "script") (CX := fun w => ..) (sp := fun _ => My.sp_law) rfl (by decide) rfl ⟨rfl, by decide, by decide⟩ (fun w h Y => PySem.W.kIn_of Y) ?F ?S ?C
  case F =>
    intro w mg fa h KX G hmg
    have T : ∃ t, My.Txt (L2.KOf KX) t := by
      dsimp only [L2.KOf]                          -- K must stand as «<heap const> w.params» for k_is
      refine' My.txt_mk ?e1 ?e2 ?e3 ..
      (case e1 => PySem.W.k_is)                    -- in the order: a name -> its address -> its object -> its parts
      (case e2 => PySem.W.k_is)
      ..
    obtain ⟨t, T⟩ := T
    have e0 := hmg.symm.trans (PySem.W.mg_of KX G T.law)
    cases e0                                       -- fa is the law's own address
    exact ⟨_, fun s u => .of_eq rfl, fun base kb nb => My.law_fn T kb nb⟩     -- if «.of_eq rfl» comes too early: refine' ⟨_, ?b, fun base kb nb => My.law_fn T kb nb⟩; exact fun s u => .of_eq rfl
  case S => exact fun w H a ns hl hO hS => ..
  case C => exact ..
(the tactic k_is has no namespace: write k_is) -/
namespace L2
open PySem PySem.Spec PyProof.Rows
def defArgs (s : Stmt) : Arguments := match s with
  | .FunctionDef _ a _ _ _ _ _ _ _ _ => a
  | _ => { posonlyargs := [], args := [], vararg := none, kwonlyargs := [], kw_defaults := [], kwarg := none, defaults := [] }
def defBody (s : Stmt) : List Stmt := match s with
  | .FunctionDef _ _ b _ _ _ _ _ _ _ => b
  | _ => []
def defScope (s : Stmt) : Scope := match s with
  | .FunctionDef _ _ _ _ _ _ sc _ _ _ => sc
  | _ => { kind := .function, names := [], isGenerator := false, isCoroutine := false }
structure Fun (K : PySem.W.Frag) (x qual : Str) (st : Stmt) (f : Addr) (fd : FuncData) : Prop where
  ex : ∃ (oc : Value) (od : Option Addr) (kV doc pm : Value) (an : Option Addr) (cdv ct : Value) (osl : Array (Option Value)),
    fd = PySem.W.fnOf x qual (defArgs st) (defBody st) (defScope st) .none kV doc pm an cdv ct ∧ K.lookup f = some ⟨oc, od, .func fd, osl⟩ ∧ PySem.W.codeIn K cdv qual = true
  kp : PySem.W.keepIn K (.ref f) = true
section
variable {P : Program} {w : World} {K : PySem.W.Frag} {mg : Str → Option Value} {base : Heap}
theorem Fun.binds {x qual : Str} {st : Stmt} {f : Addr} {fd : FuncData} {ps : List Str} (F : Fun K x qual st f fd)
    (h : ∀ (kV doc pm : Value) (an : Option Addr) (cdv ct : Value) (us : List Value), us.length = ps.length → bindArgs (PySem.W.fnOf x qual (defArgs st) (defBody st) (defScope st) .none kV doc pm an cdv ct) ⟨us, []⟩ = pure (ps.zip us)) : Binds K fd ps [] := by
  obtain ⟨oc, od, kV, doc, pm, an, cdv, ct, osl, rfl, lk, hcd⟩ := F.ex
  exact .all (h kV doc pm an cdv ct)
theorem fun_mk {x qual : Str} {st : Stmt} {f : Addr} {oc : Value} {od an : Option Addr} {osl : Array (Option Value)} {kV doc pm cdv ct : Value} (l : K.lookup f = some ⟨oc, od, .func (PySem.W.fnOf x qual (defArgs st) (defBody st) (defScope st) .none kV doc pm an cdv ct), osl⟩)
    (c : PySem.W.codeIn K cdv qual = true) (k : PySem.W.keepIn K (.ref f) = true) : Fun K x qual st f (PySem.W.fnOf x qual (defArgs st) (defBody st) (defScope st) .none kV doc pm an cdv ct) := ⟨⟨oc, od, kV, doc, pm, an, cdv, ct, osl, rfl, l, c⟩, k⟩
end
section
variable {X : Cx}
end
theorem iteF {A B : Prop} (h : B) : if false = true then A else B := by
  rw [if_neg Bool.false_ne_true]
  exact h
theorem iteT {A B : Prop} (h : A) : if true = true then A else B := by
  rw [if_pos rfl]
  exact h
def Same (H H' : Hp) : Prop := ∀ b o, H b = some o → H' b = some o
theorem Same.refl (H : Hp) : Same H H := fun _ _ h => h
theorem Same.trans {H H1 H2 : Hp} (a : Same H H1) (b : Same H1 H2) : Same H H2 := fun c o h => b c o (a c o h)
theorem Same.free {H H' : Hp} (e : Same H H') {l : Addr} (h : H' l = Option.none) : H l = Option.none := by
  cases q : H l with
  | none => rfl
  | some o =>
    rw [e l o q] at h
    cases h
theorem Same.seq {K : PySem.W.Frag} {H H' : Hp} {a : Addr} {xs : List V} (e : Same H H') (h : SqL K H a xs) : SqL K H' a xs := by
  rcases h with (h | ⟨o, h⟩) | h
  · exact .inl (.inl (e _ _ h))
  · exact .inl (.inr ⟨o, e _ _ h⟩)
  · exact .inr h
end L2
set_option Elab.async false
set_option linter.all false
set_option maxRecDepth 100000
namespace L2
open PySem PySem.Spec PyProof.Rows
def compCx (X : Cx) (N' : List Str) (scope : Scope) (cl : List (Str × Addr)) (s₂ : Shared) (H₂ : Hp) (fp : List Addr) (C : Addr) : Cx :=
  { X with N := N', s₀ := s₂, H₀ := H₂, env := compEnvC scope cl C X.env, outer := X.stack, ex := fp, fn := fun _ => false, pn := [], xe := fun _ _ => False }
def lobj (ys : List Value) (k : Nat) : Obj := { cls := .type "list", data := .seq ys.toArray k }
section
variable {prog : Program} {w : World} {A : Around} {R : Result → Shared → Prop} {s : Shared}
theorem codeAny_compLoop_own {elt target iter : Expr} {ifs : List Expr} {scope : Scope} {pos : Pos} {it acc : Value} {env : Env} (I : Nat → Shared → Prop)
    (turn : ∀ n s, I n s → wpAny (model prog w) A (pyNext it) (fun r s₁ => match r with
      | none => R (.ok .next) s₁
      | some v => wpAny (model prog w) A (letOwnedTupleGo target it v) (fun _ s₁' => wpAny (model prog w) A (assign target env v) (fun _ s₂ =>
          wpAny (model prog w) A (forIn ifs true fun c r => if r = true then do let ok ← isTrue c env (eval c env); pure (ForInStep.yield ok) else pure (ForInStep.yield r)) (fun ok s₃ =>
            if ok = true then wpAny (model prog w) A (eval elt env) (fun x s₄ =>
              wpAny (model prog w) A (call (.builtin "list.append") [acc, x]) (fun _ s₅ => ∃ m, m < n ∧ I m s₅) (fun _ _ => False) s₄) (fun _ _ => False) s₃
            else ∃ m, m < n ∧ I m s₃) (fun _ _ => False) s₂) (fun _ _ => False) s₁') (fun _ _ => False) s₁) (fun _ _ => False) s)
    (n : Nat) (h : I n s) :
    codeAny (model prog w) A (.compLoop (.ListComp elt [⟨target, iter, ifs, 0⟩] scope pos) 0 it acc env) R s := by
  refine codeAny_loop rfl I (fun n s hI => ?_) n h
  show wpAny _ A ((compTurn (.ListComp elt [⟨target, iter, ifs, 0⟩] scope pos) 0 it acc env).onRaise (fun x => do noteFrame x env; theTreesLotGoes x)) _ _ s
  refine wpAny_noted ?_
  rw [compTurn_list]
  refine wpAny_bind (wpAny_standAt (wpAny_bind (wpAny_mono (turn n s hI) (fun r s₁ h₁ => ?_) fun _ _ h' => h'.elim)))
  cases r with
  | none => exact wpAny_pure h₁
  | some v =>
    refine wpAny_bind (wpAny_mono h₁ (fun _ s₁' h₁' => ?_) fun _ _ h' => h'.elim)
    refine wpAny_bind (wpAny_mono h₁' (fun _ s₂ h₂ => wpAny_bind (wpAny_mono h₂ (fun ok s₃ h₃ => ?_) fun _ _ h' => h'.elim)) fun _ _ h' => h'.elim)
    cases ok with
    | false => exact wpAny_pure ⟨rfl, h₃⟩
    | true =>
      exact wpAny_bind (wpAny_bind (wpAny_mono h₃ (fun x s₄ h₄ => wpAny_bind (wpAny_mono h₄ (fun _ s₅ h₅ => wpAny_pure (wpAny_pure ⟨rfl, h₅⟩)) fun _ _ h' => h'.elim)) fun _ _ h' => h'.elim))
end
def PTs (X : Cx) (ifs : List Expr) (t : TT) : Prop :=
  ∀ (pins : List (Addr × Obj)) (s : Shared) (σ : St) (H : Hp) (Q : Bool → Hp → Prop), Inv X pins σ H s → t σ H Q →
    wpAny (model X.prog X.w) X.A (forIn ifs true fun c r => if r = true then do let ok ← isTrue c X.env (eval c X.env); pure (ForInStep.yield ok) else pure (ForInStep.yield r)) (TP X pins σ Q) X.xe s
theorem pts_nil {X : Cx} : PTs X [] (fun _ H Q => Q true H) := fun _ _ _ H _ I h => wpAny_tests_nil ⟨H, I, h⟩
theorem lookup_relabel {env : Env} : ∀ {names : List (Str × NameKind)} {x : Str},
    (names.map fun (n, k) => if (k == NameKind.free && env.scope.kind == .function && env.kindOf n == some .cell) then (n, NameKind.cell) else (n, k)).lookup x
      = (names.lookup x).map fun k => if (k == NameKind.free && env.scope.kind == .function && env.kindOf x == some .cell) then NameKind.cell else k
  | [], _ => rfl
  | (n, k) :: r, x => by
    have ih := @lookup_relabel env r x
    show List.lookup x ((if (k == NameKind.free && env.scope.kind == .function && env.kindOf n == some .cell) = true then (n, NameKind.cell) else (n, k)) :: _) = _
    cases hx : x == n with
    | true =>
      have e : x = n := by simpa using hx
      subst e
      by_cases hc : (k == NameKind.free && env.scope.kind == .function && env.kindOf x == some .cell) = true
      · rw [if_pos hc]; simp only [List.lookup_cons, hx, Option.map_some, if_pos hc]
      · rw [if_neg hc]; simp only [List.lookup_cons, hx, Option.map_some, if_neg hc]
    | false =>
      by_cases hc : (k == NameKind.free && env.scope.kind == .function && env.kindOf n == some .cell) = true
      · rw [if_pos hc]; simp only [List.lookup_cons, hx]; exact ih
      · rw [if_neg hc]; simp only [List.lookup_cons, hx]; exact ih
theorem closure_of {env : Env} : ∀ (names : List (Str × NameKind)) (acc : List (Str × Addr)), (∀ x ∈ names, x.2 = .free → ∃ c, env.cells.lookup x.1 = some c) →
    (∀ x c, acc.lookup x = some c → env.cells.lookup x = some c) →
    ∃ cl, (forIn names acc fun (x : Str × NameKind) (cs : List (Str × Addr)) => (if (x.2 == NameKind.free) = true then (do let c ← cellOf env x.1; pure (ForInStep.yield ((x.1, c) :: cs))) else pure (ForInStep.yield cs) : Sem (ForInStep (List (Str × Addr))))) = pure cl ∧
      (∀ x c, cl.lookup x = some c → env.cells.lookup x = some c) ∧ (∀ x, (acc.lookup x).isSome → (cl.lookup x).isSome) ∧ ∀ x ∈ names, x.2 = .free → (cl.lookup x.1).isSome
  | [], acc, _, ha => ⟨acc, rfl, ha, fun _ h => h, fun _ h => nomatch h⟩
  | (n, k) :: r, acc, hn, ha => by
    cases hk : (k == NameKind.free) with
    | true =>
      obtain ⟨c, hc⟩ := hn (n, k) List.mem_cons_self (by simpa using hk)
      have ha' : ∀ x d, ((n, c) :: acc).lookup x = some d → env.cells.lookup x = some d := fun x d e => by
        rw [List.lookup_cons] at e
        cases q : x == n with
        | true => rw [q] at e; have : x = n := by simpa using q
                  subst this; exact hc.trans e
        | false => rw [q] at e; exact ha x d e
      obtain ⟨cl, e, h1, h2, h3⟩ := closure_of r ((n, c) :: acc) (fun x hx => hn x (List.mem_cons_of_mem _ hx)) ha'
      have grow : ∀ x, (acc.lookup x).isSome → (((n, c) :: acc).lookup x).isSome := fun x hx => by
        rw [List.lookup_cons]
        cases q : x == n with
        | true => rfl
        | false => exact hx
      refine ⟨cl, ?_, h1, fun x hx => h2 x (grow x hx), fun x hx hf => ?_⟩
      · rw [List.forIn_cons]
        have q : cellOf env n = pure c := by
          unfold cellOf
          rw [hc]
        simp only [hk, if_true, q]
        exact e
      · rcases List.mem_cons.mp hx with rfl | hx
        · exact h2 _ (by simp [List.lookup_cons])
        · exact h3 x hx hf
    | false =>
      obtain ⟨cl, e, h1, h2, h3⟩ := closure_of r acc (fun x hx => hn x (List.mem_cons_of_mem _ hx)) ha
      refine ⟨cl, ?_, h1, h2, fun x hx hf => ?_⟩
      · rw [List.forIn_cons]
        simp only [hk, Bool.false_eq_true, if_false]
        exact e
      · rcases List.mem_cons.mp hx with rfl | hx
        · exfalso; have : k = .free := hf; subst this; simp at hk
        · exact h3 x hx hf
theorem closure_ex {env : Env} {scope : Scope} (h : ∀ x ∈ scope.names, x.2 = .free → ∃ c, env.cells.lookup x.1 = some c) :
    ∃ cl, closureFor scope env = pure cl ∧ (∀ x c, cl.lookup x = some c → env.cells.lookup x = some c) ∧ ∀ x ∈ scope.names, x.2 = .free → (cl.lookup x.1).isSome := by
  obtain ⟨cl, e, h1, _, h3⟩ := closure_of (env := env) scope.names [] h (fun x c e => by simp at e)
  refine ⟨cl, ?_, h1, h3⟩
  unfold closureFor
  have q : (forIn scope.names [] fun (x : Str × NameKind) (cs : List (Str × Addr)) => (match x with | (name, kind) => if (kind == NameKind.free) = true then (do let c ← cellOf env name; pure (ForInStep.yield ((name, c) :: cs))) else pure (ForInStep.yield cs) : Sem (ForInStep (List (Str × Addr))))) = pure cl := e
  first
    | (simp only [] ; rw [q]; rfl)
    | (show (do let cs ← _; pure cs) = _; rw [q]; rfl)
    | (rw [show (forIn scope.names [] _) = pure cl from q]; rfl)
structure CompOk (X : Cx) (N' : List Str) (k : Nat) (scope : Scope) : Prop where
  kind : scope.kind = .function
  len : N'.length = X.N.length + k
  nocell : ∀ y ∈ scope.names, y.2 ≠ .cell
  names : ∀ y ∈ scope.names, y.2 = .local → scope.names.lookup y.1 = some .local
  outer : ∀ (i : Nat) x, i < X.N.length → N'[i]? = some x → (scope.names.lookup x).isSome → (scope.names.lookup x = some .free ∨ scope.names.lookup x = some .local ∨ scope.names.lookup x = some .cell) → X.N[i]? = some x ∧ scope.names.lookup x = some .free
  free : ∀ y ∈ scope.names, y.2 = .free → X.env.kindOf y.1 = some .cell ∨ X.env.kindOf y.1 = some .free
end L2
set_option Elab.async false
set_option linter.all false
set_option maxRecDepth 100000
namespace L2
open PySem PySem.Spec PyProof.Rows
def tComp (wi : TI) (k : Nat) (g : TG) (tc : TT) (te : TE) : TE := fun σ H Q => wi σ H fun J H1 => ∃ W : Nat → Nat → List V → St → Hp → Prop, (∃ m, W 0 m [] (σ ++ List.replicate k none) H1) ∧
  ∀ i m vs σ' H', W i m vs σ' H' → vs.length ≤ sizeLine ∧
    ((J.stop i H' ∧ ∀ p, H' p = none → Q (.ref p) (upd H' p (.lst vs))) ∨
     (J.go i H' ∧ ∀ x H2, J.yld i H' x H2 → g x σ' H2 fun σ3 H3 => tc σ3 H3 fun b H4 => if b = true then te σ3 H4 fun y H5 => ∃ m', m' < m ∧ W (i + 1) m' (vs ++ [y]) σ3 H5 else ∃ m', m' < m ∧ W (i + 1) m' vs σ3 H4))
section
variable {X : Cx} {pins : List (Addr × Obj)} {σ : St} {H2 : Hp} {s2 : Shared}
theorem HOk.track {P : Program} {w : World} {H : Hp} {h : Heap} {D : Addr} {vs : List V} {ys : List Value} {k : Nat} (x : HOk P w H h) (hn : H D = none) (hl : vs.length ≤ sizeLine) (r : Vals vs ys) (e : h.get? D = some (lobj ys k)) :
    HOk P w (upd H D (.lst vs)) h := fun b u q => by
  by_cases hb : b = D
  · subst hb
    rw [upd_same] at q
    cases q
    exact ⟨hl, ys, k, r, e⟩
  · rw [upd_ne hb] at q
    exact (x b u q).stay (fun _ _ _ z => z) (fun c z => by rw [upd_ne (ne_of_none z hn)]; exact z) fun c xs z => by rw [upd_ne (ne_of_none z hn)]; exact z
theorem comp_core {elt tg iter : Expr} {ifs : List Expr} {scope : Scope} {pos : Pos} {N' : List Str} {k : Nat} {cl : List (Str × Addr)} {J : It} {fp : List Addr} {it : Addr} {tn : Nat → Heap → Prop} {g : TG} {tc : TT} {te : TE} {E : Value → Shared → Prop}
    {RR : Value → Addr → Result → Shared → Prop} {Q : VK}
    (hc : X.calm = true) (S : CompOk X N' k scope) (hcl : ∀ x c, cl.lookup x = some c → X.env.cells.lookup x = some c) (hcf : ∀ x ∈ scope.names, x.2 = .free → (cl.lookup x.1).isSome)
    (I : Inv X pins σ H2 s2) (T : Turn X.prog X.w X.K tg J fp it tn) (st : tn 0 s2.heap) (ff : ∀ b ∈ fp, FpOk X pins H2 b)
    (hg : ∀ C, PG (compCx X N' scope cl s2 H2 fp C) tg g) (ht : ∀ C, PTs (compCx X N' scope cl s2 H2 fp C) ifs tc) (he : ∀ C, PE (compCx X N' scope cl s2 H2 fp C) elt te)
    (rd : ∃ W : Nat → Nat → List V → St → Hp → Prop, (∃ m, W 0 m [] (σ ++ List.replicate k none) H2) ∧
      ∀ i m vs σ' H', W i m vs σ' H' → vs.length ≤ sizeLine ∧
        ((J.stop i H' ∧ ∀ p, H' p = none → Q (.ref p) (upd H' p (.lst vs))) ∨
         (J.go i H' ∧ ∀ x H2, J.yld i H' x H2 → g x σ' H2 fun σ3 H3 => tc σ3 H3 fun b H4 => if b = true then te σ3 H4 fun y H5 => ∃ m', m' < m ∧ W (i + 1) m' (vs ++ [y]) σ3 H5 else ∃ m', m' < m ∧ W (i + 1) m' vs σ3 H4)))
    (hRR : ∀ D C s' H', Inv X pins σ H' s' → (∃ m, s'.heap.Ns C m) → FpOk X pins H' C → Q (.ref D) H' → RR (.ref D) C (.ok .next) s') :
    wpAny (model X.prog X.w) X.A (newList []) (fun acc s₃ => wpAny (model X.prog X.w) X.A (newFunctionEnv scope X.env.globals cl [] X.env.qual none .none (some X.env)) (fun cenv s₄ =>
      codeAny (model X.prog X.w) X.A (.compStart (.ListComp elt [⟨tg, iter, ifs, 0⟩] scope pos) 0 (.ref it) acc { cenv with scope := relabel scope X.env }) (RR acc cenv.locals) s₄) E s₃) E s2 := by
  obtain ⟨W, ⟨m0, w0⟩, turn⟩ := rd
  refine wpAny_newObj_type (wpAny_newFunctionEnv S.nocell (by intro y hy; simp at hy) (fun h₁ hns₁ hsb₁ => ?_) S.kind)
  dsimp only at hns₁ hsb₁ ⊢
  generalize hH2 : s2.heap.push { cls := .type "list", dict := none, data := .seq ([] : List Value).toArray } = G2 at hns₁ hsb₁ ⊢
  have hCs : G2.objs.size = s2.heap.objs.size + 1 := by rw [← hH2, Heap.size_push]
  have hDC : s2.heap.objs.size ≠ G2.objs.size := by rw [hCs]; exact Nat.ne_of_lt (Nat.lt_succ_self _)
  have hCle : s2.heap.objs.size ≤ G2.objs.size := by rw [hCs]; exact Nat.le_succ _
  have below : ∀ b, b < s2.heap.objs.size → b ≠ G2.objs.size ∧ b ≠ s2.heap.objs.size := fun b hb => ⟨by rw [hCs]; exact Nat.ne_of_lt (Nat.lt_succ_of_lt hb), Nat.ne_of_lt hb⟩
  have old : ∀ b o, s2.heap.get? b = some o → h₁.get? b = some o := fun b o e => hsb₁.extBut b o (below b (Heap.lt_size e)).1 (Heap.get?_push_of_some _ (hH2 ▸ Heap.get?_push_of_some _ e))
  have hacc : h₁.get? s2.heap.objs.size = some (lobj [] 0) := hsb₁.extBut _ _ hDC (Heap.get?_push_of_some _ (hH2 ▸ Heap.get?_push_size _ rfl))
  generalize hDe : s2.heap.objs.size = D at *
  generalize hCe : G2.objs.size = C at *
  have fpD : FpOk X pins H2 D := I.fpOk (by rw [hDe]; exact Nat.le_refl _) (I.hok.fresh (by rw [hDe]; exact Nat.le_refl _))
  have fpC : ∀ H', H' C = none → FpOk X pins H' C := fun H' hn => I.fpOk (by rw [hDe]; exact hCle) hn
  have hfpD : ∀ b ∈ fp, b < D := fun b hb => by
    obtain ⟨o, e, _⟩ := T.obj _ _ st b hb
    rw [← hDe]; exact Heap.lt_size e
  have nofr : ∀ b, D ≤ b → b ∉ frs X.stack := fun b hb hm => by
    rcases List.mem_cons.mp (I.stkSub b hm) with e | hm
    · have := I.lt; rw [hDe] at this; rw [e] at hb; exact absurd (Nat.lt_of_lt_of_le this hb) (Nat.lt_irrefl _)
    · exact I.nofs (by rw [hDe]; exact hb) hm
  let X' := compCx X N' scope cl s2 H2 fp C
  have cellLt : ∀ x c, cl.lookup x = some c → c < D := fun x c e => by
    obtain ⟨v, z⟩ := I.cell x c (hcl x c e)
    rw [← hDe]; exact z.lt
  have ok' : X'.Ok := by
    refine ⟨I.ok.mod, S.kind, I.ok.glob, I.ok.blt, ?_, fun x y c e1 e2 => I.ok.inj x y c (hcl _ _ e1) (hcl _ _ e2), fun x hx => ?_, fun x c hf _ => (nomatch hf), I.ok.hd, I.ok.frames, .inl rfl, fun b hb => ⟨?_, fun x c e z => ?_⟩, I.bs, ?_, fun b o e hb => ?_, fun b hb hm => ?_, I.stack, I.stkFree⟩
    · show s2.heap.objs.size ≤ C
      rw [hDe]; exact hCle
    · have hx' : (relabel scope X.env).names.lookup x = some .cell ∨ (relabel scope X.env).names.lookup x = some .free := hx
      have e := lookup_relabel (env := X.env) (names := scope.names) (x := x)
      have e' : (relabel scope X.env).names.lookup x = (scope.names.lookup x).map fun k => if (k == NameKind.free && X.env.scope.kind == .function && X.env.kindOf x == some .cell) then NameKind.cell else k := e
      rw [e'] at hx'
      cases q : scope.names.lookup x with
      | none => rw [q] at hx'; rcases hx' with z | z <;> cases z
      | some kd =>
        have hmem := PySem.mem_of_lookup q
        rw [q] at hx'
        have hkd : kd = .free := by
          by_cases hz : kd = .free
          · exact hz
          · exfalso
            have hb : (kd == NameKind.free) = false := by simpa using hz
            simp only [hb, Bool.false_and, Bool.false_eq_true, if_false, Option.map_some] at hx'
            rcases hx' with z | z
            · exact S.nocell _ hmem (Option.some.inj z)
            · exact hz (Option.some.inj z)
        exact Option.isSome_iff_exists.mp (hcf _ hmem hkd)
    · exact Nat.ne_of_lt (Nat.lt_of_lt_of_le (hfpD b hb) hCle)
    · exact (ff b hb).2.2.2.2.1 x c (hcl x c e) z
    · exact Nat.le_trans I.ok.bsz I.sz
    · obtain ⟨_, _, _, hx, _⟩ := ff b hb
      rcases hx with hx | hx
      · exact I.ok.noex b o e hx
      · exact absurd (Nat.lt_of_lt_of_le (Heap.lt_size (I.ok.bs b o e).1) hx) (Nat.lt_irrefl _)
    · obtain ⟨_, hl, hfs, _⟩ := ff b hb
      rcases List.mem_cons.mp (I.stkSub b hm) with e | hm
      · exact hl e
      · exact hfs hm
  have lenσ : (σ ++ List.replicate k none).length = N'.length := by rw [List.length_append, List.length_replicate, I.len, S.len]
  have I0 : Inv X' [(D, lobj [] 0)] (σ ++ List.replicate k none) H2 { s2 with heap := h₁, toks := s2.toks + ([] : List (Str × Value)).length } := by
    refine ⟨ok', rfl, I.bare, Un.kept old, ⟨_, hns₁, fun i x v e1 e2 e3 => ?_⟩, fun x c e => ?_, I.hok.fresh (by rw [hDe]; exact hCle), fun x c e => I.freeC x c (hcl x c e), fun p hp => ?_, I.hok.kept old, lenσ⟩
    · have hi : i < σ.length := by
        by_cases hi : i < σ.length
        · exact hi
        · rw [List.getElem?_append_right (Nat.not_lt.mp hi), List.getElem?_replicate] at e2
          split at e2 <;> cases e2
      rw [List.getElem?_append_left hi] at e2
      have e' : (relabel scope X.env).names.lookup x = (scope.names.lookup x).map fun k => if (k == NameKind.free && X.env.scope.kind == .function && X.env.kindOf x == some .cell) then NameKind.cell else k := lookup_relabel (env := X.env) (names := scope.names) (x := x)
      have hsome : ∃ kd, scope.names.lookup x = some kd ∧ (kd = .free ∨ kd = .local ∨ kd = .cell) := by
        have e3' : (relabel scope X.env).names.lookup x = some .local ∨ (relabel scope X.env).names.lookup x = some .cell ∨ (relabel scope X.env).names.lookup x = some .free := e3
        rw [e'] at e3'
        cases q : scope.names.lookup x with
        | none => rw [q] at e3'; rcases e3' with z | z | z <;> cases z
        | some kd =>
          refine ⟨kd, rfl, ?_⟩
          rw [q] at e3'
          by_cases hz : kd = .free
          · exact .inl hz
          · have hb : (kd == NameKind.free) = false := by simpa using hz
            simp only [hb, Bool.false_and, Bool.false_eq_true, if_false, Option.map_some, Option.some.injEq] at e3'
            rcases e3' with z | z | z
            · exact .inr (.inl z)
            · exact .inr (.inr z)
            · exact .inl z
      obtain ⟨kd, hk1, hk2⟩ := hsome
      obtain ⟨hN, hfree⟩ := S.outer i x (by rw [← I.len]; exact hi) e1 (by rw [hk1]; rfl) (by rcases hk2 with z | z | z <;> subst z <;> simp [hk1])
      have hmem := PySem.mem_of_lookup hfree
      have hko := S.free _ hmem rfl
      have hkx : X.env.kindOf x = some .cell ∨ X.env.kindOf x = some .free := hko
      obtain ⟨m, hn, hl⟩ := I.loc
      obtain ⟨u, r, lk⟩ := hl i x v hN e2 (by rcases hkx with z | z; exact .inr (.inl z); exact .inr (.inr z))
      refine ⟨u, r, .inr ⟨?_, ?_⟩⟩
      · show (relabel scope X.env).names.lookup x = some .cell ∨ (relabel scope X.env).names.lookup x = some .free
        rw [e', hfree, Option.map_some]
        split
        · exact .inl rfl
        · exact .inr rfl
      · rcases lk with ⟨kl, _⟩ | ⟨_, c, ec, hcell⟩
        · rcases hkx with z | z <;> (rw [z] at kl; cases kl)
        · obtain ⟨c', ec'⟩ := Option.isSome_iff_exists.mp (hcf _ hmem rfl)
          have q := hcl _ _ ec'
          rw [ec] at q
          cases q
          exact ⟨c, ec', hcell.keeps old⟩
    · obtain ⟨v, z⟩ := I.cell x c (hcl x c e)
      exact ⟨v, z.keeps old⟩
    · have hp' : p ∈ ([] : List (Addr × Obj)) ++ [(D, lobj [] 0)] := hp
      have ep : p = (D, lobj [] 0) := by simpa using hp'
      subst ep
      exact ⟨hacc, fpD.1, hDC, nofr D (Nat.le_refl _), fun v z => nomatch z⟩
  have stat : ∀ {H' : Hp} {o : Obj}, (∀ b ∈ fp, H' b = none) → ∀ b ∈ fp, FpOk X' [(D, o)] H' b := fun {H' o} hn b hb => by
    refine ⟨hn b hb, Nat.ne_of_lt (Nat.lt_of_lt_of_le (hfpD b hb) hCle), ok'.exfs b hb, .inl hb, fun x c e z => (ff b hb).2.2.2.2.1 x c (hcl x c e) z, fun p hp => ?_⟩
    have hp' : p ∈ ([] : List (Addr × Obj)) ++ [(D, o)] := hp
    have ep : p = (D, o) := by simpa using hp'
    subst ep
    exact Nat.ne_of_gt (hfpD b hb)
  have loop : ∀ s₃ : Shared, s₃ = { s2 with heap := h₁, toks := s2.toks + ([] : List (Str × Value)).length } →
      codeAny (model X.prog X.w) X.A (.compLoop (.ListComp elt [⟨tg, iter, ifs, 0⟩] scope pos) 0 (.ref it) (.ref D) (compEnvC scope cl C X.env)) (RR (.ref D) C) s₃ := by
    rintro s₃ rfl
    refine codeAny_compLoop_own (fun n s' => ∃ i vs ys kk σ' H', Inv X' [(D, lobj ys kk)] σ' H' s' ∧ tn i s'.heap ∧ (∀ b ∈ fp, H' b = none) ∧ Vals vs ys ∧ W i n vs σ' H') ?_ m0
      ⟨0, [], [], 0, _, H2, I0, T.keep _ _ _ st fun b _ o e => old b o e, fun b hb => (ff b hb).1, .nil, w0⟩
    rintro n s3 ⟨i, vs, ys, kk, σ3, H3, I3, st3, fr3, rv, w3⟩
    obtain ⟨hvl, hcase⟩ := turn i n vs σ3 H3 w3
    have pinD : ∀ {o : Obj} {σ' H' s'}, Inv X' [(D, o)] σ' H' s' → s'.heap.get? D = some o ∧ H' D = none := fun J => ⟨(J.pin _ (List.mem_append_right _ List.mem_cons_self)).1, (J.pin _ (List.mem_append_right _ List.mem_cons_self)).2.1⟩
    rcases hcase with ⟨stop, qn⟩ | ⟨go, step⟩
    · refine thn (T.done X' rfl rfl rfl hc i _ s3 σ3 H3 (fun _ _ => False) I3 (stat fr3) st3 stop) fun r s4 ⟨hr, I4⟩ => ?_
      subst hr
      obtain ⟨gD, nD⟩ := pinD I4
      obtain ⟨m', hm', _⟩ := I4.loc
      have hC4 : H3 C = none := I4.free
      have u0 : Un (frs X.stack) fp H2 H3 s2.heap s4.heap := I4.base
      have neD : ∀ b o, s2.heap.get? b = some o → b ≠ D := fun b o e => by rw [← hDe]; exact Nat.ne_of_lt (Heap.lt_size e)
      have u1 : Un (frs X.stack) fp H2 (upd H3 D (.lst vs)) s2.heap s4.heap :=
        ⟨u0.keep, u0.slot, fun b o e n hx => by rw [upd_ne (neD b o e)]; exact u0.free b o e n hx, u0.there,
          fun b xs e => by have q := u0.tups b xs e; rw [upd_ne (ne_of_none q nD)]; exact q,
          fun b o u e => by have q := u0.frzs b o u e; rw [upd_ne (ne_of_none q nD)]; exact q,
          fun b ps e => by obtain ⟨more, q⟩ := u0.tbls b ps e; exact ⟨more, by rw [upd_ne (ne_of_none q nD)]; exact q⟩⟩
      have I5 : Inv X pins σ (upd H3 D (.lst vs)) s4 := I.call' I4.os u1 (I4.hok.track nD hvl rv gD) I4.bare fun b hb => ⟨(ff b hb).2.2.2.1, (ff b hb).2.1, (ff b hb).2.2.2.2.1, (ff b hb).2.2.2.2.2⟩
      exact hRR D C s4 _ I5 ⟨m', hm'⟩ (fpC _ (by rw [upd_ne (Ne.symm hDC)]; exact hC4)) (qn D nD)
    · refine thn (T.item X' rfl rfl rfl hc i _ s3 σ3 H3 (fun _ _ => False) I3 (stat fr3) st3 go) fun r s4 ⟨u, hr, h4⟩ => ?_
      subst hr
      refine thn h4 fun _ s5 ⟨x, H5, I5, r5, y5, st5, fr5⟩ => ?_
      have I5' := I5.pinned (stat fr5) (T.obj _ _ st5)
      refine thn (hg C _ s5 σ3 H5 x u _ I5' r5 (step x H5 y5)) fun _ s6 ⟨σ6, H6, I6, q6⟩ => ?_
      refine thn (ht C _ s6 σ6 H6 _ I6 q6) fun ok s7 ⟨H7, I7, q7⟩ => ?_
      have unpin : ∀ {σ' H' s'}, Inv X' ([(D, lobj ys kk)] ++ pinsAt fp s5.heap) σ' H' s' → Inv X' [(D, lobj ys kk)] σ' H' s' ∧ tn (i + 1) s'.heap ∧ ∀ b ∈ fp, H' b = none := fun {σ' H' s'} J =>
        ⟨J.unpinned, T.keep _ _ _ st5 fun b hb o e => (J.pin (b, o) (List.mem_append_right _ (List.mem_append_right _ (mem_pinsAt hb e)))).1, fun b hb => by
          obtain ⟨o, e, d⟩ := T.obj _ _ st5 b hb
          exact (J.pin (b, o) (List.mem_append_right _ (List.mem_append_right _ (mem_pinsAt hb e)))).2.1⟩
      cases ok with
      | false =>
        rw [if_neg Bool.false_ne_true]
        rw [if_neg Bool.false_ne_true] at q7
        obtain ⟨m', hm', w7⟩ := q7
        obtain ⟨J1, J2, J3⟩ := unpin I7
        exact ⟨m', hm', i + 1, vs, ys, kk, σ6, H7, J1, J2, J3, rv, w7⟩
      | true =>
        rw [if_pos rfl]
        rw [if_pos rfl] at q7
        refine thn (he C _ s7 σ6 H7 _ I7 q7) fun uy s8 ⟨y, H8, I8, r8, m', hm', w8⟩ => ?_
        obtain ⟨J1, J2, J3⟩ := unpin I8
        obtain ⟨gD, nD⟩ := pinD J1
        refine append_at (hsz := by show ys.toArray.size ≤ sizeLine; rw [List.size_toArray, ← rv.length]; exact hvl) gD fun h9 hs9 hD9 => ?_
        have J1' : Inv X' [] σ6 H8 s8 := J1.pins_of fun p hp => nomatch hp
        have J9 : Inv X' [] σ6 H8 { s8 with heap := h9 } := J1'.turned (t' := s8.toks) (it := D) (fun b o hb e => hs9.extBut b o hb e) nD hDC (.inr (by show s2.heap.objs.size ≤ D; rw [hDe]; exact Nat.le_refl _)) (fun x c e => Nat.ne_of_lt (cellLt x c e)) fun p hp => nomatch hp
        have eo : ({ cls := .type "list", data := .seq (ys.toArray.push uy) (kk + 1) } : Obj) = lobj (ys ++ [uy]) (kk + 1) := by
          unfold lobj
          rw [List.push_toArray]
        refine ⟨m', hm', i + 1, vs ++ [y], ys ++ [uy], kk + 1, σ6, H8, J9.pins_of fun p hp => ?_, T.keep _ _ _ J2 fun b hb o e => hs9.extBut b o (Nat.ne_of_lt (hfpD b hb)) e, J3, rv.append (.cons r8 .nil), w8⟩
        have ep : p = (D, lobj (ys ++ [uy]) (kk + 1)) := by simpa using hp
        subst ep
        exact ⟨by show h9.get? D = _; rw [hD9, eo], nD, hDC, nofr D (Nat.le_refl _), fun v z => nomatch z⟩
  exact codeAny_compStart_list (loop _ rfl) (T.self _ 0 _ _ _ (T.keep _ _ _ st fun b _ o e => old b o e) (loop _ rfl))
end
section
variable {X : Cx}
theorem pe_comp {elt tg iter : Expr} {ifs : List Expr} {scope : Scope} {pos : Pos} {N' : List Str} {k : Nat} {wi : TI} {g : TG} {tc : TT} {te : TE}
    (hc : X.calm = true) (S : CompOk X N' k scope) (hcells : ∀ x ∈ scope.names, x.2 = .free → ∃ c, X.env.cells.lookup x.1 = some c) (hi : PI X tg iter wi)
    (hg : ∀ cl s H fp C, PG (compCx X N' scope cl s H fp C) tg g) (ht : ∀ cl s H fp C, PTs (compCx X N' scope cl s H fp C) ifs tc) (he : ∀ cl s H fp C, PE (compCx X N' scope cl s H fp C) elt te)
    (hs : ∀ x, foldedSetIterable iter X.env x = pure x := by intro _; rfl) :
    PE X (.ListComp elt [⟨tg, iter, ifs, 0⟩] scope pos) (tComp wi k g tc te) := by
  intro pins s σ H Q I h
  obtain ⟨cl, hclos, h1, h2⟩ := closure_ex (env := X.env) (scope := scope) hcells
  rw [eval_ListComp]
  refine wpAny_comprehension_free (use := none) rfl hs hclos S.kind S.names (thn (hi pins s σ H _ I h) fun xv s1 h1' => thn h1' fun itv s2 h2' => ?_)
  obtain ⟨it, fp, tn, J, H2, e, I2, T, st2, f2, rd⟩ := h2'
  subst e
  refine comp_core hc S h1 h2 I2 T st2 f2 (fun C => hg _ _ _ _ C) (fun C => ht _ _ _ _ C) (fun C => he _ _ _ _ C) rd fun D C s' H' I' ⟨m, hm⟩ fC q => ?_
  refine ⟨m, hm, fun h' hs' => ⟨.ref D, H', ?_, rfl, q⟩⟩
  exact I'.turned (t' := s'.toks) (it := C) (fun b o hb e => hs'.extBut b o hb e) fC.1 fC.2.1 fC.2.2.2.1 fC.2.2.2.2.1 fC.2.2.2.2.2
theorem ps_setComp {elt tg iter : Expr} {ifs : List Expr} {scope : Scope} {pos pos' spos : Pos} {N' : List Str} {k i : Nat} {y : Str} {wi : TI} {g : TG} {tc : TT} {te : TE}
    (hN : X.N.Nodup) (hy : X.N[i]? = some y) (hly : Loc X.env.scope y) (hfn : X.fn y = true ∨ X.env.scope.names.lookup y = some .local)
    (hc : X.calm = true) (S : CompOk X N' k scope) (hcells : ∀ x ∈ scope.names, x.2 = .free → ∃ c, X.env.cells.lookup x.1 = some c) (hi : PI X tg iter wi)
    (hg : ∀ cl s H fp C, PG (compCx X N' scope cl s H fp C) tg g) (ht : ∀ cl s H fp C, PTs (compCx X N' scope cl s H fp C) ifs tc) (he : ∀ cl s H fp C, PE (compCx X N' scope cl s H fp C) elt te)
    (hsw : swapsWith (.ListComp elt [⟨tg, iter, ifs, 0⟩] scope pos) (some (.Name y pos')) spos.line X.env = pure true)
    (hs : ∀ x, foldedSetIterable iter X.env x = pure x := by intro _; rfl) :
    PS X (.Assign [.Name y pos'] (.ListComp elt [⟨tg, iter, ifs, 0⟩] scope pos) spos) (tAsg (tComp wi k g tc te) (gName i)) := by
  intro pins s σ H D₀ I h
  obtain ⟨cl, hclos, h1, h2⟩ := closure_ex (env := X.env) (scope := scope) hcells
  rw [exec_Assign_Name_used _ _ _ _ hsw]
  refine wpAny_bind (wpAny_standAt (wpAny_bind ?_))
  show wpAny _ X.A (do let _ ← comprehension (.ListComp elt [⟨tg, iter, ifs, 0⟩] scope pos) scope X.env _ (newList []) false (eval iter X.env) (some (assign (.Name y pos') X.env))) _ _ s
  refine wpAny_bind (wpAny_mono (wpAny_comprehension_free (use := some (assign (.Name y pos') X.env)) (Q := fun _ s' => SP X pins D₀ .next s') rfl hs hclos S.kind S.names
    (thn (hi pins s σ H _ I h) fun xv s1 h1' => thn h1' fun itv s2 h2' => ?_)) (fun _ s' hq => wpAny_pure (wpAny_pure hq)) fun _ _ e => e)
  obtain ⟨it, fp, tn, J, H2, e, I2, T, st2, f2, rd⟩ := h2'
  subst e
  refine comp_core (Q := fun x H1 => gName i x σ H1 D₀.nx) hc S h1 h2 I2 T st2 f2 (fun C => hg _ _ _ _ C) (fun C => ht _ _ _ _ C) (fun C => he _ _ _ _ C) rd fun D C s' H' I' ⟨m, hm⟩ fC q => ?_
  show wpAny _ X.A (assign (.Name y pos') X.env (.ref D)) _ _ _
  refine wpAny_assign_Name (store_ok2 I' hN hy hly (show RelV (.ref D) (.ref D) from rfl) (fun s'' I'' ⟨a, hsb, ha⟩ => ?_) hfn)
  have hCa : C ≠ a := by
    rcases ha with rfl | ha
    · exact fC.2.1
    · exact fun z => fC.2.2.2.2.1 y a ha z.symm
  refine ⟨m, hm.sameBut hsb hCa, fun h' hs' => ⟨_, H', ?_, q⟩⟩
  exact I''.turned (t' := s''.toks) (it := C) (fun b o hb e => hs'.extBut b o hb e) fC.1 fC.2.1 fC.2.2.2.1 fC.2.2.2.2.1 fC.2.2.2.2.2
end
end L2
set_option Elab.async false
set_option linter.all false
set_option maxRecDepth 100000
namespace L2
open PySem PySem.Spec PyProof.Rows
section
variable {κ : Type} [DecidableEq κ]
def valV (kvs : List (κ × V)) (k : κ) : Option V := (kvs.find? fun kv => decide (kv.1 = k)).map (·.2)
def putK (kvs : List (κ × V)) (k : κ) (v : V) : List (κ × V) :=
  if (kvs.any fun kv => decide (kv.1 = k)) = true then kvs.map (fun kv => if kv.1 = k then (kv.1, v) else kv) else kvs ++ [(k, v)]
theorem valV_pos {p : κ × V} {r : List (κ × V)} {k : κ} (e : p.1 = k) : valV (p :: r) k = some p.2 := by simp [valV, List.find?_cons, e]
theorem valV_neg {p : κ × V} {r : List (κ × V)} {k : κ} (e : ¬ p.1 = k) : valV (p :: r) k = valV r k := by simp [valV, List.find?_cons, e]
theorem valV_any (k : κ) : ∀ kvs : List (κ × V), (kvs.any fun kv => decide (kv.1 = k)) = (valV kvs k).isSome
  | [] => rfl
  | p :: r => by
    rw [List.any_cons]
    by_cases e : p.1 = k
    · simp only [valV_pos e, decide_eq_true e, Bool.true_or, Option.isSome_some]
    · rw [valV_neg e, decide_eq_false e, Bool.false_or]; exact valV_any k r
theorem length_putK (kvs : List (κ × V)) (k : κ) (v : V) : (putK kvs k v).length ≤ kvs.length + 1 := by
  unfold putK
  split
  · rw [List.length_map]; omega
  · rw [List.length_append, List.length_cons, List.length_nil]; omega
theorem RelO.isSome_eq {o : Option V} {u : Option Value} (r : RelO o u) : o.isSome = u.isSome := by
  cases o with
  | none => cases u with
    | none => rfl
    | some _ => exact (show False from r).elim
  | some _ => cases u with
    | none => exact (show False from r).elim
    | some _ => rfl
theorem RelO.getD {o : Option V} {u : Option Value} {d : V} {d' : Value} (r : RelO o u) (rd : RelV d d') : RelV (o.getD d) (u.getD d') := by
  cases o with
  | none => cases u with
    | none => exact rd
    | some _ => exact (show False from r).elim
  | some _ => cases u with
    | none => exact (show False from r).elim
    | some _ => exact r
theorem KV.val {kvs : List (κ × V)} {vs : List (κ × Value)} (r : KV kvs vs) (k : κ) : RelO (valV kvs k) (valueAt vs k) := by
  unfold KV at r
  induction r with
  | nil => exact True.intro
  | @cons p q ps qs h t ih =>
    obtain ⟨h1, h2⟩ := h
    by_cases e : p.1 = k
    · have e' : q.1 = k := h1.symm.trans e
      have b : valueAt (q :: qs) k = some q.2 := by simp [valueAt, List.find?_cons, e']
      rw [valV_pos e, b]; exact h2
    · have e' : ¬ q.1 = k := fun z => e (h1.trans z)
      have b : valueAt (q :: qs) k = valueAt qs k := by simp [valueAt, List.find?_cons, e']
      rw [valV_neg e, b]; exact ih
theorem KV.any {kvs : List (κ × V)} {vs : List (κ × Value)} (r : KV kvs vs) (k : κ) : (kvs.any fun kv => decide (kv.1 = k)) = vs.any fun kv => decide (kv.1 = k) := by
  unfold KV at r
  induction r with
  | nil => rfl
  | cons h t ih => rw [List.any_cons, List.any_cons, ih, h.1]
theorem KV.repl {kvs : List (κ × V)} {vs : List (κ × Value)} (r : KV kvs vs) (k : κ) {y : V} {u : Value} (ry : RelV y u) :
    KV (kvs.map fun kv => if kv.1 = k then (kv.1, y) else kv) (vs.map fun kv => if kv.1 = k then (kv.1, u) else kv) := by
  unfold KV at r ⊢
  induction r with
  | nil => exact .nil
  | @cons p q ps qs h t ih =>
    rw [List.map_cons, List.map_cons]
    refine .cons ?_ ih
    obtain ⟨h1, h2⟩ := h
    by_cases e : p.1 = k
    · rw [if_pos e, if_pos (h1.symm.trans e)]; exact ⟨h1, ry⟩
    · rw [if_neg e, if_neg (fun z => e (h1.trans z))]; exact ⟨h1, h2⟩
theorem KV.put {kvs : List (κ × V)} {vs : List (κ × Value)} (r : KV kvs vs) (k : κ) {y : V} {u : Value} (ry : RelV y u) : KV (putK kvs k y) (stored vs k u) := by
  unfold putK stored
  rw [r.any k]
  by_cases e : (vs.any fun kv => decide (kv.1 = k)) = true
  · rw [if_pos e, if_pos e]; exact r.repl k ry
  · rw [if_neg e, if_neg e]; exact Paired.snoc r ⟨rfl, ry⟩
theorem KV.length {kvs : List (κ × V)} {vs : List (κ × Value)} (r : KV kvs vs) : kvs.length = vs.length := Paired.length r
end
theorem kV_is {P : Program} {w : World} {k : Key} {u : Value} (r : RelV (kV k) u) : (mixKind P w).is k u = true := by
  cases k with
  | inl i => obtain ⟨t, e⟩ := (show ∃ t, u = Value.int i t from r); subst e; exact mixKind_int P w i t
  | inr x => obtain ⟨t, e⟩ := (show ∃ t, u = Value.str x t from r); subst e; exact mixKind_str P w x t
theorem items_are {P : Program} {w : World} : ∀ {ks : List Key} {us : List Value}, Vals (ks.map kV) us → ItemsAre (mixKind P w) ks us
  | [], _, r => by rw [List.map_nil] at r; cases r; exact .nil
  | k :: ks, _, r => by
    rw [List.map_cons] at r
    cases r with
    | cons h t => exact .cons (kV_is h) (items_are t)
abbrev KT (H : Hp) : List (List Key × V) → List (List Key × Addr × Value) → Prop := Paired fun p q => p.1 = q.1 ∧ H q.2.1 = some (.tup (p.1.map kV)) ∧ RelV p.2 q.2.2
theorem KT.val {H : Hp} {kvs : List (List Key × V)} {xs : List (List Key × Addr × Value)} (r : KT H kvs xs) (k : List Key) : RelO (valV kvs k) ((atKey xs k).map (·.2)) := by
  induction r with
  | nil => exact True.intro
  | @cons p q ps qs h t ih =>
    obtain ⟨h1, _, h2⟩ := h
    by_cases e : p.1 = k
    · have e' : q.1 = k := h1.symm.trans e
      have b : atKey (q :: qs) k = some q.2 := by simp [atKey, List.find?_cons, e']
      rw [valV_pos e, b]; exact h2
    · have e' : ¬ q.1 = k := fun z => e (h1.trans z)
      have b : atKey (q :: qs) k = atKey qs k := by simp [atKey, List.find?_cons, e']
      rw [valV_neg e, b]; exact ih
theorem KT.repl {H : Hp} {kvs : List (List Key × V)} {xs : List (List Key × Addr × Value)} (r : KT H kvs xs) (k : List Key) {y : V} {u : Value} (ry : RelV y u) :
    KT H (kvs.map fun kv => if kv.1 = k then (kv.1, y) else kv) (xs.map (putAt k u)) := by
  induction r with
  | nil => exact .nil
  | @cons p q ps qs h t ih =>
    rw [List.map_cons, List.map_cons]
    refine .cons ?_ ih
    obtain ⟨h1, h2, h3⟩ := h
    unfold putAt
    by_cases e : p.1 = k
    · rw [if_pos e, if_pos (h1.symm.trans e)]; exact ⟨h1, h2, ry⟩
    · rw [if_neg e, if_neg (fun z => e (h1.trans z))]; exact ⟨h1, h2, h3⟩
theorem KT.put {H : Hp} {kvs : List (List Key × V)} {xs : List (List Key × Addr × Value)} (r : KT H kvs xs) (k : List Key) {b : Addr} {y : V} {u : Value} (hb : H b = some (.tup (k.map kV))) (ry : RelV y u) :
    KT H (putK kvs k y) (storedH xs k b u) := by
  have e : (kvs.any fun kv => decide (kv.1 = k)) = (atKey xs k).isSome := by
    rw [valV_any, (r.val k).isSome_eq, Option.isSome_map]
  unfold putK storedH
  rw [e]
  by_cases q : (atKey xs k).isSome = true
  · rw [if_pos q, if_pos q]; exact r.repl k ry
  · rw [if_neg q, if_neg q]; exact Paired.snoc r ⟨rfl, hb, ry⟩
theorem KT.keeps {H H' : Hp} {kvs : List (List Key × V)} {xs : List (List Key × Addr × Value)} (r : KT H kvs xs) (ht : ∀ b ys, H b = some (.tup ys) → H' b = some (.tup ys)) : KT H' kvs xs :=
  Paired.mapP r fun _ _ z => ⟨z.1, ht _ _ z.2.1, z.2.2⟩
section
variable {P : Program} {w : World} {H : Hp} {h : Heap} {a : Addr}
theorem rd_of {u : HO} (ok : HOk P w H h) (e : Rd H a u) : ObjOk P w H h a u := e.ok ok
theorem dk_rd {kvs : List (Key × V)} (ok : HOk P w H h) (e : Rd H a (.dK kvs)) : kvs.length ≤ sizeLine ∧ (a == sysModules) = false ∧ ∃ vs, KV kvs vs ∧ h.DictOf (mixKind P w) a vs :=
  show ObjOk P w H h a (.dK kvs) from rd_of ok e
theorem dk_of {kvs : List (Key × V)} (ok : HOk P w H h) (e : H a = some (.dK kvs)) : kvs.length ≤ sizeLine ∧ (a == sysModules) = false ∧ ∃ vs, KV kvs vs ∧ h.DictOf (mixKind P w) a vs := dk_rd ok (.inl e)
theorem key_of {ks : List Key} (ok : HOk P w H h) (e : H a = some (.tup (ks.map kV))) : (tupleKind (mixKind P w)).is h ks a := by
  obtain ⟨_, its, r, ⟨o, h1, h2, n, h3⟩, _⟩ := (show ObjOk P w H h a (.tup (ks.map kV)) from ok a _ e)
  exact ⟨o, its.toArray, n, h1, h2, h3, by simpa using items_are r⟩
theorem dt_rd {kvs : List (List Key × V)} (ok : HOk P w H h) (e : Rd H a (.dT kvs)) : kvs.length ≤ sizeLine ∧ (a == sysModules) = false ∧
    ∃ xs, KT H kvs xs ∧ h.DictOfH (tupleKind (mixKind P w)) a xs := by
  obtain ⟨z, y, xs, r, o, es, ep, h1, h2, h3, h4, h5⟩ := (show ObjOk P w H h a (.dT kvs) from rd_of ok e)
  refine ⟨z, y, xs, r, o, es, ep, h1, h2, h3, h4, fun x hx => ?_, h5⟩
  have all : ∀ {l : List (List Key × V)} {m : List (List Key × Addr × Value)}, KT H l m → ∀ x ∈ m, (tupleKind (mixKind P w)).is h x.1 x.2.1 := by
    intro l m q
    induction q with
    | nil => intro x hx; exact nomatch hx
    | @cons p q ps qs hq t ih =>
      intro x hx
      rcases List.mem_cons.mp hx with e | hx
      · subst e
        exact key_of ok (by rw [← hq.1]; exact hq.2.1)
      · exact ih x hx
  exact all r x hx
theorem dt_of {kvs : List (List Key × V)} (ok : HOk P w H h) (e : H a = some (.dT kvs)) : kvs.length ≤ sizeLine ∧ (a == sysModules) = false ∧
    ∃ xs, KT H kvs xs ∧ h.DictOfH (tupleKind (mixKind P w)) a xs := dt_rd ok (.inl e)
end
def DGet (H : Hp) (a : Addr) (y : V) (r : Option V) : Prop :=
  (∃ kvs k, Rd H a (.dK kvs) ∧ y = kV k ∧ r = valV kvs k) ∨ ∃ kvs k b, Rd H a (.dT kvs) ∧ y = .ref b ∧ H b = some (.tup (k.map kV)) ∧ r = valV kvs k
def DPut (H : Hp) (a : Addr) (y v : V) (H' : Hp) : Prop :=
  (∃ kvs k, H a = some (.dK kvs) ∧ y = kV k ∧ kvs.length < sizeLine ∧ H' = upd H a (.dK (putK kvs k v))) ∨
  ∃ kvs k b, H a = some (.dT kvs) ∧ y = .ref b ∧ H b = some (.tup (k.map kV)) ∧ kvs.length < sizeLine ∧ H' = upd H a (.dT (putK kvs k v))
theorem DGet.k {H : Hp} {a : Addr} {kvs : List (Key × V)} {k : Key} (e : H a = some (.dK kvs)) : DGet H a (kV k) (valV kvs k) := .inl ⟨kvs, k, .inl e, rfl, rfl⟩
theorem DGet.t {H : Hp} {a b : Addr} {kvs : List (List Key × V)} {k : List Key} (e : H a = some (.dT kvs)) (eb : H b = some (.tup (k.map kV))) : DGet H a (.ref b) (valV kvs k) := .inr ⟨kvs, k, b, .inl e, rfl, eb, rfl⟩
theorem DPut.k {H : Hp} {a : Addr} {kvs : List (Key × V)} {k : Key} {v : V} (e : H a = some (.dK kvs)) (hl : kvs.length < sizeLine) : DPut H a (kV k) v (upd H a (.dK (putK kvs k v))) := .inl ⟨kvs, k, e, rfl, hl, rfl⟩
theorem DPut.t {H : Hp} {a b : Addr} {kvs : List (List Key × V)} {k : List Key} {v : V} (e : H a = some (.dT kvs)) (eb : H b = some (.tup (k.map kV))) (hl : kvs.length < sizeLine) :
    DPut H a (.ref b) v (upd H a (.dT (putK kvs k v))) := .inr ⟨kvs, k, b, e, rfl, eb, hl, rfl⟩
section
variable {X : Cx} {pins : List (Addr × Obj)} {σ : St} {H : Hp} {s : Shared} {a : Addr} {y v : V} {u r : Value} {o : Option V} {A : Around} {E : Value → Shared → Prop}
theorem Inv.big (I : Inv X pins σ H s) : sysModules < s.heap.objs.size := by
  have h : mainGlobals < s.heap.objs.size := (I.mod.glob.keeps I.bk).lt
  exact Nat.lt_trans (by decide) h
theorem d_getItem {Q : Value → Shared → Prop} (hu : A.units + 1 < cLine) (I : Inv X pins σ H s) (g : DGet H a y (some v)) (ry : RelV y u) (h : ∀ w' s', Inv X pins σ H s' → RelV v w' → Q w' s') :
    wpAny (model X.prog X.w) A (getItem (.ref a) u) Q E s := by
  rcases g with ⟨kvs, k, e, ey, l⟩ | ⟨kvs, k, b, e, ey, eb, l⟩
  · subst ey
    obtain ⟨z, hd, vs, rel, dd⟩ := dk_rd I.hok e
    obtain ⟨w', hw, rw'⟩ := RelO.some_of (v := v) (o := valueAt vs k) (by rw [l]; exact rel.val k)
    exact wpAny_getItem_of (kV_is ry) dd.mapOf hw (h w' _ (I.tok _) rw')
  · subst ey
    cases (show u = Value.ref b from ry)
    obtain ⟨z, hd, xs, rel, dd⟩ := dt_rd I.hok e
    obtain ⟨w', hw, rw'⟩ := RelO.some_of (v := v) (o := (atKey xs k).map (·.2)) (by rw [l]; exact rel.val k)
    obtain ⟨p, hp, hp2⟩ := Option.map_eq_some_iff.mp hw
    refine wpAny_getItem_heap (tupleKind_room_in1 hu) (key_of I.hok eb) dd hp ?_
    rw [hp2]
    exact h w' _ (I.tok _) rw'
theorem d_notIn {Q : Value → Shared → Prop} (hu : A.units + 1 < cLine) (I : Inv X pins σ H s) (g : DGet H a y o) (ry : RelV y u) (h : ∀ s', Inv X pins σ H s' → Q (.bool (!o.isSome)) s') :
    wpAny (model X.prog X.w) A (compareOp .NotIn u (.ref a)) Q E s := by
  rcases g with ⟨kvs, k, e, ey, l⟩ | ⟨kvs, k, b, e, ey, eb, l⟩
  · subst ey
    obtain ⟨z, hd, vs, rel, dd⟩ := dk_rd I.hok e
    refine wpAny_notIn_of (kV_is ry) hd dd.mapOf ?_
    rw [← (rel.val k).isSome_eq, ← l]
    exact h _ (I.tok _)
  · subst ey
    cases (show u = Value.ref b from ry)
    obtain ⟨z, hd, xs, rel, dd⟩ := dt_rd I.hok e
    refine wpAny_notIn_heap (tupleKind_room_in1 hu) (key_of I.hok eb) hd dd ?_
    have q := (rel.val k).isSome_eq
    rw [Option.isSome_map] at q
    rw [← q, ← l]
    exact h _ (I.tok _)
theorem d_write {h' : Heap} {t' : Nat} {ob : HO} (I : Inv X pins σ H s) (mu : Mut (H a)) (hs : Heap.SameBut a s.heap h') (he : ∃ q, h'.get? a = some q) (new : ObjOk X.prog X.w (upd H a ob) h' a ob) :
    Inv X pins σ (upd H a ob) { s with heap := h', toks := t' } :=
  I.write (x := a) (e := a) mu (.inl rfl) (fun b q hb z => (hs.2 b hb).trans z) he new
theorem dk_new {P : Program} {w : World} {H' : Hp} {h' : Heap} {kvs : List (Key × V)} {vs : List (Key × Value)} (z : kvs.length ≤ sizeLine) (hd : (a == sysModules) = false) (rel : KV kvs vs) (dd : h'.DictOf (mixKind P w) a vs) :
    ObjOk P w H' h' a (.dK kvs) := ⟨z, hd, vs, rel, dd⟩
theorem d_setItem {H' : Hp} {Q : Unit → Shared → Prop} (hu : A.units + 1 < cLine) (I : Inv X pins σ H s) (g : DPut H a y v H') (ry : RelV y u) (rv : RelV v r) (h : ∀ s', Inv X pins σ H' s' → Q () s') :
    wpAny (model X.prog X.w) A (setItem (.ref a) u r) Q E s := by
  rcases g with ⟨kvs, k, e, ey, l, eH⟩ | ⟨kvs, k, b, e, ey, eb, l, eH⟩
  · subst ey eH
    obtain ⟨z, hd, vs, rel, dd⟩ := dk_of I.hok e
    have hz : vs.length ≤ sizeLine := by rw [← rel.length]; exact z
    have hl : (putK kvs k v).length ≤ sizeLine := by have := length_putK kvs k v; omega
    refine wpAny_setItem_pairs (hsz := hz) (kV_is ry) dd fun h' dd' hs => h _ ?_
    have he : ∃ q, h'.get? a = some q := let ⟨q, _, _, hq, _⟩ := dd'; ⟨q, hq⟩
    exact d_write I (by rw [e]; exact True.intro) hs he (dk_new hl hd (rel.put k rv) dd')
  · subst ey eH
    cases (show u = Value.ref b from ry)
    obtain ⟨z, hd, xs, rel, dd⟩ := dt_of I.hok e
    have hz : xs.length ≤ sizeLine := by rw [← Paired.length rel]; exact z
    have hl : (putK kvs k v).length ≤ sizeLine := by have := length_putK kvs k v; omega
    refine wpAny_setItem_heap (hsz := hz) (tupleKind_room_in1 hu) (key_of I.hok eb) dd fun h' dd' hs => h _ ?_
    obtain ⟨q, es, ep, hq, h2, h3, h4, _, h5⟩ := dd'
    refine d_write I (by rw [e]; exact True.intro) hs ⟨q, hq⟩ ⟨hl, hd, _, (rel.put k eb rv).keeps fun c ys ec => ?_, q, es, ep, hq, h2, h3, h4, h5⟩
    rw [upd_ne (ne_of ec e (fun z => nomatch z))]
    exact ec
end
section
variable {X : Cx} {pins : List (Addr × Obj)} {σ : St} {H : Hp} {s : Shared} {a : Addr} {kvs : List (Key × V)} {k : Key} {u : Value} {A : Around} {E : Value → Shared → Prop}
end
theorem dict_typeIs {X : Cx} {pins : List (Addr × Obj)} {σ : St} {H : Hp} {s : Shared} {a : Addr} {y : V} {o : Option V} (I : Inv X pins σ H s) (g : DGet H a y o) : s.TypeIs (.ref a) "dict" := by
  rcases g with ⟨kvs, k, e, _, _⟩ | ⟨kvs, k, b, e, _, _, _⟩
  · obtain ⟨_, _, vs, _, dd⟩ := dk_rd I.hok e
    exact dd.typeIs
  · obtain ⟨_, _, xs, _, dd⟩ := dt_rd I.hok e
    exact dd.typeIs
def sDPut (td ty tv : TE) : TS := fun D σ H => tv σ H fun v H1 => td σ H1 fun x H2 => ty σ H2 fun y H3 => ∃ a H4, x = .ref a ∧ DPut H3 a y v H4 ∧ D.nx σ H4
section
variable {X : Cx} {o i e value : Expr} {pos pos' tpos : Pos} {td ty tv : TE}
theorem ps_dput (hu : X.A.units + 1 < cLine) (ho : PE X o td) (hi : PE X i ty) (hv : PE X value tv) (hs : swapsWith value (some (.Subscript o i pos')) pos.line X.env = pure false) :
    PS X (.Assign [.Subscript o i pos'] value pos) (sDPut td ty tv) := by
  intro pins s σ H D I h
  refine wpAny_Assign_Subscript (thn (hv pins s σ H _ I h) fun r s1 ⟨v, H1, I1, rv, q1⟩ => thn (ho pins s1 σ H1 _ I1 q1) fun u s2 ⟨x, H2, I2, rx, q2⟩ => thn (hi pins s2 σ H2 _ I2 q2) fun iv s3 ⟨y, H3, I3, ry, a, H4, ex, g, q3⟩ => ?_) hs
  subst ex
  obtain rfl : u = Value.ref a := rx
  exact d_setItem hu I3 g ry rv fun s4 I4 => ⟨σ, H4, I4, q3⟩
end
theorem dk_empty {P : Program} {w : World} {H : Hp} (h : Heap) (hb : sysModules < h.objs.size) : ObjOk P w H (h.push { cls := .type "dict", data := .dict #[] }) h.objs.size (.dK []) :=
  ⟨Nat.zero_le _, beq_eq_false_iff_ne.mpr (Ne.symm (Nat.ne_of_lt hb)), [], .nil, Heap.DictOf.new h⟩
theorem dt_empty {P : Program} {w : World} {H : Hp} (h : Heap) (hb : sysModules < h.objs.size) : ObjOk P w H (h.push { cls := .type "dict", data := .dict #[] }) h.objs.size (.dT []) :=
  ⟨Nat.zero_le _, beq_eq_false_iff_ne.mpr (Ne.symm (Nat.ne_of_lt hb)), [], .nil, _, #[], 0, Heap.get?_push_size _ rfl, ⟨rfl, rfl, rfl⟩, rfl, rfl, List.nodup_nil⟩
def tDNewK : TE := fun _ H Q => ∀ p, H p = none → Q (.ref p) (upd H p (.dK []))
def tDNewT : TE := fun _ H Q => ∀ p, H p = none → Q (.ref p) (upd H p (.dT []))
section
variable {X : Cx} {pos : Pos}
theorem pe_dnewK : PE X (.Dict [] [] pos) tDNewK := fun pins s σ H Q I h =>
  wpAny_Dict_empty ⟨.ref s.heap.objs.size, _, I.laid (a := s.heap.objs.size) (o := .dK []) (t' := s.toks) (fun _ _ q => Heap.get?_push_of_some _ q) (Nat.le_refl _) (dk_empty s.heap I.big), rfl, h _ (I.hok.fresh (Nat.le_refl _))⟩
theorem pe_dnewT : PE X (.Dict [] [] pos) tDNewT := fun pins s σ H Q I h =>
  wpAny_Dict_empty ⟨.ref s.heap.objs.size, _, I.laid (a := s.heap.objs.size) (o := .dT []) (t' := s.toks) (fun _ _ q => Heap.get?_push_of_some _ q) (Nat.le_refl _) (dt_empty s.heap I.big), rfl, h _ (I.hok.fresh (Nat.le_refl _))⟩
end
structure M2 (X : Cx) (o : Expr) (m : Str) (apos : Pos) (e f : Expr) (cpos : Pos) : Prop where
  base : attributeBase o m X.env (eval o X.env) = eval o X.env
  few : ((backTo cpos (starEach [e, f] X.env)).all (fun x => !x.1) && (backToKw cpos (keywordEach [] X.env)).all (fun x => x.1.isSome)
    && decide (([e, f] : List Expr).length + ([] : List Keyword).length + (if ([] : List Keyword).isEmpty then 0 else 1) < 30)) = true
  line : (apos.endLine == cpos.line) = true
  trees : backTo cpos (starEach [e, f] X.env) = [(false, eval e X.env), (false, eval f X.env)]
def IsD (H : Hp) (a : Addr) : Prop := (∃ kvs, Rd H a (.dK kvs)) ∨ ∃ kvs, Rd H a (.dT kvs)
theorem isD_at {X : Cx} {pins : List (Addr × Obj)} {σ : St} {H : Hp} {s : Shared} {a : Addr} (I : Inv X pins σ H s) (d : IsD H a) :
    s.TypeIs (.ref a) "dict" ∧ (∀ b, Value.ref a = .ref b → ∃ ob, s.heap.get? b = some ob ∧ ob.dict = none) ∧ (a == sysModules) = false := by
  rcases d with ⟨kvs, e⟩ | ⟨kvs, e⟩
  · obtain ⟨_, hd, vs, _, dd⟩ := dk_rd I.hok e
    refine ⟨dd.typeIs, fun b q => ?_, hd⟩
    cases q
    obtain ⟨ob, _, _, h1, h2, _⟩ := dd
    exact ⟨ob, h1, h2.2.1⟩
  · obtain ⟨_, hd, xs, _, dd⟩ := dt_rd I.hok e
    refine ⟨dd.typeIs, fun b q => ?_, hd⟩
    cases q
    obtain ⟨ob, _, _, h1, h2, _⟩ := dd
    exact ⟨ob, h1, h2.2.1⟩
section
variable {X : Cx} {pins : List (Addr × Obj)} {σ : St} {H : Hp} {s : Shared} {a : Addr} {y d : V} {u r : Value} {o : Option V} {A : Around} {E : Value → Shared → Prop}
theorem d_get2 {Q : Value → Shared → Prop} (hu : A.units + 1 < cLine) (I : Inv X pins σ H s) (g : DGet H a y o) (ry : RelV y u) (rd : RelV d r) (h : ∀ w' s', Inv X pins σ H s' → RelV (o.getD d) w' → Q w' s') :
    wpAny (model X.prog X.w) A (call (.builtin "dict.get") [.ref a, u, r]) Q E s := by
  rcases g with ⟨kvs, k, e, ey, l⟩ | ⟨kvs, k, b, e, ey, eb, l⟩
  · subst ey
    obtain ⟨z, hd, vs, rel, dd⟩ := dk_rd I.hok e
    refine call_meetsIn PySem.F.slot_dict_get dd.typeIs PySem.F.entry_dict_get (PySem.F.args_dict_get_3 _ _ _) (meets_dict_get_default (mixKind X.prog X.w) a (kV_is ry) hd r) ⟨_, dd.mapOf, h _ _ (I.tok _) ?_⟩
    rw [l]
    exact (rel.val k).getD rd
  · subst ey
    cases (show u = Value.ref b from ry)
    obtain ⟨z, hd, xs, rel, dd⟩ := dt_rd I.hok e
    refine call_meetsIn PySem.F.slot_dict_get dd.typeIs PySem.F.entry_dict_get (PySem.F.args_dict_get_3 _ _ _) (meetsH_dict_get_default (tupleKind (mixKind X.prog X.w)) a b hd r) ⟨tupleKind_room_in1 hu, k, xs, key_of I.hok eb, dd, h _ _ (I.tok _) ?_⟩
    rw [l]
    exact (rel.val k).getD rd
end
section
variable {X : Cx} {o e f : Expr} {apos cpos : Pos} {td ty tx : TE}
end
section
variable {X : Cx} {pins : List (Addr × Obj)} {σ : St} {H : Hp} {s : Shared} {a : Addr} {kvs : List (Key × V)} {A : Around} {E : Value → Shared → Prop}
end
section
variable {X : Cx} {pins : List (Addr × Obj)} {σ : St} {H : Hp} {s : Shared} {a : Addr} {y : V} {u : Value} {A : Around} {E : Value → Shared → Prop}
end
end L2
set_option Elab.async false
set_option linter.all false
set_option maxRecDepth 100000
namespace L3
open PySem PySem.Spec PyProof.Rows L2
abbrev D := PyData
abbrev Fg := PySem.W.Frag
def keyD : Key → D
  | .inl i => .int i
  | .inr x => .str x
def keyT (k : List Key) : D := .tuple (k.map keyD)
mutual
inductive Rep (K : Fg) (F : Hp) : V → D → Prop
  | non : Rep K F .non .none
  | bl (b) : Rep K F (.bl b) (.bool b)
  | int (i) : Rep K F (.int i) (.int i)
  | str (x) : Rep K F (.str x) (.str x)
  | tup {a vs ds} : F a = some (.tup vs) → RepL K F vs ds → Rep K F (.ref a) (.tuple ds)
  | lst {a vs ds} : SqL K F a vs → RepL K F vs ds → Rep K F (.ref a) (.list ds)
  | dct {a kvs es} : F a = some (.dT kvs) → es.map (·.1) = kvs.map (fun p => keyT p.1) → RepL K F (kvs.map (·.2)) (es.map (·.2)) → Rep K F (.ref a) (.dict es)
  | dck {a kvs es} : F a = some (.dK kvs) → es.map (·.1) = kvs.map (fun p => keyD p.1) → RepL K F (kvs.map (·.2)) (es.map (·.2)) → Rep K F (.ref a) (.dict es)
inductive RepL (K : Fg) (F : Hp) : List V → List D → Prop
  | nil : RepL K F [] []
  | cons {v d vs ds} : Rep K F v d → RepL K F vs ds → RepL K F (v :: vs) (d :: ds)
end
theorem sqT_mono {K : Fg} {F F' : Hp} {a : Addr} {xs : List V} (e : Same F F') (h : SqT K F a xs) : SqT K F' a xs := by
  rcases h with (h | ⟨o, h⟩) | h
  · exact .inl (.inl (e _ _ h))
  · exact .inl (.inr ⟨o, e _ _ h⟩)
  · exact .inr h
mutual
theorem Rep.mono {K : Fg} {F F' : Hp} (e : Same F F') : ∀ {v d}, Rep K F v d → Rep K F' v d
  | _, _, .non => .non
  | _, _, .bl b => .bl b
  | _, _, .int b => .int b
  | _, _, .str b => .str b
  | _, _, .tup h r => .tup (e _ _ h) (RepL.mono e r)
  | _, _, .lst h r => .lst (e.seq h) (RepL.mono e r)
  | _, _, .dct h k r => .dct (e _ _ h) k (RepL.mono e r)
  | _, _, .dck h k r => .dck (e _ _ h) k (RepL.mono e r)
theorem RepL.mono {K : Fg} {F F' : Hp} (e : Same F F') : ∀ {vs ds}, RepL K F vs ds → RepL K F' vs ds
  | _, _, .nil => .nil
  | _, _, .cons h r => .cons (Rep.mono e h) (RepL.mono e r)
end
theorem RepL.length {K : Fg} {F : Hp} : ∀ {vs ds}, RepL K F vs ds → vs.length = ds.length
  | _, _, .nil => rfl
  | _, _, .cons _ r => by simp [RepL.length r]
theorem RepL.get {K : Fg} {F : Hp} : ∀ {vs ds} {i : Nat} {d : D}, RepL K F vs ds → ds[i]? = some d → ∃ v, vs[i]? = some v ∧ Rep K F v d
  | _, _, _, _, .nil, e => by simp at e
  | _, _, 0, _, .cons h _, e => by simp at e; subst e; exact ⟨_, rfl, h⟩
  | _, _, i + 1, d, .cons _ r, e => by
    obtain ⟨v, h1, h2⟩ := RepL.get (i := i) (d := d) r (by simpa using e)
    exact ⟨v, by simpa using h1, h2⟩
theorem RepL.append {K : Fg} {F : Hp} : ∀ {vs ds us es}, RepL K F vs ds → RepL K F us es → RepL K F (vs ++ us) (ds ++ es)
  | _, _, _, _, .nil, s => s
  | _, _, _, _, .cons h r, s => .cons h (RepL.append r s)
theorem RepL.take {K : Fg} {F : Hp} : ∀ {vs ds} (n : Nat), RepL K F vs ds → RepL K F (vs.take n) (ds.take n)
  | _, _, 0, _ => .nil
  | _, _, _ + 1, .nil => .nil
  | _, _, n + 1, .cons h r => .cons h (RepL.take n r)
theorem RepL.drop {K : Fg} {F : Hp} : ∀ {vs ds} (n : Nat), RepL K F vs ds → RepL K F (vs.drop n) (ds.drop n)
  | _, _, 0, r => r
  | _, _, _ + 1, .nil => .nil
  | _, _, n + 1, .cons _ r => RepL.drop n r
theorem RepL.set {K : Fg} {F : Hp} {v : V} {d : D} (h : Rep K F v d) : ∀ {vs ds} (i : Nat), RepL K F vs ds → RepL K F (vs.set i v) (ds.set i d)
  | _, _, _, .nil => .nil
  | _, _, 0, .cons _ r => .cons h r
  | _, _, i + 1, .cons q r => .cons q (RepL.set h i r)
theorem RepL.ints {K : Fg} {F : Hp} : ∀ (ns : List Int), RepL K F (ns.map V.int) (ns.map PyData.int)
  | [] => .nil
  | n :: r => .cons (.int n) (RepL.ints r)
theorem reads_key {h : Heap} : ∀ {k : Key} {u : Value}, RelV (kV k) u → ∃ as, Reads h u (keyD k) as
  | .inl i, u, r => by obtain ⟨t, rfl⟩ := (show ∃ t, u = Value.int i t from r); exact ⟨_, .int i t⟩
  | .inr i, u, r => by obtain ⟨t, rfl⟩ := (show ∃ t, u = Value.str i t from r); exact ⟨_, .str i t⟩
theorem reads_keys {h : Heap} : ∀ {k : List Key} {us : List Value}, Vals (k.map kV) us → ∃ as, ReadsAll h us (k.map keyD) as
  | [], _, r => by rw [List.map_nil] at r; cases r; exact ⟨_, .nil⟩
  | k :: ks, _, r => by
    rw [List.map_cons] at r
    cases r with
    | cons a b =>
      obtain ⟨as, ha⟩ := reads_key a
      obtain ⟨bs, hb⟩ := reads_keys b
      exact ⟨_, .cons ha hb⟩
theorem reads_keyK {P : Program} {w : World} {h : Heap} {k : Key} {u : Value} (r : (mixKind P w).is k u = true) : ∃ as, Reads h u (keyD k) as := by
  rcases keyIs_shape (k := k) (v := u) r with ⟨i, t, rfl, rfl⟩ | ⟨i, t, rfl, rfl⟩
  · exact ⟨_, .int i t⟩
  · exact ⟨_, .str i t⟩
theorem pairs_reads {P : Program} {w : World} {h : Heap} : ∀ {es : List DictEntry} {vs : List (Key × Value)}, Pairs (mixKind P w) es vs → (∃ as, ReadsAll h (es.map (·.key)) (vs.map fun p => keyD p.1) as) ∧ es.map (·.val) = vs.map (·.2) := by
  intro es vs r
  induction r with
  | nil => exact ⟨⟨_, .nil⟩, rfl⟩
  | cons a b _ ih =>
    obtain ⟨⟨bs, hb⟩, e⟩ := ih
    obtain ⟨as, ha⟩ := reads_keyK (h := h) a
    exact ⟨⟨_, .cons ha hb⟩, by rw [List.map_cons, List.map_cons, b, e]⟩
theorem kt_reads {X : Cx} {pins : List (Addr × Obj)} {σ : L2.St} {H : Hp} {s : Shared} (I : Inv X pins σ H s) {knd} : ∀ {kvs : List (List Key × V)} {xs : List (List Key × Addr × Value)}, KT H kvs xs →
    (∃ as, ReadsAll s.heap ((xs.map (entryOfKey (prog := X.prog) (w := X.w) knd)).map (·.key)) (kvs.map fun p => keyT p.1) as) ∧ Vals (kvs.map (·.2)) ((xs.map (entryOfKey (prog := X.prog) (w := X.w) knd)).map (·.val)) := by
  intro kvs xs r
  induction r with
  | nil => exact ⟨⟨_, .nil⟩, .nil⟩
  | @cons p q ps qs h t ih =>
    obtain ⟨⟨bs, hb⟩, e⟩ := ih
    obtain ⟨h1, h2, h3⟩ := h
    obtain ⟨its, rv, ⟨o, e1, e2, n', e3⟩, hz⟩ := I.tuple (SqT.of h2)
    obtain ⟨as, ra⟩ := reads_keys (h := s.heap) rv
    exact ⟨⟨_, .cons (.tuple e1 e2 e3 (by simpa using ra)) hb⟩, .cons h3 e⟩
theorem kv_vals {κ : Type} {kvs : List (κ × V)} {vs : List (κ × Value)} (r : KV kvs vs) : Vals (kvs.map (·.2)) (vs.map (·.2)) ∧ kvs.map (·.1) = vs.map (·.1) := by
  unfold KV at r
  induction r with
  | nil => exact ⟨.nil, rfl⟩
  | cons h t ih => exact ⟨.cons h.2 ih.1, by rw [List.map_cons, List.map_cons, h.1, ih.2]⟩
section
variable {X : Cx} {pins : List (Addr × Obj)} {σ : L2.St} {H : Hp} {s : Shared}
mutual
theorem reads1 (I : Inv X pins σ H s) : ∀ {v d}, Rep X.K H v d → ∀ {u}, RelV v u → ∃ as, Reads s.heap u d as
  | _, _, .non, _, r => by cases r; exact ⟨_, .none⟩
  | _, _, .bl b, _, r => by cases r; exact ⟨_, .bool b⟩
  | _, _, .int i, _, r => by obtain ⟨t, rfl⟩ := r; exact ⟨_, .int i t⟩
  | _, _, .str x, _, r => by obtain ⟨t, rfl⟩ := r; exact ⟨_, .str x t⟩
  | _, _, .tup hq rl, _, r => by
    cases r
    obtain ⟨its, rv, ⟨o, e1, e2, n', e3⟩, hz⟩ := I.tuple (SqT.of hq)
    obtain ⟨as, ra⟩ := readsL I rl rv
    exact ⟨_, .tuple e1 e2 e3 (by simpa using ra)⟩
  | _, _, .lst hq rl, _, r => by
    cases r
    obtain ⟨its, rv, ⟨o, n', e1, e2, e3, e4⟩, hz⟩ := I.list hq
    obtain ⟨as, ra⟩ := readsL I rl rv
    exact ⟨_, .list e1 e2 e4 (by simpa using ra)⟩
  | _, _, .dct hq hk rl, _, r => by
    cases r
    obtain ⟨z, y, xs, kt, o, es, ep, h1, h2, h3, h4, _⟩ := dt_of I.hok hq
    obtain ⟨⟨as, ra⟩, vl⟩ := kt_reads I (knd := tupleKind (mixKind X.prog X.w)) kt
    obtain ⟨bs, rb⟩ := readsL I rl vl
    exact ⟨_, .dict h1 h2.1 h3 (by rw [h4, hk]; exact ra) (by rw [h4]; exact rb)⟩
  | _, _, .dck hq hk rl, _, r => by
    cases r
    obtain ⟨z, y, vs, kv, o, es, ep, h1, h2, h3, h4, h5, _⟩ := dk_of I.hok hq
    obtain ⟨vl, ek⟩ := kv_vals kv
    obtain ⟨⟨as, ra⟩, ev⟩ := pairs_reads (h := s.heap) h5
    obtain ⟨bs, rb⟩ := readsL I rl vl
    refine ⟨_, .dict h1 h2.1 h3 (as := as) (bs := bs) ?_ (by rw [ev]; exact rb)⟩
    rw [hk]
    have e := congrArg (List.map keyD) ek
    rw [List.map_map, List.map_map] at e
    exact e ▸ ra
theorem readsL (I : Inv X pins σ H s) : ∀ {vs ds}, RepL X.K H vs ds → ∀ {us}, Vals vs us → ∃ as, ReadsAll s.heap us ds as
  | _, _, .nil, _, r => by cases r; exact ⟨_, .nil⟩
  | _, _, .cons h t, _, r => by
    cases r with
    | cons r rr =>
      obtain ⟨as, ra⟩ := reads1 I h r
      obtain ⟨bs, rb⟩ := readsL I t rr
      exact ⟨_, .cons ra rb⟩
end
end
theorem reads_of {X : Cx} {pins : List (Addr × Obj)} {σ : L2.St} {H : Hp} {s : Shared} (I : Inv X pins σ H s) :
    (∀ {v d}, Rep X.K H v d → ∀ {u}, RelV v u → ∃ as, Reads s.heap u d as) ∧ (∀ {vs ds}, RepL X.K H vs ds → ∀ {us}, Vals vs us → ∃ as, ReadsAll s.heap us ds as) :=
  ⟨fun {v d} h {u} r => reads1 I h r, fun {vs ds} h {us} r => readsL I h r⟩
inductive OC where
  | l (ds : List D)
  | t (es : List (D × D))
  | k (es : List (D × D))
inductive AV where
  | fz (d : D)
  | ol (c : OC)
  | op (c : OC)
abbrev En := List (Option AV)
inductive RV where
  | fz (d : D)
  | fr (c : OC)
  | bor (i : Nat)
structure Gh where
  P : Nat → Option Addr
  O : Hp
  B : Hp
def Held (K : Fg) (F H : Hp) (a : Addr) : OC → Prop
  | .l ds => ∃ vs, H a = some (.lst vs) ∧ RepL K F vs ds
  | .t es => ∃ kvs, H a = some (.dT kvs) ∧ es.map (·.1) = kvs.map (fun p => keyT p.1) ∧ RepL K F (kvs.map (·.2)) (es.map (·.2))
  | .k es => ∃ kvs, H a = some (.dK kvs) ∧ es.map (·.1) = kvs.map (fun p => keyD p.1) ∧ RepL K F (kvs.map (·.2)) (es.map (·.2))
structure OwnAt (K : Fg) (G : Gh) (F H : Hp) (a : Addr) (c : OC) : Prop where
  nf : F a = none
  no : G.O a = none
  he : Held K F H a c
def own (ρ : En) (i : Nat) (c : OC) : Prop := ρ[i]? = some (some (.ol c)) ∨ ρ[i]? = some (some (.op c))
structure StOk (K : Fg) (G : Gh) (F : Hp) (σ : L2.St) (H : Hp) (ρ : En) : Prop where
  fh : Same F H
  oh : Same G.O H
  fo : ∀ b o, G.O b = some o → F b = none
  ln : σ.length = ρ.length
  fz : ∀ (i : Nat) (d : D), ρ[i]? = some (some (AV.fz d)) → ∃ v, σ[i]? = some (some v) ∧ Rep K F v d
  ow : ∀ (i : Nat) (c : OC), own ρ i c → ∃ a : Addr, σ[i]? = some (some (V.ref a)) ∧ OwnAt K G F H a c
  dj : ∀ (i j : Nat) (c e : OC) (a : Addr), own ρ i c → own ρ j e → σ[i]? = some (some (V.ref a)) → σ[j]? = some (some (V.ref a)) → i = j
  pp : ∀ (i : Nat) (a : Addr), G.P i = some a → σ[i]? = some (some (V.ref a)) ∧ ∃ c, ρ[i]? = some (some (AV.op c))
  pq : ∀ (i : Nat) (c : OC), ρ[i]? = some (some (AV.op c)) → ∃ a, G.P i = some a
  fb : Same G.B F
def RVR (K : Fg) (G : Gh) (F : Hp) (σ : L2.St) (H : Hp) (ρ : En) (v : V) : RV → Prop
  | .fz d => Rep K F v d
  | .fr c => ∃ a, v = .ref a ∧ OwnAt K G F H a c ∧ ∀ (i : Nat) (e : OC), own ρ i e → σ[i]? ≠ some (some (V.ref a))
  | .bor i => ∃ c, own ρ i c ∧ σ[i]? = some (some v)
theorem Held.mono {K : Fg} {F F' H : Hp} {a : Addr} {c : OC} (e : Same F F') (h : Held K F H a c) : Held K F' H a c := by
  cases c with
  | l ds => obtain ⟨vs, h1, h2⟩ := h; exact ⟨vs, h1, h2.mono e⟩
  | t es => obtain ⟨vs, h1, h2, h3⟩ := h; exact ⟨vs, h1, h2, h3.mono e⟩
  | k es => obtain ⟨vs, h1, h2, h3⟩ := h; exact ⟨vs, h1, h2, h3.mono e⟩
theorem Held.some {K : Fg} {F H : Hp} {a : Addr} {c : OC} (h : Held K F H a c) : ∃ o, H a = some o := by
  cases c with
  | l ds => obtain ⟨vs, h1, h2⟩ := h; exact ⟨_, h1⟩
  | t es => obtain ⟨vs, h1, h2⟩ := h; exact ⟨_, h1⟩
  | k es => obtain ⟨vs, h1, h2⟩ := h; exact ⟨_, h1⟩
theorem Held.at {K : Fg} {F H H' : Hp} {a : Addr} {c : OC} (h : Held K F H a c) (e : H' a = H a) : Held K F H' a c := by
  cases c with
  | l ds => obtain ⟨vs, h1, h2⟩ := h; exact ⟨vs, e.trans h1, h2⟩
  | t es => obtain ⟨vs, h1, h2⟩ := h; exact ⟨vs, e.trans h1, h2⟩
  | k es => obtain ⟨vs, h1, h2⟩ := h; exact ⟨vs, e.trans h1, h2⟩
theorem same_upd {F : Hp} {p : Addr} {o : HO} (h : F p = none) : Same F (upd F p o) := fun b u e => by
  rw [upd_ne (ne_of_none e h)]
  exact e
theorem same_upd2 {F H : Hp} {p : Addr} {o : HO} (s : Same F H) (h : F p = none) : Same F (upd H p o) := fun b u e => by
  rw [upd_ne (ne_of_none e h)]
  exact s b u e
section
variable {K : Fg} {G : Gh} {F H : Hp} {σ : L2.St} {ρ : En}
theorem StOk.lay (S : StOk K G F σ H ρ) {p : Addr} {o : HO} (hp : H p = none) : StOk K G F σ (upd H p o) ρ := by
  have fp : F p = none := S.fh.free hp
  have op : G.O p = none := S.oh.free hp
  refine ⟨same_upd2 S.fh fp, same_upd2 S.oh op, S.fo, S.ln, S.fz, fun i c h => ?_, S.dj, S.pp, S.pq, S.fb⟩
  obtain ⟨a, e, oa⟩ := S.ow i c h
  refine ⟨a, e, oa.nf, oa.no, oa.he.at ?_⟩
  obtain ⟨u, hu⟩ := oa.he.some
  exact upd_ne (ne_of_none hu hp)
theorem StOk.fresh_ne (S : StOk K G F σ H ρ) {p : Addr} (hp : H p = none) : ∀ (i : Nat) (e : OC), own ρ i e → σ[i]? ≠ some (some (V.ref p)) := fun i e h q => by
  obtain ⟨a, e1, oa⟩ := S.ow i e h
  rw [e1] at q
  injection q with q; injection q with q; injection q with q
  subst q
  obtain ⟨u, hu⟩ := oa.he.some
  rw [hp] at hu; cases hu
theorem StOk.freeze (S : StOk K G F σ H ρ) {a : Addr} {o : HO} (ha : H a = some o) (fa : F a = none) (oa : G.O a = none) (ne : ∀ (i : Nat) (e : OC), own ρ i e → σ[i]? ≠ some (some (V.ref a))) : StOk K G (upd F a o) σ H ρ := by
  have sm : Same F (upd F a o) := same_upd fa
  refine ⟨fun b u e => ?_, S.oh, fun b u e => ?_, S.ln, fun i d h => ?_, fun i c h => ?_, S.dj, S.pp, S.pq, S.fb.trans sm⟩
  · by_cases hb : b = a
    · subst hb; rw [upd_same] at e; cases e; exact ha
    · rw [upd_ne hb] at e; exact S.fh b u e
  · rw [upd_ne (ne_of_none e oa)]; exact S.fo b u e
  · obtain ⟨v, e, r⟩ := S.fz i d h; exact ⟨v, e, r.mono sm⟩
  · obtain ⟨b, e, ob⟩ := S.ow i c h
    refine ⟨b, e, ?_, ob.no, ob.he.mono sm⟩
    rw [upd_ne (fun z => ne i c h (by rw [e, z]))]
    exact ob.nf
theorem StOk.newTup (S : StOk K G F σ H ρ) {p : Addr} {vs : List V} {ds : List D} (hp : H p = none) (r : RepL K F vs ds) :
    Same F (upd F p (.tup vs)) ∧ StOk K G (upd F p (.tup vs)) σ (upd H p (.tup vs)) ρ ∧ Rep K (upd F p (.tup vs)) (.ref p) (.tuple ds) := by
  have fp : F p = none := S.fh.free hp
  refine ⟨same_upd fp, (S.lay hp).freeze upd_same fp (S.oh.free hp) (S.fresh_ne hp), ?_⟩
  exact .tup upd_same (r.mono (same_upd fp))
theorem StOk.newLst (S : StOk K G F σ H ρ) {p : Addr} {vs : List V} {ds : List D} (hp : H p = none) (r : RepL K F vs ds) :
    StOk K G F σ (upd H p (.lst vs)) ρ ∧ RVR K G F σ (upd H p (.lst vs)) ρ (.ref p) (.fr (.l ds)) :=
  ⟨S.lay hp, p, rfl, ⟨S.fh.free hp, S.oh.free hp, vs, upd_same, r⟩, S.fresh_ne hp⟩
theorem StOk.settle (S : StOk K G F σ H ρ) {v : V} {ds : List D} (r : RVR K G F σ H ρ v (.fr (.l ds))) :
    ∃ F', Same F F' ∧ StOk K G F' σ H ρ ∧ Rep K F' v (.list ds) := by
  obtain ⟨a, rfl, oa, ne⟩ := r
  obtain ⟨vs, h1, h2⟩ := oa.he
  exact ⟨upd F a (.lst vs), same_upd oa.nf, S.freeze h1 oa.nf oa.no ne, .lst (.inl (.inl upd_same)) (h2.mono (same_upd oa.nf))⟩
theorem getElem?_set_eq {α : Type} (l : List α) (i : Nat) (x y : α) (h : l[i]? = some y) : (l.set i x)[i]? = some x := by
  rw [List.getElem?_set_self (List.getElem?_eq_some_iff.mp h).1]
def OC.d : OC → D
  | .l ds => .list ds
  | .t es => .dict es
  | .k es => .dict es
theorem heldRep {a : Addr} {c : OC} (h : Held K F H a c) : ∃ o, H a = some o ∧ ∀ F', Same F F' → F' a = some o → Rep K F' (.ref a) c.d := by
  cases c with
  | l ds => obtain ⟨vs, h1, h2⟩ := h; exact ⟨_, h1, fun F' s e => .lst (.inl (.inl e)) (h2.mono s)⟩
  | t es => obtain ⟨vs, h1, h2, h3⟩ := h; exact ⟨_, h1, fun F' s e => .dct e h2 (h3.mono s)⟩
  | k es => obtain ⟨vs, h1, h2, h3⟩ := h; exact ⟨_, h1, fun F' s e => .dck e h2 (h3.mono s)⟩
theorem StOk.settleC (S : StOk K G F σ H ρ) {i : Nat} {oc : OC} (hi : ρ[i]? = some (some (.ol oc))) {v : V} (hv : σ[i]? = some (some v)) :
    ∃ F', Same F F' ∧ StOk K G F' σ H (ρ.set i (some (.fz oc.d))) ∧ Rep K F' v oc.d := by
  obtain ⟨a, e, oa⟩ := S.ow i _ (.inl hi)
  rw [hv] at e
  injection e with e; injection e with e
  subst e
  obtain ⟨vo, h1, hrep⟩ := heldRep oa.he
  have sm : Same F (upd F a vo) := same_upd oa.nf
  have rp : Rep K (upd F a vo) (.ref a) oc.d := hrep _ sm upd_same
  have ne : ∀ j, j ≠ i → (ρ.set i (some (.fz oc.d)))[j]? = ρ[j]? := fun j hj => List.getElem?_set_ne (Ne.symm hj)
  have at_i : (ρ.set i (some (.fz oc.d)))[i]? = some (some (.fz oc.d)) := getElem?_set_eq _ _ _ _ hi
  have ownj : ∀ j c, own (ρ.set i (some (.fz oc.d))) j c → j ≠ i ∧ own ρ j c := fun j c h => by
    have hj : j ≠ i := by
      rintro rfl
      rcases h with h | h <;> (rw [at_i] at h; cases h)
    refine ⟨hj, ?_⟩
    rcases h with h | h
    · exact .inl (by rw [← ne j hj]; exact h)
    · exact .inr (by rw [← ne j hj]; exact h)
  refine ⟨upd F a vo, sm, ⟨fun b u e => ?_, S.oh, fun b u e => ?_, by simpa using S.ln, fun j d h => ?_, fun j c h => ?_, fun j k c e b h1 h2 => S.dj j k c e b (ownj j c h1).2 (ownj k e h2).2, fun j b h => ?_, fun j c h => ?_, S.fb.trans sm⟩, rp⟩
  · by_cases hb : b = a
    · subst hb; rw [upd_same] at e; cases e; exact h1
    · rw [upd_ne hb] at e; exact S.fh b u e
  · rw [upd_ne (ne_of_none e oa.no)]; exact S.fo b u e
  · by_cases hj : j = i
    · subst hj
      rw [at_i] at h
      cases h
      exact ⟨_, hv, rp⟩
    · rw [ne j hj] at h
      obtain ⟨w, e, r⟩ := S.fz j d h
      exact ⟨w, e, r.mono sm⟩
  · obtain ⟨hj, h'⟩ := ownj j c h
    obtain ⟨b, e, ob⟩ := S.ow j c h'
    refine ⟨b, e, ?_, ob.no, ob.he.mono sm⟩
    rw [upd_ne (fun z => hj (S.dj j i _ _ a h' (.inl hi) (by rw [e, z]) hv))]
    exact ob.nf
  · obtain ⟨q, c, q'⟩ := S.pp j b h
    refine ⟨q, c, ?_⟩
    have hj : j ≠ i := by rintro rfl; rw [hi] at q'; cases q'
    rw [ne j hj]; exact q'
  · have hj : j ≠ i := by rintro rfl; rw [at_i] at h; cases h
    rw [ne j hj] at h
    exact S.pq j c h
theorem StOk.store (S : StOk K G F σ H ρ) {j : Nat} {v : V} {av : AV} (hj : ∀ c, ρ[j]? ≠ some (some (.op c))) (hl : j < ρ.length)
    (h : (∃ d, av = .fz d ∧ Rep K F v d) ∨ ∃ c, av = .ol c ∧ RVR K G F σ H ρ v (.fr c)) : StOk K G F (σ.set j (some v)) H (ρ.set j (some av)) := by
  have hls : j < σ.length := by rw [S.ln]; exact hl
  have ne : ∀ i, i ≠ j → (ρ.set j (some av))[i]? = ρ[i]? := fun i hi => List.getElem?_set_ne (Ne.symm hi)
  have nes : ∀ i, i ≠ j → (σ.set j (some v))[i]? = σ[i]? := fun i hi => List.getElem?_set_ne (Ne.symm hi)
  have atj : (ρ.set j (some av))[j]? = some (some av) := List.getElem?_set_self hl
  have atjs : (σ.set j (some v))[j]? = some (some v) := List.getElem?_set_self hls
  have owni : ∀ i c, i ≠ j → own (ρ.set j (some av)) i c → own ρ i c := fun i c hi h => by
    unfold own at h ⊢
    rw [ne i hi] at h
    exact h
  refine ⟨S.fh, S.oh, S.fo, by simpa using S.ln, fun i d q => ?_, fun i c q => ?_, fun i k c e a q1 q2 e1 e2 => ?_, fun i a q => ?_, fun i c q => ?_, S.fb⟩
  · by_cases hi : i = j
    · subst hi
      rw [atj] at q
      rcases h with ⟨d', rfl, r⟩ | ⟨c, rfl, _⟩
      · cases q; exact ⟨v, atjs, r⟩
      · cases q
    · rw [ne i hi] at q
      obtain ⟨w, e, r⟩ := S.fz i d q
      exact ⟨w, by rw [nes i hi]; exact e, r⟩
  · by_cases hi : i = j
    · subst hi
      rcases h with ⟨d', rfl, r⟩ | ⟨c', rfl, a, rfl, oa, _⟩
      · rcases q with q | q <;> (rw [atj] at q; cases q)
      · rcases q with q | q
        · rw [atj] at q; cases q; exact ⟨a, atjs, oa⟩
        · rw [atj] at q; cases q
    · obtain ⟨a, e, oa⟩ := S.ow i c (owni i c hi q)
      exact ⟨a, by rw [nes i hi]; exact e, oa⟩
  · by_cases hi : i = j
    · by_cases hk : k = j
      · rw [hi, hk]
      · exfalso
        subst hi
        rw [nes k hk] at e2
        rw [atjs] at e1
        injection e1 with e1; injection e1 with e1
        subst e1
        rcases h with ⟨d', rfl, r⟩ | ⟨c', rfl, a', e, oa, nn⟩
        · rcases q1 with q | q <;> (rw [atj] at q; cases q)
        · injection e with e; subst e
          exact nn k _ (owni k _ hk q2) e2
    · by_cases hk : k = j
      · exfalso
        subst hk
        rw [nes i hi] at e1
        rw [atjs] at e2
        injection e2 with e2; injection e2 with e2
        subst e2
        rcases h with ⟨d', rfl, r⟩ | ⟨c', rfl, a', e, oa, nn⟩
        · rcases q2 with q | q <;> (rw [atj] at q; cases q)
        · injection e with e; subst e
          exact nn i _ (owni i _ hi q1) e1
      · rw [nes i hi] at e1
        rw [nes k hk] at e2
        exact S.dj i k _ _ a (owni i _ hi q1) (owni k _ hk q2) e1 e2
  · obtain ⟨q1, c, q2⟩ := S.pp i a q
    have hi : i ≠ j := by rintro rfl; exact hj c q2
    exact ⟨by rw [nes i hi]; exact q1, c, by rw [ne i hi]; exact q2⟩
  · have hi : i ≠ j := by
      rintro rfl
      rw [atj] at q
      rcases h with ⟨d', rfl, r⟩ | ⟨c', rfl, _⟩ <;> cases q
    rw [ne i hi] at q
    exact S.pq i c q
theorem StOk.change (S : StOk K G F σ H ρ) {j : Nat} {a : Addr} {c c' : OC} {o : HO} (hj : own ρ j c) (ha : σ[j]? = some (some (.ref a))) (hh : Held K F (upd H a o) a c') :
    StOk K G F σ (upd H a o) (ρ.set j ((ρ[j]?.join).map fun | .op _ => .op c' | _ => .ol c')) := by
  obtain ⟨b, e, ob⟩ := S.ow j c hj
  rw [ha] at e
  injection e with e; injection e with e; injection e with e
  subst e
  have hl : j < ρ.length := by rcases hj with h | h <;> exact (List.getElem?_eq_some_iff.mp h).1
  generalize hav : ((ρ[j]?.join).map fun (x : AV) => match x with | .op _ => AV.op c' | _ => AV.ol c') = av
  have ne : ∀ i, i ≠ j → (ρ.set j av)[i]? = ρ[i]? := fun i hi => List.getElem?_set_ne (Ne.symm hi)
  have atj : (ρ.set j av)[j]? = some av := List.getElem?_set_self hl
  have owni : ∀ i e, i ≠ j → own (ρ.set j av) i e → own ρ i e := fun i c hi h => by
    unfold own at h ⊢
    rw [ne i hi] at h
    exact h
  have kind : (ρ[j]? = some (some (.ol c)) ∧ av = some (.ol c')) ∨ (ρ[j]? = some (some (.op c)) ∧ av = some (.op c')) := by
    rcases hj with h | h
    · exact .inl ⟨h, by rw [← hav, h]; rfl⟩
    · exact .inr ⟨h, by rw [← hav, h]; rfl⟩
  have ownj : ∀ e, own (ρ.set j av) j e → e = c' := fun e h => by
    unfold own at h
    rw [atj] at h
    rcases kind with ⟨_, k⟩ | ⟨_, k⟩ <;> rw [k] at h <;> rcases h with h | h <;> cases h <;> rfl
  refine ⟨same_upd2 S.fh ob.nf, same_upd2 S.oh ob.no, S.fo, by simpa using S.ln, fun i d q => ?_, fun i e q => ?_, fun i k c1 e1 b q1 q2 => ?_, fun i b q => ?_, fun i e q => ?_, S.fb⟩
  · by_cases hi : i = j
    · subst hi
      rw [atj] at q
      rcases kind with ⟨_, k⟩ | ⟨_, k⟩ <;> rw [k] at q <;> cases q
    · rw [ne i hi] at q; exact S.fz i d q
  · by_cases hi : i = j
    · subst hi
      have := ownj e q
      subst this
      exact ⟨a, ha, ob.nf, ob.no, hh⟩
    · have q' := owni i e hi q
      obtain ⟨b', e', ob'⟩ := S.ow i e q'
      refine ⟨b', e', ob'.nf, ob'.no, ob'.he.at (upd_ne fun z => hi (S.dj i j _ _ a q' hj (by rw [e', z]) ha))⟩
  · have o1 : ∃ e, own ρ i e := by
      by_cases hi : i = j
      · exact ⟨c, hi ▸ hj⟩
      · exact ⟨_, owni i _ hi q1⟩
    have o2 : ∃ e, own ρ k e := by
      by_cases hk : k = j
      · exact ⟨c, hk ▸ hj⟩
      · exact ⟨_, owni k _ hk q2⟩
    exact S.dj i k _ _ b o1.choose_spec o2.choose_spec
  · obtain ⟨q1, e, q2⟩ := S.pp i b q
    refine ⟨q1, ?_⟩
    by_cases hi : i = j
    · subst hi
      rcases kind with ⟨k1, k⟩ | ⟨k1, k⟩
      · rw [k1] at q2; cases q2
      · exact ⟨c', by rw [atj, k]⟩
    · exact ⟨e, by rw [ne i hi]; exact q2⟩
  · by_cases hi : i = j
    · subst hi
      rcases kind with ⟨k1, k⟩ | ⟨k1, k⟩
      · rw [atj, k] at q; cases q
      · exact S.pq i c k1
    · rw [ne i hi] at q; exact S.pq i e q
end
end L3
set_option Elab.async false
set_option linter.all false
set_option maxRecDepth 100000
namespace L4
open PySem PySem.Spec PyProof.Rows L2 L3
def TbOf (h : Heap) (e b : Addr) : Prop := ∃ oe vs, h.get? e = some oe ∧ oe.data = .fields vs ∧ vs[1]? = some (.ref b)
structure Ent (fs : List Addr) (h h' : Heap) (e T : Addr) (oe : Obj) (ts : Array Value) : Prop where
  keep : ∀ b o, h.get? b = some o → b ∉ fs → b ≠ e → h'.get? b = some o
  slot : ∀ b o, h.get? b = some o → b ≠ e → ∃ sl, h'.get? b = some { o with slots := sl }
  new : h.objs.size ≤ T
  exc : h'.get? e = some (oe.mapFields (·.setIfInBounds 1 (.ref T)))
  way : ∃ oT, h'.get? T = some oT ∧ oT.data = .fields ts
section
variable {M : Model} {A : Around} {E : Value → Shared → Prop} {s : Shared} {base : Heap} {env : Env} {outer : List Env} {L e : Addr} {oe : Obj} {vs : Array Value}
theorem entry_made {top : Value} {nx : Bool} {Q : Unit → Shared → Prop} (hA : A.frames = some (env :: outer)) (hF : s.heap.FunFrames base (env :: outer)) (hL : env.frame = some L)
    (he : s.heap.get? e = some oe) (hd : oe.data = .fields vs) (hz : 1 < vs.size)
    (k : ∀ h' T ts, Ent (frs (env :: outer)) s.heap h' e T oe ts → 3 < ts.size → ts[3]? = some (rawInt L) → Q () { s with heap := h' }) :
    wpAny M A (do let a ← frameOf env; let pl ← entryPlaceOf L nx; let b ← EntryCells.newEntry top a .none (rawInt L) .none pl; setField (.ref e) 1 b) Q E s := by
  have ne : e ∉ frs (env :: outer) := fun z => by
    obtain ⟨_, o, q, r⟩ := hF.mem z
    rw [he] at q; cases q
    exact r vs hd
  refine wpAny_bind (wpAny_frameOf_fun hA hF hL fun h1 so => wpAny_bind (wpAny_entryPlaceOf fun pl ip => ?_))
  simp only [EntryCells.newEntry, newFields]
  refine wpAny_bind (wpAny_newObj_type ?_ (ip.sizeOk5 _ _ _ _ _))
  generalize hts : ([top, .ref L, .none, rawInt L, .none] ++ (if pl.isEmpty then List.replicate 6 Value.none else pl)).toArray = ts
  have z3 : 3 < ts.size := by
    rw [← hts, List.size_toArray, List.length_append]
    simp only [List.length_cons, List.length_nil]
    omega
  have g3 : ts[3]? = some (rawInt L) := by rw [← hts]; simp
  generalize htb : ({ cls := .type "traceback", dict := none, data := .fields ts } : Obj) = tb
  have fr : tb.isFreed = false := by rw [← htb]; rfl
  have e1 : h1.get? e = some oe := by rw [so.2.1 e ne]; exact he
  have lt : e < h1.objs.size := Heap.lt_size e1
  refine wpAny_setField (Heap.get?_push_of_some tb e1) hd hz ?_
  have hd' := Obj.data_mapFields hd (·.setIfInBounds 1 (Value.ref h1.objs.size))
  have up : ∀ b, b ≠ e → ((h1.push tb).update e (Obj.mapFields (·.setIfInBounds 1 (.ref h1.objs.size)))).get? b = (h1.push tb).get? b := fun b hb => Heap.get?_update_other _ _ (Ne.symm hb)
  refine k _ h1.objs.size ts ⟨fun b o q nf nb => ?_, fun b o q nb => ?_, by rw [so.1]; exact Nat.le_refl _, ?_, ⟨tb, ?_, ?_⟩⟩ z3 g3
  · exact (up b nb).trans (Heap.get?_push_of_some _ ((so.2.1 b nf).trans q))
  · obtain ⟨sl, q'⟩ := so.2.2 b o q
    exact ⟨sl, (up b nb).trans (Heap.get?_push_of_some _ q')⟩
  · exact Heap.get?_update_self _ (Heap.get?_push_of_some tb e1) (Obj.isFreed_of_fields hd')
  · exact (up _ (Nat.ne_of_gt lt)).trans (Heap.get?_push_size h1 fr)
  · rw [← htb]
end
def XO (e C : Addr) (dd : Option Addr) : Heap → Prop := fun h => ∃ oe, h.get? e = some oe ∧ oe.cls = .ref C ∧ oe.dict = dd ∧ PySem.W.notCls oe = true
def XD (dx : Addr) (fs : List (Str × V)) : Heap → Prop := fun h => ∃ mA, h.Ns1 dx mA ∧ PySem.Within mA (fs.map (·.1)) ∧ ∀ f, RelO (fs.lookup f) (mA f)
structure XS (H : Hp) (h : Heap) (lo : Nat) (e C : Addr) (dd : Option Addr) : Prop where
  yg : lo ≤ e
  trk : H e = some (.ext (XO e C dd))
  obj : ∃ oe vs, h.get? e = some oe ∧ oe.cls = .ref C ∧ oe.dict = dd ∧ oe.data = .fields vs ∧ 1 < vs.size ∧
    (vs[1]? = some .none ∨ ∃ T oT ts, vs[1]? = some (.ref T) ∧ T ≠ e ∧ lo ≤ T ∧ H T = none ∧ h.get? T = some oT ∧ oT.data = .fields ts ∧ ts[3]? = some .none)
structure Mv (fs : List Addr) (h h' : Heap) (e : Addr) : Prop where
  keep : ∀ b o, h.get? b = some o → b ∉ fs → b ≠ e → ¬ TbOf h e b → h'.get? b = some o
  slot : ∀ b o, h.get? b = some o → b ≠ e → ¬ TbOf h e b → ∃ sl, h'.get? b = some { o with slots := sl }
  there : ∀ b o, h.get? b = some o → ∃ o', h'.get? b = some o'
theorem dict_mf (f : Array Value → Array Value) (o : Obj) : (o.mapFields f).dict = o.dict := by
  obtain ⟨c, d, dt, sl⟩ := o
  cases dt <;> rfl
theorem noNot {L : Addr} : ¬ ((Value.none == rawInt L) = true) := by simp [rawInt]
section
variable {M : Model} {A : Around} {E : Value → Shared → Prop} {s : Shared} {base : Heap} {env : Env} {outer : List Env} {L e C : Addr} {dd : Option Addr} {H : Hp} {lo : Nat} {P : Program} {w : World}
theorem flight_off {oe : Obj} {vs : Array Value} {h0 : Heap} {T : Addr} {ts : Array Value} {Q : Unit → Shared → Prop} (en : Ent (frs (env :: outer)) h0 s.heap e T oe ts) (hd : oe.data = .fields vs) (hz : 1 < vs.size) (z3 : 3 < ts.size) (hh : e < h0.objs.size)
    (k : ∀ h', (∀ b, b ≠ T → h'.get? b = s.heap.get? b) → (∃ oT tz, h'.get? T = some oT ∧ oT.data = .fields tz ∧ tz[3]? = some .none) → Q () { s with heap := h' }) : wpAny M A (setFlight (.ref e) none) Q E s := by
  obtain ⟨oT, q1, q2⟩ := en.way
  have d' := Obj.data_mapFields hd (·.setIfInBounds 1 (Value.ref T))
  simp only [setFlight]
  refine wpAny_bind (wpAny_field en.exc d' (x := .ref T) (by simp [hz]) ?_)
  rw [if_pos (by simp)]
  refine wpAny_setField q1 q2 z3 (k _ (fun b hb => Heap.get?_update_other _ _ (Ne.symm hb)) ⟨_, _, Heap.get?_update_self _ q1 (Obj.isFreed_of_fields (Obj.data_mapFields q2 _)), Obj.data_mapFields q2 _, by simp [z3]⟩)
theorem noted_ok {Q : Unit → Shared → Prop} (hA : A.frames = some (env :: outer)) (hF : s.heap.FunFrames base (env :: outer)) (hL : env.frame = some L) (hk : HOk P w H s.heap) (xs : XS H s.heap lo e C dd)
    (k : ∀ h', Mv (frs (env :: outer)) s.heap h' e → XS H h' lo e C dd → Q () { s with heap := h' }) :
    wpAny M A (noteFrame (.ref e) env) (fun _ s2 => wpAny M A (setFlight (.ref e) none) Q E s2) E s := by
  obtain ⟨oe, vs, he, hc, hdd, hd, hz, tb⟩ := xs.obj
  have elt : e < s.heap.objs.size := Heap.lt_size he
  have hlo : lo ≤ s.heap.objs.size := Nat.le_trans xs.yg (Nat.le_of_lt elt)
  simp only [noteFrame, hL]
  rcases tb with tb | ⟨T, oT, ts, tb, hTe, hTl, hTn, hT, hTd, t3⟩
  · refine wpAny_bind (wpAny_field he hd tb ?_)
    rw [if_neg (by decide)]
    refine entry_made hA hF hL he hd hz fun h1 T1 t1 en z3 g3 => ?_
    refine flight_off (s := { s with heap := h1 }) en hd hz z3 elt fun h2 same way => ?_
    have nT : ∀ b o, s.heap.get? b = some o → b ≠ T1 := fun b o q => Nat.ne_of_lt (Nat.lt_of_lt_of_le (Heap.lt_size q) en.new)
    have d1 := Obj.data_mapFields hd (·.setIfInBounds 1 (Value.ref T1))
    refine k h2 ⟨fun b o q nf nb _ => ?_, fun b o q nb _ => ?_, fun b o q => ?_⟩ ⟨xs.yg, xs.trk, _, _, ?_, ?_, ?_, d1, by simpa using hz, .inr ?_⟩
    · rw [same b (nT b o q)]; exact en.keep b o q nf nb
    · obtain ⟨sl, z⟩ := en.slot b o q nb
      exact ⟨sl, by rw [same b (nT b o q)]; exact z⟩
    · by_cases nb : b = e
      · subst nb; exact ⟨_, by rw [same _ (nT _ o q)]; exact en.exc⟩
      · obtain ⟨sl, z⟩ := en.slot b o q nb
        exact ⟨_, by rw [same b (nT b o q)]; exact z⟩
    · rw [same e (nT e _ he)]; exact en.exc
    · rw [Obj.cls_mapFields]; exact hc
    · rw [dict_mf]; exact hdd
    · obtain ⟨o1, tz, w1, w2, w3⟩ := way
      exact ⟨T1, o1, tz, by simp [hz], fun z => nT e _ he z.symm, Nat.le_trans hlo en.new, hk.fresh en.new, w1, w2, w3⟩
  · refine wpAny_bind (wpAny_field he hd tb ?_)
    rw [if_pos (by simp)]
    refine wpAny_bind (wpAny_field hT hTd t3 ?_)
    rw [if_neg noNot]
    have z3' : 3 < ts.size := (Array.getElem?_eq_some_iff.mp t3).1
    refine wpAny_bind (wpAny_setField hT hTd z3' ?_)
    have off : ∀ b, b ≠ T → (s.heap.update T (Obj.mapFields (·.setIfInBounds 3 Value.none))).get? b = s.heap.get? b := fun b hb => Heap.get?_update_other _ _ (Ne.symm hb)
    have hF' : (s.heap.update T (Obj.mapFields (·.setIfInBounds 3 Value.none))).FunFrames base (env :: outer) := hF.of_keeps fun b o q r => ⟨o, (off b fun z => by subst z; rw [hT] at q; cases q; exact r ts hTd).trans q, rfl⟩
    have he' : (s.heap.update T (Obj.mapFields (·.setIfInBounds 3 Value.none))).get? e = some oe := (off e (Ne.symm hTe)).trans he
    have zz : (s.heap.update T (Obj.mapFields (·.setIfInBounds 3 Value.none))).objs.size = s.heap.objs.size := Heap.size_update ..
    refine entry_made (s := { s with heap := s.heap.update T (Obj.mapFields (·.setIfInBounds 3 Value.none)) }) hA hF' hL he' hd hz fun h1 T1 t1 en z3 g3 => ?_
    refine flight_off (s := { s with heap := h1 }) en hd hz z3 (by rw [zz]; exact elt) fun h2 same way => ?_
    have nw : s.heap.objs.size ≤ T1 := by have := en.new; rw [zz] at this; exact this
    have nT : ∀ b o, s.heap.get? b = some o → b ≠ T1 := fun b o q => Nat.ne_of_lt (Nat.lt_of_lt_of_le (Heap.lt_size q) nw)
    have isT : TbOf s.heap e T := ⟨oe, vs, he, hd, tb⟩
    have nTT : ∀ b, ¬ TbOf s.heap e b → b ≠ T := fun b z q => z (q ▸ isT)
    have d1 := Obj.data_mapFields hd (·.setIfInBounds 1 (Value.ref T1))
    have T0 : (s.heap.update T (Obj.mapFields (·.setIfInBounds 3 Value.none))).get? T = some (oT.mapFields (·.setIfInBounds 3 Value.none)) := Heap.get?_update_self _ hT (Obj.isFreed_of_fields (Obj.data_mapFields hTd _))
    refine k h2 ⟨fun b o q nf nb nt => ?_, fun b o q nb nt => ?_, fun b o q => ?_⟩ ⟨xs.yg, xs.trk, _, _, ?_, ?_, ?_, d1, by simpa using hz, .inr ?_⟩
    · rw [same b (nT b o q)]; exact en.keep b o ((off b (nTT b nt)).trans q) nf nb
    · obtain ⟨sl, z⟩ := en.slot b o ((off b (nTT b nt)).trans q) nb
      exact ⟨sl, by rw [same b (nT b o q)]; exact z⟩
    · by_cases nb : b = e
      · subst nb; exact ⟨_, by rw [same _ (nT _ o q)]; exact en.exc⟩
      · by_cases nt : b = T
        · subst nt
          obtain ⟨sl, z⟩ := en.slot b _ T0 nb
          exact ⟨_, by rw [same b (nT b o q)]; exact z⟩
        · obtain ⟨sl, z⟩ := en.slot b o ((off b nt).trans q) nb
          exact ⟨_, by rw [same b (nT b o q)]; exact z⟩
    · rw [same e (nT e _ he)]; exact en.exc
    · rw [Obj.cls_mapFields]; exact hc
    · rw [dict_mf]; exact hdd
    · obtain ⟨o1, tz, w1, w2, w3⟩ := way
      exact ⟨T1, o1, tz, by simp [hz], fun z => nT e _ he z.symm, Nat.le_trans hlo nw, hk.fresh nw, w1, w2, w3⟩
theorem leaving_ok {Q : Unit → Shared → Prop} (hA : A.frames = some (env :: outer)) (hF : s.heap.FunFrames base (env :: outer)) (hL : env.frame = some L) (hk : HOk P w H s.heap) (xs : XS H s.heap lo e C dd)
    (k : ∀ h', Mv (frs (env :: outer)) s.heap h' e → XS H h' lo e C dd → Q () { s with heap := h' }) : wpAny M A (leaving env (.ref e)) Q E s := by
  unfold leaving
  exact wpAny_bind (noted_ok hA hF hL hk xs k)
end
end L4
set_option Elab.async false
set_option linter.all false
set_option maxRecDepth 100000
namespace L4
open PySem PySem.Spec PyProof.Rows L2 L3
section
variable {fs : List Addr} {h h' : Heap} {e C : Addr} {dd : Option Addr} {H : Hp} {lo : Nat} {P : Program} {w : World}
theorem XO.ok {H' : Hp} (x : XO e C dd h) : ObjOk P w H' h e (.ext (XO e C dd)) := by
  obtain ⟨oe, q, r⟩ := x
  exact ⟨⟨oe, q, r⟩, ⟨oe, q⟩, fun h1 h2 ⟨o, z, r⟩ k => ⟨o, k o z, r⟩⟩
theorem XS.xo (xs : XS H h lo e C dd) : XO e C dd h := by
  obtain ⟨oe, vs, q, c, d, z, _⟩ := xs.obj
  exact ⟨oe, q, c, d, by unfold PySem.W.notCls; rw [z]⟩
theorem XS.tb (xs : XS H h lo e C dd) {b : Addr} (t : TbOf h e b) : H b = none ∧ lo ≤ b ∧ b ≠ e ∧ ∃ oT ts, h.get? b = some oT ∧ oT.data = .fields ts := by
  obtain ⟨oe, vs, q, c, d, z, _, k⟩ := xs.obj
  obtain ⟨oe', vs', q', z', k'⟩ := t
  rw [q] at q'; cases q'
  rw [z] at z'; cases z'
  rcases k with k | ⟨T, oT, ts, k, ne, l, n, g, gd, _⟩
  · rw [k] at k'; cases k'
  · rw [k] at k'
    cases k'
    exact ⟨n, l, ne, oT, ts, g, gd⟩
theorem XS.tb_list (xs : XS H h lo e C dd) : ∃ ch : List Addr, ∀ b, b ∈ ch ↔ TbOf h e b := by
  obtain ⟨oe, vs, q, c, d, z, _, k⟩ := xs.obj
  rcases k with k | ⟨T, oT, ts, k, _⟩
  · exact ⟨[], fun b => ⟨fun z => (nomatch z), fun ⟨oe', vs', q', z', k'⟩ => by rw [q] at q'; cases q'; rw [z] at z'; cases z'; rw [k] at k'; cases k'⟩⟩
  · refine ⟨[T], fun b => ⟨fun y => ?_, fun ⟨oe', vs', q', z', k'⟩ => ?_⟩⟩
    · rw [List.mem_singleton.mp y]; exact ⟨oe, vs, q, z, k⟩
    · rw [q] at q'; cases q'
      rw [z] at z'; cases z'
      rw [k] at k'; cases k'
      exact List.mem_singleton.mpr rfl
theorem Mv.hok (m : Mv fs h h' e) (ok : HOk P w H h) (xs : XS H h lo e C dd) (xs' : XS H h' lo e C dd) (hf : ∀ b ∈ fs, H b = none) : HOk P w H h' := fun a o q => by
  by_cases ae : a = e
  · subst ae
    rw [xs.trk] at q; cases q
    exact xs'.xo.ok
  · refine (ok a o q).stay (fun b u hb z => ?_) (fun _ z => z) fun _ _ z => z
    have hbH : ∃ v, H b = some v := by
      rcases hb with rfl | hb
      · exact ⟨o, q⟩
      · exact ⟨_, hb⟩
    obtain ⟨v, hv⟩ := hbH
    refine m.keep b u z (fun y => by rw [hf b y] at hv; cases hv) (fun y => ?_) fun y => by rw [(xs.tb y).1] at hv; cases hv
    subst y
    rcases hb with rfl | hb
    · exact ae rfl
    · rw [xs.trk] at hb; cases hb
theorem Mv.un {ch : List Addr} (m : Mv fs h h' e) (xs : XS H h lo e C dd) (hc : ∀ b, b ∈ ch ↔ TbOf h e b) : Un fs ch H H h h' where
  keep := fun b o q n hb hx => m.keep b o q hb (fun z => by subst z; rw [xs.trk] at n; cases n) fun z => hx ((hc b).mpr z)
  slot := fun b o q n hb hx => m.slot b o q (fun z => by subst z; rw [xs.trk] at n; cases n) fun z => hx ((hc b).mpr z)
  free := fun _ _ _ n _ => n
  there := fun b o q _ => m.there b o q
  tups := fun _ _ z => z
  frzs := fun _ _ _ z => z
  tbls := fun b ps z => ⟨#[], by rw [z]; simp⟩
end
section
variable {X : Cx} {pins : List (Addr × Obj)} {σ : L2.St} {H : Hp} {s : Shared} {h' : Heap} {e C : Addr} {dd : Option Addr} {lo : Nat}
theorem Inv.mv (I : Inv X pins σ H s) (m : Mv (frs X.stack) s.heap h' e) (xs : XS H s.heap lo e C dd) (xs' : XS H h' lo e C dd) (hlo : X.s₀.heap.objs.size ≤ lo) (hp : ∀ p ∈ X.pn ++ pins, ¬ TbOf s.heap e p.1) (t' : Nat) : Inv X pins σ H { s with heap := h', toks := t' } := by
  obtain ⟨ch, hc⟩ := xs.tb_list
  refine I.call (g' := s.gens) (d' := s.drawn) (t' := t') (m.un xs hc) (m.hok I.hok xs xs' I.stkFree) I.bare fun b hb => ?_
  have tb := (hc b).mp hb
  obtain ⟨n, l, ne, oT, ts, g, gd⟩ := xs.tb tb
  refine ⟨.inr (Nat.le_trans hlo l), fun z => ?_, fun x c q z => ?_, fun p hp' z => hp p hp' (z ▸ tb)⟩
  · subst z
    obtain ⟨m, ⟨o, es, ep, ho, hd, _⟩, _⟩ := I.loc
    rw [g] at ho; cases ho
    rw [gd] at hd; cases hd
  · subst z
    obtain ⟨v, o, ho, hd⟩ := I.cell x c q
    rw [g] at ho; cases ho
    rw [gd] at hd; cases hd
end
def CX1 (P : Program) (w : World) : CXT := fun outer H s E e s' => ∃ a C dd H', e = .ref a ∧ s'.os = s.os ∧ AllBare s'.gens ∧ Un (frs outer) [] H H' s.heap s'.heap ∧ HOk P w H' s'.heap ∧ XS H' s'.heap s.heap.objs.size a C dd ∧ E (.ref C) dd H'
theorem leave_x {P : Program} {w : World} {K : Fg} {mg : Str → Option Value} {base : Heap} {N : List Str} {qual : Str} {scope : Scope} {f : Addr} {cd : Value} {A : Around} {outer : List Env} {s : Shared} {H : Hp} {E : XK}
    {pins : List (Addr × Obj)} {σ : L2.St} {H' : Hp} {s' : Shared} {a C : Addr} {dd : Option Addr} (I : Inv (cxOf (CX1 P w) P w K mg base N qual scope f cd A outer s H E) pins σ H' s') (xs : XS H' s'.heap s.heap.objs.size a C dd) (hE : E (.ref C) dd H') :
    (cxOf (CX1 P w) P w K mg base N qual scope f cd A outer s H E).xe (.ref a) s' := by
  have hF := I.stack
  have hS := I.stkFree
  refine leaving_ok (base := base) (L := s.heap.objs.size) (P := P) (w := w) (s := s') I.ok.frames hF rfl I.hok xs fun h1 m xs1 => ?_
  have un : Un (frs outer) [] H H' s.heap s'.heap := I.base
  have lt : ∀ b o, s.heap.get? b = some o → b < s.heap.objs.size := fun b o q => Heap.lt_size q
  have ne : ∀ b o, s.heap.get? b = some o → b ≠ a := fun b o q => Nat.ne_of_lt (Nat.lt_of_lt_of_le (lt b o q) xs.yg)
  have nt : ∀ b o, s.heap.get? b = some o → ¬ TbOf s'.heap a b := fun b o q z => absurd (Nat.lt_of_lt_of_le (lt b o q) (xs.tb z).2.1) (Nat.lt_irrefl _)
  refine ⟨a, C, dd, H', rfl, I.os, I.bare, ⟨fun b o q n hb hx => ?_, fun b o q n hb hx => ?_, un.free, fun b o q hx => ?_, un.tups, un.frzs, un.tbls⟩, m.hok I.hok xs xs1 hS, xs1, hE⟩
  · refine m.keep b o (un.keep b o q n hb hx) (fun z => ?_) (ne b o q) (nt b o q)
    rcases List.mem_cons.mp (I.stkSub b z) with y | y
    · exact absurd (lt b o q) (by rw [y]; exact Nat.lt_irrefl _)
    · exact hb y
  · obtain ⟨sl, z⟩ := un.slot b o q n hb hx
    obtain ⟨sl', z'⟩ := m.slot b _ z (ne b o q) (nt b o q)
    exact ⟨sl', z'⟩
  · obtain ⟨o', z⟩ := un.there b o q hx
    exact m.there b o' z
end L4
set_option Elab.async false
set_option linter.all false
set_option maxRecDepth 100000
namespace L4
open PySem PySem.Spec PyProof.Rows L2 L3
structure Ex where
  cls : Str
  fs : List (Str × D)
inductive M (S : Type) where
  | ret (s : S)
  | exc (x : Ex)
  | bad
def M.on {S T : Type} (m : M S) (x : Ex → M T) (k : S → M T) : M T := match m with
  | .ret s => k s
  | .exc e => x e
  | .bad => .bad
def bd {S T : Type} (m : M S) (k : S → M T) : M T := m.on .exc k
def oM {S : Type} (o : Option S) : M S := match o with
  | some s => .ret s
  | none => .bad
section
variable {S T U : Type}
@[simp] theorem on_ret (s : S) (x : Ex → M T) (k : S → M T) : (M.ret s).on x k = k s := rfl
@[simp] theorem bd_ret (s : S) (k : S → M T) : bd (.ret s) k = k s := rfl
end
abbrev Pu (α : Type) := En → M α
def XR (K : Fg) (F H : Hp) (C : Addr) (dd : Option Addr) (x : Ex) : Prop := PySem.W.nsIn K mainGlobals x.cls = some (some (.ref C)) ∧
  ((x.fs = [] ∧ dd = none) ∨ ∃ dx fv, dd = some dx ∧ H dx = some (.ext (XD dx fv)) ∧ Paired (fun (p : Str × V) (q : Str × D) => p.1 = q.1 ∧ Rep K F p.2 q.2) fv x.fs)
structure GOk (G : Gh) (F H : Hp) : Prop where
  fh : Same F H
  oh : Same G.O H
  fo : ∀ b o, G.O b = some o → F b = none
  fb : Same G.B F
def XW (X : Cx) (G : Gh) (F : Hp) (ρ : En) (x : Ex) : Prop := ∀ F' H' s' a C dd pins σ, GOk G F' H' → Inv X pins σ H' s' → XS H' s'.heap X.s₀.heap.objs.size a C dd → XR X.K F' H' C dd x → X.xe (.ref a) s'
theorem XW.mono {X : Cx} {G : Gh} {F F' : Hp} {ρ : En} {x : Ex} (s : Same F F') (h : XW X G F ρ x) : XW X G F' ρ x := h
def W (X : Cx) (G : Gh) (F : Hp) (σ : L2.St) (ρ : En) {α : Type} (m : M α) (C : α → Hp → Hp → Prop) : Prop := match m with
  | .ret a => ∀ F' H', Same F F' → StOk X.K G F' σ H' ρ → C a F' H'
  | .exc x => XW X G F ρ x
  | .bad => False
section
variable {X : Cx} {G : Gh} {F F' H : Hp} {σ : L2.St} {ρ : En} {α β : Type} {m : M α} {k : α → M β} {C C' : α → Hp → Hp → Prop}
theorem W.up {C : β → Hp → Hp → Prop} {m : M β} (s : Same F F') (h : W X G F σ ρ m C) : W X G F' σ ρ m C := by
  cases m with
  | ret a => exact fun F2 H2 s2 S2 => h F2 H2 (s.trans s2) S2
  | exc x => exact XW.mono (X := X) (G := G) (ρ := ρ) (x := x) s h
  | bad => exact h
theorem W.bind {C : β → Hp → Hp → Prop} (h : W X G F σ ρ (bd m k) C) : W X G F σ ρ m fun a F' H' => W X G F' σ ρ (k a) C := by
  cases m with
  | ret a => exact fun F2 H2 s2 S2 => W.up s2 h
  | exc x => exact h
  | bad => exact h
theorem W.imp (h : W X G F σ ρ m C) (w : ∀ a F' H', Same F F' → StOk X.K G F' σ H' ρ → C a F' H' → C' a F' H') : W X G F σ ρ m C' := by
  cases m with
  | ret a => exact fun F2 H2 s2 S2 => w a F2 H2 s2 S2 (h F2 H2 s2 S2)
  | exc x => exact h
  | bad => exact h
theorem W.opt {o : Option α} (h : W X G F σ ρ (oM o) C) : ∃ a, o = some a ∧ ∀ F' H', Same F F' → StOk X.K G F' σ H' ρ → C a F' H' := by
  cases o with
  | none => exact h.elim
  | some a => exact ⟨a, rfl, h⟩
end
@[irreducible] def tSem (X : Cx) (e : Expr) : TE := fun σ H Q => ∀ (pins : List (Addr × Obj)) (s : Shared), Inv X pins σ H s → wpAny (model X.prog X.w) X.A (eval e X.env) (EP X pins σ Q) X.xe s
@[irreducible] def tSemT (X : Cx) (e : Expr) : TT := fun σ H Q => ∀ (pins : List (Addr × Obj)) (s : Shared), Inv X pins σ H s → wpAny (model X.prog X.w) X.A (isTrue e X.env (eval e X.env)) (TP X pins σ Q) X.xe s
@[irreducible] def tSemW (X : Cx) (e : Expr) : TT := fun σ H Q => ∀ (whole : Sem Value) (pins : List (Addr × Obj)) (s : Shared), Inv X pins σ H s → wpAny (model X.prog X.w) X.A (isTrue e X.env whole) (TP X pins σ Q) X.xe s
@[irreducible] def tSemA (X : Cx) (es : List Expr) : TA := fun σ H Q => ∀ (pos : Pos) (pins : List (Addr × Obj)) (s : Shared), Inv X pins σ H s → wpAny (model X.prog X.w) X.A (spliced (backTo pos (starEach es X.env))) (AP X pins σ Q) X.xe s
section
variable {X : Cx} {e : Expr} {es : List Expr} {σ : L2.St} {H : Hp}
theorem pe_sem : PE X e (tSem X e) := fun pins s σ H Q I h => by unfold tSem at h; exact h pins s I
theorem pt_sem : PT X e (tSemT X e) := fun pins s σ H Q I h => by unfold tSemT at h; exact h pins s I
theorem pw_sem : PW X e (tSemW X e) := fun wh pins s σ H Q I h => by unfold tSemW at h; exact h wh pins s I
theorem pa_sem : PA X es (tSemA X es) := fun pos pins s σ H Q I h => by unfold tSemA at h; exact h pos pins s I
theorem sem {t : TE} {Q : VK} (h : PE X e t) (q : t σ H Q) : tSem X e σ H Q := by unfold tSem; exact fun pins s I => h pins s σ H Q I q
theorem semT {t : TT} {Q : Bool → Hp → Prop} (h : PT X e t) (q : t σ H Q) : tSemT X e σ H Q := by unfold tSemT; exact fun pins s I => h pins s σ H Q I q
theorem semW {t : TT} {Q : Bool → Hp → Prop} (h : PW X e t) (q : t σ H Q) : tSemW X e σ H Q := by unfold tSemW; exact fun wh pins s I => h wh pins s σ H Q I q
theorem semA {t : TA} {Q : List V → Hp → Prop} (h : PA X es t) (q : t σ H Q) : tSemA X es σ H Q := by unfold tSemA; exact fun pos pins s I => h pos pins s σ H Q I q
end
def ownL (ρ : En) (i : Nat) : Option (List D) := match ρ[i]? with
  | some (some (.ol (.l ds))) => some ds
  | some (some (.op (.l ds))) => some ds
  | _ => none
theorem ownL_own {ρ : En} {i : Nat} {ds : List D} (h : ownL ρ i = some ds) : own ρ i (.l ds) := by
  unfold ownL at h
  split at h
  · rename_i q; cases h; exact .inl q
  · rename_i q; cases h; exact .inr q
  · cases h
def VO (K : Fg) (F : Hp) (σ : L2.St) (ρ : En) (v : V) (d : D) : Prop := Rep K F v d ∨ ∃ i c, own ρ i c ∧ σ[i]? = some (some v) ∧ d = c.d
inductive VOs (K : Fg) (F : Hp) (σ : L2.St) (ρ : En) : List V → List D → Prop
  | nil : VOs K F σ ρ [] []
  | cons {v d vs ds} : VO K F σ ρ v d → VOs K F σ ρ vs ds → VOs K F σ ρ (v :: vs) (d :: ds)
theorem VO.mono {K : Fg} {F F' : Hp} {σ : L2.St} {ρ : En} {v : V} {d : D} (s : Same F F') (h : VO K F σ ρ v d) : VO K F' σ ρ v d := h.imp (Rep.mono s) id
theorem VOs.mono {K : Fg} {F F' : Hp} {σ : L2.St} {ρ : En} (s : Same F F') : ∀ {vs ds}, VOs K F σ ρ vs ds → VOs K F' σ ρ vs ds
  | _, _, .nil => .nil
  | _, _, .cons h t => .cons (h.mono s) (t.mono s)
def OR (K : Fg) (F H : Hp) (v : V) (d : D) : Prop := Rep K F v d ∨ ∃ a c, v = .ref a ∧ d = c.d ∧ Held K F H a c
inductive ORs (K : Fg) (F H : Hp) : List V → List D → Prop
  | nil : ORs K F H [] []
  | cons {v d vs ds} : OR K F H v d → ORs K F H vs ds → ORs K F H (v :: vs) (d :: ds)
theorem VO.or {K : Fg} {G : Gh} {F H : Hp} {σ : L2.St} {ρ : En} {v : V} {d : D} (S : StOk K G F σ H ρ) (h : VO K F σ ρ v d) : OR K F H v d := by
  rcases h with h | ⟨i, c, ho, hv, rfl⟩
  · exact .inl h
  · obtain ⟨a, e1, oa⟩ := S.ow i _ ho
    rw [hv] at e1
    injection e1 with e1; injection e1 with e1
    exact .inr ⟨a, c, e1, rfl, oa.he⟩
theorem VOs.ors {K : Fg} {G : Gh} {F H : Hp} {σ : L2.St} {ρ : En} (S : StOk K G F σ H ρ) : ∀ {vs ds}, VOs K F σ ρ vs ds → ORs K F H vs ds
  | _, _, .nil => .nil
  | _, _, .cons h t => .cons (h.or S) (t.ors S)
section
variable {K : Fg} {F H : Hp} {v : V} {ds : List D}
theorem OR.rep {d : D} (s : Same F H) (h : OR K F H v d) : Rep K H v d := by
  rcases h with h | ⟨a, c, rfl, rfl, h1⟩
  · exact h.mono s
  · obtain ⟨o, e, r⟩ := heldRep h1; exact r H s e
theorem OR.list (s : Same F H) (h : OR K F H v (.list ds)) : ∃ a vs, v = .ref a ∧ SqL K H a vs ∧ RepL K F vs ds := by
  rcases h with h | ⟨a, c, e, e2, h1⟩
  · cases h with
    | lst h1 h2 => exact ⟨_, _, rfl, s.seq h1, h2⟩
  · cases c <;> cases e2
    obtain ⟨vs, h1, h2⟩ := h1
    exact ⟨a, vs, e, .inl (.inl h1), h2⟩
theorem OR.tuple (s : Same F H) (h : OR K F H v (.tuple ds)) : ∃ a vs, v = .ref a ∧ SqT K H a vs ∧ RepL K F vs ds := by
  rcases h with h | ⟨a, c, e, e2, h1⟩
  · cases h with
    | tup h1 h2 => exact ⟨_, _, rfl, SqT.of (s _ _ h1), h2⟩
  · cases c <;> cases e2
theorem OR.tup' (h : OR K F H v (.tuple ds)) : Rep K F v (.tuple ds) := by
  rcases h with h | ⟨a, c, e, e2, h1⟩
  · exact h
  · cases c <;> cases e2
theorem OR.int {i : Int} (h : OR K F H v (.int i)) : v = .int i := by
  rcases h with h | ⟨a, c, e, e2, h1⟩
  · cases h; rfl
  · cases c <;> cases e2
theorem OR.str {i : Str} (h : OR K F H v (.str i)) : v = .str i := by
  rcases h with h | ⟨a, c, e, e2, h1⟩
  · cases h; rfl
  · cases c <;> cases e2
theorem ors_cons {vs : List V} {d : D} {ds : List D} (h : ORs K F H vs (d :: ds)) : ∃ v r, vs = v :: r ∧ OR K F H v d ∧ ORs K F H r ds := by
  cases h with | cons a b => exact ⟨_, _, rfl, a, b⟩
theorem ors_nil {vs : List V} (h : ORs K F H vs []) : vs = [] := by cases h; rfl
end
def AP (X : Cx) (e : Expr) (p : Pu D) : Prop :=
  ∀ (G : Gh) (F : Hp) (σ : L2.St) (H : Hp) (ρ : En) (Q : VK), StOk X.K G F σ H ρ → W X G F σ ρ (p ρ) (fun d F' H' => ∀ v, Rep X.K F' v d → Q v H') → tSem X e σ H Q
def AO (X : Cx) (e : Expr) (p : Pu D) : Prop :=
  ∀ (G : Gh) (F : Hp) (σ : L2.St) (H : Hp) (ρ : En) (Q : VK), StOk X.K G F σ H ρ → W X G F σ ρ (p ρ) (fun d F' H' => ∀ v, VO X.K F' σ ρ v d → Q v H') → tSem X e σ H Q
def AT (X : Cx) (e : Expr) (p : Pu Bool) : Prop :=
  ∀ (G : Gh) (F : Hp) (σ : L2.St) (H : Hp) (ρ : En) (Q : Bool → Hp → Prop), StOk X.K G F σ H ρ → W X G F σ ρ (p ρ) (fun d F' H' => Q d H') → tSemT X e σ H Q
def AW (X : Cx) (e : Expr) (p : Pu Bool) : Prop :=
  ∀ (G : Gh) (F : Hp) (σ : L2.St) (H : Hp) (ρ : En) (Q : Bool → Hp → Prop), StOk X.K G F σ H ρ → W X G F σ ρ (p ρ) (fun d F' H' => Q d H') → tSemW X e σ H Q
def AA {α : Type} (X : Cx) (es : List Expr) (m : (List D → M α) → En → M α) : Prop :=
  ∀ (G : Gh) (F : Hp) (σ : L2.St) (H : Hp) (ρ : En) (Q : List V → Hp → Prop) (k : List D → M α) (C : α → Hp → Hp → Prop), StOk X.K G F σ H ρ → W X G F σ ρ (m k ρ) C →
    (∀ ds vs F' H', Same F F' → StOk X.K G F' σ H' ρ → vs.length = es.length → RepL X.K F' vs ds → W X G F' σ ρ (k ds) C → Q vs H') → tSemA X es σ H Q
def AAo {α : Type} (X : Cx) (es : List Expr) (m : (List D → M α) → En → M α) : Prop :=
  ∀ (G : Gh) (F : Hp) (σ : L2.St) (H : Hp) (ρ : En) (Q : List V → Hp → Prop) (k : List D → M α) (C : α → Hp → Hp → Prop), StOk X.K G F σ H ρ → W X G F σ ρ (m k ρ) C →
    (∀ ds vs F' H', Same F F' → StOk X.K G F' σ H' ρ → VOs X.K F' σ ρ vs ds → W X G F' σ ρ (k ds) C → Q vs H') → tSemA X es σ H Q
def Frs (K : Fg) (G : Gh) (F : Hp) (σ : L2.St) (H : Hp) (ρ : En) (v : V) (c : OC) : Prop := ∃ a, v = .ref a ∧ OwnAt K G F H a c ∧ ∀ (i : Nat) (e : OC), own ρ i e → σ[i]? ≠ some (some (V.ref a))
def AL (X : Cx) (e : Expr) (p : Pu (List D)) : Prop :=
  ∀ (G : Gh) (F : Hp) (σ : L2.St) (H : Hp) (ρ : En) (Q : VK), StOk X.K G F σ H ρ → W X G F σ ρ (p ρ) (fun ds F' H' => ∀ v, Frs X.K G F' σ H' ρ v (.l ds) → Q v H') → tSem X e σ H Q
def pVar (i : Nat) : Pu D := fun ρ => match ρ[i]? with
  | some (some (.fz d)) => .ret d
  | _ => .bad
def pPeek (i : Nat) : Pu D := fun ρ => match ρ[i]? with
  | some (some (.ol c)) => .ret c.d
  | some (some (.op c)) => .ret c.d
  | _ => .bad
def pCon (d : D) : Pu D := fun _ => .ret d
def pBin (f : D → D → Option D) (a b : Pu D) : Pu D := fun ρ => bd (a ρ) fun x => bd (b ρ) fun y => oM (f x y)
def pBinB (f : D → D → Option Bool) (a b : Pu D) : Pu Bool := fun ρ => bd (a ρ) fun x => bd (b ρ) fun y => oM (f x y)
def pUn (f : D → Option D) (a : Pu D) : Pu D := fun ρ => bd (a ρ) fun x => oM (f x)
abbrev Pa (α : Type) := (List D → M α) → En → M α
def pNil {α : Type} : Pa α := fun k _ => k []
def pCons {α : Type} (a : Pu D) (r : Pa α) : Pa α := fun k ρ => bd (a ρ) fun x => r (fun xs => k (x :: xs)) ρ
def fitM {S : Type} (ds : List S) : M (List S) := if ds.length ≤ sizeLine then .ret ds else .bad
def pTup (ps : Pa D) : Pu D := fun ρ => ps (fun ds => .ret (.tuple ds)) ρ
def pLst (ps : Pa (List D)) : Pu (List D) := fun ρ => ps (fun ds => .ret ds) ρ
theorem le1000 {n : Nat} (h : n ≤ 1000) : n ≤ sizeLine := Nat.le_trans h (by decide)
def pCall (f : List D → Option D) (ps : Pa D) : Pu D := fun ρ => ps (fun ds => oM (f ds)) ρ
def pCallL (f : List D → Option (List D)) (ps : Pa (List D)) : Pu (List D) := fun ρ => ps (fun ds => oM (f ds)) ρ
def pZ (p : Pu (List D)) : Pu D := fun ρ => bd (p ρ) fun ds => .ret (.list ds)
def pOr (a b : Pu Bool) : Pu Bool := fun ρ => bd (a ρ) fun t => if t then .ret true else b ρ
def pNot (a : Pu Bool) : Pu Bool := fun ρ => bd (a ρ) fun t => .ret (!t)
def pIf {α : Type} (c : Pu Bool) (a b : Pu α) : Pu α := fun ρ => bd (c ρ) fun t => if t then a ρ else b ρ
def OpD (K : Fg) (r : R2) (f : D → D → Option D) : Prop :=
  ∀ (G : Gh) (F : Hp) (σ : L2.St) (H : Hp) (ρ : En) (x y : V) (dx dy : D) (res : D) (Q : VK), StOk K G F σ H ρ → OR K F H x dx → OR K F H y dy → f dx dy = some res →
    (∀ v F' H', Same F F' → StOk K G F' σ H' ρ → Rep K F' v res → Q v H') → r x y H Q
def OpB (K : Fg) (r : R2) (f : D → D → Option Bool) : Prop :=
  ∀ (G : Gh) (F : Hp) (σ : L2.St) (H : Hp) (ρ : En) (x y : V) (dx dy : D) (res : Bool) (Q : VK), StOk K G F σ H ρ → OR K F H x dx → OR K F H y dy → f dx dy = some res → Q (.bl res) H → r x y H Q
def UnD (K : Fg) (r : V → Hp → VK → Prop) (f : D → Option D) : Prop :=
  ∀ (G : Gh) (F : Hp) (σ : L2.St) (H : Hp) (ρ : En) (x : V) (dx : D) (res : D) (Q : VK), StOk K G F σ H ρ → OR K F H x dx → f dx = some res →
    (∀ v F' H', Same F F' → StOk K G F' σ H' ρ → Rep K F' v res → Q v H') → r x H Q
def CallD (K : Fg) (r : List V → Hp → VK → Prop) (f : List D → Option D) : Prop :=
  ∀ (G : Gh) (F : Hp) (σ : L2.St) (H : Hp) (ρ : En) (xs : List V) (ds : List D) (res : D) (Q : VK), StOk K G F σ H ρ → ORs K F H xs ds → f ds = some res →
    (∀ v F' H', Same F F' → StOk K G F' σ H' ρ → Rep K F' v res → Q v H') → r xs H Q
def CallL (K : Fg) (r : List V → Hp → VK → Prop) (f : List D → Option (List D)) : Prop :=
  ∀ (G : Gh) (F : Hp) (σ : L2.St) (H : Hp) (ρ : En) (xs : List V) (ds : List D) (res : List D) (Q : VK), StOk K G F σ H ρ → ORs K F H xs ds → f ds = some res →
    (∀ v F' H', Same F F' → StOk K G F' σ H' ρ → Frs K G F' σ H' ρ v (.l res) → Q v H') → r xs H Q
section
variable {X : Cx} {e a b c : Expr} {es rest : List Expr} {p pa pb : Pu D} {ta tb tc : Pu Bool} {ps : Pa D} {pb' : Pa Bool} {pl : Pa (List D)} {α : Type} {pα : Pa α} {qs : Pu (List D)} {pos : Pos}
theorem ap_var {i : Nat} {x : Str} (hN : X.N[i]? = some x) (hv : Vis X.env.scope x) (hd : (x == ("__debug__" : Str)) = false := by decide) (hcd : (x == ("__classdict__" : Str)) = false := by decide) : AP X (.Name x pos) (pVar i) :=
  fun G F σ H ρ Q S w => sem (pe_var hN hv hd hcd) <| by
    unfold pVar at w
    split at w
    · rename_i d q
      obtain ⟨v, e1, r1⟩ := S.fz i d q
      exact ⟨v, e1, w F H (Same.refl _) S v r1⟩
    · exact w.elim
theorem ao_peek {i : Nat} {x : Str} (hN : X.N[i]? = some x) (hv : Vis X.env.scope x) (hd : (x == ("__debug__" : Str)) = false := by decide) (hcd : (x == ("__classdict__" : Str)) = false := by decide) : AO X (.Name x pos) (pPeek i) :=
  fun G F σ H ρ Q S w => sem (pe_var hN hv hd hcd) <| by
    have go : ∀ c : OC, own ρ i c → W X G F σ ρ (.ret c.d) (fun d F' H' => ∀ v, VO X.K F' σ ρ v d → Q v H') → tVar i σ H Q := fun ds ho w => by
      obtain ⟨a, e1, oa⟩ := S.ow i _ ho
      exact ⟨_, e1, w F H (Same.refl _) S _ (.inr ⟨i, ds, ho, e1, rfl⟩)⟩
    unfold pPeek at w
    split at w
    · rename_i ds q; exact go ds (.inl q) w
    · rename_i ds q; exact go ds (.inr q) w
    · exact w.elim
theorem ao (h : AP X e p) : AO X e p := fun G F σ H ρ Q S w => h G F σ H ρ Q S (w.imp fun d F' H' _ _ q v r => q v (.inl r))
theorem ap_con {v : V} {d : D} (h : PE X e (tC v)) (r : ∀ F, Rep X.K F v d) : AP X e (pCon d) :=
  fun G F σ H ρ Q S w => sem h (w F H (Same.refl _) S v (r F))
theorem ap_int {i j} : AP X (.Constant (.int i) j pos) (pCon (.int i)) := ap_con pe_int fun _ => .int _
theorem ap_bl {i j} : AP X (.Constant (.bool i) j pos) (pCon (.bool i)) := ap_con pe_bl fun _ => .bl _
theorem ap_str {i j} : AP X (.Constant (.str i) j pos) (pCon (.str i)) := ap_con pe_str fun _ => .str _
theorem ap_non {j} : AP X (.Constant .none j pos) (pCon .none) := ap_con pe_non fun _ => .non
theorem bin_go {r : R2} {Q : VK} {G : Gh} {F H : Hp} {σ : L2.St} {ρ : En} {α : Type} {f : D → D → M α} {C : α → Hp → Hp → Prop} (ha : AO X a pa) (hb : AO X b pb) (S : StOk X.K G F σ H ρ) (w : W X G F σ ρ (bd (pa ρ) fun x => bd (pb ρ) fun y => f x y) C)
    (k : ∀ x y dx dy F' H', Same F F' → StOk X.K G F' σ H' ρ → OR X.K F' H' x dx → OR X.K F' H' y dy → W X G F' σ ρ (f dx dy) C → r x y H' Q) : tOp r (tSem X a) (tSem X b) σ H Q :=
  ha G F σ H ρ _ S (w.bind.imp fun dx F1 H1 s1 S1 w1 x hx => hb G F1 σ H1 ρ _ S1 (w1.bind.imp fun dy F2 H2 s2 S2 w2 y hy => k x y dx dy F2 H2 (s1.trans s2) S2 ((hx.mono s2).or S2) (hy.or S2) w2))
theorem ap_bin {op : Operator} {r : R2} {f : D → D → Option D} (ho : OpR X (binaryOp op) r) (hf : OpD X.K r f) (ha : AO X a pa) (hb : AO X b pb) : AP X (.BinOp a op b pos) (pBin f pa pb) :=
  fun G F σ H ρ Q S w => sem (pe_op ho pe_sem pe_sem) (bin_go ha hb S w fun x y dx dy F' H' s' S' hx hy w' => by
    obtain ⟨res, e, k⟩ := w'.opt
    exact hf G F' σ H' ρ x y dx dy res Q S' hx hy e fun v F2 H2 s2 S2 r2 => k F2 H2 s2 S2 v r2)
theorem ap_ix {r : R2} {f : D → D → Option D} (hr : IxR X r) (hf : OpD X.K r f) (ha : AO X a pa) (hb : AO X b pb) (hs : PlainIx b) : AP X (.Subscript a b pos) (pBin f pa pb) :=
  fun G F σ H ρ Q S w => sem (pe_ix hr pe_sem pe_sem hs) (bin_go ha hb S w fun x y dx dy F' H' s' S' hx hy w' => by
    obtain ⟨res, e, k⟩ := w'.opt
    exact hf G F' σ H' ρ x y dx dy res Q S' hx hy e fun v F2 H2 s2 S2 r2 => k F2 H2 s2 S2 v r2)
theorem at_cmp {op : CmpOp} {r : R2} {f : D → D → Option Bool} (ho : OpR X (compareOp op) r) (hf : OpB X.K r f) (ha : AO X a pa) (hb : AO X b pb) (hm : behindInMarks op b = false) : AT X (.Compare a [op] [b] pos) (pBinB f pa pb) :=
  fun G F σ H ρ Q S w => semT (pt_cmpR ho pe_sem pe_sem hm) (bin_go (Q := fun x H' => ∃ k, x = .bl k ∧ Q k H') ha hb S w fun x y dx dy F' H' s' S' hx hy w' => by
    obtain ⟨res, e, k⟩ := w'.opt
    exact hf G F' σ H' ρ x y dx dy res _ S' hx hy e ⟨res, rfl, k F' H' (Same.refl _) S'⟩)
theorem ap_un {op : UnaryOp} {r : V → Hp → VK → Prop} {f : D → Option D} (ho : UnR X (unaryOp op) r) (hf : UnD X.K r f) (ha : AO X a pa) : AP X (.UnaryOp op a pos) (pUn f pa) :=
  fun G F σ H ρ Q S w => sem (pe_un ho pe_sem) (ha G F σ H ρ _ S (w.bind.imp fun dx F1 H1 s1 S1 w1 x hx => by
    obtain ⟨res, e, k⟩ := w1.opt
    exact hf G F1 σ H1 ρ x dx res Q S1 (hx.or S1) e fun v F2 H2 s2 S2 r2 => k F2 H2 s2 S2 v r2))
theorem ap_z (h : AL X e qs) : AP X e (pZ qs) := fun G F σ H ρ Q S w => h G F σ H ρ Q S (w.bind.imp fun ds F' H' s1 S1 w1 v fr => by
  obtain ⟨F2, s2, S2, r2⟩ := S1.settle (v := v) (ds := ds) fr
  exact w1 F2 H' s2 S2 v r2)
theorem aa_nil : AA (α := α) X [] pNil := fun G F σ H ρ Q k C S w kk => semA pa_nil (kk [] [] F H (Same.refl _) S rfl .nil w)
theorem aa_cons (h : AP X e p) (hr : AA X es pα) (hs : starEach (e :: es) X.env = (false, eval e X.env) :: starEach es X.env) : AA X (e :: es) (pCons p pα) :=
  fun G F σ H ρ Q k C S w kk => semA (pa_cons pe_sem pa_sem hs) (h G F σ H ρ _ S (w.bind.imp fun d F1 H1 s1 S1 w1 v r1 =>
    hr G F1 σ H1 ρ _ _ C S1 w1 fun ds vs F2 H2 s2 S2 hl r2 w2 => kk (d :: ds) (v :: vs) F2 H2 (s1.trans s2) S2 (by simp [hl]) (.cons (r1.mono s2) r2) w2))
theorem aao_nil : AAo (α := α) X [] pNil := fun G F σ H ρ Q k C S w kk => semA pa_nil (kk [] [] F H (Same.refl _) S .nil w)
theorem aao_cons (h : AO X e p) (hr : AAo X es pα) (hs : starEach (e :: es) X.env = (false, eval e X.env) :: starEach es X.env) : AAo X (e :: es) (pCons p pα) :=
  fun G F σ H ρ Q k C S w kk => semA (pa_cons pe_sem pa_sem hs) (h G F σ H ρ _ S (w.bind.imp fun d F1 H1 s1 S1 w1 v r1 =>
    hr G F1 σ H1 ρ _ _ C S1 w1 fun ds vs F2 H2 s2 S2 r2 w2 => kk (d :: ds) (v :: vs) F2 H2 (s1.trans s2) S2 (.cons (r1.mono s2) r2) w2))
theorem W.fit {α : Type} {G : Gh} {F : Hp} {σ : L2.St} {ρ : En} {ds : List α} {C : List α → Hp → Hp → Prop} (h : W X G F σ ρ (fitM ds) C) : ds.length ≤ sizeLine ∧ ∀ F' H', Same F F' → StOk X.K G F' σ H' ρ → C ds F' H' := by
  unfold fitM at h
  split at h
  · exact ⟨by assumption, h⟩
  · exact h.elim
theorem ap_tup {x1} (h : AA X es ps) (hz : es.length ≤ 1000) : AP X (.Tuple es x1 pos) (pTup ps) :=
  fun G F σ H ρ Q S w => sem (pe_tup pa_sem) (h G F σ H ρ _ _ _ S w fun ds vs F1 H1 s1 S1 hl r1 w1 => by
    refine ⟨by rw [hl]; exact le1000 hz, fun q hq => ?_⟩
    obtain ⟨s2, S2, r2⟩ := S1.newTup hq r1
    exact w1 _ _ s2 S2 _ r2)
theorem al_lst (h : AA X es pl) (hz : es.length ≤ 1000) : AL X (.List es pos) (pLst pl) :=
  fun G F σ H ρ Q S w => sem (pe_lst pa_sem) (h G F σ H ρ _ _ _ S w fun ds vs F1 H1 s1 S1 hl r1 w1 => by
    refine ⟨by rw [hl]; exact le1000 hz, fun q hq => ?_⟩
    obtain ⟨S2, r2⟩ := S1.newLst hq r1
    exact w1 _ _ (Same.refl _) S2 _ r2)
theorem call_go {r : List V → Hp → VK → Prop} {Q : VK} {G : Gh} {F H : Hp} {σ : L2.St} {ρ : En} {f : List D → M α} {C : α → Hp → Hp → Prop} (ha : AAo X es pα) (S : StOk X.K G F σ H ρ) (w : W X G F σ ρ (pα f ρ) C)
    (k : ∀ xs ds F' H', Same F F' → StOk X.K G F' σ H' ρ → ORs X.K F' H' xs ds → W X G F' σ ρ (f ds) C → r xs H' Q) : tCB r (tSemA X es) σ H Q :=
  ha G F σ H ρ _ _ C S w fun ds xs F1 H1 s1 S1 hx w1 => k xs ds F1 H1 s1 S1 (hx.ors S1) w1
theorem ap_callB {x : Str} {p : Pos} {id : String} {r : List V → Hp → VK → Prop} {f : List D → Option D} (hc : CallR X (.builtin id) r) (hf : CallD X.K r f) (hg : Gl X x) (hm : X.mg x = none) (hv : bootBuiltins x = some (.builtin id)) (ha : AAo X (e :: es) ps)
    (hn : x ≠ "__name__") (hdb : (x == ("__debug__" : Str)) = false) (he : starEach (e :: es) X.env = (false, eval e X.env) :: starEach es X.env) (hpl : (backTo pos (starEach es X.env)).any (·.1) = false) : AP X (.Call (.Name x p) (e :: es) [] pos) (pCall f ps) :=
  fun G F σ H ρ Q S w => sem (pe_callB hc hg hm hv pa_sem hn hdb he hpl) (call_go ha S w fun xs ds F' H' s' S' hx w' => by
    obtain ⟨res, e, k⟩ := w'.opt
    exact hf G F' σ H' ρ xs ds res Q S' hx e fun v F2 H2 s2 S2 r2 => k F2 H2 s2 S2 v r2)
theorem ap_callTy {x : Str} {p : Pos} {T : String} {r : List V → Hp → VK → Prop} {f : List D → Option D} (hc : CallR X (.type T) r) (hf : CallD X.K r f) (hg : Gl X x) (hm : X.mg x = none) (hv : bootBuiltins x = some (.type T)) (ha : AAo X (e :: es) ps)
    (hn : x ≠ "__name__") (hdb : (x == ("__debug__" : Str)) = false) (he : starEach (e :: es) X.env = (false, eval e X.env) :: starEach es X.env) (hpl : (backTo pos (starEach es X.env)).any (·.1) = false) : AP X (.Call (.Name x p) (e :: es) [] pos) (pCall f ps) :=
  fun G F σ H ρ Q S w => sem (pe_callTy hc hg hm hv pa_sem hn hdb he hpl) (call_go ha S w fun xs ds F' H' s' S' hx w' => by
    obtain ⟨res, e, k⟩ := w'.opt
    exact hf G F' σ H' ρ xs ds res Q S' hx e fun v F2 H2 s2 S2 r2 => k F2 H2 s2 S2 v r2)
theorem al_callTy {x : Str} {p : Pos} {T : String} {r : List V → Hp → VK → Prop} {f : List D → Option (List D)} (hc : CallR X (.type T) r) (hf : CallL X.K r f) (hg : Gl X x) (hm : X.mg x = none) (hv : bootBuiltins x = some (.type T)) (ha : AAo X (e :: es) pl)
    (hn : x ≠ "__name__") (hdb : (x == ("__debug__" : Str)) = false) (he : starEach (e :: es) X.env = (false, eval e X.env) :: starEach es X.env) (hpl : (backTo pos (starEach es X.env)).any (·.1) = false) : AL X (.Call (.Name x p) (e :: es) [] pos) (pCallL f pl) :=
  fun G F σ H ρ Q S w => sem (pe_callTy hc hg hm hv pa_sem hn hdb he hpl) (call_go ha S w fun xs ds F' H' s' S' hx w' => by
    obtain ⟨res, e, k⟩ := w'.opt
    exact hf G F' σ H' ρ xs ds res Q S' hx e fun v F2 H2 s2 S2 r2 => k F2 H2 s2 S2 v r2)
theorem aw_or1 (ha : AT X a ta) : AW X (.BoolOp .Or [a] pos) ta := fun G F σ H ρ Q S w => semW (pw_or1 pt_sem) (ha G F σ H ρ Q S w)
theorem aw_or (ha : AT X a ta) (hb : AW X (.BoolOp .Or (b :: rest) pos) tb) : AW X (.BoolOp .Or (a :: b :: rest) pos) (pOr ta tb) :=
  fun G F σ H ρ Q S w => semW (pw_or pt_sem pw_sem) (ha G F σ H ρ _ S (w.bind.imp fun t F1 H1 s1 S1 w1 => by
    cases t with
    | true => refine iteT ?_; exact w1 F1 H1 (Same.refl _) S1
    | false => refine iteF ?_; exact hb G F1 σ H1 ρ Q S1 w1))
theorem at_aw (h : AW X e ta) : AT X e ta := fun G F σ H ρ Q S w => semT (fun pins s σ H Q I h => pw_sem _ pins s σ H Q I h) (h G F σ H ρ Q S w)
theorem at_not (ha : AT X a ta) : AT X (.UnaryOp .Not a pos) (pNot ta) :=
  fun G F σ H ρ Q S w => semT (pt_not pt_sem) (ha G F σ H ρ _ S (w.bind.imp fun t F1 H1 s1 S1 w1 => w1 F1 H1 (Same.refl _) S1))
theorem ap_if (hc : AT X c tc) (ha : AP X a pa) (hb : AP X b pb) : AP X (.IfExp c a b pos) (pIf tc pa pb) :=
  fun G F σ H ρ Q S w => sem (pe_ifExp pt_sem pe_sem pe_sem) (hc G F σ H ρ _ S (w.bind.imp fun t F1 H1 s1 S1 w1 => by
    cases t with
    | true => refine iteT ?_; exact ha G F1 σ H1 ρ Q S1 w1
    | false => refine iteF ?_; exact hb G F1 σ H1 ρ Q S1 w1))
end
end L4
set_option Elab.async false
set_option linter.all false
set_option maxRecDepth 100000
namespace L4
open PySem PySem.Spec PyProof.Rows L2 L3
def mulOk (i j : Int) : Bool := (decide (-(2 ^ 64) < i) && decide (i < 2 ^ 64)) || (decide (-(2 ^ 64) < j) && decide (j < 2 ^ 64))
def opAdd : D → D → Option D
  | .int i, .int j => some (.int (i + j))
  | .str a, .str b => if a.length + b.length ≤ sizeLine then some (.str (a ++ b)) else none
  | .tuple a, .tuple b => if a.length + b.length ≤ sizeLine then some (.tuple (a ++ b)) else none
  | .list a, .list b => if a.length + b.length ≤ sizeLine then some (.list (a ++ b)) else none
  | _, _ => none
def opSub : D → D → Option D
  | .int i, .int j => some (.int (i - j))
  | _, _ => none
def opMulI : D → D → Option D
  | .int i, .int j => if mulOk i j then some (.int (i * j)) else none
  | _, _ => none
def opMulL : D → D → Option (List D)
  | .list a, .int k => if decide (-(2 ^ 63) ≤ k) && decide (k < 2 ^ 63) && decide (a.length * k.toNat ≤ sizeLine) then some (List.replicate k.toNat a).flatten else none
  | _, _ => none
def opDiv : D → D → Option D
  | .int i, .int j => if decide (0 < j) && decide (j < 1073741824) then some (.int (i / j)) else none
  | _, _ => none
def opMod : D → D → Option D
  | .int i, .int j => if 0 < j then some (.int (i % j)) else none
  | _, _ => none
def opPow : D → D → Option D
  | .int i, .int j => if decide (0 ≤ j) && decide (j ≤ 1000000) && decide (i.natAbs < 2 ^ 64) then some (.int (i ^ j.toNat)) else none
  | _, _ => none
def opNeg : D → Option D
  | .int i => some (.int (-i))
  | _ => none
def opLt : D → D → Option Bool
  | .int i, .int j => some (decide (i < j))
  | _, _ => none
def opLe : D → D → Option Bool
  | .int i, .int j => some (decide (i ≤ j))
  | _, _ => none
def opGt : D → D → Option Bool
  | .int i, .int j => some (decide (j < i))
  | _, _ => none
def opGe : D → D → Option Bool
  | .int i, .int j => some (decide (j ≤ i))
  | _, _ => none
def rCat0 (K : Fg) : R2 := fun x y H Q => ∃ a b xs ys, x = .ref a ∧ y = .ref b ∧ SqT K H a xs ∧ SqT K H b ys ∧ xs.length + ys.length ≤ sizeLine ∧
  (xs = [] → Q (.ref b) H) ∧ (xs ≠ [] → ys = [] → Q (.ref a) H) ∧ (xs ≠ [] → ys ≠ [] → ∀ p, H p = none → Q (.ref p) (upd H p (.tup (xs ++ ys))))
theorem op_cat0 {X : Cx} : OpR X (binaryOp .Add) (rCat0 X.K) := by
  intro pins s σ H x y v u Q I rx ry h
  obtain ⟨a, b, xs, ys, rfl, rfl, ha, hb, hz, q0, q1, q2⟩ := h
  by_cases hx : xs = []
  · cases rx
    cases ry
    obtain ⟨its, r1, p1, _⟩ := I.tuple ha
    obtain ⟨its2, r2, p2, _⟩ := I.tuple hb
    have hv : its = [] := r1.nil_iff.mpr hx
    obtain ⟨⟨cls, dd, data, sl⟩, ho, hc, n, hd⟩ := id p1
    obtain ⟨⟨cls2, dd2, data2, sl2⟩, ho2, hc2, n2, hd2⟩ := id p2
    simp only at hc hd hc2 hd2
    subst hc hd hc2 hd2
    exact concat_meets ⟨_, ho, rfl⟩ ⟨_, ho2, rfl⟩ noFill_tuple_add seq_tuple_add PySem.F.slot_tuple_add PySem.F.entry_tuple_add (PySem.F.args_tuple_add_2 _ _)
      (tuple_addW0 a b its.toArray its2.toArray n n2 dd dd2 sl sl2 (by simp [hv])) ⟨ho, ho2, ⟨.ref b, H, I, rfl, q0 hx⟩⟩
  · exact op_catT pins s σ H _ _ v u Q I rx ry ⟨a, b, xs, ys, rfl, rfl, ha, hb, hx, hz, q1 hx, q2 hx⟩
section
variable {K : Fg} {X : Cx}
theorem okI {C : Int → Int → Prop} {g : Int → Int → V} {f : D → D → Option D} (h : ∀ dx dy res, f dx dy = some res → ∃ i j, dx = .int i ∧ dy = .int j ∧ C i j ∧ ∀ K F, Rep K F (g i j) res) : OpD K (rI C g) f := by
  intro G F σ H ρ x y dx dy res Q S ox oy e k
  obtain ⟨i, j, rfl, rfl, hc, hr⟩ := h dx dy res e
  exact ⟨i, j, ox.int, oy.int, hc, k _ F H (Same.refl _) S (hr K F)⟩
theorem okB {g : Int → Int → Bool} {f : D → D → Option Bool} (h : ∀ dx dy res, f dx dy = some res → ∃ i j, dx = .int i ∧ dy = .int j ∧ res = g i j) : OpB K (rI0 fun i j => .bl (g i j)) f := by
  intro G F σ H ρ x y dx dy res Q S ox oy e k
  obtain ⟨i, j, rfl, rfl, rfl⟩ := h dx dy res e
  exact ⟨i, j, ox.int, oy.int, k⟩
theorem ok_lt : OpB K (rI0 fun i j => .bl (decide (i < j))) opLt := okB fun dx dy res e => by
  cases dx <;> cases dy <;> cases e
  exact ⟨_, _, rfl, rfl, rfl⟩
theorem ok_le : OpB K (rI0 fun i j => .bl (decide (i ≤ j))) opLe := okB fun dx dy res e => by
  cases dx <;> cases dy <;> cases e
  exact ⟨_, _, rfl, rfl, rfl⟩
theorem ok_gt : OpB K (rI0 fun i j => .bl (decide (j < i))) opGt := okB fun dx dy res e => by
  cases dx <;> cases dy <;> cases e
  exact ⟨_, _, rfl, rfl, rfl⟩
theorem ok_ge : OpB K (rI0 fun i j => .bl (decide (j ≤ i))) opGe := okB fun dx dy res e => by
  cases dx <;> cases dy <;> cases e
  exact ⟨_, _, rfl, rfl, rfl⟩
theorem ok_div : OpD K (rI CDiv fun i j => .int (i / j)) opDiv := okI fun dx dy res e => by
  cases dx <;> cases dy <;> try (cases e)
  rename_i i j
  dsimp only [opDiv] at e
  split at e
  · rename_i hc
    cases e
    simp only [Bool.and_eq_true, decide_eq_true_eq] at hc
    exact ⟨i, j, rfl, rfl, hc, fun _ _ => .int _⟩
  · cases e
theorem ok_mod : OpD K (rI (fun _ j => 0 < j) fun i j => .int (i % j)) opMod := okI fun dx dy res e => by
  cases dx <;> cases dy <;> try (cases e)
  rename_i i j
  dsimp only [opMod] at e
  split at e
  · rename_i hc
    cases e
    exact ⟨i, j, rfl, rfl, hc, fun _ _ => .int _⟩
  · cases e
theorem ok_pow : OpD K (rI CPow fun i j => .int (i ^ j.toNat)) opPow := okI fun dx dy res e => by
  cases dx <;> cases dy <;> try (cases e)
  rename_i i j
  dsimp only [opPow] at e
  split at e
  · rename_i hc
    cases e
    simp only [Bool.and_eq_true, decide_eq_true_eq] at hc
    exact ⟨i, j, rfl, rfl, ⟨hc.1.1, hc.1.2, hc.2⟩, fun _ _ => .int _⟩
  · cases e
theorem ok_neg : UnD K (rU fun i => .int (-i)) opNeg := by
  intro G F σ H ρ x dx res Q S ox e k
  cases dx <;> cases e
  exact ⟨_, ox.int, k _ F H (Same.refl _) S (.int _)⟩
theorem repL_nil_iff {F : Hp} {vs : List V} {ds : List D} (r : RepL K F vs ds) : vs = [] ↔ ds = [] := by cases r <;> simp
def rCatL (K : Fg) : R2 := fun x y H Q => ∃ l b xs zs, x = .ref l ∧ y = .ref b ∧ SqL K H l xs ∧ SqL K H b zs ∧ xs.length + zs.length ≤ sizeLine ∧ ∀ p, H p = none → Q (.ref p) (upd H p (.lst (xs ++ zs)))
theorem op_catL : OpR X (binaryOp .Add) (rCatL X.K) := by
  intro pins s σ H x y v u Q I rx ry h
  obtain ⟨l, b, xs, zs, rfl, rfl, hH, hB, hz, q⟩ := h
  cases rx
  cases ry
  obtain ⟨its, r, pl, _⟩ := I.list hH
  obtain ⟨its2, r2, pl2, _⟩ := I.list hB
  obtain ⟨⟨cls, dd, data, sl⟩, ho, hc, n, hd⟩ := id pl.isList
  obtain ⟨⟨cls2, dd2, data2, sl2⟩, ho2, hc2, n2, hd2⟩ := id pl2.isList
  simp only at hc hd hc2 hd2
  subst hc hd hc2 hd2
  have e : its.toArray ++ its2.toArray = (its ++ its2).toArray := by simp
  refine concat_meets ⟨_, ho, rfl⟩ ⟨_, ho2, rfl⟩ noFill_list_add seq_list_add PySem.F.slot_list_add PySem.F.entry_list_add (PySem.F.args_list_add_2 _ _) (list_addW l b its.toArray its2.toArray n n2 dd dd2 sl sl2 (by rw [List.size_toArray, List.size_toArray, ← r.length, ← r2.length]; exact hz)) ⟨ho, ho2, ?_⟩
  rw [e]
  exact ⟨.ref _, _, I.laid (t' := s.toks) (o := .lst (xs ++ zs)) (fun b ob q => Heap.get?_push_of_some _ q) (Nat.le_refl _) ⟨by rw [List.length_append]; exact hz, _, 0, r.append r2, Heap.get?_push_size _ rfl⟩, rfl, q _ (I.hok.fresh (Nat.le_refl _))⟩
def rStr2 : R2 := fun x y H Q => ∃ i j, x = .str i ∧ y = .str j ∧ i.length + j.length ≤ sizeLine ∧ Q (.str (i ++ j)) H
def rAdd0 (K : Fg) : R2 := fun x y H Q => rI0 (fun i j => .int (i + j)) x y H Q ∨ (rStr2 x y H Q ∨ (rCat0 K x y H Q ∨ rCatL K x y H Q))
theorem op_addA : OpR X (binaryOp .Add) (rAdd0 X.K) := op_add.or (OpR.or op_add_str (op_cat0.or op_catL))
theorem ok_add : OpD K (rAdd0 K) opAdd := by
  intro G F σ H ρ x y dx dy res Q S ox oy e k
  cases dx <;> cases dy <;> try (cases e)
  · exact .inl ⟨_, _, ox.int, oy.int, k _ F H (Same.refl _) S (.int _)⟩
  · dsimp only [opAdd] at e
    split at e
    · rename_i hz
      cases e
      exact .inr (.inl ⟨_, _, ox.str, oy.str, hz, k _ F H (Same.refl _) S (.str _)⟩)
    · cases e
  · dsimp only [opAdd] at e
    split at e
    · rename_i hz
      cases e
      obtain ⟨a, vs, rfl, h1, h2⟩ := ox.list S.fh
      obtain ⟨b, us, rfl, g1, g2⟩ := oy.list S.fh
      refine .inr (.inr (.inr ⟨a, b, vs, us, rfl, rfl, h1, g1, by rw [h2.length, g2.length]; exact hz, fun p hp => ?_⟩))
      obtain ⟨S2, r2⟩ := S.newLst hp (h2.append g2)
      obtain ⟨F2, s3, S3, r3⟩ := S2.settle r2
      exact k _ F2 _ s3 S3 r3
    · cases e
  · dsimp only [opAdd] at e
    split at e
    · rename_i hz
      cases e
      obtain ⟨a, vs, rfl, h1, h2⟩ := ox.tuple S.fh
      obtain ⟨b, us, rfl, g1, g2⟩ := oy.tuple S.fh
      refine .inr (.inr (.inl ⟨a, b, vs, us, rfl, rfl, h1, g1, by rw [h2.length, g2.length]; exact hz, fun z => ?_, fun _ z => ?_, fun _ _ p hp => ?_⟩))
      · have z' := (repL_nil_iff h2).mp z
        subst z'
        exact k _ F H (Same.refl _) S oy.tup'
      · have z' := (repL_nil_iff g2).mp z
        subst z'
        exact k _ F H (Same.refl _) S (by rw [List.append_nil]; exact ox.tup')
      · obtain ⟨s2, S2, r2⟩ := S.newTup hp (h2.append g2)
        exact k _ _ _ s2 S2 r2
    · cases e
theorem RepL.rep {F : Hp} {vs : List V} {ds : List D} (h : RepL K F vs ds) : ∀ k : Nat, RepL K F (List.replicate k vs).flatten (List.replicate k ds).flatten
  | 0 => .nil
  | k + 1 => by rw [List.replicate_succ, List.replicate_succ, List.flatten_cons, List.flatten_cons]; exact h.append (RepL.rep h k)
theorem ok_mul : OpD K (rI CMul fun i j => .int (i * j)) opMulI := okI fun dx dy res e => by
  cases dx <;> cases dy <;> try (cases e)
  rename_i i j
  dsimp only [opMulI] at e
  split at e
  · rename_i hc
    cases e
    unfold mulOk at hc
    simp only [Bool.or_eq_true, Bool.and_eq_true, decide_eq_true_eq] at hc
    exact ⟨i, j, rfl, rfl, hc, fun _ _ => .int _⟩
  · cases e
end
def eqOk (d e : D) : Bool := d.canLay0 && e.canLay0 && decide (d.depth ≤ 1000)
def opEq (d e : D) : Option Bool := if eqOk d e then some (PyData.eqv d e) else none
def opNe (d e : D) : Option Bool := if eqOk d e then some (!PyData.eqv d e) else none
def inOk (d : D) (xs : List D) : Bool := PyData.canLayAll0 xs && d.canLay0 && decide (d.depth ≤ 1000)
def inStr (i j : Str) : Bool := !(Builtin.Str.occurrences j i 0 j.length 1).isEmpty
def opIn (d c : D) : Option Bool := match c with
  | .list xs => if inOk d xs then some (xs.any fun y => PyData.eqv y d) else none
  | .tuple xs => if inOk d xs then some (xs.any fun y => PyData.eqv y d) else none
  | .str j => match d with
    | .str i => some (inStr i j)
    | _ => none
  | _ => none
def opNotIn (d c : D) : Option Bool := match c with
  | .list xs => if inOk d xs then some (!xs.any fun y => PyData.eqv y d) else none
  | .tuple xs => if inOk d xs then some (!xs.any fun y => PyData.eqv y d) else none
  | .str j => match d with
    | .str i => some (!inStr i j)
    | _ => none
  | _ => none
def isNone : D → Bool
  | .none => true
  | _ => false
def rD2 (K : Fg) (f : D → D → Option Bool) : R2 := fun x y H Q => ∃ d e b, Rep K H x d ∧ Rep K H y e ∧ f d e = some b ∧ Q (.bl b) H
theorem ok_D2 {K : Fg} {f : D → D → Option Bool} : OpB K (rD2 K f) f := by
  intro G F σ H ρ x y dx dy res Q S ox oy e k
  exact ⟨dx, dy, res, ox.rep S.fh, oy.rep S.fh, e, k⟩
section
variable {X : Cx}
theorem opr_eq (hu : X.A.units + 1100 < cLine) : OpR X (compareOp .Eq) (rD2 X.K opEq) := by
  intro pins s σ H x y v u Q I rx ry ⟨d, e, b, r1, r2, ho, q⟩
  obtain ⟨as, ra⟩ := (reads_of I).1 r1 rx
  obtain ⟨bs, rb⟩ := (reads_of I).1 r2 ry
  unfold opEq at ho
  split at ho
  case isFalse => cases ho
  rename_i hc
  cases ho
  simp only [eqOk, Bool.and_eq_true, decide_eq_true_eq] at hc
  exact SeqAt.compareEq_reads ra rb hc.1.1 hc.1.2 (by have := Nat.min_le_left d.depth e.depth; omega) ⟨.bl _, H, I, rfl, q⟩
theorem opr_ne (hu : X.A.units + 1100 < cLine) : OpR X (compareOp .NotEq) (rD2 X.K opNe) := by
  intro pins s σ H x y v u Q I rx ry ⟨d, e, b, r1, r2, ho, q⟩
  obtain ⟨as, ra⟩ := (reads_of I).1 r1 rx
  obtain ⟨bs, rb⟩ := (reads_of I).1 r2 ry
  unfold opNe at ho
  split at ho
  case isFalse => cases ho
  rename_i hc
  cases ho
  simp only [eqOk, Bool.and_eq_true, decide_eq_true_eq] at hc
  exact SeqAt.compareNe_reads ra rb hc.1.1 hc.1.2 (by have := Nat.min_le_left d.depth e.depth; omega) ⟨.bl _, H, I, rfl, q⟩
theorem opr_in (hu : X.A.units + 1100 < cLine) : OpR X (compareOp .In) (rD2 X.K opIn) := by
  intro pins s σ H x y v u Q I rx ry ⟨d, e, b, r1, r2, ho, q⟩
  obtain ⟨as, ra⟩ := (reads_of I).1 r1 rx
  obtain ⟨bs, rb⟩ := (reads_of I).1 r2 ry
  unfold opIn at ho
  split at ho
  · rename_i xs
    split at ho
    case isFalse => cases ho
    rename_i hc
    cases ho
    simp only [inOk, Bool.and_eq_true, decide_eq_true_eq] at hc
    exact SeqAt.in_list_reads rb ra hc.1.1 hc.1.2 (by have := Nat.min_le_right (PyData.depthAll xs) d.depth; omega) ⟨.bl _, H, I, rfl, q⟩
  · rename_i xs
    split at ho
    case isFalse => cases ho
    rename_i hc
    cases ho
    simp only [inOk, Bool.and_eq_true, decide_eq_true_eq] at hc
    exact SeqAt.in_tuple_reads rb ra hc.1.1 hc.1.2 (by have := Nat.min_le_right (PyData.depthAll xs) d.depth; omega) ⟨.bl _, H, I, rfl, q⟩
  · split at ho
    · cases ho
      cases r1
      cases r2
      exact op_in_str pins s σ H _ _ v u Q I rx ry ⟨_, _, rfl, rfl, q⟩
    · cases ho
  · cases ho
theorem opr_notIn (hu : X.A.units + 1100 < cLine) : OpR X (compareOp .NotIn) (rD2 X.K opNotIn) := by
  intro pins s σ H x y v u Q I rx ry ⟨d, e, b, r1, r2, ho, q⟩
  obtain ⟨as, ra⟩ := (reads_of I).1 r1 rx
  obtain ⟨bs, rb⟩ := (reads_of I).1 r2 ry
  unfold opNotIn at ho
  split at ho
  · rename_i xs
    split at ho
    case isFalse => cases ho
    rename_i hc
    cases ho
    simp only [inOk, Bool.and_eq_true, decide_eq_true_eq] at hc
    exact SeqAt.notIn_list_reads rb ra hc.1.1 hc.1.2 (by have := Nat.min_le_right (PyData.depthAll xs) d.depth; omega) ⟨.bl _, H, I, rfl, q⟩
  · rename_i xs
    split at ho
    case isFalse => cases ho
    rename_i hc
    cases ho
    simp only [inOk, Bool.and_eq_true, decide_eq_true_eq] at hc
    exact SeqAt.notIn_tuple_reads rb ra hc.1.1 hc.1.2 (by have := Nat.min_le_right (PyData.depthAll xs) d.depth; omega) ⟨.bl _, H, I, rfl, q⟩
  · split at ho
    · cases ho
      cases r1
      cases r2
      exact op_notin_str pins s σ H _ _ v u Q I rx ry ⟨_, _, rfl, rfl, q⟩
    · cases ho
  · cases ho
end
def opIx : D → D → Option D
  | .list ds, .int i => atI ds i
  | .tuple ds, .int i => atI ds i
  | .str z, .int i => if z.length ≤ sizeLine then (atI z.cps.toList i).map fun c => .str ⟨#[c]⟩ else none
  | _, _ => none
theorem atI_rep {K : Fg} {F : Hp} {vs : List V} {ds : List D} {i : Int} {d : D} (r : RepL K F vs ds) (h : atI ds i = some d) : ∃ v, atI vs i = some v ∧ Rep K F v d := by
  unfold atI at h ⊢
  rw [r.length]
  cases q : ixN ds.length i with
  | none => rw [q] at h; cases h
  | some j =>
    rw [q] at h
    exact r.get (i := j) h
theorem ok_ix {K : Fg} : OpD K (rIx K) opIx := by
  intro G F σ H ρ x y dx dy res Q S ox oy e k
  cases dx <;> cases dy <;> try (cases e)
  · dsimp only [opIx] at e
    split at e
    · rename_i hz
      obtain ⟨c, hc, rfl⟩ := Option.map_eq_some_iff.mp e
      exact .inr (.inr ⟨_, _, c, ox.str, oy.int, hz, hc, k _ F H (Same.refl _) S (.str _)⟩)
    · cases e
  · obtain ⟨a, vs, rfl, h1, h2⟩ := ox.list S.fh
    obtain ⟨v, e1, e2⟩ := atI_rep h2 e
    exact .inl ⟨a, vs, _, v, rfl, oy.int, h1, e1, k v F H (Same.refl _) S e2⟩
  · obtain ⟨a, vs, rfl, h1, h2⟩ := ox.tuple S.fh
    obtain ⟨v, e1, e2⟩ := atI_rep h2 e
    exact .inr (.inl ⟨a, vs, _, v, rfl, oy.int, h1, e1, k v F H (Same.refl _) S e2⟩)
end L4
set_option Elab.async false
set_option linter.all false
set_option maxRecDepth 100000
namespace L4
open PySem PySem.Spec PyProof.Rows L2 L3
theorem Vals.one {v : V} {us : List Value} (h : Vals [v] us) : ∃ u, us = [u] ∧ RelV v u := by
  cases h with | cons a b => cases b; exact ⟨_, rfl, a⟩
def fLen : List D → Option D
  | [.list ds] => some (.int ds.length)
  | [.tuple ds] => some (.int ds.length)
  | [.str z] => if z.length ≤ sizeLine then some (.int z.length) else none
  | _ => none
def fTuple : List D → Option D
  | [.list ds] => some (.tuple ds)
  | [.tuple ds] => some (.tuple ds)
  | _ => none
def fAbs : List D → Option D
  | [.int i] => some (.int (if i < 0 then -i else i))
  | _ => none
def fMin2 : List D → Option D
  | [.int i, .int j] => some (.int (if j < i then j else i))
  | _ => none
def rLen (K : Fg) : List V → Hp → VK → Prop := fun xs H Q => (∃ p ys, xs = [.ref p] ∧ (SqL K H p ys ∨ SqT K H p ys) ∧ Q (.int ys.length) H) ∨ ∃ z, xs = [.str z] ∧ z.length ≤ sizeLine ∧ Q (.int z.length) H
theorem call_lenA {X : Cx} : CallR X (.builtin "len") (rLen X.K) := CallR.or call_len_seq call_len_str
theorem ok_len {K : Fg} : CallD K (rLen K) fLen := by
  intro G F σ H ρ xs ds res Q S o e k
  unfold fLen at e
  split at e
  · rename_i es
    cases e
    obtain ⟨v, r, rfl, ho, hr⟩ := ors_cons o
    obtain rfl := ors_nil hr
    obtain ⟨a, vs, rfl, h1, h2⟩ := ho.list S.fh
    exact .inl ⟨a, vs, rfl, .inl h1, k _ F H (Same.refl _) S (by rw [h2.length]; exact .int _)⟩
  · rename_i es
    cases e
    obtain ⟨v, r, rfl, ho, hr⟩ := ors_cons o
    obtain rfl := ors_nil hr
    obtain ⟨a, vs, rfl, h1, h2⟩ := ho.tuple S.fh
    exact .inl ⟨a, vs, rfl, .inr h1, k _ F H (Same.refl _) S (by rw [h2.length]; exact .int _)⟩
  · split at e
    · rename_i hz
      cases e
      obtain ⟨v, r, rfl, ho, hr⟩ := ors_cons o
      obtain rfl := ors_nil hr
      exact .inr ⟨_, by rw [ho.str], hz, k _ F H (Same.refl _) S (.int _)⟩
    · cases e
  · cases e
theorem ok_tuple {K : Fg} : CallD K (fun xs H Q => ∃ p ys, xs = [.ref p] ∧ ((SqL K H p ys ∧ ∀ l, H l = none → Q (.ref l) (upd H l (.tup ys))) ∨ (SqT K H p ys ∧ Q (.ref p) H))) fTuple := by
  intro G F σ H ρ xs ds res Q S o e k
  unfold fTuple at e
  split at e
  · rename_i es
    cases e
    obtain ⟨v, r, rfl, ho, hr⟩ := ors_cons o
    obtain rfl := ors_nil hr
    obtain ⟨a, vs, rfl, h1, h2⟩ := ho.list S.fh
    refine ⟨a, vs, rfl, .inl ⟨h1, fun l hl => ?_⟩⟩
    obtain ⟨s2, S2, r2⟩ := S.newTup hl h2
    exact k _ _ _ s2 S2 r2
  · rename_i es
    cases e
    obtain ⟨v, r, rfl, ho, hr⟩ := ors_cons o
    obtain rfl := ors_nil hr
    have ho := ho.tup'
    cases ho with
    | tup h1 h2 => exact ⟨_, _, rfl, .inr ⟨SqT.of (S.fh _ _ h1), k _ F H (Same.refl _) S (show Rep K F _ _ from .tup h1 h2)⟩⟩
  · cases e
theorem ok_abs {K : Fg} : CallD K (fun xs H Q => ∃ i, xs = [.int i] ∧ Q (.int (if i < 0 then -i else i)) H) fAbs := by
  intro G F σ H ρ xs ds res Q S o e k
  unfold fAbs at e
  split at e
  · cases e
    obtain ⟨v, r, rfl, ho, hr⟩ := ors_cons o
    obtain rfl := ors_nil hr
    exact ⟨_, by rw [ho.int], k _ F H (Same.refl _) S (show Rep K F _ _ from .int _)⟩
  · cases e
theorem ok_min2 {K : Fg} : CallD K (fun xs H Q => ∃ i j, xs = [.int i, .int j] ∧ Q (.int (if j < i then j else i)) H) fMin2 := by
  intro G F σ H ρ xs ds res Q S o e k
  unfold fMin2 at e
  split at e
  · cases e
    obtain ⟨v, r, rfl, ho, hr⟩ := ors_cons o
    obtain ⟨v2, r2, rfl, ho2, hr2⟩ := ors_cons hr
    obtain rfl := ors_nil hr2
    exact ⟨_, _, by rw [ho.int, ho2.int], k _ F H (Same.refl _) S (show Rep K F _ _ from .int _)⟩
  · cases e
def reprOk (d : D) : Bool := d.showable && d.canLay0 && decide (d.depth ≤ 1000) && decide (d.shown.length ≤ sizeLine)
def fRepr : List D → Option D
  | [d] => if reprOk d then some (.str d.shown) else none
  | _ => none
def rRepr (K : Fg) : List V → Hp → VK → Prop := fun xs H Q => ∃ v d, xs = [v] ∧ Rep K H v d ∧ reprOk d = true ∧ Q (.str d.shown) H
theorem ok_repr {K : Fg} : CallD K (rRepr K) fRepr := by
  intro G F σ H ρ xs ds res Q S o e k
  unfold fRepr at e
  split at e
  · rename_i d
    split at e
    · rename_i hc
      cases e
      obtain ⟨v, r, rfl, ho, hr⟩ := ors_cons o
      obtain rfl := ors_nil hr
      exact ⟨v, d, rfl, ho.rep S.fh, hc, k _ F H (Same.refl _) S (.str _)⟩
    · cases e
  · cases e
theorem call_repr {X : Cx} (hu : X.A.units + 1100 < cLine) (hg : X.A.guards = some []) : CallR X (.builtin "repr") (rRepr X.K) := by
  intro pins s σ H xs us Q I r h0
  obtain ⟨v, d, rfl, rp, hc, q⟩ := h0
  obtain ⟨u, rfl, ru⟩ := Vals.one r
  obtain ⟨as, ra⟩ := (reads_of I).1 rp ru
  simp only [reprOk, Bool.and_eq_true, decide_eq_true_eq] at hc
  have big : ∀ a, v = .ref a → wpAny (model X.prog X.w) X.A (call (.builtin "repr") [u]) (EP X pins σ Q) X.xe s := fun a e => by
    subst e
    cases ru
    exact repr_of_reads' ra hc.1.1.1 (PyData.noDict_hsm (PyData.hasDict_of_canLay d hc.1.1.2)) hg (by omega) (fun _ _ e => e) (fun h' u tk hk => ⟨.str _, H, I.kept hk, ⟨_, rfl⟩, q⟩) hc.2
  cases rp with
  | non => cases ru; exact PySem.P.repr_of_none ⟨.str _, H, I.tok _, ⟨_, rfl⟩, q⟩
  | bl b => cases ru; exact PySem.P.repr_of_bool ⟨.str _, H, I.tok _, ⟨_, rfl⟩, q⟩
  | int i => obtain ⟨t, rfl⟩ := ru; exact PySem.P.repr_of_int (by simpa [PyData.showable] using hc.1.1.1) ⟨.str _, H, I.tok _, ⟨_, rfl⟩, q⟩
  | str x => obtain ⟨t, rfl⟩ := ru; exact PySem.P.repr_of_str ⟨.str _, H, I.tok _, ⟨_, rfl⟩, q⟩ hc.2
  | tup h1 h2 => exact big _ rfl
  | lst h1 h2 => exact big _ rfl
  | dct h1 h2 h3 => exact big _ rfl
  | dck h1 h2 h3 => exact big _ rfl
def intsOf : List D → Option (List Int)
  | [] => some []
  | .int i :: r => match intsOf r with
    | some l => some (i :: l)
    | none => none
  | _ => none
theorem intsOf_eq : ∀ {ds : List D} {ns : List Int}, intsOf ds = some ns → ds = ns.map PyData.int
  | [], ns, h => by cases h; rfl
  | .int i :: r, ns, h => by
    dsimp only [intsOf] at h
    split at h
    · rename_i l e; cases h; rw [intsOf_eq e]; rfl
    · cases h
  | .none :: _, _, h => by cases h
  | .bool _ :: _, _, h => by cases h
  | .str _ :: _, _, h => by cases h
  | .list _ :: _, _, h => by cases h
  | .tuple _ :: _, _, h => by cases h
  | .dict _ :: _, _, h => by cases h
theorem intsOf_map (ns : List Int) : intsOf (ns.map PyData.int) = some ns := by
  induction ns with
  | nil => rfl
  | cons n r ih => simp [intsOf, ih]
theorem repL_ints {K : Fg} {F : Hp} : ∀ {vs : List V} {ns : List Int}, RepL K F vs (ns.map PyData.int) → vs = ns.map V.int
  | _, [], h => by cases h; rfl
  | _, n :: r, h => by
    cases h with
    | cons a b => cases a; rw [repL_ints b]; rfl
theorem vals_pairs : ∀ {ns : List Int} {us : List Value}, Vals (ns.map V.int) us → ∃ ps : List (Int × Tok), us = ps.map (fun p => Value.int p.1 p.2) ∧ ps.map Prod.fst = ns
  | [], _, h => by cases h; exact ⟨[], rfl, rfl⟩
  | n :: r, _, h => by
    cases h with
    | cons a b =>
      obtain ⟨t, rfl⟩ := a
      obtain ⟨ps, rfl, e⟩ := vals_pairs b
      exact ⟨(n, t) :: ps, rfl, by simp [e]⟩
def sumOk (ns : List Int) : Bool := ns.all (fun i => decide (i.natAbs ≤ 2 ^ 40)) && decide (ns.length ≤ 2 ^ 20)
def fSum : List D → Option D
  | [.list ds] => match intsOf ds with
    | some ns => if sumOk ns then some (.int ns.sum) else none
    | none => none
  | _ => none
def maxL : List Int → Int
  | [] => 0
  | n :: r => r.foldl max n
def fMax : List D → Option D
  | [.list ds] => match intsOf ds with
    | some (n :: r) => some (.int (maxL (n :: r)))
    | _ => none
  | [.int i, .int j] => some (.int (if j > i then j else i))
  | _ => none
def rInts (K : Fg) (f : List Int → Option Int) : List V → Hp → VK → Prop := fun xs H Q => ∃ a ns i, xs = [.ref a] ∧ SqL K H a (ns.map V.int) ∧ f ns = some i ∧ Q (.int i) H
def gMax : List Int → Option Int
  | [] => none
  | ns => some (maxL ns)
theorem numAt_of {ps : List (Int × Tok)} {i : Nat} : numAt ps.toArray i = (ps.map Prod.fst).getD i 0 := by
  unfold numAt
  rw [List.getElem?_toArray, List.getD_eq_getElem?_getD, List.getElem?_map]
theorem ok_max {K : Fg} : CallD K (fun xs H Q => rInts K gMax xs H Q ∨ ∃ i j, xs = [.int i, .int j] ∧ Q (.int (if j > i then j else i)) H) fMax := by
  intro G F σ H ρ xs ds res Q S o e k
  unfold fMax at e
  split at e
  · rename_i es
    split at e
    case h_2 => cases e
    rename_i n r' hns
    cases e
    obtain ⟨v, r, rfl, ho, hr⟩ := ors_cons o
    obtain rfl := ors_nil hr
    obtain ⟨a, vs, rfl, h1, h2⟩ := ho.list S.fh
    rw [intsOf_eq hns] at h2
    rw [repL_ints h2] at h1
    exact .inl ⟨a, _, _, rfl, h1, rfl, k _ F H (Same.refl _) S (show Rep K F _ _ from .int _)⟩
  · cases e
    obtain ⟨v, r, rfl, ho, hr⟩ := ors_cons o
    obtain ⟨v2, r2, rfl, ho2, hr2⟩ := ors_cons hr
    obtain rfl := ors_nil hr2
    exact .inr ⟨_, _, by rw [ho.int, ho2.int], k _ F H (Same.refl _) S (show Rep K F _ _ from .int _)⟩
  · cases e
theorem foldl_max (r : List Int) : ∀ n : Int, n ≤ r.foldl max n ∧ (∀ i ∈ r, i ≤ r.foldl max n) ∧ (r.foldl max n = n ∨ r.foldl max n ∈ r) := by
  induction r with
  | nil => intro n; exact ⟨Int.le_refl _, fun i hi => (nomatch hi), .inl rfl⟩
  | cons a r ih =>
    intro n
    obtain ⟨h1, h2, h3⟩ := ih (max n a)
    rw [List.foldl_cons]
    refine ⟨by omega, fun i hi => ?_, ?_⟩
    · rcases List.mem_cons.mp hi with rfl | hi
      · omega
      · exact h2 i hi
    · rcases h3 with h3 | h3
      · rw [h3]
        by_cases hna : n ≤ a
        · right; rw [show max n a = a by omega]; exact List.mem_cons_self
        · left; omega
      · right; exact List.mem_cons_of_mem _ h3
theorem maxL_spec {ns : List Int} (h : ns ≠ []) : (∀ i ∈ ns, i ≤ maxL ns) ∧ maxL ns ∈ ns := by
  cases ns with
  | nil => exact absurd rfl h
  | cons n r =>
    obtain ⟨h1, h2, h3⟩ := foldl_max r n
    refine ⟨fun i hi => ?_, ?_⟩
    · rcases List.mem_cons.mp hi with rfl | hi
      · exact h1
      · exact h2 i hi
    · rcases h3 with h3 | h3
      · show r.foldl max n ∈ _; rw [h3]; exact List.mem_cons_self
      · exact List.mem_cons_of_mem _ h3
theorem call_maxL {X : Cx} (hc : X.calm = true) : CallR X (.builtin "max") (rInts X.K gMax) := by
  intro pins s σ H xs us Q I r h0
  obtain ⟨a, ns, i, rfl, hq, e, q⟩ := h0
  obtain ⟨u, rfl, ru⟩ := Vals.one r
  cases ru
  obtain ⟨its, rv, pl, hz⟩ := I.list hq
  obtain ⟨ps, rfl, rfl⟩ := vals_pairs rv
  have hne : ps ≠ [] := by rintro rfl; cases e
  have hne' : ps.map Prod.fst ≠ [] := by simpa using hne
  have ei : i = maxL (ps.map Prod.fst) := by
    cases hp : ps.map Prod.fst with
    | nil => exact absurd hp hne'
    | cons n r => rw [hp] at e; cases e; rfl
  subst ei
  have hl : s.heap.IsList a (intItems ps.toArray) := by
    have := pl.isList
    unfold intItems
    simpa using this
  have hpos : 0 < ps.length := List.length_pos_iff.mpr hne
  refine max_intList (I.ok.hd hc) hl (by simpa using hpos) fun v h' tk hv hk => ?_
  obtain ⟨t, rfl⟩ := intItems_at hv
  refine ⟨.int _, H, I.kept hk, ⟨_, rfl⟩, ?_⟩
  have b := argBest_gt (numAt ps.toArray) (ps.toArray.size - 1)
  generalize argBest (fun i j => decide (numAt ps.toArray i > numAt ps.toArray j)) (ps.toArray.size - 1) = m at b hv
  have hm : m < ps.length := by
    have h0 := b.1
    simp at h0
    omega
  have hsp := maxL_spec hne'
  have e1 : numAt ps.toArray m = maxL (ps.map Prod.fst) := by
    refine Int.le_antisymm ?_ ?_
    · refine hsp.1 _ ?_
      rw [numAt_of, List.getD_eq_getElem?_getD, List.getElem?_eq_getElem (by simpa using hm)]
      exact List.getElem_mem _
    · obtain ⟨j, hj, ej⟩ := List.getElem_of_mem hsp.2
      have h0 := b.2 j (by simp at hj ⊢; omega)
      rw [numAt_of, List.getD_eq_getElem?_getD, List.getElem?_eq_getElem hj] at h0
      rw [← ej]
      exact h0
  rw [e1]
  exact q
end L4
set_option Elab.async false
set_option linter.all false
set_option maxRecDepth 100000
namespace L4
open PySem PySem.Spec PyProof.Rows L2 L3
section
variable {K : Fg} {G : Gh} {F H : Hp} {σ : L2.St} {ρ ρ' : En}
theorem _root_.L3.StOk.weak (S : StOk K G F σ H ρ) (hl : ρ'.length = ρ.length) (h : ∀ (i : Nat) (av : AV), ρ'[i]? = some (some av) → ρ[i]? = some (some av)) (hp : ∀ (i : Nat) (c : OC), ρ[i]? = some (some (AV.op c)) → ρ'[i]? = some (some (AV.op c))) : StOk K G F σ H ρ' := by
  have ow' : ∀ j c, own ρ' j c → own ρ j c := fun j c q => q.imp (h _ _) (h _ _)
  refine ⟨S.fh, S.oh, S.fo, S.ln.trans hl.symm, fun j d q => S.fz j d (h _ _ q), fun j c q => S.ow j c (ow' j c q), fun j k c e a h1 h2 => S.dj j k c e a (ow' j c h1) (ow' k e h2), fun j a q => ?_, fun j c q => S.pq j c (h _ _ q), S.fb⟩
  obtain ⟨q1, c, q2⟩ := S.pp j a q
  exact ⟨q1, c, hp _ _ q2⟩
theorem app_none {k : Nat} {i : Nat} {av : AV} (h : (ρ ++ List.replicate k none)[i]? = some (some av)) : ρ[i]? = some (some av) := by
  by_cases hi : i < ρ.length
  · rw [List.getElem?_append_left hi] at h; exact h
  · rw [List.getElem?_append_right (Nat.not_lt.mp hi), List.getElem?_replicate] at h
    split at h <;> cases h
theorem _root_.L3.StOk.grow (S : StOk K G F σ H ρ) (k : Nat) : StOk K G F (σ ++ List.replicate k none) H (ρ ++ List.replicate k none) := by
  have ap : ∀ {i : Nat} {v : V}, σ[i]? = some (some v) → (σ ++ List.replicate k none)[i]? = some (some v) := fun {i v} e => by
    rw [List.getElem?_append_left (List.getElem?_eq_some_iff.mp e).1]; exact e
  have apr : ∀ {i : Nat} {v : AV}, ρ[i]? = some (some v) → (ρ ++ List.replicate k none)[i]? = some (some v) := fun {i v} e => by
    rw [List.getElem?_append_left (List.getElem?_eq_some_iff.mp e).1]; exact e
  have ow' : ∀ i c, own (ρ ++ List.replicate k none) i c → own ρ i c := fun i c h => by
    rcases h with h | h
    · exact .inl (app_none h)
    · exact .inr (app_none h)
  refine ⟨S.fh, S.oh, S.fo, by simp [S.ln], fun i d h => ?_, fun i c h => ?_, fun i j c e a h1 h2 e1 e2 => ?_, fun i a h => ?_, fun i c h => S.pq i c (app_none h), S.fb⟩
  · obtain ⟨v, e, r⟩ := S.fz i d (app_none h); exact ⟨v, ap e, r⟩
  · obtain ⟨a, e, oa⟩ := S.ow i c (ow' i c h); exact ⟨a, ap e, oa⟩
  · have o1 := ow' i c h1
    have o2 := ow' j e h2
    obtain ⟨a1, q1, _⟩ := S.ow i c o1
    obtain ⟨a2, q2, _⟩ := S.ow j e o2
    rw [ap q1] at e1; rw [ap q2] at e2
    injection e1 with e1; injection e2 with e2
    exact S.dj i j c e a o1 o2 (by rw [q1, e1]) (by rw [q2, e2])
  · obtain ⟨e, c, q⟩ := S.pp i a h; exact ⟨ap e, c, apr q⟩
theorem _root_.L3.StOk.shrink (S : StOk K G F σ H ρ) {n : Nat} (hn : n ≤ ρ.length) (hp : ∀ i a, G.P i = some a → i < n) : StOk K G F (σ.take n) H (ρ.take n) := by
  have tk : ∀ {i : Nat} {v : AV}, (ρ.take n)[i]? = some (some v) → i < n ∧ ρ[i]? = some (some v) := fun {i v} e => by
    have hi : i < n := by
      have := (List.getElem?_eq_some_iff.mp e).1
      rw [List.length_take] at this; omega
    rw [List.getElem?_take_of_lt hi] at e
    exact ⟨hi, e⟩
  have ow' : ∀ i c, own (ρ.take n) i c → i < n ∧ own ρ i c := fun i c h => by
    rcases h with h | h
    · exact ⟨(tk h).1, .inl (tk h).2⟩
    · exact ⟨(tk h).1, .inr (tk h).2⟩
  refine ⟨S.fh, S.oh, S.fo, by simp [S.ln], fun i d h => ?_, fun i c h => ?_, fun i j c e a h1 h2 e1 e2 => ?_, fun i a h => ?_, fun i c h => S.pq i c (tk h).2, S.fb⟩
  · obtain ⟨v, e, r⟩ := S.fz i d (tk h).2; exact ⟨v, by rw [List.getElem?_take_of_lt (tk h).1]; exact e, r⟩
  · obtain ⟨a, e, oa⟩ := S.ow i c (ow' i c h).2; exact ⟨a, by rw [List.getElem?_take_of_lt (ow' i c h).1]; exact e, oa⟩
  · rw [List.getElem?_take_of_lt (ow' i c h1).1] at e1
    rw [List.getElem?_take_of_lt (ow' j e h2).1] at e2
    exact S.dj i j c e a (ow' i c h1).2 (ow' j e h2).2 e1 e2
  · obtain ⟨e, c, q⟩ := S.pp i a h
    exact ⟨by rw [List.getElem?_take_of_lt (hp i a h)]; exact e, c, by rw [List.getElem?_take_of_lt (hp i a h)]; exact q⟩
end
theorem take_eq_of {α : Type} {l l' : List α} {n : Nat} (h : ∀ j, j < n → l'[j]? = l[j]?) (hl : l.length = n) : l'.take n = l := by
  apply List.ext_getElem?
  intro i
  by_cases hi : i < n
  · rw [List.getElem?_take_of_lt hi, h i hi]
  · rw [List.getElem?_eq_none_iff.mpr (by rw [List.length_take]; omega), List.getElem?_eq_none_iff.mpr (by omega)]
inductive Kd where
  | dead | f | o | p | t | k
@[reducible] def SOf : List Kd → Type
  | [] => Unit
  | .dead :: r => SOf r
  | .f :: r => D × SOf r
  | .o :: r => List D × SOf r
  | .p :: r => List D × SOf r
  | .t :: r => List (D × D) × SOf r
  | .k :: r => List (D × D) × SOf r
def rd : (sh : List Kd) → En → Option (SOf sh)
  | [], [] => some ()
  | .dead :: r, x :: ρ => match x with
    | some (.op _) => none
    | _ => rd r ρ
  | .f :: r, x :: ρ => match x with
    | some (.fz d) => match rd r ρ with
      | some s => some (d, s)
      | none => none
    | _ => none
  | .o :: r, x :: ρ => match x with
    | some (.ol (.l ds)) => match rd r ρ with
      | some s => some (ds, s)
      | none => none
    | _ => none
  | .p :: r, x :: ρ => match x with
    | some (.op (.l ds)) => match rd r ρ with
      | some s => some (ds, s)
      | none => none
    | _ => none
  | .t :: r, x :: ρ => match x with
    | some (.ol (.t ds)) => match rd r ρ with
      | some s => some (ds, s)
      | none => none
    | _ => none
  | .k :: r, x :: ρ => match x with
    | some (.ol (.k ds)) => match rd r ρ with
      | some s => some (ds, s)
      | none => none
    | _ => none
  | _, _ => none
def wr : (sh : List Kd) → SOf sh → En
  | [], _ => []
  | .dead :: r, s => none :: wr r s
  | .f :: r, s => some (.fz s.1) :: wr r s.2
  | .o :: r, s => some (.ol (.l s.1)) :: wr r s.2
  | .p :: r, s => some (.op (.l s.1)) :: wr r s.2
  | .t :: r, s => some (.ol (.t s.1)) :: wr r s.2
  | .k :: r, s => some (.ol (.k s.1)) :: wr r s.2
theorem rd_wr : ∀ (sh : List Kd) (ρ : En) (s : SOf sh), rd sh ρ = some s → (wr sh s).length = ρ.length ∧ (∀ (i : Nat) (av : AV), (wr sh s)[i]? = some (some av) → ρ[i]? = some (some av)) ∧ (∀ (i : Nat) (c : OC), ρ[i]? = some (some (AV.op c)) → (wr sh s)[i]? = some (some (AV.op c)))
  | [], [], s, h => ⟨rfl, fun i av q => by simpa [wr] using q, fun i c q => by simp at q⟩
  | [], _ :: _, s, h => by cases h
  | .dead :: r, [], s, h => by cases h
  | .f :: r, [], s, h => by cases h
  | .o :: r, [], s, h => by cases h
  | .p :: r, [], s, h => by cases h
  | .t :: r, [], s, h => by cases h
  | .k :: r, [], s, h => by cases h
  | .dead :: r, x :: ρ, s, h => by
    dsimp only [rd] at h
    split at h
    · cases h
    · rename_i hx
      obtain ⟨h1, h2, h3⟩ := rd_wr r ρ s h
      refine ⟨by simp [wr, h1], fun i av q => ?_, fun i c q => ?_⟩
      · cases i with
        | zero => simp [wr] at q
        | succ i => simpa using h2 i av (by simpa [wr] using q)
      · cases i with
        | zero => simp at q; exact absurd q (hx c)
        | succ i => simpa [wr] using h3 i c (by simpa using q)
  | .f :: r, x :: ρ, s, h => by
    dsimp only [rd] at h
    split at h
    · split at h
      · rename_i s' e
        cases h
        obtain ⟨h1, h2, h3⟩ := rd_wr r ρ s' e
        refine ⟨by simp [wr, h1], fun i av q => ?_, fun i c q => ?_⟩
        · cases i with
          | zero => simpa [wr] using q
          | succ i => simpa using h2 i av (by simpa [wr] using q)
        · cases i with
          | zero => simp at q
          | succ i => simpa [wr] using h3 i c (by simpa using q)
      · cases h
    · cases h
  | .o :: r, x :: ρ, s, h => by
    dsimp only [rd] at h
    split at h
    · split at h
      · rename_i s' e
        cases h
        obtain ⟨h1, h2, h3⟩ := rd_wr r ρ s' e
        refine ⟨by simp [wr, h1], fun i av q => ?_, fun i c q => ?_⟩
        · cases i with
          | zero => simpa [wr] using q
          | succ i => simpa using h2 i av (by simpa [wr] using q)
        · cases i with
          | zero => simp at q
          | succ i => simpa [wr] using h3 i c (by simpa using q)
      · cases h
    · cases h
  | .p :: r, x :: ρ, s, h => by
    dsimp only [rd] at h
    split at h
    · split at h
      · rename_i s' e
        cases h
        obtain ⟨h1, h2, h3⟩ := rd_wr r ρ s' e
        refine ⟨by simp [wr, h1], fun i av q => ?_, fun i c q => ?_⟩
        · cases i with
          | zero => simpa [wr] using q
          | succ i => simpa using h2 i av (by simpa [wr] using q)
        · cases i with
          | zero => simpa [wr] using q
          | succ i => simpa [wr] using h3 i c (by simpa using q)
      · cases h
    · cases h
  | .t :: r, x :: ρ, s, h => by
    dsimp only [rd] at h
    split at h
    · split at h
      · rename_i s' e
        cases h
        obtain ⟨h1, h2, h3⟩ := rd_wr r ρ s' e
        refine ⟨by simp [wr, h1], fun i av q => ?_, fun i c q => ?_⟩
        · cases i with
          | zero => simpa [wr] using q
          | succ i => simpa using h2 i av (by simpa [wr] using q)
        · cases i with
          | zero => simp at q
          | succ i => simpa [wr] using h3 i c (by simpa using q)
      · cases h
    · cases h
  | .k :: r, x :: ρ, s, h => by
    dsimp only [rd] at h
    split at h
    · split at h
      · rename_i s' e
        cases h
        obtain ⟨h1, h2, h3⟩ := rd_wr r ρ s' e
        refine ⟨by simp [wr, h1], fun i av q => ?_, fun i c q => ?_⟩
        · cases i with
          | zero => simpa [wr] using q
          | succ i => simpa using h2 i av (by simpa [wr] using q)
        · cases i with
          | zero => simp at q
          | succ i => simpa [wr] using h3 i c (by simpa using q)
      · cases h
    · cases h
theorem _root_.L3.StOk.rd {K : Fg} {G : Gh} {F H : Hp} {σ : L2.St} {ρ : En} {sh : List Kd} {s : SOf sh} (S : StOk K G F σ H ρ) (h : L4.rd sh ρ = some s) : StOk K G F σ H (wr sh s) := by
  obtain ⟨h1, h2, h3⟩ := rd_wr sh ρ s h
  exact S.weak h1 h2 h3
def rdk {S : Type} (sh : List Kd) (k : SOf sh → M S) (ρ : En) : M S := match rd sh ρ with
  | some s => k s
  | none => .bad
abbrev Ev (S α : Type) := (Ex → En → M S) → (α → En → M S) → En → M S
structure KS (S : Type) where
  nx : En → M S
  rt : D → En → M S
  rl : List D → En → M S
  bk : En → M S
  ct : En → M S
  x : Ex → En → M S
def KOk {S : Type} (OK : M S → Prop) : Prop := ¬ OK .bad
def XL {S : Type} (X : Cx) (OK : M S → Prop) (x : Ex → En → M S) (G : Gh) : Prop := ∀ F ρ e, OK (x e ρ) → XW X G F ρ e
def AE {S : Type} (X : Cx) (e : Expr) (m : Ev S D) : Prop :=
  ∀ (OK : M S → Prop) (x : Ex → En → M S) (k : D → En → M S) (G : Gh) (F : Hp) (σ : L2.St) (H : Hp) (ρ : En) (Q : VK), KOk OK → XL X OK x G → StOk X.K G F σ H ρ → OK (m x k ρ) →
    (∀ d v F' H' ρ', Same F F' → StOk X.K G F' σ H' ρ' → Rep X.K F' v d → OK (k d ρ') → Q v H') → tSem X e σ H Q
def AEt {S : Type} (X : Cx) (e : Expr) (m : Ev S Bool) : Prop :=
  ∀ (OK : M S → Prop) (x : Ex → En → M S) (k : Bool → En → M S) (G : Gh) (F : Hp) (σ : L2.St) (H : Hp) (ρ : En) (Q : Bool → Hp → Prop), KOk OK → XL X OK x G → StOk X.K G F σ H ρ → OK (m x k ρ) →
    (∀ d F' H' ρ', Same F F' → StOk X.K G F' σ H' ρ' → OK (k d ρ') → Q d H') → tSemT X e σ H Q
def AEw {S : Type} (X : Cx) (e : Expr) (m : Ev S Bool) : Prop :=
  ∀ (OK : M S → Prop) (x : Ex → En → M S) (k : Bool → En → M S) (G : Gh) (F : Hp) (σ : L2.St) (H : Hp) (ρ : En) (Q : Bool → Hp → Prop), KOk OK → XL X OK x G → StOk X.K G F σ H ρ → OK (m x k ρ) →
    (∀ d F' H' ρ', Same F F' → StOk X.K G F' σ H' ρ' → OK (k d ρ') → Q d H') → tSemW X e σ H Q
def AEb {S : Type} (X : Cx) (e : Expr) (m : Ev S Bool) : Prop :=
  ∀ (OK : M S → Prop) (x : Ex → En → M S) (k : Bool → En → M S) (G : Gh) (F : Hp) (σ : L2.St) (H : Hp) (ρ : En) (Q : VK), KOk OK → XL X OK x G → StOk X.K G F σ H ρ → OK (m x k ρ) →
    (∀ d F' H' ρ', Same F F' → StOk X.K G F' σ H' ρ' → OK (k d ρ') → Q (.bl d) H') → tSem X e σ H Q
def AEa {S : Type} (X : Cx) (es : List Expr) (m : Ev S (List D)) : Prop :=
  ∀ (OK : M S → Prop) (x : Ex → En → M S) (k : List D → En → M S) (G : Gh) (F : Hp) (σ : L2.St) (H : Hp) (ρ : En) (Q : List V → Hp → Prop), KOk OK → XL X OK x G → StOk X.K G F σ H ρ → OK (m x k ρ) →
    (∀ ds vs F' H' ρ', Same F F' → StOk X.K G F' σ H' ρ' → vs.length = es.length → RepL X.K F' vs ds → OK (k ds ρ') → Q vs H') → tSemA X es σ H Q
def AEl {S : Type} (X : Cx) (e : Expr) (m : Ev S (List D)) : Prop :=
  ∀ (OK : M S → Prop) (x : Ex → En → M S) (k : List D → En → M S) (G : Gh) (F : Hp) (σ : L2.St) (H : Hp) (ρ : En) (Q : VK), KOk OK → XL X OK x G → StOk X.K G F σ H ρ → OK (m x k ρ) →
    (∀ ds v F' H' ρ', Same F F' → StOk X.K G F' σ H' ρ' → Frs X.K G F' σ H' ρ' v (.l ds) → OK (k ds ρ') → Q v H') → tSem X e σ H Q
def ePu {S α : Type} (p : Pu α) : Ev S α := fun x k ρ => (p ρ).on (fun e => x e ρ) (fun a => k a ρ)
section
variable {S α : Type} {X : Cx} {OK : M S → Prop} {x : Ex → En → M S} {k : α → En → M S} {G : Gh} {F : Hp} {σ : L2.St} {ρ : En} {p : Pu α} {C : α → Hp → Hp → Prop}
theorem W.of (hO : KOk OK) (hX : XL X OK x G) (h : OK (ePu p x k ρ)) (w : ∀ a F' H', Same F F' → StOk X.K G F' σ H' ρ → OK (k a ρ) → C a F' H') : W X G F σ ρ (p ρ) C := by
  unfold ePu at h
  cases hp : p ρ with
  | ret a => rw [hp] at h; exact fun F' H' s S' => w a F' H' s S' h
  | exc e => rw [hp] at h; exact hX F ρ e h
  | bad => rw [hp] at h; exact hO h
end
section
variable {S : Type} {X : Cx} {e a b c : Expr} {es rest : List Expr} {p : Pu D} {pt : Pu Bool} {ps : Pu (List D)} {pos : Pos}
theorem ae_pu (h : AP X e p) : AE (S := S) X e (ePu p) := fun OK x k G F σ H ρ Q hO hX St ok kk => h G F σ H ρ Q St (W.of hO hX ok fun d F' H' s S' o v r => kk d v F' H' ρ s S' r o)
theorem aet_pu (h : AT X e pt) : AEt (S := S) X e (ePu pt) := fun OK x k G F σ H ρ Q hO hX St ok kk => h G F σ H ρ Q St (W.of hO hX ok fun d F' H' s S' o => kk d F' H' ρ s S' o)
theorem ael_pu (h : AL X e ps) : AEl (S := S) X e (ePu ps) := fun OK x k G F σ H ρ Q hO hX St ok kk => h G F σ H ρ Q St (W.of hO hX ok fun d F' H' s S' o v r => kk d v F' H' ρ s S' r o)
def eB (m : Ev S Bool) : Ev S D := fun x k ρ => m x (fun b ρ1 => k (.bool b) ρ1) ρ
def eZ (m : Ev S (List D)) : Ev S D := fun x k ρ => m x (fun ds ρ1 => k (.list ds) ρ1) ρ
def eBin (f : D → D → Option D) (a b : Ev S D) : Ev S D := fun x k ρ => a x (fun d ρ1 => b x (fun d2 ρ2 => (oM (f d d2)).on (fun e => x e ρ2) (fun r => k r ρ2)) ρ1) ρ
def eBinB (f : D → D → Option Bool) (a b : Ev S D) : Ev S Bool := fun x k ρ => a x (fun d ρ1 => b x (fun d2 ρ2 => (oM (f d d2)).on (fun e => x e ρ2) (fun r => k r ρ2)) ρ1) ρ
def eNil : Ev S (List D) := fun _ k ρ => k [] ρ
def eCons (m : Ev S D) (ms : Ev S (List D)) : Ev S (List D) := fun x k ρ => m x (fun d ρ1 => ms x (fun ds ρ2 => k (d :: ds) ρ2) ρ1) ρ
def eTup (ms : Ev S (List D)) : Ev S D := fun x k ρ => ms x (fun ds ρ1 => k (.tuple ds) ρ1) ρ
def eLst (ms : Ev S (List D)) : Ev S (List D) := fun x k ρ => ms x (fun ds ρ1 => k ds ρ1) ρ
def eCall (f : List D → Option D) (ms : Ev S (List D)) : Ev S D := fun x k ρ => ms x (fun ds ρ1 => (oM (f ds)).on (fun e => x e ρ1) (fun r => k r ρ1)) ρ
def eAnd (a b : Ev S Bool) : Ev S Bool := fun x k ρ => a x (fun t ρ1 => if t then b x k ρ1 else k false ρ1) ρ
def eIf {α : Type} (c : Ev S Bool) (a b : Ev S α) : Ev S α := fun x k ρ => c x (fun t ρ1 => if t then a x k ρ1 else b x k ρ1) ρ
theorem opt_ok {α : Type} {OK : M S → Prop} (hO : KOk OK) {o : Option α} {x : Ex → M S} {k : α → M S} (h : OK ((oM o).on x k)) : ∃ a, o = some a ∧ OK (k a) := by
  cases o with
  | none => exact (hO h).elim
  | some a => exact ⟨a, rfl, h⟩
theorem fit_ok {α : Type} {OK : M S → Prop} (hO : KOk OK) {ds : List α} {x : Ex → M S} {k : List α → M S} (h : OK ((fitM ds).on x k)) : ds.length ≤ sizeLine ∧ OK (k ds) := by
  unfold fitM at h
  split at h
  · exact ⟨by assumption, h⟩
  · exact (hO h).elim
variable {ma mb m : Ev S D} {ta tb tc : Ev S Bool} {ms : Ev S (List D)}
theorem ae_b (h : AEb X e ta) : AE X e (eB ta) := fun OK x k G F σ H ρ Q hO hX St ok kk => h OK x _ G F σ H ρ Q hO hX St ok fun b F' H' ρ' s S' o => kk _ _ F' H' ρ' s S' (.bl b) o
theorem ae_z (h : AEl X e ms) : AE X e (eZ ms) := fun OK x k G F σ H ρ Q hO hX St ok kk => h OK x _ G F σ H ρ Q hO hX St ok fun ds v F' H' ρ' s S' fr o => by
  obtain ⟨F2, s2, S2, r2⟩ := S'.settle (v := v) (ds := ds) fr
  exact kk _ v F2 H' ρ' (s.trans s2) S2 r2 o
theorem ebin_go {r : R2} {Q : VK} {OK : M S → Prop} {x : Ex → En → M S} {G : Gh} {F H : Hp} {σ : L2.St} {ρ : En} {f : D → D → En → M S} (ha : AE X a ma) (hb : AE X b mb) (hO : KOk OK) (hX : XL X OK x G) (St : StOk X.K G F σ H ρ)
    (ok : OK (ma x (fun d ρ1 => mb x (fun d2 ρ2 => f d d2 ρ2) ρ1) ρ)) (k : ∀ u v dx dy F' H' ρ', Same F F' → StOk X.K G F' σ H' ρ' → Rep X.K F' u dx → Rep X.K F' v dy → OK (f dx dy ρ') → r u v H' Q) : tOp r (tSem X a) (tSem X b) σ H Q :=
  ha OK x _ G F σ H ρ _ hO hX St ok fun d v F1 H1 ρ1 s1 S1 r1 o1 => hb OK x _ G F1 σ H1 ρ1 _ hO hX S1 o1 fun d2 u F2 H2 ρ2 s2 S2 r2 o2 => k v u d d2 F2 H2 ρ2 (s1.trans s2) S2 (r1.mono s2) r2 o2
theorem ae_bin {op : Operator} {r : R2} {f : D → D → Option D} (ho : OpR X (binaryOp op) r) (hf : OpD X.K r f) (ha : AE X a ma) (hb : AE X b mb) : AE X (.BinOp a op b pos) (eBin f ma mb) :=
  fun OK x k G F σ H ρ Q hO hX St ok kk => sem (pe_op ho pe_sem pe_sem) (ebin_go ha hb hO hX St ok fun u v dx dy F' H' ρ' s S' r1 r2 o => by
    obtain ⟨res, e, o'⟩ := opt_ok hO o
    exact hf G F' σ H' ρ' u v dx dy res Q S' (.inl r1) (.inl r2) e fun w F2 H2 s2 S2 r3 => kk res w F2 H2 ρ' (s.trans s2) S2 r3 o')
theorem ae_ix {r : R2} {f : D → D → Option D} (hr : IxR X r) (hf : OpD X.K r f) (ha : AE X a ma) (hb : AE X b mb) (hs : PlainIx b) : AE X (.Subscript a b pos) (eBin f ma mb) :=
  fun OK x k G F σ H ρ Q hO hX St ok kk => sem (pe_ix hr pe_sem pe_sem hs) (ebin_go ha hb hO hX St ok fun u v dx dy F' H' ρ' s S' r1 r2 o => by
    obtain ⟨res, e, o'⟩ := opt_ok hO o
    exact hf G F' σ H' ρ' u v dx dy res Q S' (.inl r1) (.inl r2) e fun w F2 H2 s2 S2 r3 => kk res w F2 H2 ρ' (s.trans s2) S2 r3 o')
theorem aeb_cmp {op : CmpOp} {r : R2} {f : D → D → Option Bool} (ho : OpR X (compareOp op) r) (hf : OpB X.K r f) (ha : AE X a ma) (hb : AE X b mb) (hm : behindInMarks op b = false) : AEb X (.Compare a [op] [b] pos) (eBinB f ma mb) :=
  fun OK x k G F σ H ρ Q hO hX St ok kk => sem (pe_cmpR ho pe_sem pe_sem hm) (ebin_go ha hb hO hX St ok fun u v dx dy F' H' ρ' s S' r1 r2 o => by
    obtain ⟨res, e, o'⟩ := opt_ok hO o
    exact hf G F' σ H' ρ' u v dx dy res Q S' (.inl r1) (.inl r2) e (kk res F' H' ρ' s S' o'))
theorem aet_cmp {op : CmpOp} {r : R2} {f : D → D → Option Bool} (ho : OpR X (compareOp op) r) (hf : OpB X.K r f) (ha : AE X a ma) (hb : AE X b mb) (hm : behindInMarks op b = false) : AEt X (.Compare a [op] [b] pos) (eBinB f ma mb) :=
  fun OK x k G F σ H ρ Q hO hX St ok kk => semT (pt_cmpR ho pe_sem pe_sem hm) (ebin_go (Q := fun x H' => ∃ k, x = .bl k ∧ Q k H') ha hb hO hX St ok fun u v dx dy F' H' ρ' s S' r1 r2 o => by
    obtain ⟨res, e, o'⟩ := opt_ok hO o
    exact hf G F' σ H' ρ' u v dx dy res _ S' (.inl r1) (.inl r2) e ⟨res, rfl, kk res F' H' ρ' s S' o'⟩)
theorem aea_nil : AEa (S := S) X [] eNil := fun OK x k G F σ H ρ Q hO hX St ok kk => semA pa_nil (kk [] [] F H ρ (Same.refl _) St rfl .nil ok)
theorem aea_cons (h : AE X e m) (hr : AEa X es ms) (hs : starEach (e :: es) X.env = (false, eval e X.env) :: starEach es X.env) : AEa X (e :: es) (eCons m ms) :=
  fun OK x k G F σ H ρ Q hO hX St ok kk => semA (pa_cons pe_sem pa_sem hs) (h OK x _ G F σ H ρ _ hO hX St ok fun d v F1 H1 ρ1 s1 S1 r1 o1 =>
    hr OK x _ G F1 σ H1 ρ1 _ hO hX S1 o1 fun ds vs F2 H2 ρ2 s2 S2 hl r2 o2 => kk (d :: ds) (v :: vs) F2 H2 ρ2 (s1.trans s2) S2 (by simp [hl]) (.cons (r1.mono s2) r2) o2)
theorem ae_tup {x1} (h : AEa X es ms) (hz : es.length ≤ 1000) : AE X (.Tuple es x1 pos) (eTup ms) :=
  fun OK x k G F σ H ρ Q hO hX St ok kk => sem (pe_tup pa_sem) (h OK x _ G F σ H ρ _ hO hX St ok fun ds vs F1 H1 ρ1 s1 S1 hl r1 o1 => by
    refine ⟨by rw [hl]; exact le1000 hz, fun q hq => ?_⟩
    obtain ⟨s2, S2, r2⟩ := S1.newTup hq r1
    exact kk _ _ _ _ ρ1 (s1.trans s2) S2 r2 o1)
theorem ael_lst (h : AEa X es ms) (hz : es.length ≤ 1000) : AEl X (.List es pos) (eLst ms) :=
  fun OK x k G F σ H ρ Q hO hX St ok kk => sem (pe_lst pa_sem) (h OK x _ G F σ H ρ _ hO hX St ok fun ds vs F1 H1 ρ1 s1 S1 hl r1 o1 => by
    refine ⟨by rw [hl]; exact le1000 hz, fun q hq => ?_⟩
    obtain ⟨S2, r2⟩ := S1.newLst hq r1
    exact kk _ _ _ _ ρ1 s1 S2 r2 o1)
theorem aew_and1 (ha : AEt X a ta) : AEw X (.BoolOp .And [a] pos) ta := fun OK x k G F σ H ρ Q hO hX St ok kk => semW (pw_and1 pt_sem) (ha OK x k G F σ H ρ Q hO hX St ok kk)
theorem aew_and (ha : AEt X a ta) (hb : AEw X (.BoolOp .And (b :: rest) pos) tb) : AEw X (.BoolOp .And (a :: b :: rest) pos) (eAnd ta tb) :=
  fun OK x k G F σ H ρ Q hO hX St ok kk => semW (pw_and pt_sem pw_sem) (ha OK x _ G F σ H ρ _ hO hX St ok fun t F1 H1 ρ1 s1 S1 o1 => by
    cases t with
    | true => refine iteT ?_; exact hb OK x k G F1 σ H1 ρ1 Q hO hX S1 o1 fun d F2 H2 ρ2 s2 S2 o2 => kk d F2 H2 ρ2 (s1.trans s2) S2 o2
    | false => refine iteF ?_; exact kk false F1 H1 ρ1 s1 S1 o1)
theorem aet_aw (h : AEw X e ta) : AEt X e ta := fun OK x k G F σ H ρ Q hO hX St ok kk => semT (fun pins s σ H Q I h => pw_sem _ pins s σ H Q I h) (h OK x k G F σ H ρ Q hO hX St ok kk)
theorem ae_if (hc : AEt X c tc) (ha : AE X a ma) (hb : AE X b mb) : AE X (.IfExp c a b pos) (eIf tc ma mb) :=
  fun OK x k G F σ H ρ Q hO hX St ok kk => sem (pe_ifExp pt_sem pe_sem pe_sem) (hc OK x _ G F σ H ρ _ hO hX St ok fun t F1 H1 ρ1 s1 S1 o1 => by
    cases t with
    | true => refine iteT ?_; exact ha OK x k G F1 σ H1 ρ1 Q hO hX S1 o1 fun d v F2 H2 ρ2 s2 S2 r2 o2 => kk d v F2 H2 ρ2 (s1.trans s2) S2 r2 o2
    | false => refine iteF ?_; exact hb OK x k G F1 σ H1 ρ1 Q hO hX S1 o1 fun d v F2 H2 ρ2 s2 S2 r2 o2 => kk d v F2 H2 ρ2 (s1.trans s2) S2 r2 o2)
theorem RepL.ors {K : Fg} {F H : Hp} : ∀ {vs : List V} {ds : List D}, RepL K F vs ds → ORs K F H vs ds
  | _, _, .nil => .nil
  | _, _, .cons h t => .cons (.inl h) (RepL.ors t)
theorem ae_callTy {x : Str} {p : Pos} {T : String} {r : List V → Hp → VK → Prop} {f : List D → Option D} (hc : CallR X (.type T) r) (hf : CallD X.K r f) (hg : Gl X x) (hm : X.mg x = none) (hv : bootBuiltins x = some (.type T)) (ha : AEa X (e :: es) ms)
    (hn : x ≠ "__name__") (hdb : (x == ("__debug__" : Str)) = false) (he : starEach (e :: es) X.env = (false, eval e X.env) :: starEach es X.env) (hpl : (backTo pos (starEach es X.env)).any (·.1) = false) : AE X (.Call (.Name x p) (e :: es) [] pos) (eCall f ms) :=
  fun OK y k G F σ H ρ Q hO hX St ok kk => sem (pe_callTy hc hg hm hv pa_sem hn hdb he hpl) (ha OK y _ G F σ H ρ _ hO hX St ok fun ds vs F1 H1 ρ1 s1 S1 _ r1 o1 => by
    obtain ⟨res, e, o'⟩ := opt_ok hO o1
    exact hf G F1 σ H1 ρ1 vs ds res Q S1 (RepL.ors r1) e fun w F2 H2 s2 S2 r3 => kk res w F2 H2 ρ1 (s1.trans s2) S2 r3 o')
end
end L4
set_option Elab.async false
set_option linter.all false
set_option maxRecDepth 100000
namespace L4
open PySem PySem.Spec PyProof.Rows L2 L3
structure Walk (K : Fg) (J : It) (ds : List D) (F : Hp) : Prop where
  go : ∀ (i : Nat) (G : Gh) (F2 : Hp) (σ : L2.St) (H2 : Hp) (ρ : En), Same F F2 → StOk K G F2 σ H2 ρ → i < ds.length → J.go i H2
  yld : ∀ (i : Nat) (G : Gh) (F2 : Hp) (σ : L2.St) (H2 : Hp) (ρ : En) (x : V) (H3 : Hp) (d : D), Same F F2 → StOk K G F2 σ H2 ρ → ds[i]? = some d → J.yld i H2 x H3 → ∃ F3, Same F2 F3 ∧ StOk K G F3 σ H3 ρ ∧ Rep K F3 x d
  stop : ∀ (G : Gh) (F2 : Hp) (σ : L2.St) (H2 : Hp) (ρ : En), Same F F2 → StOk K G F2 σ H2 ρ → J.stop ds.length H2
theorem walk_list {K : Fg} {F : Hp} {a : Addr} {vs : List V} {ds : List D} (h : SqL K F a vs) (r : RepL K F vs ds) : Walk K (Itl K a) ds F where
  go := fun i G F2 σ H2 ρ s S hi => by
    have hi' : i < vs.length := by rw [r.length]; exact hi
    exact ⟨vs, vs[i], S.fh.seq (s.seq h), by simp [hi']⟩
  yld := fun i G F2 σ H2 ρ x H3 d s S hd ⟨e, q⟩ => by
    subst e
    obtain ⟨v, e1, e2⟩ := r.get hd
    have := q vs (S.fh.seq (s.seq h))
    rw [e1] at this
    cases this
    exact ⟨F2, Same.refl _, S, e2.mono s⟩
  stop := fun G F2 σ H2 ρ s S => ⟨vs, S.fh.seq (s.seq h), by rw [r.length]; exact Nat.le_refl _⟩
theorem walk_tup {K : Fg} {F : Hp} {a : Addr} {vs : List V} {ds : List D} (h : SqT K F a vs) (r : RepL K F vs ds) : Walk K (Itt K a) ds F where
  go := fun i G F2 σ H2 ρ s S hi => by
    have hi' : i < vs.length := by rw [r.length]; exact hi
    exact ⟨vs, vs[i], sqT_mono S.fh (sqT_mono s h), by simp [hi']⟩
  yld := fun i G F2 σ H2 ρ x H3 d s S hd ⟨e, q⟩ => by
    subst e
    obtain ⟨v, e1, e2⟩ := r.get hd
    have := q vs (sqT_mono S.fh (sqT_mono s h))
    rw [e1] at this
    cases this
    exact ⟨F2, Same.refl _, S, e2.mono s⟩
  stop := fun G F2 σ H2 ρ s S => ⟨vs, sqT_mono S.fh (sqT_mono s h), by rw [r.length]; exact Nat.le_refl _⟩
def rangeD (lo : Int) (n : Nat) : List D := (List.range n).map fun (i : Nat) => PyData.int (lo + (i : Int))
theorem rangeD_length (lo : Int) (n : Nat) : (rangeD lo n).length = n := by simp [rangeD]
theorem walk_range {K : Fg} {F : Hp} (lo : Int) (n : Nat) : Walk K (Itr lo n) (rangeD lo n) F where
  go := fun i G F2 σ H2 ρ s S hi => by rw [rangeD_length] at hi; exact hi
  yld := fun i G F2 σ H2 ρ x H3 d s S hd ⟨e, q⟩ => by
    subst e q
    have e' : (rangeD lo n)[i]? = some d := hd
    unfold rangeD at e'
    rw [List.getElem?_map] at e'
    have hi : i < n := by
      have := (List.getElem?_eq_some_iff.mp hd).1
      rw [rangeD_length] at this; exact this
    rw [List.getElem?_range hi] at e'
    cases e'
    exact ⟨F2, Same.refl _, S, .int _⟩
  stop := fun G F2 σ H2 ρ s S => by rw [rangeD_length]; exact Nat.le_refl _
@[irreducible] def tSemI (X : Cx) (tg iter : Expr) : TI := fun σ H R => ∀ (pins : List (Addr × Obj)) (s : Shared), Inv X pins σ H s → wpAny (model X.prog X.w) X.A (eval iter X.env) (fun v s1 => wpAny (model X.prog X.w) X.A (pyIter v) (PIE X pins σ tg R) X.xe s1) X.xe s
theorem pi_sem {X : Cx} {tg e : Expr} : PI X tg e (tSemI X tg e) := fun pins s σ H R I h => by unfold tSemI at h; exact h pins s I
theorem semI {X : Cx} {tg e : Expr} {σ : L2.St} {H : Hp} {R : It → Hp → Prop} {t : TI} (h : PI X tg e t) (q : t σ H R) : tSemI X tg e σ H R := by unfold tSemI; exact fun pins s I => h pins s σ H R I q
def AI (X : Cx) (tg e : Expr) (p : Pu (List D)) : Prop :=
  ∀ (G : Gh) (F : Hp) (σ : L2.St) (H : Hp) (ρ : En) (R : It → Hp → Prop), StOk X.K G F σ H ρ → W X G F σ ρ (p ρ) (fun ds F' H' => ∀ J, Walk X.K J ds F' → R J H') → tSemI X tg e σ H R
def AEi {S : Type} (X : Cx) (tg e : Expr) (m : Ev S (List D)) : Prop :=
  ∀ (OK : M S → Prop) (x : Ex → En → M S) (k : List D → En → M S) (G : Gh) (F : Hp) (σ : L2.St) (H : Hp) (ρ : En) (R : It → Hp → Prop), KOk OK → XL X OK x G → StOk X.K G F σ H ρ → OK (m x k ρ) →
    (∀ ds J F' H' ρ', Same F F' → StOk X.K G F' σ H' ρ' → Walk X.K J ds F' → OK (k ds ρ') → R J H') → tSemI X tg e σ H R
theorem aei_pu {S : Type} {X : Cx} {tg e : Expr} {ps : Pu (List D)} (h : AI X tg e ps) : AEi (S := S) X tg e (ePu ps) := fun OK x k G F σ H ρ Q hO hX St ok kk => h G F σ H ρ Q St (W.of hO hX ok fun d F' H' s S' o v r => kk d v F' H' ρ s S' r o)
def iSeq (K : Fg) (tl : TE) : TI := fun σ H R => tl σ H fun x H1 => (∃ a, x = .ref a ∧ (∃ xs, SqL K H1 a xs) ∧ R (Itl K a) H1) ∨ ∃ a, x = .ref a ∧ (∃ xs, SqT K H1 a xs) ∧ R (Itt K a) H1
theorem pi_seq {X : Cx} {tg l : Expr} {tl : TE} (hl : PE X l tl) : PI X tg l (iSeq X.K tl) := by
  intro pins s σ H R I h
  refine thn (hl pins s σ H _ I h) fun v s1 ⟨x, H1, I1, r1, q1⟩ => ?_
  rcases q1 with ⟨a, e, ⟨xs, hq⟩, q⟩ | ⟨a, e, ⟨xs, hq⟩, q⟩
  · subst e
    cases r1
    obtain ⟨its, rv, p, hz⟩ := I1.list hq
    refine wpAny_pyIter_list p.isList ?_
    refine ⟨s1.heap.objs.size, [s1.heap.objs.size], _, _, H1, rfl, I1.kept (t' := s1.toks) fun b o e => Heap.get?_push_of_some _ e, turn_list a _, ⟨_, Heap.get?_push_size _ rfl, rfl, rfl⟩, fun b hb => ?_, q⟩
    have e : b = s1.heap.objs.size := by simpa using hb
    subst e
    exact I1.fpOk (Nat.le_refl _) (I1.hok.fresh (Nat.le_refl _))
  · subst e
    cases r1
    obtain ⟨its, rv, p, hz⟩ := I1.tuple hq
    refine wpAny_pyIter_tuple (show s1.heap.IsTuple a its.toArray from p) ?_
    refine ⟨s1.heap.objs.size, [s1.heap.objs.size], _, _, H1, rfl, I1.kept (t' := s1.toks) fun b o e => Heap.get?_push_of_some _ e, turn_tuple a _, ⟨_, Heap.get?_push_size _ rfl, rfl, rfl⟩, fun b hb => ?_, q⟩
    have e : b = s1.heap.objs.size := by simpa using hb
    subst e
    exact I1.fpOk (Nat.le_refl _) (I1.hok.fresh (Nat.le_refl _))
def seqD : D → Option (List D)
  | .list ds => some ds
  | .tuple ds => some ds
  | _ => none
def pIt (p : Pu D) : Pu (List D) := fun ρ => bd (p ρ) fun d => oM (seqD d)
def small62 (i : Int) : Bool := decide (-(2 ^ 62) ≤ i) && decide (i < 2 ^ 62)
theorem small62_of {i : Int} (h : small62 i = true) : -(2 ^ 62) ≤ i ∧ i < 2 ^ 62 := by
  unfold small62 at h
  simp only [Bool.and_eq_true, decide_eq_true_eq] at h
  exact h
def fRange1 : List D → Option (List D)
  | [.int j] => if small62 j then some (rangeD 0 j.toNat) else none
  | _ => none
def fRange2 : List D → Option (List D)
  | [.int i, .int j] => if small62 i && small62 j then some (rangeD i (j - i).toNat) else none
  | _ => none
def eCallL {S : Type} (f : List D → Option (List D)) (ms : Ev S (List D)) : Ev S (List D) := fun x k ρ => ms x (fun ds ρ1 => (oM (f ds)).on (fun e => x e ρ1) (fun r => k r ρ1)) ρ
section
variable {S : Type} {X : Cx} {tg e a b : Expr} {pp : Pu D} {ps : Pa (List D)} {m : Ev S D} {ms : Ev S (List D)} {p pos : Pos}
theorem seq_walk {F H : Hp} {v : V} {d : D} {ds : List D} {R : It → Hp → Prop} (s : Same F H) (r : Rep X.K F v d) (hd : seqD d = some ds) (k : ∀ J, Walk X.K J ds F → R J H) :
    (∃ a, v = .ref a ∧ (∃ xs, SqL X.K H a xs) ∧ R (Itl X.K a) H) ∨ ∃ a, v = .ref a ∧ (∃ xs, SqT X.K H a xs) ∧ R (Itt X.K a) H := by
  cases r with
  | lst h1 h2 => cases hd; exact .inl ⟨_, rfl, ⟨_, s.seq h1⟩, k _ (walk_list h1 h2)⟩
  | tup h1 h2 => cases hd; exact .inr ⟨_, rfl, ⟨_, SqT.of (s _ _ h1)⟩, k _ (walk_tup (SqT.of h1) h2)⟩
  | dct _ _ _ => cases hd
  | dck _ _ _ => cases hd
  | non => cases hd
  | bl _ => cases hd
  | int _ => cases hd
  | str _ => cases hd
theorem ai_seq (h : AP X e pp) : AI X tg e (pIt pp) := fun G F σ H ρ R S w => semI (pi_seq pe_sem) (h G F σ H ρ _ S (w.bind.imp fun d F1 H1 s1 S1 w1 v r1 => by
  obtain ⟨ds, hd, k⟩ := w1.opt
  exact seq_walk S1.fh r1 hd (k F1 H1 (Same.refl _) S1)))
theorem range1_go {F H : Hp} {vs : List V} {ds out : List D} {R : It → Hp → Prop} (r : RepL X.K F vs ds) (h : fRange1 ds = some out) (k : ∀ J, Walk X.K J out F → R J H) : ∃ j, vs = [.int j] ∧ -(2 ^ 62) ≤ j ∧ j < 2 ^ 62 ∧ R (Itr 0 j.toNat) H := by
  unfold fRange1 at h
  split at h
  · rename_i j
    split at h
    · rename_i hs
      cases h
      cases r with
      | cons r1 r2 =>
        cases r2
        cases r1
        exact ⟨j, rfl, (small62_of hs).1, (small62_of hs).2, k _ (walk_range 0 j.toNat)⟩
    · cases h
  · cases h
theorem range2_go {F H : Hp} {vs : List V} {ds out : List D} {R : It → Hp → Prop} (r : RepL X.K F vs ds) (h : fRange2 ds = some out) (k : ∀ J, Walk X.K J out F → R J H) :
    ∃ i j, vs = [.int i, .int j] ∧ (-(2 ^ 62) ≤ i ∧ i < 2 ^ 62 ∧ -(2 ^ 62) ≤ j ∧ j < 2 ^ 62) ∧ R (Itr i (j - i).toNat) H := by
  unfold fRange2 at h
  split at h
  · rename_i i j
    split at h
    · rename_i hs
      cases h
      rw [Bool.and_eq_true] at hs
      cases r with
      | cons r1 r2 =>
        cases r2 with
        | cons r3 r4 =>
          cases r4
          cases r1
          cases r3
          exact ⟨i, j, rfl, ⟨(small62_of hs.1).1, (small62_of hs.1).2, (small62_of hs.2).1, (small62_of hs.2).2⟩, k _ (walk_range i (j - i).toNat)⟩
    · cases h
  · cases h
theorem ai_range1 (hg : Gl X "range") (hm : X.mg "range" = none) (ha : AA X [a] ps) (hs : starEach [a] X.env = [(false, eval a X.env)]) : AI X tg (.Call (.Name "range" p) [a] [] pos) (pCallL fRange1 ps) :=
  fun G F σ H ρ R S w => semI (pi_range1 hg hm pa_sem hs) (ha G F σ H ρ _ _ _ S w fun ds vs F1 H1 s1 S1 _ r1 w1 => by
    obtain ⟨out, hd, k⟩ := w1.opt
    exact range1_go r1 hd (k F1 H1 (Same.refl _) S1))
theorem ai_range2 (hg : Gl X "range") (hm : X.mg "range" = none) (ha : AA X [a, b] ps) (hs : starEach [a, b] X.env = [(false, eval a X.env), (false, eval b X.env)]) (hs2 : starEach [b] X.env = [(false, eval b X.env)]) : AI X tg (.Call (.Name "range" p) [a, b] [] pos) (pCallL fRange2 ps) :=
  fun G F σ H ρ R S w => semI (pi_range2 hg hm pa_sem hs hs2) (ha G F σ H ρ _ _ _ S w fun ds vs F1 H1 s1 S1 _ r1 w1 => by
    obtain ⟨out, hd, k⟩ := w1.opt
    exact range2_go r1 hd (k F1 H1 (Same.refl _) S1))
theorem aei_range1 (hg : Gl X "range") (hm : X.mg "range" = none) (ha : AEa X [a] ms) (hs : starEach [a] X.env = [(false, eval a X.env)]) : AEi X tg (.Call (.Name "range" p) [a] [] pos) (eCallL fRange1 ms) :=
  fun OK x k G F σ H ρ R hO hX St ok kk => semI (pi_range1 hg hm pa_sem hs) (ha OK x _ G F σ H ρ _ hO hX St ok fun ds vs F1 H1 ρ1 s1 S1 _ r1 o1 => by
    obtain ⟨out, hd, o⟩ := opt_ok hO o1
    exact range1_go r1 hd fun J wk => kk out J F1 H1 ρ1 s1 S1 wk o)
end
abbrev Tg (S : Type) := D → (En → M S) → En → M S
def okSet (ρ : En) (i : Nat) : Bool := decide (i < ρ.length) && (match ρ[i]? with
  | some (some (.op _)) => false
  | _ => true)
theorem okSet_of {ρ : En} {i : Nat} (h : okSet ρ i = true) : i < ρ.length ∧ ∀ c, ρ[i]? ≠ some (some (.op c)) := by
  unfold okSet at h
  rw [Bool.and_eq_true] at h
  refine ⟨by simpa using h.1, fun c e => ?_⟩
  rw [e] at h
  exact absurd h.2 (by simp)
@[irreducible] def tSemG (X : Cx) (tg : Expr) : TG := fun v σ H Q => ∀ (pins : List (Addr × Obj)) (s : Shared) (u : Value), Inv X pins σ H s → RelV v u → wpAny (model X.prog X.w) X.A (assign tg X.env u) (fun _ s' => ∃ σ' H', Inv X pins σ' H' s' ∧ Q σ' H') X.xe s
@[irreducible] def tSemGs (X : Cx) (tgs : List Expr) : TGs := fun vs σ H Q => ∀ (pins : List (Addr × Obj)) (s : Shared) (us : List Value), Inv X pins σ H s → Vals vs us → wpAny (model X.prog X.w) X.A (assignInOrder ((assignEach tgs X.env).map (·.2)) us) (fun _ s' => ∃ σ' H', Inv X pins σ' H' s' ∧ Q σ' H') X.xe s
theorem pg_sem {X : Cx} {tg : Expr} : PG X tg (tSemG X tg) := fun pins s σ H v u Q I r h => by unfold tSemG at h; exact h pins s u I r
theorem pgs_sem {X : Cx} {tgs : List Expr} : PGs X tgs (tSemGs X tgs) := fun pins s σ H vs us Q I r h => by unfold tSemGs at h; exact h pins s us I r
theorem semG {X : Cx} {tg : Expr} {t : TG} {v : V} {σ : L2.St} {H : Hp} {Q : L2.St → Hp → Prop} (h : PG X tg t) (q : t v σ H Q) : tSemG X tg v σ H Q := by unfold tSemG; exact fun pins s u I r => h pins s σ H v u Q I r q
theorem semGs {X : Cx} {tgs : List Expr} {t : TGs} {vs : List V} {σ : L2.St} {H : Hp} {Q : L2.St → Hp → Prop} (h : PGs X tgs t) (q : t vs σ H Q) : tSemGs X tgs vs σ H Q := by unfold tSemGs; exact fun pins s us I r => h pins s σ H vs us Q I r q
def AG {S : Type} (X : Cx) (n : Nat) (tg : Expr) (st : Tg S) : Prop :=
  ∀ (OK : M S → Prop) (k : En → M S) (G : Gh) (F : Hp) (σ : L2.St) (H : Hp) (ρ : En) (v : V) (d : D) (Q : L2.St → Hp → Prop), KOk OK → StOk X.K G F σ H ρ → Rep X.K F v d → OK (st d k ρ) →
    (∀ σ' ρ', StOk X.K G F σ' H ρ' → (∀ j, j < n → σ'[j]? = σ[j]? ∧ ρ'[j]? = ρ[j]?) → σ'.length = σ.length → ρ'.length = ρ.length → OK (k ρ') → Q σ' H) → tSemG X tg v σ H Q
def AGs {S : Type} (X : Cx) (n : Nat) (tgs : List Expr) (st : List D → (En → M S) → En → M S) : Prop :=
  ∀ (OK : M S → Prop) (k : En → M S) (G : Gh) (F : Hp) (σ : L2.St) (H : Hp) (ρ : En) (vs : List V) (ds : List D) (Q : L2.St → Hp → Prop), KOk OK → StOk X.K G F σ H ρ → RepL X.K F vs ds → OK (st ds k ρ) →
    (∀ σ' ρ', StOk X.K G F σ' H ρ' → (∀ j, j < n → σ'[j]? = σ[j]? ∧ ρ'[j]? = ρ[j]?) → σ'.length = σ.length → ρ'.length = ρ.length → OK (k ρ') → Q σ' H) → tSemGs X tgs vs σ H Q
def gSet {S : Type} (i : Nat) : Tg S := fun d k ρ => match okSet ρ i with
  | true => k (ρ.set i (some (.fz d)))
  | false => .bad
def gsNil {S : Type} : List D → (En → M S) → En → M S
  | [], k, ρ => k ρ
  | _, _, _ => .bad
def gsCons {S : Type} (t : Tg S) (ts : List D → (En → M S) → En → M S) : List D → (En → M S) → En → M S
  | d :: ds, k, ρ => t d (fun ρ1 => ts ds k ρ1) ρ
  | [], _, _ => .bad
def un1 {S : Type} (d : D) (k : D → M S) : M S := match d with
  | .tuple [a] => k a
  | _ => .bad
def un2 {S : Type} (d : D) (k : D → D → M S) : M S := match d with
  | .tuple [a, b] => k a b
  | _ => .bad
def un4 {S : Type} (d : D) (k : D → D → D → D → M S) : M S := match d with
  | .tuple [a, b, c, e] => k a b c e
  | _ => .bad
def gTup2 {S : Type} (ts : List D → (En → M S) → En → M S) : Tg S := fun d k ρ => un2 d fun a b => ts [a, b] k ρ
def gTup4 {S : Type} (ts : List D → (En → M S) → En → M S) : Tg S := fun d k ρ => un4 d fun a b c e => ts [a, b, c, e] k ρ
section
variable {S : Type} {X : Cx} {pos : Pos} {n : Nat}
theorem ag_name {i : Nat} {x : Str} (hn : n ≤ i) (hN : X.N.Nodup) (hi : X.N[i]? = some x) (hx : Loc X.env.scope x) (hf : X.fn x = true ∨ X.env.scope.names.lookup x = some .local) : AG (S := S) X n (.Name x pos) (gSet i) := by
  intro OK k G F σ H ρ v d Q hO S r ok kk
  unfold gSet at ok
  split at ok
  · rename_i ho
    obtain ⟨hl, hop⟩ := okSet_of ho
    refine semG (pg_name hN hi hx hf) ?_
    exact kk _ _ (S.store hop hl (.inl ⟨d, rfl, r⟩)) (fun j hj => ⟨List.getElem?_set_ne (by omega), List.getElem?_set_ne (by omega)⟩) (by simp) (by simp) ok
  · exact (hO ok).elim
theorem ags_nil : AGs (S := S) X n [] gsNil := by
  intro OK k G F σ H ρ vs ds Q hO S r ok kk
  cases ds with
  | nil =>
    cases r
    exact semGs pgs_nil ⟨rfl, kk σ ρ S (fun _ _ => ⟨rfl, rfl⟩) rfl rfl ok⟩
  | cons d ds => exact (hO ok).elim
theorem ags_cons {e : Expr} {es : List Expr} {st : Tg S} {sts : List D → (En → M S) → En → M S} (h1 : AG X n e st) (h2 : AGs X n es sts)
    (hs : (assignEach (e :: es) X.env).map (·.2) = assign e X.env :: (assignEach es X.env).map (·.2)) : AGs X n (e :: es) (gsCons st sts) := by
  intro OK k G F σ H ρ vs ds Q hO S r ok kk
  cases ds with
  | nil => exact (hO ok).elim
  | cons d ds =>
    cases r with
    | cons rv rr =>
      refine semGs (pgs_cons pg_sem pgs_sem hs) ⟨_, _, rfl, ?_⟩
      refine h1 OK _ G F σ H ρ _ d _ hO S rv ok fun σ1 ρ1 S1 kp1 l1 m1 o1 => ?_
      exact h2 OK k G F σ1 H ρ1 _ ds _ hO S1 rr o1 fun σ2 ρ2 S2 kp2 l2 m2 o2 => kk σ2 ρ2 S2 (fun j hj => ⟨(kp2 j hj).1.trans (kp1 j hj).1, (kp2 j hj).2.trans (kp1 j hj).2⟩) (l2.trans l1) (m2.trans m1) o2
theorem ag_tupN {es : List Expr} {kk l : Nat} {sts : List D → (En → M S) → En → M S} {st : Tg S} (hc : X.calm = true) (h : AGs X n es sts) (hn : (assignEach es X.env).length = l) (hst : (assignEach es X.env).findIdx? (·.1) = none)
    (hw : ∀ (OK : M S → Prop) d k ρ, KOk OK → OK (st d k ρ) → ∃ ds, d = .tuple ds ∧ ds.length = l ∧ OK (sts ds k ρ)) : AG X n (.Tuple es kk pos) st := by
  intro OK k G F σ H ρ v d Q hO S r ok k2
  obtain ⟨ds, rfl, hl, ok⟩ := hw OK d k ρ hO ok
  cases r with
  | tup h1 h2 =>
    refine semG (pg_tup hc pgs_sem hn hst) ⟨_, _, rfl, SqT.of (S.fh _ _ h1), by rw [h2.length]; exact hl, ?_⟩
    exact h OK k G F σ H ρ _ ds _ hO S h2 ok k2
theorem ag_tup2 {es : List Expr} {kk : Nat} {sts : List D → (En → M S) → En → M S} (hc : X.calm = true) (h : AGs X n es sts) (hn : (assignEach es X.env).length = 2) (hst : (assignEach es X.env).findIdx? (·.1) = none) : AG X n (.Tuple es kk pos) (gTup2 sts) :=
  ag_tupN hc h hn hst fun OK d k ρ hO o => by
    unfold gTup2 un2 at o
    split at o
    · exact ⟨_, rfl, rfl, o⟩
    · exact (hO o).elim
theorem ag_tup4 {es : List Expr} {kk : Nat} {sts : List D → (En → M S) → En → M S} (hc : X.calm = true) (h : AGs X n es sts) (hn : (assignEach es X.env).length = 4) (hst : (assignEach es X.env).findIdx? (·.1) = none) : AG X n (.Tuple es kk pos) (gTup4 sts) :=
  ag_tupN hc h hn hst fun OK d k ρ hO o => by
    unfold gTup4 un4 at o
    split at o
    · exact ⟨_, rfl, rfl, o⟩
    · exact (hO o).elim
end
abbrev SM (S : Type) := KS S → En → M S
structure EOk {S : Type} (X : Cx) (OK : M S → Prop) (K : KS S) (G : Gh) (F : Hp) (E : Ends) : Prop where
  nx : ∀ F' σ' H' ρ', Same F F' → StOk X.K G F' σ' H' ρ' → OK (K.nx ρ') → E.nx σ' H'
  rt : ∀ F' σ' H' ρ' d v, Same F F' → StOk X.K G F' σ' H' ρ' → Rep X.K F' v d → OK (K.rt d ρ') → E.rt v H'
  rl : ∀ F' σ' H' ρ' ds v, Same F F' → StOk X.K G F' σ' H' ρ' → Frs X.K G F' σ' H' ρ' v (.l ds) → OK (K.rl ds ρ') → E.rt v H'
  bk : ∀ F' σ' H' ρ', Same F F' → StOk X.K G F' σ' H' ρ' → OK (K.bk ρ') → E.bk σ' H'
  ct : ∀ F' σ' H' ρ', Same F F' → StOk X.K G F' σ' H' ρ' → OK (K.ct ρ') → E.ct σ' H'
theorem EOk.up {S : Type} {X : Cx} {OK : M S → Prop} {K : KS S} {G : Gh} {F F' : Hp} {E : Ends} (h : EOk X OK K G F E) (s : Same F F') : EOk X OK K G F' E :=
  ⟨fun F2 σ' H' ρ' s2 => h.nx F2 σ' H' ρ' (s.trans s2), fun F2 σ' H' ρ' d v s2 => h.rt F2 σ' H' ρ' d v (s.trans s2), fun F2 σ' H' ρ' d v s2 => h.rl F2 σ' H' ρ' d v (s.trans s2), fun F2 σ' H' ρ' s2 => h.bk F2 σ' H' ρ' (s.trans s2), fun F2 σ' H' ρ' s2 => h.ct F2 σ' H' ρ' (s.trans s2)⟩
@[irreducible] def tSemS (X : Cx) (st : Stmt) : TS := fun E σ H => ∀ (pins : List (Addr × Obj)) (s : Shared), Inv X pins σ H s → wpAny (model X.prog X.w) X.A (exec st X.env) (SP X pins E) X.xe s
@[irreducible] def tSemB (X : Cx) (sts : List Stmt) : TS := fun E σ H => ∀ (pins : List (Addr × Obj)) (s : Shared), Inv X pins σ H s → wpAny (model X.prog X.w) X.A (execs sts X.env) (SP X pins E) X.xe s
section
variable {X : Cx} {st : Stmt} {sts : List Stmt} {σ : L2.St} {H : Hp} {E : Ends} {t : TS}
theorem ps_sem : PS X st (tSemS X st) := fun pins s σ H E I h => by unfold tSemS at h; exact h pins s I
theorem pss_sem : PSs X sts (tSemB X sts) := fun pins s σ H E I h => by unfold tSemB at h; exact h pins s I
theorem semS (h : PS X st t) (q : t E σ H) : tSemS X st E σ H := by unfold tSemS; exact fun pins s I => h pins s σ H E I q
theorem semB (h : PSs X sts t) (q : t E σ H) : tSemB X sts E σ H := by unfold tSemB; exact fun pins s I => h pins s σ H E I q
end
def AS {S : Type} (X : Cx) (st : Stmt) (m : SM S) : Prop :=
  ∀ (OK : M S → Prop) (K : KS S) (G : Gh) (F : Hp) (σ : L2.St) (H : Hp) (ρ : En) (E : Ends), KOk OK → XL X OK K.x G → StOk X.K G F σ H ρ → OK (m K ρ) → EOk X OK K G F E → tSemS X st E σ H
def ASs {S : Type} (X : Cx) (st : List Stmt) (m : SM S) : Prop :=
  ∀ (OK : M S → Prop) (K : KS S) (G : Gh) (F : Hp) (σ : L2.St) (H : Hp) (ρ : En) (E : Ends), KOk OK → XL X OK K.x G → StOk X.K G F σ H ρ → OK (m K ρ) → EOk X OK K G F E → tSemB X st E σ H
section
variable {S : Type}
def sNext : SM S := fun K ρ => K.nx ρ
def sSeq (m n : SM S) : SM S := fun K ρ => m { K with nx := fun ρ1 => n K ρ1 } ρ
def sIf (c : Ev S Bool) (m n : SM S) : SM S := fun K ρ => c K.x (fun b ρ1 => if b then m K ρ1 else n K ρ1) ρ
def sTo (sh : List Kd) (m : SM S) : SM S := fun K ρ => m { K with nx := fun ρ1 => rdk sh (fun s => K.nx (wr sh s)) ρ1 } ρ
def sSet (i : Nat) (m : Ev S D) : SM S := fun K ρ => m K.x (fun d ρ1 => match okSet ρ1 i with
  | true => K.nx (ρ1.set i (some (.fz d)))
  | false => .bad) ρ
def sSetL (i : Nat) (m : Ev S (List D)) : SM S := fun K ρ => m K.x (fun ds ρ1 => match okSet ρ1 i with
  | true => K.nx (ρ1.set i (some (.ol (.l ds))))
  | false => .bad) ρ
def sAsg (t : Tg S) (m : Ev S D) : SM S := fun K ρ => m K.x (fun d ρ1 => t d K.nx ρ1) ρ
def sRet (m : Ev S D) : SM S := fun K ρ => m K.x K.rt ρ
def sRetL (m : Ev S (List D)) : SM S := fun K ρ => m K.x K.rl ρ
def sRetO (i : Nat) : SM S := fun K ρ => match ρ[i]? with
  | some (some (.ol (.l ds))) => K.rl ds (ρ.set i none)
  | _ => .bad
def sFrz (i : Nat) (m : SM S) : SM S := fun K ρ => match ρ[i]? with
  | some (some (.ol c)) => m K (ρ.set i (some (.fz c.d)))
  | _ => .bad
def setO (ρ : En) (i : Nat) (ds : List D) : En := match ρ[i]? with
  | some (some (.op _)) => ρ.set i (some (.op (.l ds)))
  | _ => ρ.set i (some (.ol (.l ds)))
def sMut (i : Nat) (f : List D → List D → Option (List D)) (ms : Ev S (List D)) : SM S := fun K ρ => match ownL ρ i with
  | some _ => ms K.x (fun as ρ1 => match ownL ρ1 i with
    | some ds => (oM (f ds as)).on (fun e => K.x e ρ1) (fun ds' => K.nx (setO ρ1 i ds'))
    | none => .bad) ρ
  | none => .bad
def forC {T : Type} (step : T → D → (T → M S) → M S) : List D → T → (T → M S) → M S
  | [], s, k => k s
  | d :: r, s, k => step s d (fun s' => forC step r s' k)
@[reducible] def loopK (sh : List Kd) (K : KS S) (kn : SOf sh → M S) : KS S := { K with
    nx := fun ρ3 => rdk sh kn ρ3
    ct := fun ρ3 => rdk sh kn ρ3
    bk := fun ρ3 => rdk sh (fun s' => K.nx (wr sh s')) ρ3 }
def sFor (sh : List Kd) (it : Ev S (List D)) (t : Tg S) (mb : SM S) : SM S := fun K ρ => it K.x (fun ds ρ1 => rdk sh (fun s => forC (fun s d kn => t d (fun ρ2 => mb (loopK sh K kn) ρ2) (wr sh s)) ds s (fun s' => K.nx (wr sh s'))) ρ1) ρ
end
theorem setO_change (ρ : En) (i : Nat) (ds ds0 : List D) (h : ownL ρ i = some ds0) : setO ρ i ds = ρ.set i ((ρ[i]?.join).map fun | .op _ => .op (.l ds) | _ => .ol (.l ds)) := by
  unfold ownL at h
  unfold setO
  split at h
  · rename_i q; rw [q]; rfl
  · rename_i q; rw [q]; rfl
  · cases h
theorem rdk_ok {S : Type} {OK : M S → Prop} (hO : KOk OK) {sh : List Kd} {k : SOf sh → M S} {ρ : En} (h : OK (rdk sh k ρ)) : ∃ s, rd sh ρ = some s ∧ OK (k s) := by
  unfold rdk at h
  split at h
  · rename_i s e; exact ⟨s, e, h⟩
  · exact (hO h).elim
section
variable {S : Type} {X : Cx} {st : Stmt} {sts rest : List Stmt} {m n : SM S} {e c a b : Expr} {me : Ev S D} {mt : Ev S Bool} {ml : Ev S (List D)} {pos pos' tpos : Pos}
theorem ass_nil : ASs (S := S) X [] sNext := fun OK K G F σ H ρ E hO hX St ok eo => semB pss_nil (eo.nx F σ H ρ (Same.refl _) St ok)
theorem ass_cons (h1 : AS X st m) (h2 : ASs X rest n) : ASs X (st :: rest) (sSeq m n) := fun OK K G F σ H ρ E hO hX St ok eo =>
  semB (pss_cons ps_sem pss_sem) (h1 OK { K with nx := fun ρ1 => n K ρ1 } G F σ H ρ _ hO hX St ok ⟨fun F' σ' H' ρ' s S' o => h2 OK K G F' σ' H' ρ' E hO hX S' o (eo.up s), eo.rt, eo.rl, eo.bk, eo.ct⟩)
theorem ass_one (h1 : AS X st m) : ASs X [st] m := fun OK K G F σ H ρ E hO hX St ok eo => semB (pss_one ps_sem) (h1 OK K G F σ H ρ E hO hX St ok eo)
theorem as_if {A B : List Stmt} (hc : AEt X c mt) (ha : ASs X A m) (hb : ASs X B n) : AS X (.If c A B pos) (sIf mt m n) := fun OK K G F σ H ρ E hO hX St ok eo =>
  semS (ps_if pt_sem pss_sem pss_sem) (hc OK K.x _ G F σ H ρ _ hO hX St ok fun t F1 H1 ρ1 s1 S1 o1 => by
    cases t with
    | true => exact ha OK K G F1 σ H1 ρ1 E hO hX S1 o1 (eo.up s1)
    | false => exact hb OK K G F1 σ H1 ρ1 E hO hX S1 o1 (eo.up s1))
theorem as_to {sh : List Kd} (h : AS X st m) : AS X st (sTo sh m) := fun OK K G F σ H ρ E hO hX St ok eo =>
  h OK { K with nx := fun ρ1 => rdk sh (fun s => K.nx (wr sh s)) ρ1 } G F σ H ρ E hO hX St ok ⟨fun F' σ' H' ρ' s S' o => by
    obtain ⟨s', e', o'⟩ := rdk_ok hO o
    exact eo.nx F' σ' H' _ s (S'.rd e') o', eo.rt, eo.rl, eo.bk, eo.ct⟩
theorem as_frz {i : Nat} (h : AS X st m) : AS X st (sFrz i m) := fun OK K G F σ H ρ E hO hX St ok eo => by
  unfold sFrz at ok
  split at ok
  · rename_i ds q
    obtain ⟨a, ea, _⟩ := St.ow i _ (.inl q)
    obtain ⟨F2, s2, S2, _⟩ := St.settleC q ea
    exact h OK K G F2 σ H _ E hO hX S2 ok (eo.up s2)
  · exact (hO ok).elim
theorem as_ret (he : AE X e me) : AS X (.Return (some e) pos) (sRet me) := fun OK K G F σ H ρ E hO hX St ok eo =>
  semS (ps_ret pe_sem) (he OK K.x K.rt G F σ H ρ _ hO hX St ok fun d v F1 H1 ρ1 s1 S1 r1 o1 => eo.rt F1 σ H1 ρ1 d v s1 S1 r1 o1)
theorem as_retL (he : AEl X e ml) : AS X (.Return (some e) pos) (sRetL ml) := fun OK K G F σ H ρ E hO hX St ok eo =>
  semS (ps_ret pe_sem) (he OK K.x K.rl G F σ H ρ _ hO hX St ok fun d v F1 H1 ρ1 s1 S1 r1 o1 => eo.rl F1 σ H1 ρ1 d v s1 S1 r1 o1)
theorem as_set {i : Nat} {x : Str} (hN : X.N.Nodup) (hi : X.N[i]? = some x) (hx : Loc X.env.scope x) (he : AE X e me) (hs : swapsWith e (some (.Name x pos')) pos.line X.env = pure false) (hf : X.fn x = true ∨ X.env.scope.names.lookup x = some .local) :
    AS X (.Assign [.Name x pos'] e pos) (sSet i me) := fun OK K G F σ H ρ E hO hX St ok eo =>
  semS (ps_set hN hi hx pe_sem hs hf) (he OK K.x _ G F σ H ρ _ hO hX St ok fun d v F1 H1 ρ1 s1 S1 r1 o1 => by
    split at o1
    · rename_i ho
      obtain ⟨hl, hop⟩ := okSet_of ho
      exact eo.nx F1 _ H1 _ s1 (S1.store hop hl (.inl ⟨d, rfl, r1⟩)) o1
    · exact (hO o1).elim)
theorem as_setL {i : Nat} {x : Str} (hN : X.N.Nodup) (hi : X.N[i]? = some x) (hx : Loc X.env.scope x) (he : AEl X e ml) (hs : swapsWith e (some (.Name x pos')) pos.line X.env = pure false) (hf : X.fn x = true ∨ X.env.scope.names.lookup x = some .local) :
    AS X (.Assign [.Name x pos'] e pos) (sSetL i ml) := fun OK K G F σ H ρ E hO hX St ok eo =>
  semS (ps_set hN hi hx pe_sem hs hf) (he OK K.x _ G F σ H ρ _ hO hX St ok fun d v F1 H1 ρ1 s1 S1 r1 o1 => by
    split at o1
    · rename_i ho
      obtain ⟨hl, hop⟩ := okSet_of ho
      exact eo.nx F1 _ H1 _ s1 (S1.store hop hl (.inr ⟨.l d, rfl, r1⟩)) o1
    · exact (hO o1).elim)
theorem as_asg {tg : Expr} {t : Tg S} (he : AE X e me) (hg : AG X 0 tg t) (hs : swapsWithSole [tg] e pos.line X.env = pure false) (hw : swappedStores [tg] e X.env = pure none)
    (h1 : (assignEach [tg] X.env).map (·.2) = [assign tg X.env]) : AS X (.Assign [tg] e pos) (sAsg t me) := fun OK K G F σ H ρ E hO hX St ok eo =>
  semS (ps_asg pe_sem pg_sem hs hw h1) (he OK K.x _ G F σ H ρ _ hO hX St ok fun d v F1 H1 ρ1 s1 S1 r1 o1 =>
    hg OK K.nx G F1 σ H1 ρ1 v d _ hO S1 r1 o1 fun σ' ρ' S' _ _ _ o' => eo.nx F1 σ' H1 ρ' s1 S' o')
end
end L4
set_option Elab.async false
set_option linter.all false
set_option maxRecDepth 100000
namespace L4
open PySem PySem.Spec PyProof.Rows L2 L3
section
variable {S : Type} {X : Cx} {m n mb : SM S} {e c a b o : Expr} {me mi : Ev S D} {mt : Ev S Bool} {ml ms : Ev S (List D)} {pos pos' tpos apos cpos : Pos}
theorem as_for {tg iter : Expr} {body : List Stmt} {sh : List Kd} {t : Tg S} (hp : PassesOwn (model X.prog X.w) X.A X.env X.xe) (hc : X.calm = true) (hi : AEi X tg iter ml) (hg : AG X 0 tg t) (hb : ASs X body mb)
    (hs : ∀ x, foldedSetIterable iter X.env x = pure x) : AS X (.For tg iter body [] pos) (sFor sh ml t mb) := fun OK K G F σ H ρ E hO hX St ok eo =>
  semS (ps_for hp hc pi_sem pg_sem pss_sem hs) (hi OK K.x _ G F σ H ρ _ hO hX St ok fun ds J F1 H1 ρ1 s1 S1 wk o1 => by
    obtain ⟨s0, e0, o0⟩ := rdk_ok hO o1
    have S0 := S1.rd e0
    clear o1
    generalize hstep : (fun (s : SOf sh) d (kn : SOf sh → M S) => t d (fun ρ2 => mb (loopK sh K kn) ρ2) (wr sh s)) = step at o0
    refine ⟨fun i m σ' H' => ∃ F' s, m = ds.length - i ∧ i ≤ ds.length ∧ Same F1 F' ∧ StOk X.K G F' σ' H' (wr sh s) ∧ OK (forC step (ds.drop i) s (fun s' => K.nx (wr sh s'))), ⟨ds.length, F1, s0, rfl, Nat.zero_le _, Same.refl _, S0, o0⟩, ?_⟩
    rintro i m σ' H' ⟨F', s, rfl, hi, s2, S2, go⟩
    by_cases hlt : i < ds.length
    · have ed : ds.drop i = ds[i] :: ds.drop (i + 1) := List.drop_eq_getElem_cons hlt
      rw [ed] at go
      dsimp only [forC] at go
      rw [← hstep] at go
      have again : ∀ F5 σ5 H5 ρ5, Same F' F5 → StOk X.K G F5 σ5 H5 ρ5 → OK (rdk sh (fun s' => forC step (ds.drop (i + 1)) s' fun s' => K.nx (wr sh s')) ρ5) →
          ∃ m', m' < ds.length - i ∧ ∃ F' s, m' = ds.length - (i + 1) ∧ i + 1 ≤ ds.length ∧ Same F1 F' ∧ StOk X.K G F' σ5 H5 (wr sh s) ∧ OK (forC step (ds.drop (i + 1)) s (fun s' => K.nx (wr sh s'))) := fun F5 σ5 H5 ρ5 s5 S5 o5 => by
        obtain ⟨s', e', o'⟩ := rdk_ok hO o5
        exact ⟨ds.length - (i + 1), by omega, F5, s', rfl, hlt, s2.trans s5, S5.rd e', o'⟩
      refine .inr ⟨wk.go i G F' σ' H' _ s2 S2 hlt, fun σ4 H4 => ∃ m', m' < ds.length - i ∧ ∃ F' s, m' = ds.length - (i + 1) ∧ i + 1 ≤ ds.length ∧ Same F1 F' ∧ StOk X.K G F' σ4 H4 (wr sh s) ∧ OK (forC step (ds.drop (i + 1)) s (fun s' => K.nx (wr sh s'))), fun σ4 H4 h4 => h4, fun x H2 y => ?_⟩
      obtain ⟨F3, s3, S3, r3⟩ := wk.yld i G F' σ' H' _ x H2 ds[i] s2 S2 (by simp [hlt]) y
      refine hg OK _ G F3 σ' H2 (wr sh s) x ds[i] _ hO S3 r3 go fun σ3 ρ3 S4 _ _ _ o4 => ?_
      rw [hstep] at o4
      refine hb OK (loopK sh K fun s' => forC step (ds.drop (i + 1)) s' fun s' => K.nx (wr sh s')) G F3 σ3 H2 ρ3 _ hO hX S4 o4 ⟨fun F5 σ5 H5 ρ5 s5 S5 o5 => ?_, fun F5 σ5 H5 ρ5 d v s5 => eo.rt F5 σ5 H5 ρ5 d v ((s1.trans (s2.trans s3)).trans s5), fun F5 σ5 H5 ρ5 d v s5 => eo.rl F5 σ5 H5 ρ5 d v ((s1.trans (s2.trans s3)).trans s5), fun F5 σ5 H5 ρ5 s5 S5 o5 => ?_, fun F5 σ5 H5 ρ5 s5 S5 o5 => ?_⟩
      · exact again F5 σ5 H5 ρ5 (s3.trans s5) S5 o5
      · obtain ⟨s', e', o'⟩ := rdk_ok hO o5
        exact eo.nx F5 σ5 H5 _ ((s1.trans (s2.trans s3)).trans s5) (S5.rd e') o'
      · exact again F5 σ5 H5 ρ5 (s3.trans s5) S5 o5
    · have ei : i = ds.length := by omega
      subst ei
      rw [List.drop_length] at go
      exact .inl ⟨wk.stop G F' σ' H' _ s2 S2, eo.nx F' σ' H' _ (s1.trans s2) S2 go⟩)
theorem own_ref {K : Fg} {G : Gh} {F H : Hp} {σ : L2.St} {ρ : En} {i : Nat} {ds : List D} (St : StOk K G F σ H ρ) (h : ownL ρ i = some ds) : ∃ a vs, σ[i]? = some (some (.ref a)) ∧ H a = some (.lst vs) ∧ RepL K F vs ds := by
  obtain ⟨a, ea, oa⟩ := St.ow i _ (ownL_own h)
  obtain ⟨vs, h1, h2⟩ := oa.he
  exact ⟨a, vs, ea, h1, h2⟩
theorem own_set {K : Fg} {G : Gh} {F H : Hp} {σ : L2.St} {ρ : En} {i : Nat} {a : Addr} {ds ds' : List D} {vs' : List V} (St : StOk K G F σ H ρ) (h : ownL ρ i = some ds) (ha : σ[i]? = some (some (.ref a))) (r : RepL K F vs' ds') :
    StOk K G F σ (upd H a (.lst vs')) (setO ρ i ds') := by
  rw [setO_change ρ i ds' ds h]
  exact St.change (ownL_own h) ha (c' := .l ds') ⟨_, upd_same, r⟩
def mApp (ds as : List D) : Option (List D) := match as with
  | [d] => if ds.length < sizeLine then some (ds ++ [d]) else none
  | _ => none
theorem as_app {i : Nat} {x : Str} (hN : X.N[i]? = some x) (hv : Vis X.env.scope x) (he : AEa X [e] ms)
    (hbase : attributeBase (.Name x pos') "append" X.env (eval (.Name x pos') X.env) = eval (.Name x pos') X.env)
    (hfew : ((backTo cpos (starEach [e] X.env)).all (fun x => !x.1) && (backToKw cpos (keywordEach [] X.env)).all (fun x => x.1.isSome)
      && decide ([e].length + ([] : List Keyword).length + (if ([] : List Keyword).isEmpty then 0 else 1) < 30)) = true)
    (hline : (apos.endLine == cpos.line) = true) (hs : starEach [e] X.env = (false, eval e X.env) :: starEach [] X.env) (hplain : (backTo cpos (starEach [] X.env)).any (·.1) = false)
    (hsw : swapsWith (.Call (.Attribute (.Name x pos') "append" apos) [e] [] cpos) none pos.line X.env = pure false) (hd : (x == ("__debug__" : Str)) = false := by decide) (hcd : (x == ("__classdict__" : Str)) = false := by decide) :
    AS X (.Expr (.Call (.Attribute (.Name x pos') "append" apos) [e] [] cpos) pos) (sMut i mApp ms) := fun OK K G F σ H ρ E hO hX St ok eo =>
  semS (ps_expr (pe_bm PySem.F.plainAttrs_list PySem.F.slot_list_append PySem.F.type_list_append mt_append (pe_var hN hv hd hcd) pa_sem hbase hfew hline hs hplain) hsw) (by
    unfold sMut at ok
    split at ok
    case h_2 => exact (hO ok).elim
    · rename_i ds0 h0
      obtain ⟨a, vs0, ea, hh, _⟩ := own_ref St h0
      refine ⟨_, ea, .inl ⟨rfl, vs0, .inl (.inl hh)⟩, he OK K.x _ G F σ H ρ _ hO hX St ok fun as ws F1 H1 ρ1 s1 S1 _ r1 o1 => ?_⟩
      split at o1
      · rename_i ds hds
        obtain ⟨ds', hf, o2⟩ := opt_ok hO o1
        obtain ⟨a', vs, ea', hh', rv⟩ := own_ref S1 hds
        rw [ea] at ea'
        injection ea' with ea'; injection ea' with ea'; injection ea' with ea'
        subst ea'
        unfold mApp at hf
        split at hf
        · split at hf
          · rename_i hz
            cases hf
            cases r1 with
            | cons ra rb =>
              cases rb
              refine ⟨a, vs, _, rfl, rfl, hh', by rw [rv.length]; exact hz, ?_⟩
              exact eo.nx F1 σ _ _ s1 (own_set S1 hds ea (rv.append (.cons ra .nil))) o2
          · cases hf
        · cases hf
      · exact (hO o1).elim)
end
end L4
set_option Elab.async false
set_option linter.all false
set_option maxRecDepth 100000
namespace L4
open PySem PySem.Spec PyProof.Rows L2 L3
theorem map_some_get {α : Type} {l : List α} {i : Nat} {x : α} : (l.map some)[i]? = some (some x) ↔ l[i]? = some x := by
  rw [List.getElem?_map]
  cases l[i]? <;> simp
open Classical in
noncomputable def calleeO (G : Gh) (σ : L2.St) (ρ : En) (H : Hp) (ex : Option Addr) : Hp := fun b => if (∃ (i : Nat) (c : OC), own ρ i c ∧ σ[i]? = some (some (V.ref b))) ∧ some b ≠ ex then H b else G.O b
def setC (ρ : En) (j : Nat) (c : OC) : En := ρ.set j ((ρ[j]?.join).map fun | .op _ => .op c | _ => .ol c)
section
variable {K : Fg} {G : Gh} {F F' H H' : Hp} {σ : L2.St} {ρ : En} {vs : List V} {ds : List D}
theorem calleeO_of {ex : Option Addr} (S : StOk K G F σ H ρ) {b : Addr} {o : HO} (h : G.O b = some o) : calleeO G σ ρ H ex b = some o := by
  unfold calleeO
  rw [if_neg]
  · exact h
  · rintro ⟨⟨i, c, ho, e⟩, _⟩
    obtain ⟨a, e', oa⟩ := S.ow i c ho
    rw [e] at e'
    injection e' with e'; injection e' with e'; injection e' with e'
    subst e'
    rw [oa.no] at h; cases h
theorem calleeO_own {ex : Option Addr} {b : Addr} {i : Nat} {c : OC} (ho : own ρ i c) (e : σ[i]? = some (some (V.ref b))) (hx : some b ≠ ex) : calleeO G σ ρ H ex b = H b := by
  unfold calleeO
  rw [if_pos ⟨⟨i, c, ho, e⟩, hx⟩]
theorem calleeO_h {ex : Option Addr} (S : StOk K G F σ H ρ) : Same (calleeO G σ ρ H ex) H := fun b o h => by
  unfold calleeO at h
  split at h
  · exact h
  · exact S.oh b o h
theorem calleeO_f {ex : Option Addr} (S : StOk K G F σ H ρ) : ∀ b o, calleeO G σ ρ H ex b = some o → F b = none := fun b o h => by
  unfold calleeO at h
  split at h
  · rename_i hc
    obtain ⟨⟨i, c, ho, e⟩, _⟩ := hc
    obtain ⟨a, e', oa⟩ := S.ow i c ho
    rw [e] at e'
    injection e' with e'; injection e' with e'; injection e' with e'
    subst e'
    exact oa.nf
  · exact S.fo b o h
theorem fz_get {i : Nat} {av : AV} (h : ((ds.map AV.fz).map some)[i]? = some (some av)) : ∃ d, av = .fz d ∧ ds[i]? = some d := by
  rw [map_some_get, List.getElem?_map] at h
  cases q : ds[i]? with
  | none => rw [q] at h; cases h
  | some d => rw [q] at h; cases h; exact ⟨d, rfl, rfl⟩
theorem no_own {i : Nat} {c : OC} (h : own ((ds.map AV.fz).map some) i c) : False := by
  rcases h with h | h <;> (obtain ⟨d, z, _⟩ := fz_get h; cases z)
theorem call_preD (S : StOk K G F σ H ρ) (r : RepL K F vs ds) : StOk K ⟨fun _ => none, calleeO G σ ρ H none, F⟩ F (vs.map some) H ((ds.map AV.fz).map some) := by
  refine ⟨S.fh, calleeO_h S, calleeO_f S, by simp [r.length], fun i d h => ?_, fun i c h => (no_own h).elim, fun i j c e a h => (no_own h).elim, fun i a h => (nomatch h), fun i c h => ?_, Same.refl _⟩
  · obtain ⟨d', z, e⟩ := fz_get h
    cases z
    obtain ⟨v, e1, e2⟩ := r.get e
    exact ⟨v, map_some_get.mpr e1, e2⟩
  · obtain ⟨d', z, e⟩ := fz_get h; cases z
theorem call_postD {avs' : List AV} (S : StOk K G F σ H ρ) (s1 : Same F F') (S1 : StOk K ⟨fun _ => none, calleeO G σ ρ H none, F⟩ F' (vs.map some) H' (avs'.map some)) :
    StOk K G F' σ H' ρ ∧ ∀ v c, Frs K ⟨fun _ => none, calleeO G σ ρ H none, F⟩ F' (vs.map some) H' (avs'.map some) v c → Frs K G F' σ H' ρ v c := by
  have oo : ∀ b, calleeO G σ ρ H none b = none → G.O b = none := fun b h => by
    cases q : G.O b with
    | none => rfl
    | some o => rw [calleeO_of S q] at h; cases h
  refine ⟨⟨S1.fh, fun b o h => S1.oh b o (calleeO_of S h), fun b o h => S1.fo b o (calleeO_of S h), S.ln, fun i d h => ?_, fun i c h => ?_, S.dj, S.pp, S.pq, S.fb.trans s1⟩, fun v cc h => ?_⟩
  · obtain ⟨v, e, r⟩ := S.fz i d h; exact ⟨v, e, r.mono s1⟩
  · obtain ⟨a, e, oa⟩ := S.ow i c h
    obtain ⟨o, ho⟩ := oa.he.some
    have q : calleeO G σ ρ H none a = some o := by rw [calleeO_own h e (by simp)]; exact ho
    exact ⟨a, e, S1.fo a o q, oa.no, (oa.he.mono s1).at (by rw [S1.oh a o q, ho])⟩
  · obtain ⟨a, rfl, oa, _⟩ := h
    refine ⟨a, rfl, ⟨oa.nf, oo a oa.no, oa.he⟩, fun i e ho q => ?_⟩
    obtain ⟨a', e', oa'⟩ := S.ow i e ho
    rw [q] at e'
    injection e' with e'; injection e' with e'; injection e' with e'
    subst e'
    obtain ⟨o, hh⟩ := oa'.he.some
    have := oa.no
    rw [show (⟨fun _ => none, calleeO G σ ρ H none, F⟩ : Gh).O a = calleeO G σ ρ H none a from rfl, calleeO_own ho q (by simp), hh] at this
    cases this
def P1 (a : Addr) : Nat → Option Addr
  | 0 => some a
  | _ => none
theorem call_pre1 {j : Nat} {c : OC} {a : Addr} (S : StOk K G F σ H ρ) (hj : own ρ j c) (ha : σ[j]? = some (some (V.ref a))) (r : RepL K F vs ds) :
    StOk K ⟨P1 a, calleeO G σ ρ H (some a), F⟩ F ((V.ref a :: vs).map some) H ((AV.op c :: ds.map AV.fz).map some) := by
  obtain ⟨a', e', oa⟩ := S.ow j c hj
  rw [ha] at e'
  injection e' with e'; injection e' with e'; injection e' with e'
  subst e'
  have at0 : ∀ i d, own ((AV.op c :: ds.map AV.fz).map some) i d → i = 0 ∧ d = c := fun i d h => by
    cases i with
    | zero => rcases h with h | h <;> (simp at h); exact ⟨rfl, h.symm⟩
    | succ i => exact (no_own (ds := ds) (i := i) (c := d) (by unfold own at h ⊢; simpa using h)).elim
  refine ⟨S.fh, calleeO_h S, calleeO_f S, by simp [r.length], fun i d h => ?_, fun i d h => ?_, fun i k d e b h1 h2 _ _ => ?_, fun i b h => ?_, fun i d h => ?_, Same.refl _⟩
  · cases i with
    | zero => simp at h
    | succ i =>
      obtain ⟨d', z, e⟩ := fz_get (ds := ds) (i := i) (av := .fz d) (by simpa using h)
      cases z
      obtain ⟨v, e1, e2⟩ := r.get e
      exact ⟨v, by simpa using e1, e2⟩
  · obtain ⟨rfl, rfl⟩ := at0 i d h
    refine ⟨a, rfl, oa.nf, ?_, oa.he⟩
    show calleeO G σ ρ H (some a) a = none
    unfold calleeO
    rw [if_neg (by simp)]
    exact oa.no
  · rw [(at0 i d h1).1, (at0 k e h2).1]
  · cases i with
    | zero => cases h; exact ⟨rfl, c, rfl⟩
    | succ i => cases h
  · cases i with
    | zero => exact ⟨a, rfl⟩
    | succ i =>
      obtain ⟨d', z, e⟩ := fz_get (ds := ds) (i := i) (av := .op d) (by simpa using h)
      cases z
theorem call_post1 {j : Nat} {c c' : OC} {a : Addr} {l : List AV} (S : StOk K G F σ H ρ) (hj : own ρ j c) (ha : σ[j]? = some (some (V.ref a))) (s1 : Same F F')
    (S1 : StOk K ⟨P1 a, calleeO G σ ρ H (some a), F⟩ F' ((V.ref a :: vs).map some) H' ((AV.op c' :: l).map some)) :
    StOk K G F' σ H' (setC ρ j c') ∧ ∀ v cc, Frs K ⟨P1 a, calleeO G σ ρ H (some a), F⟩ F' ((V.ref a :: vs).map some) H' ((AV.op c' :: l).map some) v cc → Frs K G F' σ H' (setC ρ j c') v cc := by
  have oo : ∀ b, calleeO G σ ρ H (some a) b = none → G.O b = none := fun b h => by
    cases q : G.O b with
    | none => rfl
    | some o => rw [calleeO_of S q] at h; cases h
  obtain ⟨a', e', oa⟩ := S.ow j c hj
  rw [ha] at e'
  injection e' with e'; injection e' with e'; injection e' with e'
  subst e'
  have hl : j < ρ.length := by rcases hj with h | h <;> exact (List.getElem?_eq_some_iff.mp h).1
  generalize hav : ((ρ[j]?.join).map fun (x : AV) => match x with | .op _ => AV.op c' | _ => AV.ol c') = av
  have hset : setC ρ j c' = ρ.set j av := by rw [← hav]; rfl
  rw [hset]
  have ne : ∀ i, i ≠ j → (ρ.set j av)[i]? = ρ[i]? := fun i hi => List.getElem?_set_ne (Ne.symm hi)
  have atj : (ρ.set j av)[j]? = some av := List.getElem?_set_self hl
  have kind : (ρ[j]? = some (some (.ol c)) ∧ av = some (.ol c')) ∨ (ρ[j]? = some (some (.op c)) ∧ av = some (.op c')) := by
    rcases hj with h | h
    · exact .inl ⟨h, by rw [← hav, h]; rfl⟩
    · exact .inr ⟨h, by rw [← hav, h]; rfl⟩
  have owni : ∀ i e, own (ρ.set j av) i e → (i = j ∧ e = c') ∨ (i ≠ j ∧ own ρ i e) := fun i e h => by
    by_cases hi : i = j
    · subst hi
      unfold own at h
      rw [atj] at h
      rcases kind with ⟨_, k⟩ | ⟨_, k⟩ <;> rw [k] at h <;> rcases h with h | h <;> cases h <;> exact .inl ⟨rfl, rfl⟩
    · unfold own at h ⊢
      rw [ne i hi] at h
      exact .inr ⟨hi, h⟩
  have nea : ∀ i e b, i ≠ j → own ρ i e → σ[i]? = some (some (V.ref b)) → b ≠ a := fun i e b hi ho q z => by
    subst z
    exact hi (S.dj i j e c b ho hj q ha)
  have own1 : OwnAt K ⟨P1 a, calleeO G σ ρ H (some a), F⟩ F' H' a c' := by
    obtain ⟨b, e1, ob⟩ := S1.ow 0 c' (.inr rfl)
    have : V.ref a = V.ref b := by simpa using e1
    injection this with this
    subst this
    exact ob
  refine ⟨⟨S1.fh, fun b o h => S1.oh b o (calleeO_of S h), fun b o h => S1.fo b o (calleeO_of S h), by simpa using S.ln, fun i d h => ?_, fun i e h => ?_, fun i k d e b h1 h2 => ?_, fun i b h => ?_, fun i d h => ?_, S.fb.trans s1⟩, fun v cc h => ?_⟩
  · by_cases hi : i = j
    · subst hi
      rw [atj] at h
      rcases kind with ⟨_, k⟩ | ⟨_, k⟩ <;> rw [k] at h <;> cases h
    · rw [ne i hi] at h
      obtain ⟨v, e, r⟩ := S.fz i d h; exact ⟨v, e, r.mono s1⟩
  · rcases owni i e h with ⟨rfl, rfl⟩ | ⟨hi, ho⟩
    · exact ⟨a, ha, own1.nf, oa.no, own1.he⟩
    · obtain ⟨b, eb, ob⟩ := S.ow i e ho
      obtain ⟨o, hh⟩ := ob.he.some
      have q : calleeO G σ ρ H (some a) b = some o := by rw [calleeO_own ho eb (fun z => nea i e b hi ho eb (Option.some.inj z))]; exact hh
      exact ⟨b, eb, S1.fo b o q, ob.no, (ob.he.mono s1).at (by rw [S1.oh b o q, hh])⟩
  · have f : ∀ i e, own (ρ.set j av) i e → ∃ d, own ρ i d := fun i e h => by
      rcases owni i e h with ⟨rfl, _⟩ | ⟨_, ho⟩
      · exact ⟨c, hj⟩
      · exact ⟨e, ho⟩
    exact S.dj i k _ _ b (f i d h1).choose_spec (f k e h2).choose_spec
  · obtain ⟨q1, e, q2⟩ := S.pp i b h
    refine ⟨q1, ?_⟩
    by_cases hi : i = j
    · subst hi
      rcases kind with ⟨k1, k⟩ | ⟨k1, k⟩
      · rw [k1] at q2; cases q2
      · exact ⟨c', by rw [atj, k]⟩
    · exact ⟨e, by rw [ne i hi]; exact q2⟩
  · by_cases hi : i = j
    · subst hi
      rcases kind with ⟨k1, k⟩ | ⟨k1, k⟩
      · rw [atj, k] at h; cases h
      · exact S.pq i c k1
    · rw [ne i hi] at h; exact S.pq i d h
  · obtain ⟨b, rfl, ob, nn⟩ := h
    refine ⟨b, rfl, ⟨ob.nf, oo b ob.no, ob.he⟩, fun i e ho q => ?_⟩
    rcases owni i e ho with ⟨rfl, _⟩ | ⟨hi, ho'⟩
    · rw [ha] at q
      injection q with q; injection q with q; injection q with q
      subst q
      exact nn 0 c' (.inr rfl) rfl
    · obtain ⟨b', eb, ob'⟩ := S.ow i e ho'
      rw [q] at eb
      injection eb with eb; injection eb with eb; injection eb with eb
      subst eb
      obtain ⟨o, hh⟩ := ob'.he.some
      have := ob.no
      rw [show (⟨P1 a, calleeO G σ ρ H (some a), F⟩ : Gh).O b = calleeO G σ ρ H (some a) b from rfl, calleeO_own ho' q (fun z => nea i e b hi ho' q (Option.some.inj z)), hh] at this
      cases this
end
abbrev fzs (ds : List D) : En := (ds.map AV.fz).map some
def KD : KS D := ⟨fun _ => .ret .none, fun d _ => .ret d, fun _ _ => .bad, fun _ => .bad, fun _ => .bad, fun e _ => .exc e⟩
def KL : KS (List D) := ⟨fun _ => .bad, fun _ _ => .bad, fun ds _ => .ret ds, fun _ => .bad, fun _ => .bad, fun e _ => .exc e⟩
def at0 {S : Type} (ρ : En) (k : List D → M S) : M S := match (ρ[0]? : Option (Option AV)) with
  | some (some (AV.op (OC.l f))) => k f
  | _ => .bad
def K1 : KS (D × List D) := ⟨fun ρ => at0 ρ fun f => .ret (.none, f), fun d ρ => at0 ρ fun f => .ret (d, f), fun _ _ => .bad, fun _ => .bad, fun _ => .bad, fun e _ => .exc e⟩
def EndM (K : Fg) (G : Gh) (E : XK) {α : Type} (m : M α) (C : α → Prop) : Prop := match m with
  | .ret a => C a
  | .exc x => ∀ F' H' Cl dd, GOk G F' H' → XR K F' H' Cl dd x → E (.ref Cl) dd H'
  | .bad => False
def spD (K : Fg) (n : Nat) (mf : List D → M D) : Sp := fun vs H Q E => ∃ G F ds, vs.length = n ∧ StOk K G F (vs.map some) H (fzs ds) ∧ EndM K G E (mf ds) fun d => ∀ v F' H', Same F F' → StOk K G F' (vs.map some) H' (fzs ds) → Rep K F' v d → Q v H'
def spL (K : Fg) (n : Nat) (mf : List D → M (List D)) : Sp := fun vs H Q E => ∃ G F ds, vs.length = n ∧ StOk K G F (vs.map some) H (fzs ds) ∧ EndM K G E (mf ds) fun d => ∀ v F' H', Same F F' → StOk K G F' (vs.map some) H' (fzs ds) → Frs K G F' (vs.map some) H' (fzs ds) v (.l d) → Q v H'
def sp1 (K : Fg) (n : Nat) (mf : List D → List D → M (D × List D)) : Sp := fun vs H Q E => ∃ G F f ds, vs.length = n ∧ StOk K G F (vs.map some) H (some (.op (.l f)) :: fzs ds) ∧ EndM K G E (mf f ds) fun r =>
  ∀ v F' H', Same F F' → StOk K G F' (vs.map some) H' (some (.op (.l r.2)) :: fzs ds) → Rep K F' v r.1 → Q v H'
section
variable {K : Fg} {G : Gh} {F F' H H' : Hp} {vs : List V} {σ : L2.St} {ρ : En} {ds : List D}
theorem back_D (S : StOk K G F (vs.map some) H (fzs ds)) (s1 : Same F F') (S1 : StOk K G F' σ H' ρ) : StOk K G F' (vs.map some) H' (fzs ds) := by
  refine ⟨S1.fh, S1.oh, S1.fo, S.ln, fun i d q => ?_, fun i c q => (no_own q).elim, fun i j c e a q => (no_own q).elim, S.pp, S.pq, S1.fb⟩
  obtain ⟨v, e, r⟩ := S.fz i d q
  exact ⟨v, e, r.mono s1⟩
theorem back_DL {v : V} {c : OC} (S1 : StOk K G F' σ H' ρ) (h : Frs K G F' σ H' ρ v c) : Frs K G F' (vs.map some) H' (fzs ds) v c := by
  obtain ⟨a, rfl, oa, _⟩ := h
  exact ⟨a, rfl, oa, fun i e q => (no_own q).elim⟩
theorem own1 {f : List D} {i : Nat} {c : OC} (h : own (some (.op (.l f)) :: fzs ds) i c) : i = 0 ∧ c = .l f := by
  cases i with
  | zero => rcases h with h | h <;> simp at h; exact ⟨rfl, h.symm⟩
  | succ i => exact (no_own (ds := ds) (i := i) (c := c) (by unfold own at h ⊢; simpa using h)).elim
theorem back_1 {f f' : List D} (S : StOk K G F (vs.map some) H (some (.op (.l f)) :: fzs ds)) (s1 : Same F F') (S1 : StOk K G F' σ H' ρ) (h0 : ρ[0]? = some (some (.op (.l f')))) :
    StOk K G F' (vs.map some) H' (some (.op (.l f')) :: fzs ds) ∧ ∀ v c, Frs K G F' σ H' ρ v c → Frs K G F' (vs.map some) H' (some (.op (.l f')) :: fzs ds) v c := by
  obtain ⟨a, ha⟩ := S1.pq 0 _ h0
  obtain ⟨e1, _⟩ := S1.pp 0 a ha
  obtain ⟨e2, _⟩ := S.pp 0 a ha
  obtain ⟨b, eb, ob⟩ := S1.ow 0 _ (.inr h0)
  rw [e1] at eb
  injection eb with eb; injection eb with eb; injection eb with eb
  subst eb
  have only : ∀ i b, G.P i = some b → i = 0 := fun i b h => by
    obtain ⟨_, c, q⟩ := S.pp i b h
    exact (own1 (.inr q)).1
  refine ⟨⟨S1.fh, S1.oh, S1.fo, S.ln, fun i d q => ?_, fun i c q => ?_, fun i j c e b q1 q2 _ _ => ?_, fun i b q => ?_, fun i c q => ?_, S1.fb⟩, fun v c h => ?_⟩
  · cases i with
    | zero => simp at q
    | succ i =>
      obtain ⟨v, e, r⟩ := S.fz (i + 1) d (by simpa using q)
      exact ⟨v, e, r.mono s1⟩
  · obtain ⟨rfl, rfl⟩ := own1 q
    exact ⟨a, e2, ob⟩
  · rw [(own1 q1).1, (own1 q2).1]
  · have := only i b q
    subst this
    exact ⟨(S.pp 0 b q).1, _, rfl⟩
  · obtain ⟨rfl, _⟩ := own1 (.inr q)
    exact ⟨a, ha⟩
  · obtain ⟨b, rfl, ob2, nn⟩ := h
    refine ⟨b, rfl, ob2, fun i e q z => ?_⟩
    obtain ⟨rfl, rfl⟩ := own1 q
    rw [e2] at z
    injection z with z; injection z with z; injection z with z
    subst z
    exact nn 0 _ (.inr h0) e1
end
section
variable {P : Program} {w : World} {K : Fg} {mg : Str → Option Value} {base : Heap} {x qual : Str} {st : Stmt} {f : Addr} {fd : FuncData} {N ps : List Str} {k : Nat}
theorem start_fz {vs : List V} {ds : List D} {G : Gh} {F H : Hp} (hl : vs.length = ps.length) (S0 : StOk K G F (vs.map some) H (fzs ds)) : StOk K G F (L2.start N vs) H (fzs ds ++ List.replicate (N.length - ps.length) none) := by
  have e0 : L2.start N vs = vs.map some ++ List.replicate (N.length - ps.length) none := by unfold L2.start; rw [hl]
  rw [e0]
  exact S0.grow _
theorem fn_x {sp : Sp} (Fn : Fun K x qual st f fd) (S : FnScope N ps (defScope st)) (len : ∀ vs H Q E, sp vs H Q E → vs.length = ps.length)
    (hbody : ∀ (cdv : Value) (A : Around) (outer : List Env) (s : Shared) (H : Hp) (vs : List V) (Q : VK) (E : XK), Room k (A.deeper (envOfC qual (defScope st) s.heap.objs.size f cdv)) → sp vs H Q E →
      ∃ t, PSs (cxOf (CX1 P w) P w K mg base N qual (defScope st) f cdv A outer s H E) (defBody st) t ∧ t { nx := fun _ H' => Q .non H', rt := Q } (start N vs) H) : FnOk P w K mg base (CX1 P w) (k + 1) f fd ps sp := by
  obtain ⟨oc, od, kV, doc, pm, an, cdv, ct, osl, rfl, lk, hcd⟩ := Fn.ex
  exact fn_of lk hcd S len fun A outer s H vs Q E hr hsp => hbody cdv A outer s H vs Q E hr hsp
theorem end_x {α : Type} {C : α → Prop} {N : List Str} {qual : Str} {scope : Scope} {f : Addr} {cdv : Value} {A : Around} {outer : List Env} {s : Shared} {H F : Hp} {E : XK} {G : Gh} {ρ : En} {e : Ex} (h : EndM K G E (M.exc e : M α) C) : XW (cxOf (CX1 P w) P w K mg base N qual scope f cdv A outer s H E) G F ρ e :=
  fun F' H' s' a Cl dd pins σ g I xs xr => leave_x I xs (h F' H' Cl dd g xr)
theorem fn_okD {mb : SM D} {mf : List D → M D} (Fn : Fun K x qual st f fd) (Sc : FnScope N ps (defScope st))
    (hb : ∀ (cdv : Value) (A : Around) (outer : List Env) (s : Shared) (H : Hp) (E : XK), Room k (A.deeper (envOfC qual (defScope st) s.heap.objs.size f cdv)) →
      ASs (cxOf (CX1 P w) P w K mg base N qual (defScope st) f cdv A outer s H E) (defBody st) mb)
    (hm : ∀ ds, ds.length = ps.length → mf ds = mb KD (fzs ds ++ List.replicate (N.length - ps.length) none)) : FnOk P w K mg base (CX1 P w) (k + 1) f fd ps (spD K ps.length mf) := by
  refine fn_x Fn Sc (fun vs H Q E h => ?_) (fun cdv A outer s H vs Q E hr h => ?_)
  · obtain ⟨_, _, _, h1, _⟩ := h; exact h1
  · obtain ⟨G, F0, ds, h1, S0, e⟩ := h
    have hl : ds.length = ps.length := by have := S0.ln; simp at this; omega
    rw [hm ds hl] at e
    refine ⟨_, pss_sem, hb cdv A outer s H E hr (fun m => EndM K G E m _) KD G F0 _ H _ _ (fun z => z) (fun F ρ e z => end_x z) (start_fz h1 S0) e ?_⟩
    exact ⟨fun F' σ' H' ρ' s S' o => (by exact o .non F' H' s (back_D S0 s S') .non), fun F' σ' H' ρ' d' v s S' r o => (by exact o v F' H' s (back_D S0 s S') r), fun F' σ' H' ρ' d' v s S' r o => (o : False).elim, fun F' σ' H' ρ' s S' o => (o : False).elim, fun F' σ' H' ρ' s S' o => (o : False).elim⟩
theorem fn_okL {mb : SM (List D)} {mf : List D → M (List D)} (Fn : Fun K x qual st f fd) (Sc : FnScope N ps (defScope st))
    (hb : ∀ (cdv : Value) (A : Around) (outer : List Env) (s : Shared) (H : Hp) (E : XK), Room k (A.deeper (envOfC qual (defScope st) s.heap.objs.size f cdv)) →
      ASs (cxOf (CX1 P w) P w K mg base N qual (defScope st) f cdv A outer s H E) (defBody st) mb)
    (hm : ∀ ds, ds.length = ps.length → mf ds = mb KL (fzs ds ++ List.replicate (N.length - ps.length) none)) : FnOk P w K mg base (CX1 P w) (k + 1) f fd ps (spL K ps.length mf) := by
  refine fn_x Fn Sc (fun vs H Q E h => ?_) (fun cdv A outer s H vs Q E hr h => ?_)
  · obtain ⟨_, _, _, h1, _⟩ := h; exact h1
  · obtain ⟨G, F0, ds, h1, S0, e⟩ := h
    have hl : ds.length = ps.length := by have := S0.ln; simp at this; omega
    rw [hm ds hl] at e
    refine ⟨_, pss_sem, hb cdv A outer s H E hr (fun m => EndM K G E m _) KL G F0 _ H _ _ (fun z => z) (fun F ρ e z => end_x z) (start_fz h1 S0) e ?_⟩
    exact ⟨fun F' σ' H' ρ' s S' o => (o : False).elim, fun F' σ' H' ρ' d' v s S' r o => (o : False).elim, fun F' σ' H' ρ' d' v s S' r o => (by exact o v F' H' s (back_D S0 s S') (back_DL S' r)), fun F' σ' H' ρ' s S' o => (o : False).elim, fun F' σ' H' ρ' s S' o => (o : False).elim⟩
theorem at0_ok {S : Type} {ρ : En} {k : List D → M S} {K : Fg} {G : Gh} {E : XK} {C : S → Prop} (h : EndM K G E (at0 ρ k) C) : ∃ f, ρ[0]? = some (some (AV.op (OC.l f))) ∧ EndM K G E (k f) C := by
  unfold at0 at h
  split at h
  · rename_i f q; exact ⟨f, q, h⟩
  · exact h.elim
theorem start_1 {vs : List V} {ds g : List D} {G : Gh} {F H : Hp} (hl : vs.length = ps.length) (S0 : StOk K G F (vs.map some) H (some (.op (.l g)) :: fzs ds)) : StOk K G F (L2.start N vs) H (some (.op (.l g)) :: fzs ds ++ List.replicate (N.length - ps.length) none) := by
  have e0 : L2.start N vs = vs.map some ++ List.replicate (N.length - ps.length) none := by unfold L2.start; rw [hl]
  rw [e0]
  exact S0.grow _
theorem fn_ok1 {mb : SM (D × List D)} {mf : List D → List D → M (D × List D)} (Fn : Fun K x qual st f fd) (Sc : FnScope N ps (defScope st))
    (hb : ∀ (cdv : Value) (A : Around) (outer : List Env) (s : Shared) (H : Hp) (E : XK), Room k (A.deeper (envOfC qual (defScope st) s.heap.objs.size f cdv)) →
      ASs (cxOf (CX1 P w) P w K mg base N qual (defScope st) f cdv A outer s H E) (defBody st) mb)
    (hm : ∀ g ds, ds.length + 1 = ps.length → mf g ds = mb K1 (some (.op (.l g)) :: fzs ds ++ List.replicate (N.length - ps.length) none)) : FnOk P w K mg base (CX1 P w) (k + 1) f fd ps (sp1 K ps.length mf) := by
  refine fn_x Fn Sc (fun vs H Q E h => ?_) (fun cdv A outer s H vs Q E hr h => ?_)
  · obtain ⟨_, _, _, _, h1, _⟩ := h; exact h1
  · obtain ⟨G, F0, g, ds, h1, S0, e⟩ := h
    have hl : ds.length + 1 = ps.length := by have := S0.ln; simp at this; omega
    rw [hm g ds hl] at e
    refine ⟨_, pss_sem, hb cdv A outer s H E hr (fun m => EndM K G E m _) K1 G F0 _ H _ _ (fun z => z) (fun F ρ e z => end_x z) (start_1 h1 S0) e ?_⟩
    refine ⟨fun F' σ' H' ρ' s S' o => ?_, fun F' σ' H' ρ' d' v s S' rv o => ?_, fun F' σ' H' ρ' d' v s S' r o => (o : False).elim, fun F' σ' H' ρ' s S' o => (o : False).elim, fun F' σ' H' ρ' s S' o => (o : False).elim⟩
    · obtain ⟨f', q, e'⟩ := at0_ok o
      exact e' .non F' H' s (back_1 S0 s S' q).1 .non
    · obtain ⟨f', q, e'⟩ := at0_ok o
      exact e' v F' H' s (back_1 S0 s S' q).1 rv
end
structure CF (P : Program) (w : World) (K : Fg) (mg : Str → Option Value) (base : Heap) (x : Str) (k : Nat) (sp : Sp) : Prop where
  ex : ∃ (f : Addr) (fd : FuncData) (ps : List Str), FnOk P w K mg base (CX1 P w) k f fd ps sp ∧ mg x = some (.ref f) ∧ PySem.W.keepIn K (.ref f) = true ∧ L2.Binds K fd ps []
def pFnD (mf : List D → M D) (ps : Pa D) : Pu D := fun ρ => ps (fun ds => mf ds) ρ
def pFnL (mf : List D → M (List D)) (ps : Pa (List D)) : Pu (List D) := fun ρ => ps (fun ds => mf ds) ρ
section
variable {S : Type}
def eFn1 (mf : List D → List D → M (D × List D)) (i : Nat) (ms : Ev S (List D)) : Ev S D := fun x k ρ => ms x (fun ds ρ1 => match ownL ρ1 i with
  | some f => (mf f ds).on (fun e => x e ρ1) (fun r => k r.1 (setO ρ1 i r.2))
  | none => .bad) ρ
end
def EX (X : Cx) (G : Gh) : XK := fun c dd H' => ∃ x ρ F1 F' C, c = .ref C ∧ XW X G F1 ρ x ∧ GOk G F' H' ∧ XR X.K F' H' C dd x
theorem XS.older {H : Hp} {h : Heap} {lo lo' : Nat} {e C : Addr} {dd : Option Addr} (xs : XS H h lo e C dd) (hl : lo' ≤ lo) : XS H h lo' e C dd := by
  obtain ⟨oe, vs, q, c, d, z, z1, k⟩ := xs.obj
  refine ⟨Nat.le_trans hl xs.yg, xs.trk, oe, vs, q, c, d, z, z1, k.imp id ?_⟩
  rintro ⟨T, oT, ts, k, ne, l, r⟩
  exact ⟨T, oT, ts, k, ne, Nat.le_trans hl l, r⟩
theorem passX {X : Cx} {G : Gh} : Passes (CX1 X.prog X.w) X (EX X G) := fun pins σ H s e s' I h => by
  obtain ⟨a, C, dd, H', rfl, ho, hb, un, hk, xs, x, ρ, F1, F', C', ec, xw, g, xr⟩ := h
  cases ec
  exact xw F' H' s' a C dd pins σ g (I.call' ho un hk hb fun b z => absurd z (by simp)) (xs.older I.sz) xr
theorem EX.of {X : Cx} {G : Gh} {F F' H' H : Hp} {σ : L2.St} {ρ : En} {x : Ex} {C : Addr} {dd : Option Addr} {ex : Option Addr} {p : Nat → Option Addr} (S : StOk X.K G F σ H ρ) (xw : XW X G F ρ x) (g : GOk ⟨p, calleeO G σ ρ H ex, F⟩ F' H') (xr : XR X.K F' H' C dd x) : EX X G (.ref C) dd H' :=
  ⟨x, ρ, F, F', C, rfl, xw, ⟨g.fh, fun b o h => g.oh b o (calleeO_of S h), fun b o h => g.fo b o (calleeO_of S h), S.fb.trans g.fb⟩, xr⟩
section
variable {S : Type} {X : Cx} {k n : Nat} {mf : List D → M D} {ml : List D → M (List D)} {m1 : List D → List D → M (D × List D)} {m1L : List D → List D → M (List D × List D)} {x : Str} {p pos pn : Pos} {e : Expr} {es : List Expr} {ps : Pa D} {pl : Pa (List D)} {ms : Ev S (List D)}
theorem ap_fn (C : CF X.prog X.w X.K X.mg X.base x k (spD X.K n mf)) (hr : Room k X.A) (hg : Gl X x) (ha : AA X (e :: es) ps) (hn : (e :: es).length = n)
    (hdb : (x == ("__debug__" : Str)) = false) (he : starEach (e :: es) X.env = (false, eval e X.env) :: starEach es X.env) (hpl : (backTo pos (starEach es X.env)).any (·.1) = false) : AP X (.Call (.Name x p) (e :: es) [] pos) (pFnD mf ps) := by
  obtain ⟨f, fd, pl, Fn, h1, h2, h3⟩ := C.ex
  intro G F σ H ρ Q St w
  refine sem (pe_call Fn hr hg h1 h2 h3 .nil (passX (G := G)) pa_sem hdb he hpl) ?_
  refine ha G F σ H ρ _ _ _ St w fun ds vs F1 H1 s1 S1 hl r1 w1 => ?_
  show spD X.K n mf (vs ++ []) H1 Q (EX X G)
  rw [List.append_nil]
  cases hd : mf ds with
  | bad => rw [hd] at w1; exact w1.elim
  | exc e =>
    rw [hd] at w1
    exact ⟨_, F1, ds, hl.trans hn, call_preD S1 r1, by rw [hd]; exact fun F' H' Cl dd g xr => EX.of S1 w1 g xr⟩
  | ret d =>
    rw [hd] at w1
    refine ⟨_, F1, ds, hl.trans hn, call_preD S1 r1, ?_⟩
    rw [hd]
    intro v F2 H2 s2 S2 r2
    obtain ⟨S3, t3⟩ := call_postD (avs' := ds.map AV.fz) S1 s2 S2
    exact w1 F2 H2 s2 S3 v r2
theorem al_fn (C : CF X.prog X.w X.K X.mg X.base x k (spL X.K n ml)) (hr : Room k X.A) (hg : Gl X x) (ha : AA X (e :: es) pl) (hn : (e :: es).length = n)
    (hdb : (x == ("__debug__" : Str)) = false) (he : starEach (e :: es) X.env = (false, eval e X.env) :: starEach es X.env) (hpl : (backTo pos (starEach es X.env)).any (·.1) = false) : AL X (.Call (.Name x p) (e :: es) [] pos) (pFnL ml pl) := by
  obtain ⟨f, fd, pz, Fn, h1, h2, h3⟩ := C.ex
  intro G F σ H ρ Q St w
  refine sem (pe_call Fn hr hg h1 h2 h3 .nil (passX (G := G)) pa_sem hdb he hpl) ?_
  refine ha G F σ H ρ _ _ _ St w fun ds vs F1 H1 s1 S1 hl r1 w1 => ?_
  show spL X.K n ml (vs ++ []) H1 Q (EX X G)
  rw [List.append_nil]
  cases hd : ml ds with
  | bad => rw [hd] at w1; exact w1.elim
  | exc e =>
    rw [hd] at w1
    exact ⟨_, F1, ds, hl.trans hn, call_preD S1 r1, by rw [hd]; exact fun F' H' Cl dd g xr => EX.of S1 w1 g xr⟩
  | ret d =>
    rw [hd] at w1
    refine ⟨_, F1, ds, hl.trans hn, call_preD S1 r1, ?_⟩
    rw [hd]
    intro v F2 H2 s2 S2 r2
    obtain ⟨S3, t3⟩ := call_postD (avs' := ds.map AV.fz) S1 s2 S2
    exact w1 F2 H2 s2 S3 v (t3 v _ r2)
theorem setO_setC {ρ : En} {i : Nat} {f g : List D} (h : ownL ρ i = some g) : setO ρ i f = setC ρ i (.l f) := setO_change ρ i f g h
theorem call1_args {i : Nat} {y : Str} {OK : M S → Prop} {z : Ex → En → M S} {kk : List D → En → M S} {G : Gh} {F H : Hp} {σ : L2.St} {ρ : En} {Q : List V → Hp → Prop} (hN : X.N[i]? = some y) (hv : Vis X.env.scope y) (hd : (y == ("__debug__" : Str)) = false) (hcd : (y == ("__classdict__" : Str)) = false)
    (ha : AEa X es ms) (he : starEach (.Name y pn :: es) X.env = (false, eval (.Name y pn) X.env) :: starEach es X.env) (hO : KOk OK) (hX : XL X OK z G) (St : StOk X.K G F σ H ρ) (ok : OK (ms z (fun ds ρ1 => match ownL ρ1 i with | some f => kk (.list f :: ds) ρ1 | none => .bad) ρ))
    (h0 : (ownL ρ i).isSome = true)
    (k2 : ∀ a f ds vs F' H' ρ', Same F F' → StOk X.K G F' σ H' ρ' → ownL ρ' i = some f → σ[i]? = some (some (V.ref a)) → vs.length = es.length → RepL X.K F' vs ds → OK (kk (.list f :: ds) ρ') → Q (.ref a :: vs) H') : tSemA X (.Name y pn :: es) σ H Q := by
  obtain ⟨f0, hf0⟩ := Option.isSome_iff_exists.mp h0
  obtain ⟨a, _, ea, _, _⟩ := own_ref St hf0
  refine semA (pa_cons (pe_var hN hv hd hcd) pa_sem he) ⟨_, ea, ?_⟩
  refine ha OK z _ G F σ H ρ _ hO hX St ok fun ds vs F1 H1 ρ1 s1 S1 hl r1 o1 => ?_
  split at o1
  · rename_i f hf
    exact k2 a f ds vs F1 H1 ρ1 s1 S1 hf ea hl r1 o1
  · exact (hO o1).elim
def ck {S α : Type} (i : Nat) (m : Ev S α) : Ev S α := fun x k ρ => match (ownL ρ i).isSome with
  | true => m x k ρ
  | false => .bad
theorem call_pre1' {K : Fg} {G : Gh} {F H : Hp} {σ : L2.St} {ρ : En} {vs : List V} {ds f : List D} {j : Nat} {a : Addr} (S : StOk K G F σ H ρ) (hj : ownL ρ j = some f) (ha : σ[j]? = some (some (V.ref a))) (r : RepL K F vs ds) :
    StOk K ⟨P1 a, calleeO G σ ρ H (some a), F⟩ F ((V.ref a :: vs).map some) H (some (.op (.l f)) :: fzs ds) := call_pre1 S (ownL_own hj) ha r
theorem ae_fn1 {i : Nat} {y : Str} (C : CF X.prog X.w X.K X.mg X.base x k (sp1 X.K n m1)) (hr : Room k X.A) (hg : Gl X x) (hN : X.N[i]? = some y) (hv : Vis X.env.scope y) (ha : AEa X es ms) (hn : es.length + 1 = n)
    (hdb : (x == ("__debug__" : Str)) = false) (he : starEach (.Name y pn :: es) X.env = (false, eval (.Name y pn) X.env) :: starEach es X.env) (hpl : (backTo pos (starEach es X.env)).any (·.1) = false)
    (hd : (y == ("__debug__" : Str)) = false := by decide) (hcd : (y == ("__classdict__" : Str)) = false := by decide) : AE X (.Call (.Name x p) (.Name y pn :: es) [] pos) (ck i (eFn1 m1 i ms)) := by
  obtain ⟨f, fd, pl, Fn, h1, h2, h3⟩ := C.ex
  intro OK z kk G F σ H ρ Q hO hX St ok k2
  unfold ck at ok
  split at ok
  case h_2 => exact (hO ok).elim
  rename_i h0
  refine sem (pe_call Fn hr hg h1 h2 h3 .nil (passX (G := G)) pa_sem hdb he hpl) ?_
  refine call1_args (OK := OK) (z := z) (kk := fun l ρ1 => match l with | .list f :: ds => (m1 f ds).on (fun e => z e ρ1) (fun r => kk r.1 (setO ρ1 i r.2)) | _ => .bad) hN hv hd hcd ha he hO hX St ok h0 fun a f ds vs F1 H1 ρ1 s1 S1 hf ea hl r1 o1 => ?_
  have o1' : OK ((m1 f ds).on (fun e => z e ρ1) (fun r => kk r.1 (setO ρ1 i r.2))) := o1
  show sp1 X.K n m1 ((V.ref a :: vs) ++ []) H1 Q (EX X G)
  rw [List.append_nil]
  cases hd : m1 f ds with
  | bad => rw [hd] at o1'; exact (hO o1').elim
  | exc e =>
    rw [hd] at o1'
    exact ⟨_, F1, f, ds, by simp [hl]; exact hn, call_pre1' S1 hf ea r1, by rw [hd]; exact fun F' H' Cl dd g xr => EX.of S1 (hX F1 ρ1 e o1') g xr⟩
  | ret r =>
    rw [hd] at o1'
    refine ⟨_, F1, f, ds, by simp [hl]; exact hn, call_pre1' S1 hf ea r1, ?_⟩
    rw [hd]
    intro v F2 H2 s2 S2 r2
    obtain ⟨S3, t3⟩ := call_post1 (c' := .l r.2) (l := ds.map AV.fz) S1 (ownL_own hf) ea s2 S2
    rw [← setO_setC hf] at S3
    exact k2 r.1 v F2 H2 _ (s1.trans s2) S3 r2 o1'
end
theorem room_u {k : Nat} {A : Around} (r : Room k A) : A.units + 1100 < cLine := by have := r.un; omega
end L4
set_option Elab.async false
set_option linter.all false
set_option maxRecDepth 100000
namespace L4
open PySem PySem.Spec PyProof.Rows L2 L3
def noX {S : Type} (m : M S) : M S := match m with
  | .ret s => .ret s
  | _ => .bad
theorem noX_ret {S : Type} (s : S) : noX (M.ret s) = .ret s := rfl
def compC (step : D → M (Option D)) : List D → M (List D)
  | [] => .ret []
  | d :: r => bd (noX (step d)) fun o => bd (compC step r) fun xs => .ret (o.toList ++ xs)
theorem compC_nx {step : D → M (Option D)} : ∀ {ds : List D} {e : Ex}, compC step ds ≠ .exc e
  | [], e, h => by cases h
  | d :: r, e, h => by
    unfold compC at h
    cases hs : step d with
    | ret o =>
      rw [hs, noX_ret, bd_ret] at h
      cases hr : compC step r with
      | ret xs => rw [hr] at h; cases h
      | exc e' => exact compC_nx hr
      | bad => rw [hr] at h; cases h
    | exc e' => rw [hs] at h; cases h
    | bad => rw [hs] at h; cases h
def pComp (k : Nat) (it : Pu (List D)) (t : Tg (Option D)) (pt : Pu Bool) (pe : Pu D) : Pu (List D) := fun ρ => bd (it ρ) fun ds =>
  bd (compC (fun d => t d (fun ρ1 => bd (pt ρ1) fun b => if b then bd (pe ρ1) fun v => .ret (some v) else .ret none) (ρ ++ List.replicate k none)) ds) fitM
def compE {T : Type} (step : T → D → M (Option D × T)) : List D → T → M (List D × T)
  | [], s => .ret ([], s)
  | d :: r, s => bd (noX (step s d)) fun p => bd (compE step r p.2) fun q => .ret (p.1.toList ++ q.1, q.2)
theorem compE_nx {T : Type} {step : T → D → M (Option D × T)} : ∀ {ds : List D} {s : T} {e : Ex}, compE step ds s ≠ .exc e
  | [], s, e, h => by cases h
  | d :: r, s, e, h => by
    unfold compE at h
    cases hs : step s d with
    | ret o =>
      rw [hs, noX_ret, bd_ret] at h
      cases hr : compE step r o.2 with
      | ret xs => rw [hr] at h; cases h
      | exc e' => exact compE_nx hr
      | bad => rw [hr] at h; cases h
    | exc e' => rw [hs] at h; cases h
    | bad => rw [hs] at h; cases h
def eComp {S : Type} (sh : List Kd) (k : Nat) (it : Ev S (List D)) (t : Tg (Option D × SOf sh)) (et : Ev (Option D × SOf sh) Bool) (ee : Ev (Option D × SOf sh) D) : Ev S (List D) := fun x kk ρ => it x (fun ds ρ1 => rdk sh (fun s =>
  (compE (fun s d => t d (fun ρ2 => et (fun e _ => .exc e) (fun b ρ3 => if b then ee (fun e _ => .exc e) (fun v ρ4 => rdk sh (fun s' => .ret (some v, s')) (ρ4.take sh.length)) ρ3 else rdk sh (fun s' => .ret (none, s')) (ρ3.take sh.length)) ρ2) (wr sh s ++ List.replicate k none)) ds s).on
    (fun e => x e ρ1) (fun q => (fitM q.1).on (fun e => x e ρ1) (fun out => kk out (wr sh q.2)))) ρ1) ρ
def pTrue : Pu Bool := fun _ => .ret true
def ATs (X : Cx) (ifs : List Expr) (p : Pu Bool) : Prop :=
  ∀ (G : Gh) (F : Hp) (σ : L2.St) (H : Hp) (ρ : En) (Q : Bool → Hp → Prop), StOk X.K G F σ H ρ → W X G F σ ρ (p ρ) (fun d F' H' => Q d H') → ∀ (pins : List (Addr × Obj)) (s : Shared), Inv X pins σ H s →
    wpAny (model X.prog X.w) X.A (forIn ifs true fun c r => if r = true then do let ok ← isTrue c X.env (eval c X.env); pure (ForInStep.yield ok) else pure (ForInStep.yield r)) (TP X pins σ Q) X.xe s
theorem ats_nil {X : Cx} : ATs X [] pTrue := fun G F σ H ρ Q S w pins s I => pts_nil pins s σ H Q I (w F H (Same.refl _) S)
def AEts {S : Type} (X : Cx) (ifs : List Expr) (m : Ev S Bool) : Prop :=
  ∀ (OK : M S → Prop) (x : Ex → En → M S) (k : Bool → En → M S) (G : Gh) (F : Hp) (σ : L2.St) (H : Hp) (ρ : En) (Q : Bool → Hp → Prop), KOk OK → XL X OK x G → StOk X.K G F σ H ρ → OK (m x k ρ) →
    (∀ d F' H' ρ', Same F F' → StOk X.K G F' σ H' ρ' → OK (k d ρ') → Q d H') → ∀ (pins : List (Addr × Obj)) (s : Shared), Inv X pins σ H s →
    wpAny (model X.prog X.w) X.A (forIn ifs true fun c r => if r = true then do let ok ← isTrue c X.env (eval c X.env); pure (ForInStep.yield ok) else pure (ForInStep.yield r)) (TP X pins σ Q) X.xe s
theorem aets_pu {S : Type} {X : Cx} {ifs : List Expr} {p : Pu Bool} (h : ATs X ifs p) : AEts (S := S) X ifs (ePu p) := fun OK x k G F σ H ρ Q hO hX St ok kk => h G F σ H ρ Q St (W.of hO hX ok fun d F' H' s S' o => kk d F' H' ρ s S' o)
theorem W.rets {X : Cx} {G : Gh} {F : Hp} {σ : L2.St} {ρ : En} {α : Type} {m : M α} {a : α} {C : α → Hp → Hp → Prop} (e : m = .ret a) (h : ∀ F' H', Same F F' → StOk X.K G F' σ H' ρ → C a F' H') : W X G F σ ρ m C := by subst e; exact h
section
variable {X : Cx}
def tAllG (X : Cx) (N' : List Str) (scope : Scope) (tg : Expr) : TG := fun v σ H Q => ∀ cl s H0 fp C, tSemG (compCx X N' scope cl s H0 fp C) tg v σ H Q
def tAllT (X : Cx) (N' : List Str) (scope : Scope) (ifs : List Expr) : TT := fun σ H Q => ∀ cl s0 H0 fp C, ∀ (pins : List (Addr × Obj)) (s : Shared), Inv (compCx X N' scope cl s0 H0 fp C) pins σ H s →
    wpAny (model X.prog X.w) (compCx X N' scope cl s0 H0 fp C).A (forIn ifs true fun c r => if r = true then do let ok ← isTrue c (compCx X N' scope cl s0 H0 fp C).env (eval c (compCx X N' scope cl s0 H0 fp C).env); pure (ForInStep.yield ok) else pure (ForInStep.yield r)) (TP (compCx X N' scope cl s0 H0 fp C) pins σ Q) (compCx X N' scope cl s0 H0 fp C).xe s
def tAllE (X : Cx) (N' : List Str) (scope : Scope) (e : Expr) : TE := fun σ H Q => ∀ cl s H0 fp C, tSem (compCx X N' scope cl s H0 fp C) e σ H Q
variable {elt tg iter : Expr} {ifs : List Expr} {scope : Scope} {pos : Pos} {N' : List Str} {k : Nat}
theorem comp_rd {it : Pu (List D)} {t : Tg (Option D)} {pt : Pu Bool} {pe : Pu D} {G : Gh} {F : Hp} {σ : L2.St} {H : Hp} {ρ : En} {Q : VK} (hi : AI X tg iter it)
    (hg : ∀ cl s H fp C, AG (compCx X N' scope cl s H fp C) X.N.length tg t) (ht : ∀ cl s H fp C, ATs (compCx X N' scope cl s H fp C) ifs pt) (he : ∀ cl s H fp C, AP (compCx X N' scope cl s H fp C) elt pe)
    (hσ : σ.length = X.N.length) (St : StOk X.K G F σ H ρ) (w : W X G F σ ρ (pComp k it t pt pe ρ) fun ds F' H' => ∀ v, Frs X.K G F' σ H' ρ v (.l ds) → Q v H') :
    tComp (tSemI X tg iter) k (tAllG X N' scope tg) (tAllT X N' scope ifs) (tAllE X N' scope elt) σ H Q := by
  refine hi G F σ H ρ _ St (w.bind.imp fun ds F1 H1 s1 S1 w1 J wk => ?_)
  have hP : ∀ i a, G.P i = some a → i < σ.length := fun i a h => (List.getElem?_eq_some_iff.mp (S1.pp i a h).1).1
  have hln : σ.length = ρ.length := S1.ln
  have wc := w1.bind
  revert wc
  generalize hstep : (fun d => t d (fun ρ1 => bd (pt ρ1) fun b => if b then bd (pe ρ1) fun v => .ret (some v) else .ret none) (ρ ++ List.replicate k none)) = step
  intro wc
  cases hcc : compC step ds with
  | bad => rw [hcc] at wc; exact wc.elim
  | exc e => exact (compC_nx hcc).elim
  | ret out =>
    rw [hcc] at wc
    have wf : ∀ F' H', Same F1 F' → StOk X.K G F' σ H' ρ → W X G F' σ ρ (fitM out) fun ds F' H' => ∀ v, Frs X.K G F' σ H' ρ v (.l ds) → Q v H' := wc
    have hfit : out.length ≤ sizeLine := (wf F1 H1 (Same.refl _) S1).fit.1
    have fin : ∀ F' H', Same F1 F' → StOk X.K G F' σ H' ρ → ∀ v, Frs X.K G F' σ H' ρ v (.l out) → Q v H' := fun F' H' s' S' => (wf F' H' s' S').fit.2 F' H' (Same.refl _) S'
    have grown : ∀ {F' H' σ' ρ'}, StOk X.K G F' σ' H' ρ' → (∀ j, j < σ.length → σ'[j]? = σ[j]? ∧ ρ'[j]? = ρ[j]?) → σ'.length = σ.length + k → StOk X.K G F' σ' H' (ρ ++ List.replicate k none) := fun {F' H' σ' ρ'} S' kp hl => by
      refine S'.weak (by have := S'.ln; simp; omega) (fun i av q => ?_) (fun i c q => ?_)
      · have q' := app_none q
        have hi : i < σ.length := by rw [hln]; exact (List.getElem?_eq_some_iff.mp q').1
        rw [(kp i hi).2]; exact q'
      · obtain ⟨a, ha⟩ := S'.pq i c q
        have hi := hP i a ha
        rw [List.getElem?_append_left (by omega), ← (kp i hi).2]
        exact q
    refine ⟨fun i m vs σ' H' => ∃ F' acc rest, m = ds.length - i ∧ i ≤ ds.length ∧ Same F1 F' ∧ StOk X.K G F' σ' H' (ρ ++ List.replicate k none) ∧ (∀ j, j < σ.length → σ'[j]? = σ[j]?) ∧ σ'.length = σ.length + k ∧ RepL X.K F' vs acc ∧ compC step (ds.drop i) = .ret rest ∧ out = acc ++ rest,
      ⟨ds.length, F1, [], out, rfl, Nat.zero_le _, Same.refl _, S1.grow k, fun j hj => by rw [List.getElem?_append_left hj], by simp, .nil, hcc, rfl⟩, ?_⟩
    rintro i m vs σ' H' ⟨F', acc, rest, rfl, hi, s2, S2, kp, hlen, rp, go, eo⟩
    refine ⟨by rw [rp.length]; rw [eo, List.length_append] at hfit; omega, ?_⟩
    by_cases hlt : i < ds.length
    · refine .inr ⟨wk.go i G F' σ' H' _ s2 S2 hlt, fun x H2 y cl s0 H0 fp C => ?_⟩
      have hd : ds[i]? = some ds[i] := by simp [hlt]
      obtain ⟨F3, s3, S3, r3⟩ := wk.yld i G F' σ' H' _ x H2 ds[i] s2 S2 hd y
      have ed : ds.drop i = ds[i] :: ds.drop (i + 1) := List.drop_eq_getElem_cons hlt
      rw [ed] at go
      cases hst : step ds[i] with
      | bad => dsimp only [compC] at go; rw [hst] at go; cases go
      | exc e => dsimp only [compC] at go; rw [hst] at go; cases go
      | ret o =>
        dsimp only [compC] at go
        rw [hst, noX_ret, bd_ret] at go
        cases hr : compC step (ds.drop (i + 1)) with
        | bad => rw [hr] at go; cases go
        | exc e => rw [hr] at go; cases go
        | ret rest' =>
          rw [hr, bd_ret] at go
          cases go
          rw [← hstep] at hst
          refine hg cl s0 H0 fp C (fun m => m = .ret o) _ G F3 σ' H2 _ x ds[i] _ (fun z => nomatch z) S3 r3 hst fun σ3 ρ3 S4 kp3 hl3 ml3 o4 => ?_
          have kp' : ∀ j, j < σ.length → σ3[j]? = σ[j]? ∧ ρ3[j]? = ρ[j]? := fun j hj => ⟨((kp3 j (by omega)).1).trans (kp j hj), by rw [(kp3 j (by omega)).2, List.getElem?_append_left (by omega)]⟩
          cases hpt : pt ρ3 with
          | bad => rw [hpt] at o4; cases o4
          | exc e => rw [hpt] at o4; cases o4
          | ret b =>
            rw [hpt, bd_ret] at o4
            intro cl s0 H0 fp C
            refine ht cl s0 H0 fp C G F3 σ3 H2 ρ3 _ S4 (W.rets hpt fun F5 H5 s5 S5 => ?_)
            cases b with
            | true =>
              refine iteT ?_
              have o4' : bd (pe ρ3) (fun v => .ret (some v)) = M.ret o := o4
              cases hpe : pe ρ3 with
              | bad => rw [hpe] at o4'; cases o4'
              | exc e => rw [hpe] at o4'; cases o4'
              | ret v =>
                rw [hpe, bd_ret] at o4'
                cases o4'
                intro cl s0 H0 fp C
                refine he cl s0 H0 fp C G F5 σ3 H5 ρ3 _ S5 (W.rets hpe fun F6 H6 s6 S6 u ru => ?_)
                exact ⟨ds.length - (i + 1), by omega, F6, acc ++ [v], rest', rfl, hlt, ((s2.trans s3).trans s5).trans s6, grown S6 kp' (by omega), fun j hj => (kp' j hj).1, by omega, (rp.mono ((s3.trans s5).trans s6)).append (.cons ru .nil), hr, by rw [eo]; simp⟩
            | false =>
              refine iteF ?_
              have o4' : (M.ret none : M (Option D)) = M.ret o := o4
              cases o4'
              exact ⟨ds.length - (i + 1), by omega, F5, acc, rest', rfl, hlt, (s2.trans s3).trans s5, grown S5 kp' (by omega), fun j hj => (kp' j hj).1, by omega, rp.mono (s3.trans s5), hr, by rw [eo]; simp⟩
    · have ei : i = ds.length := by omega
      subst ei
      rw [List.drop_length] at go
      cases go
      rw [List.append_nil] at eo
      subst eo
      refine .inl ⟨wk.stop G F' σ' H' _ s2 S2, fun p hp => ?_⟩
      have Ssh := S2.shrink (n := σ.length) (by simp; omega) hP
      have e1 : σ'.take σ.length = σ := take_eq_of kp rfl
      have e2 : (ρ ++ List.replicate k none).take σ.length = ρ := by rw [hln, List.take_left]
      rw [e1, e2] at Ssh
      obtain ⟨S5, r5⟩ := Ssh.newLst hp rp
      exact fin F' _ s2 S5 _ r5
theorem al_comp {it : Pu (List D)} {t : Tg (Option D)} {pt : Pu Bool} {pe : Pu D} (hc : X.calm = true) (Sc : CompOk X N' k scope) (hi : AI X tg iter it)
    (hg : ∀ cl s H fp C, AG (compCx X N' scope cl s H fp C) X.N.length tg t) (ht : ∀ cl s H fp C, ATs (compCx X N' scope cl s H fp C) ifs pt) (he : ∀ cl s H fp C, AP (compCx X N' scope cl s H fp C) elt pe)
    (hs : ∀ x, foldedSetIterable iter X.env x = pure x) : AL X (.ListComp elt [⟨tg, iter, ifs, 0⟩] scope pos) (pComp k it t pt pe) := by
  intro G F σ H ρ Q St w; unfold tSem; intro pins s I
  refine pe_comp (wi := tSemI X tg iter) (g := tAllG X N' scope tg) (tc := tAllT X N' scope ifs) (te := tAllE X N' scope elt) hc Sc (fun x hx hf => I.ok.has x.1 (Sc.free x hx hf)) pi_sem
    (fun cl s H fp C pins s' σ H v u Q I r h => pg_sem pins s' σ H v u Q I r (h cl _ _ fp C)) (fun cl s H fp C pins s' σ H Q I h => h cl _ _ fp C pins s' I) (fun cl s H fp C pins s' σ H Q I h => pe_sem pins s' σ H Q I (h cl _ _ fp C)) hs pins s σ H Q I (comp_rd hi hg ht he I.len St w)
theorem ecomp_rd {S : Type} {sh : List Kd} {it : Ev S (List D)} {t : Tg (Option D × SOf sh)} {et : Ev (Option D × SOf sh) Bool} {ee : Ev (Option D × SOf sh) D} {OK : M S → Prop} {x : Ex → En → M S} {kk : List D → En → M S} {G : Gh} {F : Hp} {σ : L2.St} {H : Hp} {ρ : En} {Q : VK} (hi : AEi X tg iter it)
    (hg : ∀ cl s H fp C, AG (compCx X N' scope cl s H fp C) X.N.length tg t) (ht : ∀ cl s H fp C, AEts (compCx X N' scope cl s H fp C) ifs et) (he : ∀ cl s H fp C, AE (compCx X N' scope cl s H fp C) elt ee)
    (hσ : σ.length = X.N.length) (hO : KOk OK) (hX : XL X OK x G) (St : StOk X.K G F σ H ρ) (ok : OK (eComp sh k it t et ee x kk ρ)) (k2 : ∀ ds v F' H' ρ', Same F F' → StOk X.K G F' σ H' ρ' → Frs X.K G F' σ H' ρ' v (.l ds) → OK (kk ds ρ') → Q v H') :
    tComp (tSemI X tg iter) k (tAllG X N' scope tg) (tAllT X N' scope ifs) (tAllE X N' scope elt) σ H Q := by
  refine hi OK x _ G F σ H ρ _ hO hX St ok fun ds J F1 H1 ρ1 s1 S1 wk o1 => ?_
  obtain ⟨s0, e0, o0⟩ := rdk_ok hO o1
  clear o1
  have S0 := S1.rd e0
  have hlen0 : ∀ s : SOf sh, (wr sh s).length = σ.length := fun s => by
    have h1 : ∀ (sh : List Kd) (s : SOf sh), (wr sh s).length = sh.length := by
      intro sh
      induction sh with
      | nil => intro s; rfl
      | cons a r ih => intro s; cases a <;> simp [wr, ih]
    have h2 := S0.ln
    rw [h1] at h2 ⊢
    exact h2.symm
  have hshl : sh.length = σ.length := by
    have h1 : ∀ (sh : List Kd) (s : SOf sh), (wr sh s).length = sh.length := by
      intro sh
      induction sh with
      | nil => intro s; rfl
      | cons a r ih => intro s; cases a <;> simp [wr, ih]
    rw [← h1 sh s0]; exact hlen0 s0
  have hP : ∀ i a, G.P i = some a → i < σ.length := fun i a h => (List.getElem?_eq_some_iff.mp (S1.pp i a h).1).1
  revert o0
  generalize hstep : (fun (s : SOf sh) d => t d (fun ρ2 => et (fun e _ => .exc e) (fun b ρ3 => if b then ee (fun e _ => .exc e) (fun v ρ4 => rdk sh (fun s' => .ret (some v, s')) (ρ4.take sh.length)) ρ3 else rdk sh (fun s' => .ret (none, s')) (ρ3.take sh.length)) ρ2) (wr sh s ++ List.replicate k none)) = step
  intro o0
  cases hcc : compE step ds s0 with
  | bad => rw [hcc] at o0; exact (hO o0).elim
  | exc e => exact (compE_nx hcc).elim
  | ret q =>
    obtain ⟨out, sf⟩ := q
    rw [hcc, on_ret] at o0
    obtain ⟨hfit, o0⟩ := fit_ok hO o0
    have again : ∀ {F' H' σ' ρ'} {s' : SOf sh}, StOk X.K G F' σ' H' ρ' → (∀ j, j < σ.length → σ'[j]? = σ[j]?) → σ'.length = σ.length + k → rd sh (ρ'.take sh.length) = some s' → StOk X.K G F' σ' H' (wr sh s' ++ List.replicate k none) := fun {F' H' σ' ρ' s'} S' kp hl e' => by
      obtain ⟨h1, h2, h3⟩ := rd_wr sh _ s' e'
      have hρ' : ρ'.length = σ.length + k := by rw [← S'.ln]; exact hl
      refine S'.weak (by simp [hlen0]; omega) (fun i av q => ?_) (fun i c q => ?_)
      · have q' := app_none q
        have := h2 i av q'
        have hi : i < sh.length := by
          have := (List.getElem?_eq_some_iff.mp this).1
          rw [List.length_take] at this; omega
        rw [List.getElem?_take_of_lt hi] at this
        exact this
      · obtain ⟨a, ha⟩ := S'.pq i c q
        have hi := hP i a ha
        rw [List.getElem?_append_left (by rw [hlen0]; exact hi)]
        exact h3 i c (by rw [List.getElem?_take_of_lt (by omega)]; exact q)
    refine ⟨fun i m vs σ' H' => ∃ F' acc rest s, m = ds.length - i ∧ i ≤ ds.length ∧ Same F1 F' ∧ StOk X.K G F' σ' H' (wr sh s ++ List.replicate k none) ∧ (∀ j, j < σ.length → σ'[j]? = σ[j]?) ∧ σ'.length = σ.length + k ∧ RepL X.K F' vs acc ∧ compE step (ds.drop i) s = .ret (rest, sf) ∧ out = acc ++ rest,
      ⟨ds.length, F1, [], out, s0, rfl, Nat.zero_le _, Same.refl _, S0.grow k, fun j hj => by rw [List.getElem?_append_left hj], by simp, .nil, hcc, rfl⟩, ?_⟩
    rintro i m vs σ' H' ⟨F', acc, rest, sc, rfl, hi, s2, S2, kp, hlen, rp, go, eo⟩
    refine ⟨by rw [rp.length]; rw [eo, List.length_append] at hfit; omega, ?_⟩
    by_cases hlt : i < ds.length
    · refine .inr ⟨wk.go i G F' σ' H' _ s2 S2 hlt, fun x H2 y cl sx H0 fp C => ?_⟩
      have hd : ds[i]? = some ds[i] := by simp [hlt]
      obtain ⟨F3, s3, S3, r3⟩ := wk.yld i G F' σ' H' _ x H2 ds[i] s2 S2 hd y
      have ed : ds.drop i = ds[i] :: ds.drop (i + 1) := List.drop_eq_getElem_cons hlt
      rw [ed] at go
      cases hst : step sc ds[i] with
      | bad => dsimp only [compE] at go; rw [hst] at go; cases go
      | exc e => dsimp only [compE] at go; rw [hst] at go; cases go
      | ret o =>
        obtain ⟨o, sn⟩ := o
        dsimp only [compE] at go
        rw [hst, noX_ret, bd_ret] at go
        cases hr : compE step (ds.drop (i + 1)) sn with
        | bad => rw [hr] at go; cases go
        | exc e => rw [hr] at go; cases go
        | ret q' =>
          obtain ⟨rest', sf'⟩ := q'
          rw [hr, bd_ret] at go
          cases go
          rw [← hstep] at hst
          refine hg cl sx H0 fp C (fun m => m = .ret (o, sn)) _ G F3 σ' H2 _ x ds[i] _ (fun z => nomatch z) S3 r3 hst fun σ3 ρ3 S4 kp3 hl3 ml3 o4 => ?_
          have kp' : ∀ j, j < σ.length → σ3[j]? = σ[j]? := fun j hj => ((kp3 j (by omega)).1).trans (kp j hj)
          intro cl sx H0 fp C
          refine ht cl sx H0 fp C (fun m => m = .ret (o, sn)) (fun e _ => .exc e) _ G F3 σ3 H2 ρ3 _ (fun z => nomatch z) (fun F ρ e z => nomatch z) S4 o4 fun b F5 H5 ρ5 s5 S5 o5 => ?_
          cases b with
          | true =>
            refine iteT ?_
            intro cl sx H0 fp C
            refine he cl sx H0 fp C (fun m => m = .ret (o, sn)) (fun e _ => .exc e) _ G F5 σ3 H5 ρ5 _ (fun z => nomatch z) (fun F ρ e z => nomatch z) S5 o5 fun v u F6 H6 ρ6 s6 S6 ru o6 => ?_
            obtain ⟨s', e', o'⟩ := rdk_ok (OK := fun m => m = .ret (o, sn)) (fun z => nomatch z) o6
            cases o'
            exact ⟨ds.length - (i + 1), by omega, F6, acc ++ [v], rest', sn, rfl, hlt, ((s2.trans s3).trans s5).trans s6, again S6 kp' (by omega) e', kp', by omega, (rp.mono ((s3.trans s5).trans s6)).append (.cons ru .nil), hr, by rw [eo]; simp⟩
          | false =>
            refine iteF ?_
            obtain ⟨s', e', o'⟩ := rdk_ok (OK := fun m => m = .ret (o, sn)) (fun z => nomatch z) o5
            cases o'
            exact ⟨ds.length - (i + 1), by omega, F5, acc, rest', sn, rfl, hlt, (s2.trans s3).trans s5, again S5 kp' (by omega) e', kp', by omega, rp.mono (s3.trans s5), hr, by rw [eo]; simp⟩
    · have ei : i = ds.length := by omega
      subst ei
      rw [List.drop_length] at go
      cases go
      rw [List.append_nil] at eo
      subst eo
      refine .inl ⟨wk.stop G F' σ' H' _ s2 S2, fun p hp => ?_⟩
      have Ssh := S2.shrink (n := σ.length) (by simp [hlen0]) hP
      have e1 : σ'.take σ.length = σ := take_eq_of kp rfl
      have e2 : (wr sh sf ++ List.replicate k none).take σ.length = wr sh sf := by rw [← hlen0 sf, List.take_left]
      rw [e1, e2] at Ssh
      obtain ⟨S5, r5⟩ := Ssh.newLst hp rp
      exact k2 _ _ F' _ _ (s1.trans s2) S5 r5 o0
theorem ael_comp {S : Type} {sh : List Kd} {it : Ev S (List D)} {t : Tg (Option D × SOf sh)} {et : Ev (Option D × SOf sh) Bool} {ee : Ev (Option D × SOf sh) D} (hc : X.calm = true) (Sc : CompOk X N' k scope) (hi : AEi X tg iter it)
    (hg : ∀ cl s H fp C, AG (compCx X N' scope cl s H fp C) X.N.length tg t) (ht : ∀ cl s H fp C, AEts (compCx X N' scope cl s H fp C) ifs et) (he : ∀ cl s H fp C, AE (compCx X N' scope cl s H fp C) elt ee)
    (hs : ∀ x, foldedSetIterable iter X.env x = pure x) : AEl X (.ListComp elt [⟨tg, iter, ifs, 0⟩] scope pos) (eComp sh k it t et ee) := by
  intro OK x kk G F σ H ρ Q hO hX St ok k2; unfold tSem; intro pins s I
  refine pe_comp (wi := tSemI X tg iter) (g := tAllG X N' scope tg) (tc := tAllT X N' scope ifs) (te := tAllE X N' scope elt) hc Sc (fun x hx hf => I.ok.has x.1 (Sc.free x hx hf)) pi_sem
    (fun cl s H fp C pins s' σ H v u Q I r h => pg_sem pins s' σ H v u Q I r (h cl _ _ fp C)) (fun cl s H fp C pins s' σ H Q I h => h cl _ _ fp C pins s' I) (fun cl s H fp C pins s' σ H Q I h => pe_sem pins s' σ H Q I (h cl _ _ fp C)) hs pins s σ H Q I (ecomp_rd hi hg ht he I.len hO hX St ok k2)
theorem as_setECompL {S : Type} {pos' spos : Pos} {i : Nat} {y : Str} {sh : List Kd} {it : Ev S (List D)} {t : Tg (Option D × SOf sh)} {et : Ev (Option D × SOf sh) Bool} {ee : Ev (Option D × SOf sh) D}
    (hN : X.N.Nodup) (hy : X.N[i]? = some y) (hly : Loc X.env.scope y) (hfn : X.fn y = true ∨ X.env.scope.names.lookup y = some .local) (hc : X.calm = true) (Sc : CompOk X N' k scope) (hi : AEi X tg iter it)
    (hg : ∀ cl s H fp C, AG (compCx X N' scope cl s H fp C) X.N.length tg t) (ht : ∀ cl s H fp C, AEts (compCx X N' scope cl s H fp C) ifs et) (he : ∀ cl s H fp C, AE (compCx X N' scope cl s H fp C) elt ee)
    (hsw : swapsWith (.ListComp elt [⟨tg, iter, ifs, 0⟩] scope pos) (some (.Name y pos')) spos.line X.env = pure true) (hs : ∀ x, foldedSetIterable iter X.env x = pure x) :
    AS X (.Assign [.Name y pos'] (.ListComp elt [⟨tg, iter, ifs, 0⟩] scope pos) spos) (sSetL i (eComp sh k it t et ee)) := by
  intro OK K G F σ H ρ E hO hX St ok eo; unfold tSemS; intro pins s I
  refine ps_setComp (wi := tSemI X tg iter) (g := tAllG X N' scope tg) (tc := tAllT X N' scope ifs) (te := tAllE X N' scope elt) hN hy hly hfn hc Sc (fun x hx hf => I.ok.has x.1 (Sc.free x hx hf)) pi_sem
    (fun cl s H fp C pins s' σ H v u Q I r h => pg_sem pins s' σ H v u Q I r (h cl _ _ fp C)) (fun cl s H fp C pins s' σ H Q I h => h cl _ _ fp C pins s' I) (fun cl s H fp C pins s' σ H Q I h => pe_sem pins s' σ H Q I (h cl _ _ fp C)) hsw hs pins s σ H E I ?_
  refine ecomp_rd hi hg ht he I.len hO hX St ok fun ds v F' H' ρ' s S' r o => ?_
  split at o
  · rename_i ho
    obtain ⟨hl, hop⟩ := okSet_of ho
    exact eo.nx F' _ H' _ s (S'.store hop hl (.inr ⟨.l ds, rfl, r⟩)) o
  · exact (hO o).elim
end
end L4
set_option Elab.async false
set_option linter.all false
set_option maxRecDepth 100000
namespace HT
open PySem PySem.Spec PyProof.Rows
section
variable {prog : Program} {w : World} {A : Around} {E : Value → Shared → Prop} {s : Shared}
theorem getItem_tuple_all {t sl : Addr} {items : Array Value} {vl vu : Value} {lo hi : Option Int} {Q : Value → Shared → Prop} (ht : IsTup s.heap t items) (hs : s.heap.IsSliceOf sl vl vu .none) (pl : IsPart vl lo) (pu : IsPart vu hi)
    (hw : sIx items.size 0 lo = 0 ∧ sIx items.size items.size hi = items.size) (h : Q (.ref t) s) : wpAny (model prog w) A (getItem (.ref t) (.ref sl)) Q E s := by
  obtain ⟨os, hos, hcs, hds⟩ := id hs
  have hTs : s.TypeIs (.ref sl) "slice" := ⟨os, hos, hcs⟩
  unfold getItem
  try with_reducible refine wpAny_holding ?_
  first | refine wpAny_bind (wpAny_pure ?_) | skip
  refine wpAny_bind (wpAny_sequenceKey ht.typeIs (by decide) ?_)
  refine wpAny_bind (wpAny_callSpecial?_slot (name := Str.ofString "__getitem__") ht.typeIs PyProof.Rows.slot_tuple_getitem
    (wpAny_call_entry PyProof.Rows.slot_tuple_getitem ht.typeIs entry_tuple_getitem ?_ (args_tuple_getitem _ _)))
  show wpAny _ _ (Builtin.Tuple.tupleItemsOf (.ref t) >>= _) _ _ s
  refine wpAny_bind (tupleItemsOf_ ht ?_)
  refine wpAny_bind (wpAny_typeOf hTs ?_)
  rw [if_pos (by decide)]
  refine wpAny_bind (sliceApplied_gen hs pl pu ?_)
  have hyes : ((((sIx items.size 0 lo : Nat) : Int) == 0 && (1 : Int) == 1 && (sIx items.size items.size hi - sIx items.size 0 lo) == items.size) = true) := by
    rw [hw.1, hw.2]
    simp
  show wpAny _ _ (if (((sIx items.size 0 lo : Nat) : Int) == 0 && (1 : Int) == 1 && (sIx items.size items.size hi - sIx items.size 0 lo) == items.size) = true then _ else _) _ _ s
  rw [if_pos hyes]
  obtain ⟨o, ho, hc, n, hd⟩ := id ht
  have hex : ∀ {Q' : Bool → Shared → Prop}, Q' true s → wpAny (model prog w) A.in1 (Builtin.Tuple.tupleIsExact (.ref t)) Q' E s := fun {Q'} q => by
    unfold Builtin.Tuple.tupleIsExact
    refine wpAny_bind (wpAny_typeOf ht.typeIs (wpAny_pure ?_))
    exact q
  first
    | exact wpAny_bind (hex (wpAny_bind (wpAny_rule (wpAny_pure ⟨_, rfl, wpAny_pure h⟩))))
    | exact wpAny_bind (wpAny_bind (hex (wpAny_bind (wpAny_rule (wpAny_pure (wpAny_pure ⟨_, rfl, wpAny_pure h⟩))))))
end
end HT
namespace L4
open PySem PySem.Spec PyProof.Rows L2 L3
def cutD (ds : List D) (lo hi : Option Int) : List D := (ds.drop (HT.sIx ds.length 0 lo)).take (HT.sIx ds.length ds.length hi - HT.sIx ds.length 0 lo)
theorem cut_rep {K : Fg} {F : Hp} {vs : List V} {ds : List D} (r : RepL K F vs ds) (lo hi : Option Int) : RepL K F (cutV vs lo hi) (cutD ds lo hi) := by
  unfold cutV cutD
  rw [r.length]
  exact (r.drop _).take _
def rSlA (K : Fg) : V → Option Int → Option Int → Hp → VK → Prop := fun x lo hi H Q => ∃ a xs, x = .ref a ∧ SqT K H a xs ∧ (HT.sIx xs.length 0 lo = 0 ∧ HT.sIx xs.length xs.length hi = xs.length) ∧ Q x H
theorem sl_tupA {X : Cx} : SlR X (rSlA X.K) := by
  intro pins s σ H x v vl vu lo hi sl Q I rx hs pl pu h
  obtain ⟨a, xs, rfl, hx, hw, q⟩ := h
  cases rx
  obtain ⟨its, r, ht, hz⟩ := I.tuple hx
  have hlen : its.toArray.size = xs.length := by rw [List.size_toArray]; exact r.length.symm
  refine ⟨"tuple", _, PyProof.Rows.slot_tuple_getitem.lookup, ht.typeIs, ?_⟩
  exact HT.getItem_tuple_all ht hs pl pu (by rw [hlen]; exact hw) ⟨.ref a, H, I, rfl, q⟩
def pNoI : Pu (Option Int) := fun _ => .ret none
def asI (d : D) : M (Option Int) := match d with
  | .int i => .ret (some i)
  | _ => .bad
def pInt (p : Pu D) : Pu (Option Int) := fun ρ => bd (p ρ) asI
def fCut (d : D) (lo hi : Option Int) : Option D := match d with
  | .tuple ds => some (.tuple (cutD ds lo hi))
  | .list ds => some (.list (cutD ds lo hi))
  | _ => none
def fCutL (d : D) (lo hi : Option Int) : Option (List D) := match d with
  | .list ds => some (cutD ds lo hi)
  | _ => none
def pSlice (p : Pu D) (l h : Pu (Option Int)) : Pu D := fun ρ => bd (p ρ) fun d => bd (l ρ) fun lo => bd (h ρ) fun hi => oM (fCut d lo hi)
def APo (X : Cx) (e : Option Expr) (p : Pu (Option Int)) : Prop :=
  ∀ (G : Gh) (F : Hp) (σ : L2.St) (H : Hp) (ρ : En) (Q : Option Int → Hp → Prop), StOk X.K G F σ H ρ → W X G F σ ρ (p ρ) (fun d F' H' => Q d H') → ∀ (pins : List (Addr × Obj)) (s : Shared), Inv X pins σ H s →
    wpAny (model X.prog X.w) X.A (evalPart e X.env) (fun u s' => ∃ o H', Inv X pins σ H' s' ∧ IsPart u o ∧ Q o H') X.xe s
def tSemO (X : Cx) (e : Option Expr) : TO := fun σ H Q => ∀ (pins : List (Addr × Obj)) (s : Shared), Inv X pins σ H s → wpAny (model X.prog X.w) X.A (evalPart e X.env) (fun u s' => ∃ o H', Inv X pins σ H' s' ∧ IsPart u o ∧ Q o H') X.xe s
theorem po_sem {X : Cx} {e : Option Expr} : PO X e (tSemO X e) := fun pins s σ H Q I h => h pins s I
section
variable {X : Cx} {e : Expr} {lo hi : Option Expr} {p : Pu D} {pl ph : Pu (Option Int)} {pos p2 : Pos}
theorem apo_none : APo X none pNoI := fun G F σ H ρ Q S w pins s I => po_none pins s σ H Q I (w F H (Same.refl _) S)
theorem apo_some (h : AP X e p) : APo X (some e) (pInt p) := fun G F σ H ρ Q S w pins s I => po_some pe_sem pins s σ H Q I (h G F σ H ρ _ S (w.bind.imp fun d F1 H1 s1 S1 w1 v r => by
  cases r with
  | int i => exact ⟨i, rfl, w1 F1 H1 (Same.refl _) S1⟩
  | bl b => exact w1.elim
  | non => exact w1.elim
  | str i => exact w1.elim
  | tup _ _ => exact w1.elim
  | lst _ _ => exact w1.elim
  | dct _ _ _ => exact w1.elim
  | dck _ _ _ => exact w1.elim))
theorem ap_slice (he : AO X e p) (hl : APo X lo pl) (hh : APo X hi ph) : AP X (.Subscript e (.Slice lo hi none p2) pos) (pSlice p pl ph) :=
  fun G F σ H ρ Q S w => sem (pe_slice (sl_tup.or (sl_tupA.or sl_list)) pe_sem po_sem po_sem) (he G F σ H ρ _ S (w.bind.imp fun d F1 H1 s1 S1 w1 x hx =>
    hl G F1 σ H1 ρ _ S1 (w1.bind.imp fun lo F2 H2 s2 S2 w2 => hh G F2 σ H2 ρ _ S2 (w2.bind.imp fun hi F3 H3 s3 S3 w3 => by
      obtain ⟨res, hr, k⟩ := w3.opt
      have ox := (hx.mono (s2.trans s3)).or S3
      cases d <;> try (cases hr)
      · obtain ⟨a, vs, rfl, h1, h2⟩ := ox.list S3.fh
        refine .inr (.inr ⟨a, vs, rfl, h1, fun q hq => ?_⟩)
        obtain ⟨S4, r4⟩ := S3.newLst hq (cut_rep h2 lo hi)
        obtain ⟨F5, s5, S5, r5⟩ := S4.settle r4
        exact k F5 _ s5 S5 _ r5
      · rename_i ds
        obtain ⟨a, vs, rfl, h1, h2⟩ := ox.tuple S3.fh
        by_cases hw : HT.sIx vs.length 0 lo = 0 ∧ HT.sIx vs.length vs.length hi = vs.length
        · refine .inr (.inl ⟨a, vs, rfl, h1, hw, k F3 H3 (Same.refl _) S3 _ ?_⟩)
          have : cutD ds lo hi = ds := by
            unfold cutD
            rw [← h2.length, hw.1, hw.2]
            simp [h2.length]
          rw [this]
          exact ox.tup'
        · refine .inl ⟨a, vs, rfl, h1, hw, fun q hq => ?_⟩
          obtain ⟨s4, S4, r4⟩ := S3.newTup hq (cut_rep h2 lo hi)
          exact k _ _ s4 S4 _ r4))))
end
def pChain (f g : D → D → Option Bool) (a b c : Pu D) : Pu Bool := fun ρ => bd (a ρ) fun x => bd (b ρ) fun y => bd (oM (f x y)) fun t => if t then bd (c ρ) fun z => oM (g y z) else .ret false
section
variable {X : Cx} {a b c : Expr} {pa pb pc : Pu D} {op op' : CmpOp} {r r' : R2} {f g : D → D → Option Bool} {pos : Pos}
theorem chain_go {G : Gh} {F H : Hp} {σ : L2.St} {ρ : En} {Q : VK} (hf : OpB X.K r f) (hg : OpB X.K r' g) (ha : AO X a pa) (hb : AO X b pb) (hc : AO X c pc) (S : StOk X.K G F σ H ρ) (w : W X G F σ ρ (pChain f g pa pb pc ρ) fun t F' H' => Q (.bl t) H') :
    tChain r r' (tSem X a) (tSem X b) (tSem X c) σ H Q :=
  ha G F σ H ρ _ S (w.bind.imp fun dx F1 H1 s1 S1 w1 x hx => hb G F1 σ H1 ρ _ S1 (w1.bind.imp fun dy F2 H2 s2 S2 w2 y hy => by
    have w3 := w2.bind
    obtain ⟨t, e, k⟩ := w3.opt
    refine hf G F2 σ H2 ρ x y dx dy t _ S2 ((hx.mono s2).or S2) (hy.or S2) e ⟨t, rfl, ?_⟩
    have w4 := k F2 H2 (Same.refl _) S2
    cases t with
    | true =>
      refine iteT ?_
      exact hc G F2 σ H2 ρ _ S2 ((show W X G F2 σ ρ (bd (pc ρ) fun z => oM (g dy z)) _ from w4).bind.imp fun dz F3 H3 s3 S3 w5 z hz => by
        obtain ⟨t', e', k'⟩ := w5.opt
        exact hg G F3 σ H3 ρ y z dy dz t' _ S3 ((hy.mono s3).or S3) (hz.or S3) e' (k' F3 H3 (Same.refl _) S3))
    | false =>
      refine iteF ?_
      exact (show W X G F2 σ ρ (.ret false) _ from w4) F2 H2 (Same.refl _) S2))
theorem at_chain (ho : OpR X (compareOp op) r) (ho' : OpR X (compareOp op') r') (hf : OpB X.K r f) (hg : OpB X.K r' g) (ha : AO X a pa) (hb : AO X b pb) (hc : AO X c pc) (hm : lastMarks [op, op'] [b, c] = false) : AT X (.Compare a [op, op'] [b, c] pos) (pChain f g pa pb pc) :=
  fun G F σ H ρ Q S w => semT (pt_chain ho ho' pe_sem pe_sem pe_sem hm) (chain_go (Q := fun x H' => ∃ k, x = .bl k ∧ Q k H') hf hg ha hb hc S (w.imp fun t F' H' _ _ q => ⟨t, rfl, q⟩))
end
def opIsB (d e : D) : Option Bool := match d, e with
  | .bool a, .bool b => some (a == b)
  | _, .none => some (isNone d)
  | _, _ => none
section
variable {X : Cx}
end
section
variable {X : Cx} {e : Expr} {p : Pu D} {pos p1 p2 : Pos} {T : String} {x : Str}
end
def boolsOf : List D → Option (List Bool)
  | [] => some []
  | .bool b :: r => match boolsOf r with
    | some l => some (b :: l)
    | none => none
  | _ => none
def fAll : List D → Option Bool
  | [.list ds] => (boolsOf ds).map fun bs => bs.all id
  | _ => none
def fList : List D → Option (List D)
  | [.list ds] => some ds
  | [.tuple ds] => some ds
  | _ => none
def rList (K : Fg) : List V → Hp → VK → Prop := fun xs H Q => ∃ p ys, xs = [.ref p] ∧ (SqL K H p ys ∨ SqT K H p ys) ∧ ∀ l, H l = none → Q (.ref l) (upd H l (.lst ys))
theorem ok_list {K : Fg} : CallL K (rList K) fList := by
  intro G F σ H ρ xs ds res Q S o e k
  unfold fList at e
  split at e
  · cases e
    obtain ⟨v, r, rfl, ho, hr⟩ := ors_cons o
    obtain rfl := ors_nil hr
    obtain ⟨a, vs, rfl, h1, h2⟩ := ho.list S.fh
    refine ⟨a, vs, rfl, .inl h1, fun l hl => ?_⟩
    obtain ⟨S2, r2⟩ := S.newLst hl h2
    exact k _ F _ (Same.refl _) S2 r2
  · cases e
    obtain ⟨v, r, rfl, ho, hr⟩ := ors_cons o
    obtain rfl := ors_nil hr
    obtain ⟨a, vs, rfl, h1, h2⟩ := ho.tuple S.fh
    refine ⟨a, vs, rfl, .inr h1, fun l hl => ?_⟩
    obtain ⟨S2, r2⟩ := S.newLst hl h2
    exact k _ F _ (Same.refl _) S2 r2
  · cases e
end L4
set_option Elab.async false
set_option linter.all false
set_option maxRecDepth 100000
namespace L4
open PySem PySem.Spec PyProof.Rows L2 L3
section
variable {S : Type}
def putD (ds : List D) (j d : D) : Option (List D) := match j with
  | .int k => (ixN ds.length k).map fun q => ds.set q d
  | _ => none
def sPut (i : Nat) (mi me : Ev S D) : SM S := fun K ρ => me K.x (fun d ρ1 => match ownL ρ1 i with
  | some _ => mi K.x (fun j ρ2 => match ownL ρ2 i with
    | some ds => (oM (putD ds j d)).on (fun e => K.x e ρ2) (fun ds' => K.nx (setO ρ2 i ds'))
    | none => .bad) ρ1
  | none => .bad) ρ
def sAugS (i : Nat) (f : D → D → Option D) (mj me : Ev S D) : SM S := fun K ρ => match ownL ρ i with
  | some _ => mj K.x (fun j ρ1 => match ownL ρ1 i with
    | some ds => (oM (opIx (.list ds) j)).on (fun e => K.x e ρ1) (fun x => me K.x (fun d ρ2 => (oM (f x d)).on (fun e => K.x e ρ2) (fun r => match ownL ρ2 i with
      | some ds2 => (oM (putD ds2 j r)).on (fun e => K.x e ρ2) (fun ds' => K.nx (setO ρ2 i ds'))
      | none => .bad)) ρ1)
    | none => .bad) ρ
  | none => .bad
def ipD (f : D → D → Option D) (K : Fg) (t : TIp) : Prop := ∀ (x y : V) (dx dy r : D) (F H : Hp) (Q : VK), Rep K F x dx → Rep K F y dy → f dx dy = some r → (∀ v, Rep K F v r → Q v H) → t x y H Q
def opAddI : D → D → Option D
  | .int i, .int j => some (.int (i + j))
  | _, _ => none
theorem ipd_add {K : Fg} : ipD opAddI K (ipI fun i j => i + j) := fun x y dx dy r F H Q r1 r2 e k => by
  cases dx <;> cases dy <;> cases e
  cases r1; cases r2
  exact ⟨_, _, rfl, rfl, k _ (.int _)⟩
variable {X : Cx} {a b e : Expr} {mi me : Ev S D} {pos pos' tpos apos cpos : Pos} {ml : Ev S (List D)}
theorem as_put {i : Nat} {x : Str} (hN : X.N[i]? = some x) (hv : Vis X.env.scope x) (hi : AE X b mi) (he : AE X e me) (ha : ∀ v, assign (.Subscript (.Name x pos') b tpos) X.env v = (do
      let ov ← holding [v] (eval (.Name x pos') X.env)
      let iv ← holding [v, ov] (eval b X.env)
      standAt tpos
      holding [v, ov, iv] (setItem ov iv v)
      release [v, ov, iv] []))
    (hs : swapsWithSole [.Subscript (.Name x pos') b tpos] e pos.line X.env = pure false) (hw : swappedStores [.Subscript (.Name x pos') b tpos] e X.env = pure none)
    (h1 : (assignEach [.Subscript (.Name x pos') b tpos] X.env).map (·.2) = [assign (.Subscript (.Name x pos') b tpos) X.env])
    (hd : (x == ("__debug__" : Str)) = false := by decide) (hcd : (x == ("__classdict__" : Str)) = false := by decide) : AS X (.Assign [.Subscript (.Name x pos') b tpos] e pos) (sPut i mi me) := fun OK K G F σ H ρ E hO hX St ok eo =>
  semS (ps_asg pe_sem (pg_sub (pe_var hN hv hd hcd) pe_sem set_list ha) hs hw h1) (he OK K.x _ G F σ H ρ _ hO hX St ok fun d v F1 H1 ρ1 s1 S1 r1 o1 => by
    split at o1
    case h_2 => exact (hO o1).elim
    rename_i ds0 hd0
    obtain ⟨a, vs0, ea, _, _⟩ := own_ref S1 hd0
    refine ⟨_, ea, hi OK K.x _ G F1 σ H1 ρ1 _ hO hX S1 o1 fun j u F2 H2 ρ2 s2 S2 r2 o2 => ?_⟩
    split at o2
    case h_2 => exact (hO o2).elim
    rename_i ds hds
    obtain ⟨ds', hp, o3⟩ := opt_ok hO o2
    obtain ⟨a', vs, ea', hh, rv⟩ := own_ref S2 hds
    rw [ea] at ea'
    injection ea' with ea'; injection ea' with ea'; injection ea' with ea'
    subst ea'
    unfold putD at hp
    split at hp
    · rename_i k
      obtain ⟨q, hq, rfl⟩ := Option.map_eq_some_iff.mp hp
      cases r2
      refine ⟨a, vs, k, q, rfl, rfl, hh, by rw [rv.length]; exact hq, ?_⟩
      exact eo.nx F2 σ _ _ (s1.trans s2) (own_set S2 hds ea (RepL.set (r1.mono s2) q rv)) o3
    · cases hp)
def gIxL : V → V → Hp → VK → Prop := fun x y H Q => ∃ p xs i v, x = .ref p ∧ y = .int i ∧ H p = some (.lst xs) ∧ atI xs i = some v ∧ Q v H
end
end L4
set_option Elab.async false
set_option linter.all false
set_option maxRecDepth 100000
namespace L4
open PySem PySem.Spec PyProof.Rows L2 L3
def kindB (k : NameKind) : Option NameKind → Bool
  | some k' => k == k'
  | none => false
def compChk (N N' : List Str) (k : Nat) (scope sc : Scope) : Bool :=
  (scope.kind == .function) && (N'.length == N.length + k) && scope.names.all (fun y => y.2 != .cell) && scope.names.all (fun y => y.2 != .local || kindB .local (scope.names.lookup y.1))
    && ((List.range N.length).all fun i => match N'[i]? with
      | some x => !(kindB .free (scope.names.lookup x) || kindB .local (scope.names.lookup x) || kindB .cell (scope.names.lookup x)) || (N[i]? == some x && kindB .free (scope.names.lookup x))
      | none => true)
    && scope.names.all (fun y => y.2 != .free || kindB .cell (sc.names.lookup y.1) || kindB .free (sc.names.lookup y.1))
theorem kindB_of {k : NameKind} {o : Option NameKind} (h : kindB k o = true) : o = some k := by
  cases o with
  | none => cases h
  | some k' => simp [kindB] at h; rw [h]
theorem kindB_to {k : NameKind} {o : Option NameKind} (h : o = some k) : kindB k o = true := by subst h; simp [kindB]
theorem compOk_of {X : Cx} {N N' : List Str} {k : Nat} {scope sc : Scope} (h : compChk N N' k scope sc = true) (hN : X.N = N) (hs : X.env.scope = sc) : CompOk X N' k scope := by
  subst hN hs
  simp only [compChk, Bool.and_eq_true, List.all_eq_true, beq_iff_eq, Bool.or_eq_true, bne_iff_ne, ne_eq] at h
  obtain ⟨⟨⟨⟨⟨h1, h2⟩, h3⟩, h4⟩, h5⟩, h6⟩ := h
  refine ⟨h1, h2, fun y hy => h3 y hy, fun y hy hl => ?_, fun i x hi hx _ hk => ?_, fun y hy hf => ?_⟩
  · rcases h4 y hy with z | z
    · exact absurd hl z
    · exact kindB_of z
  · have := h5 i (List.mem_range.mpr hi)
    rw [hx] at this
    simp only [Bool.or_eq_true, Bool.not_eq_true', Bool.and_eq_true, beq_iff_eq] at this
    rcases this with z | ⟨z1, z2⟩
    · exfalso
      rcases hk with hk | hk | hk <;> simp [kindB_to hk] at z
    · exact ⟨z1, kindB_of z2⟩
  · rcases h6 y hy with (z | z) | z
    · exact absurd hf z
    · exact .inl (kindB_of z)
    · exact .inr (kindB_of z)
section
variable {S : Type} {X : Cx} {a b e : Expr} {ms : Ev S (List D)} {pos : Pos}
def sPar (i j : Nat) (ms : Ev S (List D)) : SM S := fun K ρ => ms K.x (fun ds ρ1 => match ds with
  | [u, v] => (match okSet ρ1 i && okSet (ρ1.set i (some (.fz u))) j with
    | true => K.nx ((ρ1.set i (some (.fz u))).set j (some (.fz v)))
    | false => .bad)
  | _ => .bad) ρ
theorem as_par {i j : Nat} {x y : Str} {px py pt : Pos} {kt k2 pt2} (hc : X.calm = true) (hN : X.N.Nodup) (hi : X.N[i]? = some x) (hj : X.N[j]? = some y) (hij : i ≠ j)
    (hx : X.env.scope.names.lookup x = some .local) (hy : X.env.scope.names.lookup y = some .local) (ha : AEa X [a, b] ms)
    (hw : swappedStores [.Tuple [.Name x px, .Name y py] kt pt] (.Tuple [a, b] k2 pt2) X.env = pure (some [x, y]))
    (hs : swapsWithSole [.Tuple [.Name x px, .Name y py] kt pt] (.Tuple [a, b] k2 pt2) pos.line X.env = pure false) :
    AS X (.Assign [.Tuple [.Name x px, .Name y py] kt pt] (.Tuple [a, b] k2 pt2) pos) (sPar i j ms) := fun OK K G F σ H ρ E hO hX St ok eo =>
  semS (ps_par hc hN hi hj hij hx hy pa_sem hw hs) (ha OK K.x _ G F σ H ρ _ hO hX St ok fun ds vs F1 H1 ρ1 s1 S1 hl r1 o1 => by
    split at o1
    · split at o1
      · rename_i _ u v _ hok
        rw [Bool.and_eq_true] at hok
        obtain ⟨h1, h2⟩ := okSet_of hok.1
        obtain ⟨h3, h4⟩ := okSet_of hok.2
        cases r1 with
        | cons ra rb =>
          cases rb with
          | cons rb rc =>
            cases rc
            refine ⟨_, _, rfl, eo.nx F1 _ H1 _ s1 ?_ o1⟩
            exact (S1.store h2 h1 (.inl ⟨u, rfl, ra⟩)).store h4 h3 (.inl ⟨v, rfl, rb⟩)
      · exact (hO o1).elim
    · exact (hO o1).elim)
end
theorem law_start {K : Fg} {H : Hp} {a : Addr} {ns : List Int} {mf : List D → M D} (hS : SqL K H a (ns.map V.int)) (h : mf [.list (ns.map PyData.int)] = .ret (.bool true)) : spD K 1 mf [.ref a] H (fun v _ => v = .bl true) fun _ _ _ => False := by
  refine ⟨⟨fun _ => none, fun _ => none, H⟩, H, [.list (ns.map PyData.int)], rfl, ⟨Same.refl _, fun b o z => (nomatch z), fun b o z => (nomatch z), rfl, fun i d z => ?_, fun i c z => (no_own (ds := [.list (ns.map PyData.int)]) z).elim, fun i j c e a z => (no_own (ds := [.list (ns.map PyData.int)]) z).elim, fun i a z => (nomatch z), fun i c z => ?_, Same.refl _⟩, ?_⟩
  · obtain ⟨d', e, q⟩ := fz_get (ds := [.list (ns.map PyData.int)]) z
    cases e
    cases i with
    | zero => simp at q; subst q; exact ⟨_, rfl, .lst hS (RepL.ints ns)⟩
    | succ i => simp at q
  · obtain ⟨d', e, q⟩ := fz_get (ds := [.list (ns.map PyData.int)]) z
    cases e
  · rw [h]
    intro v F' H' s S' r
    cases r
    rfl
end L4
set_option Elab.async false
set_option linter.all false
set_option maxRecDepth 100000
namespace HT
open PySem PySem.Spec PyProof.Rows
section
variable {prog : Program} {w : World} {A : Around} {E : Value → Shared → Prop} {s : Shared}
end
end HT
namespace L4
open PySem PySem.Spec PyProof.Rows L2 L3
section
variable {X : Cx} {e st : Expr} {p : Pu D} {pos p2 : Pos}
end
end L4
set_option Elab.async false
set_option linter.all false
set_option maxRecDepth 100000
namespace L4
open PySem PySem.Spec PyProof.Rows L2 L3
section
variable {X : Cx} {a : Expr} {pa : Pu D} {pos : Pos} {ta : TE}
end
def isStar : Expr → Bool
  | .Starred _ _ => true
  | _ => false
theorem star_ok {env : Env} : ∀ {e : Expr} {es : List Expr}, isStar e = false → starEach (e :: es) env = (false, eval e env) :: starEach es env := by
  intro e es h
  cases e <;> first | rfl | cases h
end L4
set_option Elab.async false
set_option linter.all false
set_option maxRecDepth 100000
namespace L4
open PySem PySem.Spec PyProof.Rows L2 L3
noncomputable def forS {S T : Type} : (T → D → (T → M S) → M S) → List D → T → (T → M S) → M S := Classical.choose (⟨@forC S T, rfl⟩ : ∃ f, f = @forC S T)
theorem forS_is {S T : Type} : @forS S T = @forC S T := Classical.choose_spec (⟨@forC S T, rfl⟩ : ∃ f, f = @forC S T)
section
variable {S : Type}
noncomputable def sForS (sh : List Kd) (it : Ev S (List D)) (t : Tg S) (mb : SM S) : SM S := fun K ρ => it K.x (fun ds ρ1 => rdk sh (fun s => forS (fun s d kn => t d (fun ρ2 => mb (loopK sh K kn) ρ2) (wr sh s)) ds s (fun s' => K.nx (wr sh s'))) ρ1) ρ
theorem sForS_is (sh : List Kd) (it : Ev S (List D)) (t : Tg S) (mb : SM S) : sForS sh it t mb = sFor sh it t mb := by
  unfold sForS sFor
  rw [forS_is]
variable {X : Cx} {mb : SM S} {c : Expr} {mt : Ev S Bool} {ml : Ev S (List D)} {pos : Pos}
theorem as_forS {tg iter : Expr} {body : List Stmt} {sh : List Kd} {t : Tg S} (hp : PassesOwn (model X.prog X.w) X.A X.env X.xe) (hc : X.calm = true) (hi : AEi X tg iter ml) (hg : AG X 0 tg t) (hb : ASs X body mb)
    (hs : ∀ x, foldedSetIterable iter X.env x = pure x) : AS X (.For tg iter body [] pos) (sForS sh ml t mb) := by
  rw [sForS_is]
  exact as_for hp hc hi hg hb hs
end
end L4
set_option Elab.async false
set_option linter.all false
set_option maxRecDepth 100000
namespace HT
open PySem PySem.Spec PyProof.Rows
section
variable {prog : Program} {w : World} {A : Around} {E : Value → Shared → Prop} {s : Shared} {xs : Array (Int × Tok)} {l : Addr}
theorem max_intTup {Q : Value → Shared → Prop} (hh : A.handled = none) (hl : s.heap.IsTuple l (intItems xs)) (hne : 0 < xs.size)
    (h : ∀ v h' tk, (intItems xs)[argBest (fun i j => decide (numAt xs i > numAt xs j)) (xs.size - 1)]? = some v → (∀ b o, s.heap.get? b = some o → h'.get? b = some o) → Q v { s with heap := h', toks := tk }) :
    wpAny (model prog w) A (call (.builtin "max") [.ref l]) Q E s := by
  have hlt : l < s.heap.objs.size := by obtain ⟨_, e, _⟩ := hl; exact Heap.lt_size e
  refine call_max_walk (wpAny_pyIter_tuple hl ?_)
  refine ⟨_, _, _, _, _, _, _, rfl, Walks.tuple (A := A.in1) hh _ l (Nat.ne_of_lt hlt) (intItems xs), ⟨⟨_, Heap.get?_push_size _ rfl, rfl, rfl⟩, ?_⟩, fun b hb => ?_, by simpa [intItems] using hne, CmpOf.ints_gt (numAt xs) (fun _ _ => intItems_at), fun v h' tk hP hk => ?_⟩
  · obtain ⟨o, e, r⟩ := hl
    exact ⟨o, Heap.get?_push_of_some _ e, r⟩
  · show b < (s.heap.push _).objs.size
    rw [Heap.size_push]
    rcases List.mem_cons.mp hb with rfl | hb
    · exact Nat.lt_succ_self _
    · rcases List.mem_cons.mp hb with rfl | hb
      · exact Nat.lt_succ_of_lt hlt
      · cases hb
  · refine h v h' tk (by simpa [intItems] using hP) fun b o e => hk b o (fun hm => ?_) (Heap.get?_push_of_some _ e)
    rcases List.mem_cons.mp hm with e1 | hm
    · exact absurd (e1 ▸ Heap.lt_size e) (Nat.lt_irrefl _)
    · cases hm
end
end HT
namespace L4
open PySem PySem.Spec PyProof.Rows L2 L3
def opMulT : D → D → Option D
  | .tuple (a :: r), .int k => if decide (-(2 ^ 63) ≤ k) && decide (k < 2 ^ 63) && decide ((a :: r).length * k.toNat ≤ sizeLine) then some (.tuple (List.replicate k.toNat (a :: r)).flatten) else none
  | _, _ => none
section
variable {X : Cx}
end
def fMaxT : List D → Option D
  | [.tuple ds] => match intsOf ds with
    | some (n :: r) => some (.int (maxL (n :: r)))
    | _ => none
  | _ => none
def rIntsT (K : Fg) (f : List Int → Option Int) : List V → Hp → VK → Prop := fun xs H Q => ∃ a ns i, xs = [.ref a] ∧ SqT K H a (ns.map V.int) ∧ f ns = some i ∧ Q (.int i) H
theorem ok_maxT {K : Fg} : CallD K (rIntsT K gMax) fMaxT := by
  intro G F σ H ρ xs ds res Q S o e k
  unfold fMaxT at e
  split at e
  · split at e
    · rename_i hns
      cases e
      obtain ⟨v, r, rfl, ho, hr⟩ := ors_cons o
      obtain rfl := ors_nil hr
      obtain ⟨a, vs, rfl, h1, h2⟩ := ho.tuple S.fh
      rw [intsOf_eq hns] at h2
      rw [repL_ints h2] at h1
      exact ⟨a, _, _, rfl, h1, rfl, k _ F H (Same.refl _) S (show Rep K F _ _ from .int _)⟩
    · cases e
  · cases e
theorem call_maxT {X : Cx} (hc : X.calm = true) : CallR X (.builtin "max") (rIntsT X.K gMax) := by
  intro pins s σ H xs us Q I r h0
  obtain ⟨a, ns, i, rfl, hq, e, q⟩ := h0
  obtain ⟨u, rfl, ru⟩ := Vals.one r
  cases ru
  obtain ⟨its, rv, pl, hz⟩ := I.tuple hq
  obtain ⟨ps, rfl, rfl⟩ := vals_pairs rv
  have hne : ps ≠ [] := by rintro rfl; cases e
  have hne' : ps.map Prod.fst ≠ [] := by simpa using hne
  have ei : i = maxL (ps.map Prod.fst) := by
    cases hp : ps.map Prod.fst with
    | nil => exact absurd hp hne'
    | cons n r => rw [hp] at e; cases e; rfl
  subst ei
  have hl : s.heap.IsTuple a (intItems ps.toArray) := by
    have : s.heap.IsTuple a _ := pl
    unfold intItems
    simpa using this
  have hpos : 0 < ps.length := List.length_pos_iff.mpr hne
  refine HT.max_intTup (I.ok.hd hc) hl (by simpa using hpos) fun v h' tk hv hk => ?_
  obtain ⟨t, rfl⟩ := intItems_at hv
  refine ⟨.int _, H, I.kept hk, ⟨_, rfl⟩, ?_⟩
  have b := argBest_gt (numAt ps.toArray) (ps.toArray.size - 1)
  generalize argBest (fun i j => decide (numAt ps.toArray i > numAt ps.toArray j)) (ps.toArray.size - 1) = m at b hv
  have hm : m < ps.length := by
    have h0 := b.1
    simp at h0
    omega
  have hsp := maxL_spec hne'
  have e1 : numAt ps.toArray m = maxL (ps.map Prod.fst) := by
    refine Int.le_antisymm ?_ ?_
    · refine hsp.1 _ ?_
      rw [numAt_of, List.getD_eq_getElem?_getD, List.getElem?_eq_getElem (by simpa using hm)]
      exact List.getElem_mem _
    · obtain ⟨j, hj, ej⟩ := List.getElem_of_mem hsp.2
      have h0 := b.2 j (by simp at hj ⊢; omega)
      rw [numAt_of, List.getD_eq_getElem?_getD, List.getElem?_eq_getElem hj] at h0
      rw [← ej]
      exact h0
  rw [e1]
  exact q
end L4
set_option Elab.async false
set_option linter.all false
set_option maxRecDepth 100000
namespace PySem
open Sem (wp)
open AutoSeq1 (wpAny_loadPart')
section
variable {prog : Program} {w : World} {A : Around} {E : Value → Shared → Prop} {s : Shared}
theorem nextT_item {it t : Addr} {i : Nat} {items} {x : Value} {Q : Value → Shared → Prop} (hit : s.heap.IsTupleIter it t i)
    (ht : s.heap.IsTuple t items) (hx : items[i]? = some x)
    (hQ : ∀ h', h'.IsTupleIter it t (i + 1) → Heap.SameBut it s.heap h' → Q x { s with heap := h' }) :
    wpAny (model prog w) A (Builtin.SmallTypes.nextOf (.ref it)) Q E s := by
  obtain ⟨o, ho, hc, hd⟩ := id hit
  obtain ⟨ol, hol, _, nl, hdl⟩ := ht
  unfold Builtin.SmallTypes.nextOf
  refine wpAny_bind (wpAny_callSpecial?_slot (name := Str.ofString "__next__") hit.typeIs F.slot_tuple_iterator_next
    (wpAny_call_entry F.slot_tuple_iterator_next hit.typeIs F.entry_tuple_iterator_next ?_ (F.args_tuple_iterator_next_1 _)))
  show wpAny _ _ (field (.ref it) 0 >>= _) _ _ s
  refine wpAny_bind (wpAny_field ho hd (x := .ref t) rfl ?_)
  show wpAny _ _ (if (Value.ref t == Value.none) = true then _ else _) _ _ s
  rw [if_neg (show ¬ ((Value.ref t == Value.none) = true) from Bool.false_ne_true)]
  show wpAny _ _ (field (.ref it) 1 >>= _) _ _ s
  refine wpAny_bind (wpAny_field ho hd (x := .int i 0) rfl ?_)
  show wpAny _ _ (seqItems? (.ref t) >>= _) _ _ s
  refine wpAny_bind (wpAny_seqItems hol hdl ?_)
  simp only [Int.toNat_natCast, hx]
  refine wpAny_bind (wpAny_setField ho hd (by simp) (wpAny_pure ⟨x, rfl, wpAny_pure (hQ _ ?_ (Heap.SameBut.update ..))⟩))
  exact ⟨_, Heap.get?_update_self _ ho (Obj.isFreed_of_fields (Obj.data_mapFields hd _)), (Obj.cls_mapFields ..).trans hc, by
    rw [Obj.data_mapFields hd]; simp [rawInt]⟩
theorem nextT_end {it t : Addr} {i : Nat} {items} {Q : Value → Shared → Prop} (hh : A.handled = none)
    (hit : s.heap.IsTupleIter it t i) (ht : s.heap.IsTuple t items) (hx : items[i]? = none)
    (hE : ∀ h' e, Heap.ExtBut it s.heap h' → (∃ o, h'.get? e = some o ∧ o.cls = .type "StopIteration") → E (.ref e) { s with heap := h' }) :
    wpAny (model prog w) A (Builtin.SmallTypes.nextOf (.ref it)) Q E s := by
  obtain ⟨o, ho, hc, hd⟩ := id hit
  obtain ⟨ol, hol, _, nl, hdl⟩ := ht
  unfold Builtin.SmallTypes.nextOf
  refine wpAny_bind (wpAny_callSpecial?_slot (name := Str.ofString "__next__") hit.typeIs F.slot_tuple_iterator_next
    (wpAny_call_entry F.slot_tuple_iterator_next hit.typeIs F.entry_tuple_iterator_next ?_ (F.args_tuple_iterator_next_1 _)))
  show wpAny _ _ (field (.ref it) 0 >>= _) _ _ s
  refine wpAny_bind (wpAny_field ho hd (x := .ref t) rfl ?_)
  show wpAny _ _ (if (Value.ref t == Value.none) = true then _ else _) _ _ s
  rw [if_neg (show ¬ ((Value.ref t == Value.none) = true) from Bool.false_ne_true)]
  show wpAny _ _ (field (.ref it) 1 >>= _) _ _ s
  refine wpAny_bind (wpAny_field ho hd (x := .int i 0) rfl ?_)
  show wpAny _ _ (seqItems? (.ref t) >>= _) _ _ s
  refine wpAny_bind (wpAny_seqItems hol hdl ?_)
  simp only [Int.toNat_natCast, hx]
  refine wpAny_bind (wpAny_rule (wpAny_bind (wpAny_setField ho hd (by simp) ?_)))
  first
    | (show wpAny _ _ (newExc (.type "StopIteration") [] >>= _) _ _ _
       refine wpAny_bind ?_
       simp only [newExc, newTuple]
       refine wpAny_bind (wpAny_newObj_type ?_ (by size_fits))
       refine wpAny_bind (m := firstArgMember _ _) (wpAny_of_eq (a := Value.none) (by first | rfl | (simp only [firstArgMember]; rfl)) ?_)
       refine wpAny_newObj_type ?_ (by size_fits)
       simp only [raiseNew]
       refine wpAny_bind (wpAny_handled ?_)
       first | rw [show A.in1.handled = none from hh] | rw [hh]
       refine wpAny_bind (wpAny_pure (wpAny_throw ?_))
       exact hE _ _ (((Heap.SameBut.update ..).extBut.push _).push _) ⟨_, Heap.get?_push_size _ rfl, rfl⟩)
    | (refine wpAny_bind (wpAny_letGo ?_)
       show wpAny _ _ (newExc (.type "StopIteration") [] >>= _) _ _ _
       refine wpAny_bind ?_
       simp only [newExc, newTuple]
       refine wpAny_bind (wpAny_newObj_type ?_ (by size_fits))
       refine wpAny_bind (m := firstArgMember _ _) (wpAny_of_eq (a := Value.none) (by first | rfl | (simp only [firstArgMember]; rfl)) ?_)
       refine wpAny_newObj_type ?_ (by size_fits)
       simp only [raiseNew]
       refine wpAny_bind (wpAny_handled ?_)
       first | rw [show A.in1.handled = none from hh] | rw [hh]
       refine wpAny_bind (wpAny_pure (wpAny_throw ?_))
       exact hE _ _ (((Heap.SameBut.update ..).extBut.push _).push _) ⟨_, Heap.get?_push_size _ rfl, rfl⟩)
structure Zt (h : Heap) (z p q i1 i2 l1 l2 : Addr) (f0 u v : Value) (k1 k2 : Nat) : Prop where
  z0 : IsZip h z p q f0
  p0 : IsPair h p (.ref i1) (.ref i2)
  q0 : IsPair h q u v
  a0 : h.IsTupleIter i1 l1 k1
  b0 : h.IsTupleIter i2 l2 k2
theorem zipT_item {z p q i1 i2 l1 l2 : Addr} {k : Nat} {xs ys : Array Value} {x y u v : Value} {Q : Value → Shared → Prop} (D : ZipApart z p q i1 i2 l1 l2)
    (T : Zt s.heap z p q i1 i2 l1 l2 .none u v k k) (e1 : s.heap.IsTuple l1 xs) (e2 : s.heap.IsTuple l2 ys) (hx : xs[k]? = some x) (hy : ys[k]? = some y)
    (hQ : ∀ h', Zt h' z p q i1 i2 l1 l2 (rawInt s.heap.objs.size) x y (k + 1) (k + 1) → IsPair h' s.heap.objs.size x y →
      (∀ c o, c ≠ z → c ≠ q → c ≠ i1 → c ≠ i2 → s.heap.get? c = some o → h'.get? c = some o) → Q (.ref s.heap.objs.size) { s with heap := h' }) :
    wpAny (model prog w) A (Builtin.«zip.__next__» ⟨[.ref z], []⟩) (fun fin s' => ∃ r, fin = .done (.ret r) ∧ Q r s') E s := by
  have z0 := T.z0
  show wpAny _ _ (field (.ref z) 2 >>= _) _ _ _
  refine wpAny_bind (wpAny_field z0 rfl (x := .bool false) rfl ?_)
  show wpAny _ _ (field (.ref z) 3 >>= _) _ _ _
  refine wpAny_bind (wpAny_field z0 rfl (x := .ref p) rfl (wpAny_bind (wpAny_seqItems T.p0 rfl ?_)))
  show wpAny _ _ (Builtin.SmallTypes.ownedTupleIsFree (.ref z) >>= _) _ _ _
  refine wpAny_bind ?_
  unfold Builtin.SmallTypes.ownedTupleIsFree
  refine wpAny_bind (wpAny_field z0 rfl (x := .none) rfl (wpAny_pure ?_))
  simp only [if_true]
  refine wpAny_bind (wpAny_rule (wpAny_bind (wpAny_field z0 rfl (x := .ref q) rfl ?_)))
  refine wpAny_bind (wpAny_setField_rec z0 (by simp) fun g1 (z1 : IsZip g1 z p q .ellipsis) (m1 : Heap.SameBut z s.heap g1) => wpAny_bind ?_)
  simp only [List.zipIdx_cons, List.zipIdx_nil, List.forIn_cons, List.forIn_nil]
  refine wpAny_bind (wpAny_bind (wpAny_onRaise ?_))
  show wpAny _ _ (Builtin.SmallTypes.nextOf (.ref i1) >>= _) _ _ _
  refine wpAny_bind (nextT_item (T.a0.at fun o e => m1.extBut _ _ D.i1z e) (e1.extBut m1.extBut D.l1z) hx fun g2 a2 (m2 : Heap.SameBut i1 g1 g2) => wpAny_pure ?_)
  have q2 : IsPair g2 q u v := m2.extBut _ _ D.TOi1 (m1.extBut _ _ D.TOz T.q0)
  refine wpAny_bind (wpAny_seqItems q2 rfl (wpAny_bind (wpAny_updateSeq_pair q2 fun g3 (q3 : IsPair g3 q x v) (m3 : Heap.SameBut q g2 g3) => wpAny_bind (wpAny_letGo (wpAny_pure ?_)))))
  refine wpAny_bind (wpAny_bind (wpAny_onRaise ?_))
  show wpAny _ _ (Builtin.SmallTypes.nextOf (.ref i2) >>= _) _ _ _
  refine wpAny_bind (nextT_item (T.b0.at fun o e => m3.extBut _ _ D.TOi2.symm (m2.extBut _ _ D.i12.symm (m1.extBut _ _ D.i2z e)))
    (((e2.extBut m1.extBut D.l2z).extBut m2.extBut D.l2i1).extBut m3.extBut D.l2TO) hy fun g4 b4 (m4 : Heap.SameBut i2 g3 g4) => wpAny_pure ?_)
  have q4 : IsPair g4 q x v := m4.extBut _ _ D.TOi2 q3
  refine wpAny_bind (wpAny_seqItems q4 rfl (wpAny_bind (wpAny_updateSeq_pair q4 fun g5 (q5 : IsPair g5 q x y) (m5 : Heap.SameBut q g4 g5) => wpAny_bind (wpAny_letGo (wpAny_pure (wpAny_pure ?_))))))
  refine wpAny_bind (wpAny_seqItems q5 rfl (wpAny_bind (wpAny_newTuple ?_)))
  have sz : g5.objs.size = s.heap.objs.size := by rw [m5.1, m4.1, m3.1, m2.1, m1.1]
  have z5 : IsZip g5 z p q .ellipsis := m5.extBut _ _ D.TOz.symm (m4.extBut _ _ D.i2z.symm (m3.extBut _ _ D.TOz.symm (m2.extBut _ _ D.i1z.symm z1)))
  have k5 : ∀ c o, c ≠ z → c ≠ q → c ≠ i1 → c ≠ i2 → s.heap.get? c = some o → g5.get? c = some o := fun c o c1 c2 c3 c4 e =>
    m5.extBut _ _ c2 (m4.extBut _ _ c4 (m3.extBut _ _ c2 (m2.extBut _ _ c3 (m1.extBut _ _ c1 e))))
  have a5 : g5.IsTupleIter i1 l1 (k + 1) := a2.at fun o e => m5.extBut _ _ D.TOi1.symm (m4.extBut _ _ D.i12 (m3.extBut _ _ D.TOi1.symm e))
  have b5 : g5.IsTupleIter i2 l2 (k + 1) := b4.at fun o e => m5.extBut _ _ D.TOi2.symm e
  have lz : z < g5.objs.size := Heap.lt_size z5
  show wpAny _ _ (Builtin.SmallTypes.ownedTupleHandOut (.ref z) (.ref g5.objs.size) >>= _) _ _ _
  refine wpAny_bind ?_
  unfold Builtin.SmallTypes.ownedTupleHandOut
  have z6 : IsZip (g5.push { cls := .type "tuple", data := .seq #[x, y] }) z p q .ellipsis := Heap.get?_push_of_some _ z5
  refine wpAny_bind (wpAny_setField_rec z6 (by simp) fun g7 (z7 : IsZip g7 z p q (rawInt g5.objs.size)) m7 => ?_)
  refine wpAny_setField_rec z7 (by simp) fun g8 (z8 : IsZip g8 z p q (rawInt g5.objs.size)) m8 => ?_
  have up : ∀ c o, c ≠ z → g5.get? c = some o → g8.get? c = some o := fun c o c1 e => m8.extBut _ _ c1 (m7.extBut _ _ c1 (Heap.get?_push_of_some _ e))
  have t8 : IsPair g8 g5.objs.size x y := m8.extBut _ _ (Nat.ne_of_gt lz) (m7.extBut _ _ (Nat.ne_of_gt lz) (Heap.get?_push_size _ rfl))
  rw [sz] at z8 t8
  refine wpAny_pure ⟨_, rfl, ?_⟩
  show Q (.ref g5.objs.size) _
  rw [sz]
  exact hQ g8 ⟨z8, up _ _ D.TIz (k5 _ _ D.TIz D.TITO D.TIi1 D.TIi2 T.p0), up _ _ D.TOz q5, a5.at fun o e => up _ o D.i1z e, b5.at fun o e => up _ o D.i2z e⟩ t8 fun c o c1 c2 c3 c4 e => up c o c1 (k5 c o c1 c2 c3 c4 e)
theorem zipT_end {z p q i1 i2 l1 l2 : Addr} {k : Nat} {xs ys : Array Value} {u v : Value} {Q : Fin → Shared → Prop} (hh : A.handled = none) (D : ZipApart z p q i1 i2 l1 l2)
    (T : Zt s.heap z p q i1 i2 l1 l2 .none u v k k) (e1 : s.heap.IsTuple l1 xs) (e2 : s.heap.IsTuple l2 ys) (en : xs[k]? = none ∨ ys[k]? = none)
    (hE : ∀ h' e, (∀ c o, c ≠ z → c ≠ q → c ≠ i1 → c ≠ i2 → s.heap.get? c = some o → h'.get? c = some o) → (∃ o, h'.get? e = some o ∧ o.cls = .type "StopIteration") → E (.ref e) { s with heap := h' }) :
    wpAny (model prog w) A (Builtin.«zip.__next__» ⟨[.ref z], []⟩) Q E s := by
  have z0 := T.z0
  show wpAny _ _ (field (.ref z) 2 >>= _) _ _ _
  refine wpAny_bind (wpAny_field z0 rfl (x := .bool false) rfl ?_)
  show wpAny _ _ (field (.ref z) 3 >>= _) _ _ _
  refine wpAny_bind (wpAny_field z0 rfl (x := .ref p) rfl (wpAny_bind (wpAny_seqItems T.p0 rfl ?_)))
  show wpAny _ _ (Builtin.SmallTypes.ownedTupleIsFree (.ref z) >>= _) _ _ _
  refine wpAny_bind ?_
  unfold Builtin.SmallTypes.ownedTupleIsFree
  refine wpAny_bind (wpAny_field z0 rfl (x := .none) rfl (wpAny_pure ?_))
  simp only [if_true]
  refine wpAny_bind (wpAny_rule (wpAny_bind (wpAny_field z0 rfl (x := .ref q) rfl ?_)))
  refine wpAny_bind (wpAny_setField_rec z0 (by simp) fun g1 (z1 : IsZip g1 z p q .ellipsis) (m1 : Heap.SameBut z s.heap g1) => wpAny_bind ?_)
  simp only [List.zipIdx_cons, List.zipIdx_nil, List.forIn_cons, List.forIn_nil]
  refine wpAny_bind (wpAny_bind (wpAny_onRaise ?_))
  show wpAny _ _ (Builtin.SmallTypes.nextOf (.ref i1) >>= _) _ _ _
  have a1 : g1.IsTupleIter i1 l1 k := T.a0.at fun o e => m1.extBut _ _ D.i1z e
  cases hx : xs[k]? with
  | none =>
    refine wpAny_bind (nextT_end hh a1 (e1.extBut m1.extBut D.l1z) hx fun g2 e (m2 : Heap.ExtBut i1 g1 g2) ⟨oe, ho, hc⟩ => ?_)
    have z2 : IsZip g2 z p q .ellipsis := m2 _ _ D.i1z.symm z1
    have ne : e ≠ z := fun x => by subst x; rw [z2] at ho; cases ho; simp at hc
    exact wpAny_setField_rec z2 (by simp) fun g3 _ m3 => hE g3 e (fun c o c1 _ c3 _ x => m3.extBut _ _ c1 (m2 _ _ c3 (m1.extBut _ _ c1 x))) ⟨oe, m3.extBut _ _ ne ho, hc⟩
  | some x =>
    have hy : ys[k]? = none := by rcases en with h | h; rw [hx] at h; cases h; exact h
    refine wpAny_bind (nextT_item a1 (e1.extBut m1.extBut D.l1z) hx fun g2 a2 (m2 : Heap.SameBut i1 g1 g2) => wpAny_pure ?_)
    have q2 : IsPair g2 q u v := m2.extBut _ _ D.TOi1 (m1.extBut _ _ D.TOz T.q0)
    refine wpAny_bind (wpAny_seqItems q2 rfl (wpAny_bind (wpAny_updateSeq_pair q2 fun g3 (q3 : IsPair g3 q x v) (m3 : Heap.SameBut q g2 g3) => wpAny_bind (wpAny_letGo (wpAny_pure ?_)))))
    refine wpAny_bind (wpAny_bind (wpAny_onRaise ?_))
    show wpAny _ _ (Builtin.SmallTypes.nextOf (.ref i2) >>= _) _ _ _
    refine wpAny_bind (nextT_end hh (T.b0.at fun o e => m3.extBut _ _ D.TOi2.symm (m2.extBut _ _ D.i12.symm (m1.extBut _ _ D.i2z e)))
      (((e2.extBut m1.extBut D.l2z).extBut m2.extBut D.l2i1).extBut m3.extBut D.l2TO) hy fun g4 e (m4 : Heap.ExtBut i2 g3 g4) ⟨oe, ho, hc⟩ => ?_)
    have z4 : IsZip g4 z p q .ellipsis := m4 _ _ D.i2z.symm (m3.extBut _ _ D.TOz.symm (m2.extBut _ _ D.i1z.symm z1))
    have ne : e ≠ z := fun x => by subst x; rw [z4] at ho; cases ho; simp at hc
    exact wpAny_setField_rec z4 (by simp) fun g5 _ m5 => hE g5 e (fun c o c1 c2 c3 c4 x => m5.extBut _ _ c1 (m4 _ _ c4 (m3.extBut _ _ c2 (m2.extBut _ _ c3 (m1.extBut _ _ c1 x))))) ⟨oe, m5.extBut _ _ ne ho, hc⟩
abbrev zT1 (h : Heap) (l1 : Addr) : Heap := h.push { cls := .type "tuple_iterator", data := .fields #[.ref l1, .int 0 0] }
abbrev zT2 (h : Heap) (l1 l2 : Addr) : Heap := (zT1 h l1).push { cls := .type "tuple_iterator", data := .fields #[.ref l2, .int 0 0] }
abbrev zT3 (h : Heap) (l1 l2 : Addr) : Heap := (zT2 h l1 l2).push { cls := .type "tuple", data := .seq #[.ref h.objs.size, .ref (zT1 h l1).objs.size] }
abbrev zT4 (h : Heap) (l1 l2 : Addr) : Heap := (zT3 h l1 l2).push { cls := .type "tuple", data := .seq #[.none, .none] }
abbrev zT5 (h : Heap) (l1 l2 : Addr) : Heap := (zT4 h l1 l2).push { cls := .type "zip", data := .fields #[.none, .bool false, .bool false, .ref (zT2 h l1 l2).objs.size, .ref (zT3 h l1 l2).objs.size] }
theorem zipT_new (l1 l2 : Addr) (xs ys : Array Value) :
    Meets (Builtin.«zip.__new__» ⟨[.type "zip", .ref l1, .ref l2], []⟩) (fun _ R s => s.heap.IsTuple l1 xs ∧ s.heap.IsTuple l2 ys ∧
      R (.ok (.ret (.ref (zT4 s.heap l1 l2).objs.size))) { s with heap := zT5 s.heap l1 l2 }) :=
  .of_wp fun prog w A R s h => by
    obtain ⟨hp, g, d, tk, os⟩ := s; obtain ⟨e1, e2, h⟩ := h
    have hsub := sub_zip
    have L1 : Heap.IsTuple (Shared.heap ⟨hp, g, d, tk, os⟩) l1 xs := e1
    have L2 : Heap.IsTuple (Shared.heap ⟨hp.push { cls := .type "tuple_iterator", data := .fields #[.ref l1, .int 0 0] }, g, d, tk, os⟩) l2 ys := by
      obtain ⟨o, ho, r⟩ := e2
      exact ⟨o, Heap.get?_push_of_some _ ho, r⟩
    wp_walk using wpAny_pyIter_tuple L1, wpAny_pyIter_tuple L2
    exact ⟨_, rfl, h⟩
theorem zipT_call {l1 l2 : Addr} {xs ys : Array Value} {Q : Value → Shared → Prop} (e1 : s.heap.IsTuple l1 xs) (e2 : s.heap.IsTuple l2 ys)
    (h : ∀ h', Zt h' (s.heap.objs.size + 4) (s.heap.objs.size + 2) (s.heap.objs.size + 3) s.heap.objs.size (s.heap.objs.size + 1) l1 l2 .none .none .none 0 0 →
      (∀ c o, s.heap.get? c = some o → h'.get? c = some o) → Q (.ref (s.heap.objs.size + 4)) { s with heap := h' }) :
    wpAny (model prog w) A (call (.type "zip") [.ref l1, .ref l2]) Q E s := by
  refine callType_new F.called_zip (by decide) (F.typeCall_zip_2 _ _) (F.newCall_zip_2 _ _) (fun obj => F.args_object_init_3 obj _ _) F.entry_zip_new
    (zipT_new l1 l2 xs ys) ⟨e1, e2, ?_⟩
  have y1 : (zT1 s.heap l1).objs.size = s.heap.objs.size + 1 := Heap.size_push ..
  have y2 : (zT2 s.heap l1 l2).objs.size = s.heap.objs.size + 2 := by rw [Heap.size_push, y1]
  have y3 : (zT3 s.heap l1 l2).objs.size = s.heap.objs.size + 3 := by rw [Heap.size_push, y2]
  have y4 : (zT4 s.heap l1 l2).objs.size = s.heap.objs.size + 4 := by rw [Heap.size_push, y3]
  have g5 : (zT5 s.heap l1 l2).get? (zT4 s.heap l1 l2).objs.size = some _ := Heap.get?_push_size _ rfl
  have g4 : (zT5 s.heap l1 l2).get? (zT3 s.heap l1 l2).objs.size = some _ := Heap.get?_push_of_some _ (Heap.get?_push_size _ rfl)
  have g3 : (zT5 s.heap l1 l2).get? (zT2 s.heap l1 l2).objs.size = some _ := Heap.get?_push_of_some _ (Heap.get?_push_of_some _ (Heap.get?_push_size _ rfl))
  have g2 : (zT5 s.heap l1 l2).get? (zT1 s.heap l1).objs.size = some _ := Heap.get?_push_of_some _ (Heap.get?_push_of_some _ (Heap.get?_push_of_some _ (Heap.get?_push_size _ rfl)))
  have g1 : (zT5 s.heap l1 l2).get? s.heap.objs.size = some _ := Heap.get?_push_of_some _ (Heap.get?_push_of_some _ (Heap.get?_push_of_some _ (Heap.get?_push_of_some _ (Heap.get?_push_size _ rfl))))
  show _ ∧ _
  rw [y2, y3, y4] at g5
  rw [y1, y2] at g3
  rw [y3] at g4
  rw [y1] at g2
  rw [y4]
  exact ⟨⟨_, g5, rfl⟩, h _ ⟨g5, g3, g4, ⟨_, g1, rfl, rfl⟩, ⟨_, g2, rfl, rfl⟩⟩ fun c o x => Heap.get?_push_of_some _ (Heap.get?_push_of_some _ (Heap.get?_push_of_some _ (Heap.get?_push_of_some _ (Heap.get?_push_of_some _ x))))⟩
end
end PySem
set_option Elab.async false
set_option linter.all false
set_option maxRecDepth 100000
namespace L4
open PySem PySem.Spec PyProof.Rows L2 L3
def Itz (K : Fg) (a b : Addr) : It :=
  ⟨fun i H => ∃ xs x ys y, SqT K H a xs ∧ xs[i]? = some x ∧ SqT K H b ys ∧ ys[i]? = some y,
   fun i H r H' => ∃ p x y, (∀ xs, SqT K H a xs → xs[i]? = some x) ∧ (∀ ys, SqT K H b ys → ys[i]? = some y) ∧ H p = none ∧ r = .ref p ∧ H' = upd H p (.tup [x, y]),
   fun i H => ∃ xs ys, SqT K H a xs ∧ SqT K H b ys ∧ (xs.length ≤ i ∨ ys.length ≤ i)⟩
theorem many_turned {X : Cx} {pins : List (Addr × Obj)} {σ : L2.St} {H : Hp} {s : Shared} {h' : Heap} {t' : Nat} {fp : List Addr} (I : Inv X pins σ H s) (hf : ∀ b ∈ fp, FpOk X pins H b)
    (k : ∀ b o, b ∉ fp → s.heap.get? b = some o → h'.get? b = some o) : Inv X pins σ H { s with heap := h', toks := t' } := by
  have nit : ∀ b u, H b = some u → b ∉ fp := fun b u e z => by rw [(hf b z).1] at e; cases e
  refine I.step (g' := s.gens) (d' := s.drawn) (ch := fp) (fun b hb => ?_) (fun b o _ _ hc e _ => k b o hc e) (fun b o _ _ hc e _ => ⟨o.slots, k b o hc e⟩) (fun _ _ _ _ n => n)
    (fun b o hc e => ⟨o, k b o hc e⟩) (fun _ _ e => e) (fun _ _ _ e => e) (fun b ps e => ⟨#[], by rw [e]; simp⟩) (fun m hm => ?_) (fun b u e => ?_) I.bare
  · obtain ⟨f0, f1, f2, f3, f4, f5⟩ := hf b hb
    exact ⟨f3, f1, f4, f5⟩
  · obtain ⟨o, es, ep, ho, r⟩ := hm
    exact ⟨o, es, ep, k _ o (fun z => (hf _ z).2.1 rfl) ho, r⟩
  · refine (I.hok b u e).stay (fun c v hc q => k c v ?_ q) (fun _ q => q) fun _ _ q => q
    rcases hc with z | z
    · rw [z]; exact nit b u e
    · exact nit c _ z
theorem turn_zip {P : Program} {w : World} {K : Fg} {elts : List Expr} {x1 : Nat} {pos : Pos} (a b z p q i1 i2 : Addr) (D : ZipApart z p q i1 i2 a b) :
    Turn P w K (.Tuple elts x1 pos) (Itz K a b) [z, p, q, i1, i2] z (fun i h => ∃ u v, Zt h z p q i1 i2 a b .none u v i i) where
  mem := by simp
  obj := fun i h ⟨u, v, T⟩ c hc => by
    simp only [List.mem_cons, List.not_mem_nil, or_false] at hc
    rcases hc with rfl | rfl | rfl | rfl | rfl
    · exact ⟨_, T.z0, fun v z => nomatch z⟩
    · exact ⟨_, T.p0, fun v z => nomatch z⟩
    · exact ⟨_, T.q0, fun v z => nomatch z⟩
    · obtain ⟨o, e1, c, d⟩ := T.a0
      exact ⟨o, e1, fun v z => by rw [d] at z; cases z⟩
    · obtain ⟨o, e1, c, d⟩ := T.b0
      exact ⟨o, e1, fun v z => by rw [d] at z; cases z⟩
  keep := fun i h h' ⟨u, v, T⟩ k => ⟨u, v, k z (by simp) _ T.z0, k p (by simp) _ T.p0, k q (by simp) _ T.q0, T.a0.at fun o e => k i1 (by simp) o e, T.b0.at fun o e => k i2 (by simp) o e⟩
  item := by
    intro X hP hw hK hc i pins s σ H E I hf ⟨u, v, T⟩ hg
    subst hP hw hK
    obtain ⟨xs, x, ys, y, hq, hx, hq2, hy⟩ := hg
    obtain ⟨its, rv, pa, hz⟩ := I.tuple hq
    obtain ⟨jts, rv2, pb, hz2⟩ := I.tuple hq2
    obtain ⟨x', hu, ru⟩ := rv.get hx
    obtain ⟨y', hu2, ru2⟩ := rv2.get hy
    have hT : s.TypeIs (.ref z) "zip" := ⟨_, T.z0, rfl⟩
    unfold pyNext
    refine wpAny_bind (wpAny_attempt (wpAny_callSpecial?_slot (name := Str.ofString "__next__") hT F.slot_zip_next
      (wpAny_call_entry F.slot_zip_next hT F.entry_zip_next (zipT_item D T (show s.heap.IsTuple a its.toArray from pa) (show s.heap.IsTuple b jts.toArray from pb) (x := x') (y := y') (by simpa using hu) (by simpa using hu2) fun h1 T1 t1 k1 => wpAny_pure ?_) (F.args_zip_next_1 _))))
    refine ⟨_, rfl, wpAny_letOwnedTupleGo_zip T1.z0 fun h2 z2 (m2 : Heap.SameBut z h1 h2) => ?_⟩
    have fr := I.fresh
    have lt : ∀ {c o}, s.heap.get? c = some o → s.heap.objs.size ≠ c := fun e => Nat.ne_of_gt (Heap.lt_size e)
    have ltz := lt T.z0
    have ltp := lt T.p0
    have ltq := lt T.q0
    have lt1 : s.heap.objs.size ≠ i1 := by obtain ⟨_, e, _⟩ := T.a0; exact lt e
    have lt2 : s.heap.objs.size ≠ i2 := by obtain ⟨_, e, _⟩ := T.b0; exact lt e
    have keep2 : ∀ c o, c ∉ [z, p, q, i1, i2] → s.heap.get? c = some o → h2.get? c = some o := fun c o hc e => by
      simp only [List.mem_cons, List.not_mem_nil, or_false, not_or] at hc
      exact m2.extBut _ _ hc.1 (k1 c o hc.1 hc.2.2.1 hc.2.2.2.1 hc.2.2.2.2 e)
    have tup2 : h2.get? s.heap.objs.size = some { cls := .type "tuple", data := .seq #[x', y'] } := m2.extBut _ _ ltz t1
    have nit : ∀ c o, H c = some o → c ∉ [z, p, q, i1, i2] := fun c o e m => by rw [(hf c m).1] at e; cases e
    have ltb : ∀ c, (∃ o, s.heap.get? c = some o) → c ≠ s.heap.objs.size := fun c ⟨o, e⟩ => (lt e).symm
    have hok : HOk X.prog X.w (upd H s.heap.objs.size (.tup [x, y])) h2 := fun c ob e => by
      by_cases hb : c = s.heap.objs.size
      · subst hb
        rw [upd_same] at e
        cases e
        exact ⟨by show 2 ≤ sizeLine; decide, [x', y'], .cons ru (.cons ru2 .nil), ⟨_, tup2, rfl, _, rfl⟩, ⟨_, tup2, rfl⟩⟩
      · rw [upd_ne hb] at e
        refine (I.hok c ob e).stay (fun c' v' hc' e' => ?_) (fun c' e' => by rw [upd_ne (ne_of_none e' fr)]; exact e') fun c' ys e' => by rw [upd_ne (ne_of_none e' fr)]; exact e'
        rcases hc' with z' | z'
        · rw [z'] at e' ⊢; exact keep2 c v' (nit c ob e) e'
        · exact keep2 c' v' (nit c' _ z') e'
    have I1 : Inv X pins σ (upd H s.heap.objs.size (.tup [x, y])) { s with heap := h2, toks := s.toks } := by
      refine I.step (g' := s.gens) (d' := s.drawn) (t' := s.toks) (h' := h2) (ch := [z, p, q, i1, i2]) (fun c hc => ?_) (fun c o _ _ hch e _ => keep2 c o hch e) (fun c o _ _ hch e _ => ⟨o.slots, keep2 c o hch e⟩)
        (fun c o _ e n => by rw [upd_ne (ltb c ⟨o, e⟩)]; exact n) (fun c o hch e => ⟨o, keep2 c o hch e⟩)
        (fun c ys e => by rw [upd_ne (ne_of_none e fr)]; exact e) (fun c o u' e => by rw [upd_ne (ne_of_none e fr)]; exact e) (fun c ps e => ⟨#[], by rw [upd_ne (ne_of_none e fr), e]; simp⟩) (fun m hm => ?_) hok I.bare
      · obtain ⟨f0, f1, f2, f3, f4, f5⟩ := hf c hc
        exact ⟨f3, f1, f4, f5⟩
      · obtain ⟨o, es, ep, ho', r⟩ := hm
        exact ⟨o, es, ep, keep2 _ o (fun m => (hf _ m).2.1 rfl) ho', r⟩
    refine ⟨.ref s.heap.objs.size, _, I1, rfl, ⟨_, x, y, fun ys' hy' => by rw [I.tuple_inj hy' hq]; exact hx, fun ys' hy' => by rw [I.tuple_inj hy' hq2]; exact hy, fr, rfl, rfl⟩,
      ⟨x', y', z2, m2.extBut _ _ D.TIz T1.p0, m2.extBut _ _ D.TOz T1.q0, T1.a0.at fun o e => m2.extBut _ _ D.i1z e, T1.b0.at fun o e => m2.extBut _ _ D.i2z e⟩, fun c hc => ?_⟩
    have nc : c ≠ s.heap.objs.size := by
      simp only [List.mem_cons, List.not_mem_nil, or_false] at hc
      rcases hc with rfl | rfl | rfl | rfl | rfl
      · exact ltz.symm
      · exact ltp.symm
      · exact ltq.symm
      · exact lt1.symm
      · exact lt2.symm
    rw [upd_ne nc]
    exact (hf c hc).1
  done := by
    intro X hP hw hK hc i pins s σ H E I hf ⟨u, v, T⟩ hg
    subst hP hw hK
    obtain ⟨xs, ys, hq, hq2, hl⟩ := hg
    obtain ⟨its, rv, pa, hz⟩ := I.tuple hq
    obtain ⟨jts, rv2, pb, hz2⟩ := I.tuple hq2
    have l1 := rv.length
    have l2 := rv2.length
    have hT : s.TypeIs (.ref z) "zip" := ⟨_, T.z0, rfl⟩
    unfold pyNext
    refine wpAny_bind (wpAny_attempt (wpAny_callSpecial?_slot (name := Str.ofString "__next__") hT F.slot_zip_next
      (wpAny_call_entry F.slot_zip_next hT F.entry_zip_next (zipT_end (I.ok.hd hc) D T (show s.heap.IsTuple a its.toArray from pa) (show s.heap.IsTuple b jts.toArray from pb)
        (hl.imp (fun h => by simp; omega) (fun h => by simp; omega)) fun h' e k he => ?_) (F.args_zip_next_1 _))))
    obtain ⟨o, ho, hcl⟩ := he
    refine wpAny_bind (wpAny_isInstance (T := "StopIteration") (b := true) ⟨o, ho, hcl⟩ isSubtype_stop ?_)
    exact wpAny_pure ⟨rfl, many_turned (t' := s.toks) I hf fun c o hc e => by
      simp only [List.mem_cons, List.not_mem_nil, or_false, not_or] at hc
      exact k c o hc.1 hc.2.2.1 hc.2.2.2.1 hc.2.2.2.2 e⟩
  self := fun _ _ _ _ _ ⟨u, v, T⟩ h => wpAny_pyIter_zip T.z0 h
def zipD (as bs : List D) : List D := List.zipWith (fun x y => PyData.tuple [x, y]) as bs
theorem walk_zip {K : Fg} {F : Hp} {a b : Addr} {vs ws : List V} {as bs : List D} (h : SqT K F a vs) (r : RepL K F vs as) (h2 : SqT K F b ws) (r2 : RepL K F ws bs) : Walk K (Itz K a b) (zipD as bs) F where
  go := fun i G F2 σ H2 ρ s S hi => by
    simp only [zipD, List.length_zipWith] at hi
    have i1 : i < vs.length := by rw [r.length]; omega
    have i2 : i < ws.length := by rw [r2.length]; omega
    exact ⟨vs, vs[i], ws, ws[i], sqT_mono S.fh (sqT_mono s h), by simp [i1], sqT_mono S.fh (sqT_mono s h2), by simp [i2]⟩
  yld := fun i G F2 σ H2 ρ x H3 d s S hd ⟨p, y, y', hy, hy', hp, hx, hH⟩ => by
    subst hx hH
    unfold zipD at hd
    rw [List.getElem?_zipWith] at hd
    cases e : as[i]? with
    | none => rw [e] at hd; cases hd
    | some d1 =>
      cases e' : bs[i]? with
      | none => rw [e, e'] at hd; cases hd
      | some d2 =>
        rw [e, e'] at hd
        simp at hd
        subst hd
        obtain ⟨v, g1, g2⟩ := r.get e
        obtain ⟨v', g3, g4⟩ := r2.get e'
        have z1 := hy vs (sqT_mono S.fh (sqT_mono s h))
        have z2 := hy' ws (sqT_mono S.fh (sqT_mono s h2))
        rw [g1] at z1
        rw [g3] at z2
        cases z1
        cases z2
        obtain ⟨s2, S2, r2⟩ := S.newTup hp (RepL.cons (g2.mono s) (RepL.cons (g4.mono s) RepL.nil))
        exact ⟨_, s2, S2, r2⟩
  stop := fun G F2 σ H2 ρ s S => ⟨vs, ws, sqT_mono S.fh (sqT_mono s h), sqT_mono S.fh (sqT_mono s h2), by
    rw [r.length, r2.length]; simp only [zipD, List.length_zipWith]; omega⟩
end L4
set_option Elab.async false
set_option linter.all false
set_option maxRecDepth 100000
namespace L4
open PySem PySem.Spec PyProof.Rows L2 L3
def iZip (K : Fg) (tl : TA) : TI := fun σ H R => tl σ H fun xs H1 => ∃ a b, xs = [.ref a, .ref b] ∧ (∃ ys, SqT K H1 a ys) ∧ (∃ ys, SqT K H1 b ys) ∧ R (Itz K a b) H1
theorem pi_zip {X : Cx} {e1 e2 : Expr} {tl : TA} {elts : List Expr} {x1 : Nat} {tp p pos : Pos} (hg : Gl X "zip") (hm : X.mg "zip" = none) (ha : PA X [e1, e2] tl)
    (hs : starEach [e1, e2] X.env = [(false, eval e1 X.env), (false, eval e2 X.env)]) (hs2 : starEach [e2] X.env = [(false, eval e2 X.env)]) :
    PI X (.Tuple elts x1 tp) (.Call (.Name "zip" p) [e1, e2] [] pos) (iZip X.K tl) := by
  intro pins s σ H R I h
  refine Call_ (ld_blt I hg hm (show bootBuiltins "zip" = some (.type "zip") by decide +kernel) (PyProof.Rows.callWith_type1 (thn (ha pos pins s σ H _ I h) fun us s1 ⟨vs, H1, I1, r1, q1⟩ => ?_) (by rw [hs, hs2]) (by rw [hs2]; rfl)) (by decide) (by decide))
  obtain ⟨a, b, rfl, ⟨ys, hq⟩, ⟨zs, hq2⟩, q⟩ := q1
  cases r1 with
  | cons r rr =>
    cases rr with
    | cons r' rr =>
      cases rr
      cases r
      cases r'
      obtain ⟨its, rv, pt, hz⟩ := I1.tuple hq
      obtain ⟨jts, rv2, pt2, hz2⟩ := I1.tuple hq2
      have la : a < s1.heap.objs.size := by obtain ⟨o, e1, _⟩ := pt; exact Heap.lt_size e1
      have lb : b < s1.heap.objs.size := by obtain ⟨o, e1, _⟩ := pt2; exact Heap.lt_size e1
      refine zipT_call (show s1.heap.IsTuple a its.toArray from pt) (show s1.heap.IsTuple b jts.toArray from pt2) fun h' T hk => ?_
      refine wpAny_pyIter_zip (s := { s1 with heap := h' }) T.z0 ?_
      refine ⟨s1.heap.objs.size + 4, [s1.heap.objs.size + 4, s1.heap.objs.size + 2, s1.heap.objs.size + 3, s1.heap.objs.size, s1.heap.objs.size + 1], _, _, H1, rfl, I1.kept (t' := s1.toks) hk, turn_zip a b _ _ _ _ _ (zipApart_new la lb), ⟨_, _, T⟩, fun c hc => ?_, q⟩
      have : s1.heap.objs.size ≤ c := by
        simp only [List.mem_cons, List.not_mem_nil, or_false] at hc
        rcases hc with rfl | rfl | rfl | rfl | rfl <;> simp
      exact I1.fpOk this (I1.hok.fresh this)
def fZip : List D → Option (List D)
  | [.tuple as, .tuple bs] => some (zipD as bs)
  | _ => none
section
variable {X : Cx} {tg e1 e2 : Expr} {ps : (List D → M (List D)) → Pu (List D)} {p pos tp : Pos} {elts : List Expr} {x1 : Nat}
theorem zip_go {F H : Hp} {vs : List V} {ds out : List D} {R : It → Hp → Prop} (s : Same F H) (r : RepL X.K F vs ds) (h : fZip ds = some out) (k : ∀ J, Walk X.K J out F → R J H) :
    ∃ a b, vs = [.ref a, .ref b] ∧ (∃ ys, SqT X.K H a ys) ∧ (∃ ys, SqT X.K H b ys) ∧ R (Itz X.K a b) H := by
  unfold fZip at h
  split at h
  · cases h
    cases r with
    | cons r1 r2 =>
      cases r2 with
      | cons r2 r3 =>
        cases r3
        cases r1 with
        | tup a1 a2 =>
          cases r2 with
          | tup b1 b2 => exact ⟨_, _, rfl, ⟨_, SqT.of (s _ _ a1)⟩, ⟨_, SqT.of (s _ _ b1)⟩, k _ (walk_zip (SqT.of a1) a2 (SqT.of b1) b2)⟩
  · cases h
theorem ai_zip {ps : Pa (List D)} (hg : Gl X "zip") (hm : X.mg "zip" = none) (ha : AA X [e1, e2] ps) (hs : starEach [e1, e2] X.env = [(false, eval e1 X.env), (false, eval e2 X.env)]) (hs2 : starEach [e2] X.env = [(false, eval e2 X.env)]) : AI X (.Tuple elts x1 tp) (.Call (.Name "zip" p) [e1, e2] [] pos) (pCallL fZip ps) :=
  fun G F σ H ρ R S w => semI (pi_zip hg hm pa_sem hs hs2) (ha G F σ H ρ _ _ _ S w fun ds vs F1 H1 s1 S1 _ r1 w1 => by
    obtain ⟨out, hd, k⟩ := w1.opt
    exact zip_go S1.fh r1 hd (k F1 H1 (Same.refl _) S1))
end
end L4
set_option Elab.async false
set_option linter.all false
set_option maxRecDepth 100000
namespace L4
open PySem PySem.Spec PyProof.Rows L2 L3
theorem repL_times {K : Fg} {F : Hp} {vs : List V} {ds : List D} (h : RepL K F vs ds) : ∀ k : Nat, RepL K F (List.replicate k vs).flatten (List.replicate k ds).flatten
  | 0 => .nil
  | k + 1 => by
    rw [List.replicate_succ, List.flatten_cons, List.replicate_succ, List.flatten_cons]
    exact h.append (repL_times h k)
def pRep (qa : Pu (List D)) (pb : Pu D) : Pu (List D) := fun ρ => bd (qa ρ) fun ds => bd (pb ρ) fun y => oM (opMulL (.list ds) y)
section
variable {X : Cx} {a : Expr} {pos pos' : Pos} {qa : Pu (List D)}
theorem al_repV {j : Nat} {x : Str} (ha : AL X a qa) (hN : X.N[j]? = some x) (hv : Vis X.env.scope x) (hd : (x == ("__debug__" : Str)) = false := by decide) (hcd : (x == ("__classdict__" : Str)) = false := by decide) :
    AL X (.BinOp a .Mult (.Name x pos') pos) (pRep qa (pVar j)) := fun G F σ H ρ Q S w =>
  sem (pe_op op_rep pe_sem (pe_var hN hv hd hcd)) (ha G F σ H ρ _ S (w.bind.imp fun ds F1 H1 s1 S1 w1 v fr => by
    obtain ⟨l, rfl, oa, nn⟩ := fr
    obtain ⟨vs, h1, h2⟩ := oa.he
    unfold pVar at w1
    split at w1
    case h_2 => exact w1.elim
    rename_i d q
    have w2 := w1.bind
    obtain ⟨v, e1, r1⟩ := S1.fz j d q
    have w3 := w2 F1 H1 (Same.refl _) S1
    obtain ⟨res, hr, k⟩ := w3.opt
    cases d with
    | int i =>
      unfold opMulL at hr
      dsimp only at hr
      split at hr
      · rename_i hc
        cases hr
        simp only [Bool.and_eq_true, decide_eq_true_eq] at hc
        cases r1
        refine ⟨_, e1, l, i, vs, rfl, rfl, h1, hc.1.1, hc.1.2, by rw [h2.length]; exact hc.2, fun p hp => ?_⟩
        obtain ⟨S2, r2⟩ := S1.newLst hp (repL_times h2 i.toNat)
        exact k F1 _ (Same.refl _) S2 _ r2
      · cases hr
    | _ => cases hr))
end
def mExt (ds es : List D) : Option (List D) := if decide (ds.length + es.length ≤ sizeLine) then some (ds ++ es) else none
section
variable {S : Type} {X : Cx} {e c : Expr} {ml : Ev S (List D)} {pos pos' apos cpos : Pos} {m : SM S}
theorem as_extL {i : Nat} {x : Str} (hN : X.N[i]? = some x) (hv : Vis X.env.scope x) (he : AEl X e ml)
    (hbase : attributeBase (.Name x pos') "extend" X.env (eval (.Name x pos') X.env) = eval (.Name x pos') X.env)
    (hfew : ((backTo cpos (starEach [e] X.env)).all (fun x => !x.1) && (backToKw cpos (keywordEach [] X.env)).all (fun x => x.1.isSome)
      && decide ([e].length + ([] : List Keyword).length + (if ([] : List Keyword).isEmpty then 0 else 1) < 30)) = true)
    (hline : (apos.endLine == cpos.line) = true) (hs : starEach [e] X.env = (false, eval e X.env) :: starEach [] X.env) (hplain : (backTo cpos (starEach [] X.env)).any (·.1) = false)
    (hsw : swapsWith (.Call (.Attribute (.Name x pos') "extend" apos) [e] [] cpos) none pos.line X.env = pure false) (hd : (x == ("__debug__" : Str)) = false := by decide) (hcd : (x == ("__classdict__" : Str)) = false := by decide) :
    AS X (.Expr (.Call (.Attribute (.Name x pos') "extend" apos) [e] [] cpos) pos) (sMut i mExt ml) := fun OK K G F σ H ρ E hO hX St ok eo =>
  semS (ps_expr (pe_bm PySem.F.plainAttrs_list PySem.F.slot_list_extend PySem.F.type_list_extend mt_extend (pe_var hN hv hd hcd) (pa_cons pe_sem pa_nil hs) hbase hfew hline hs hplain) hsw) (by
    unfold sMut at ok
    split at ok
    case h_2 => exact (hO ok).elim
    · rename_i ds0 h0
      obtain ⟨a, vs0, ea, hh, _⟩ := own_ref St h0
      refine ⟨_, ea, .inl ⟨rfl, vs0, .inl (.inl hh)⟩, he OK K.x _ G F σ H ρ _ hO hX St ok fun es v F1 H1 ρ1 s1 S1 fr o1 => ?_⟩
      split at o1
      · rename_i ds hds
        obtain ⟨ds', hf, o2⟩ := opt_ok hO o1
        obtain ⟨a', vs, ea', hh', rv⟩ := own_ref S1 hds
        rw [ea] at ea'
        injection ea' with ea'; injection ea' with ea'; injection ea' with ea'
        subst ea'
        obtain ⟨b, rfl, ob, _⟩ := fr
        obtain ⟨ws, g1, g2⟩ := ob.he
        unfold mExt at hf
        split at hf
        · rename_i hz
          cases hf
          refine ⟨a, b, vs, ws, rfl, rfl, hh', g1, by rw [rv.length, g2.length]; simpa using hz, ?_⟩
          exact eo.nx F1 σ _ _ s1 (own_set S1 hds ea (rv.append g2)) o2
        · cases hf
      · exact (hO o1).elim)
end
end L4
set_option Elab.async false
set_option linter.all false
set_option maxRecDepth 100000
namespace L4
open PySem PySem.Spec PyProof.Rows L2 L3
def isKeyK : D → Bool
  | .int _ => true
  | .str _ => true
  | _ => false
def isKeyT : D → Bool
  | .tuple ds => ds.all isKeyK
  | _ => false
def keyQ1 : D → D → Bool
  | .int i, .int j => decide (i = j)
  | .str i, .str j => decide (i = j)
  | _, _ => false
def keyQs : List D → List D → Bool
  | [], [] => true
  | a :: r, b :: t => keyQ1 a b && keyQs r t
  | _, _ => false
def keyQ : D → D → Bool
  | .tuple a, .tuple b => keyQs a b
  | a, b => keyQ1 a b
def keyOk (es : List (D × D)) (k : D) : Bool := (isKeyT k && es.all fun p => isKeyT p.1) || (isKeyK k && es.all fun p => isKeyK p.1)
def getE (es : List (D × D)) (k : D) : Option D := (es.find? fun p => keyQ p.1 k).map (·.2)
def putE (es : List (D × D)) (k d : D) : List (D × D) := if es.any (fun p => keyQ p.1 k) then es.map (fun p => if keyQ p.1 k then (p.1, d) else p) else es ++ [(k, d)]
theorem keyQ1_eq (a b : Key) : keyQ1 (keyD a) (keyD b) = decide (a = b) := by
  cases a <;> cases b <;> simp [keyQ1, keyD]
theorem keyQs_eq : ∀ (a b : List Key), keyQs (a.map keyD) (b.map keyD) = decide (a = b)
  | [], [] => by simp [keyQs]
  | [], _ :: _ => by simp [keyQs]
  | _ :: _, [] => by simp [keyQs]
  | x :: xs, y :: ys => by
    simp only [List.map_cons, keyQs, keyQ1_eq, keyQs_eq xs ys]
    by_cases h : x = y <;> by_cases g : xs = ys <;> simp [h, g]
theorem keyQ_T (a b : List Key) : keyQ (keyT a) (keyT b) = decide (a = b) := keyQs_eq a b
theorem keyQ_K (a b : Key) : keyQ (keyD a) (keyD b) = decide (a = b) := by
  have h : keyQ (keyD a) (keyD b) = keyQ1 (keyD a) (keyD b) := by cases a <;> cases b <;> rfl
  rw [h]; exact keyQ1_eq a b
theorem isKeyK_of {d : D} (h : isKeyK d = true) : ∃ k, d = keyD k := by
  cases d <;> first | exact ⟨.inl _, rfl⟩ | exact ⟨.inr _, rfl⟩ | cases h
theorem isKeyKs_of : ∀ {ds : List D}, ds.all isKeyK = true → ∃ k : List Key, ds = k.map keyD
  | [], _ => ⟨[], rfl⟩
  | d :: ds, h => by
    rw [List.all_cons, Bool.and_eq_true] at h
    obtain ⟨k, rfl⟩ := isKeyK_of h.1
    obtain ⟨ks, rfl⟩ := isKeyKs_of h.2
    exact ⟨k :: ks, rfl⟩
theorem isKeyT_of {d : D} (h : isKeyT d = true) : ∃ k, d = keyT k := by
  cases d <;> first | cases h | skip
  obtain ⟨k, rfl⟩ := isKeyKs_of h
  exact ⟨k, rfl⟩
theorem isKeyT_D (k : Key) : isKeyT (keyD k) = false := by cases k <;> rfl
theorem isKeyK_T (k : List Key) : isKeyK (keyT k) = false := rfl
section
variable {K : Fg} {F H : Hp} {v : V}
theorem rep_keyD {k : Key} (r : Rep K F v (keyD k)) : v = kV k := by
  cases k with
  | inl i => cases (show Rep K F v (.int i) from r); rfl
  | inr i => cases (show Rep K F v (.str i) from r); rfl
theorem repL_keyD : ∀ {vs : List V} {k : List Key}, RepL K F vs (k.map keyD) → vs = k.map kV
  | _, [], r => by rw [List.map_nil] at r; cases r; rfl
  | _, k :: ks, r => by
    rw [List.map_cons] at r
    cases r with
    | cons a b => rw [rep_keyD a, repL_keyD b]; rfl
theorem rep_keyT {k : List Key} (r : Rep K F v (keyT k)) : ∃ b, v = .ref b ∧ F b = some (.tup (k.map kV)) := by
  unfold keyT at r
  cases r with
  | tup h1 h2 => rw [repL_keyD h2] at h1; exact ⟨_, rfl, h1⟩
def DT (K : Fg) (F H : Hp) (a : Addr) (es : List (D × D)) : Prop := ∃ kvs, H a = some (.dT kvs) ∧ es.map (·.1) = kvs.map (fun p => keyT p.1) ∧ RepL K F (kvs.map (·.2)) (es.map (·.2))
def DK (K : Fg) (F H : Hp) (a : Addr) (es : List (D × D)) : Prop := ∃ kvs, H a = some (.dK kvs) ∧ es.map (·.1) = kvs.map (fun p => keyD p.1) ∧ RepL K F (kvs.map (·.2)) (es.map (·.2))
theorem OR.dict {es : List (D × D)} (s : Same F H) (h : OR K F H v (.dict es)) : ∃ a, v = .ref a ∧ (DT K F H a es ∨ DK K F H a es) := by
  rcases h with h | ⟨a, c, e, e2, h1⟩
  · cases h with
    | dct h1 h2 h3 => exact ⟨_, rfl, .inl ⟨_, s _ _ h1, h2, h3⟩⟩
    | dck h1 h2 h3 => exact ⟨_, rfl, .inr ⟨_, s _ _ h1, h2, h3⟩⟩
  · cases c <;> cases e2
    · exact ⟨a, e, .inl h1⟩
    · exact ⟨a, e, .inr h1⟩
theorem get_rel {κ : Type} [DecidableEq κ] {kd : κ → D} (inj : ∀ a b, keyQ (kd a) (kd b) = decide (a = b)) (k : κ) : ∀ {kvs : List (κ × V)} {es : List (D × D)}, es.map (·.1) = kvs.map (fun p => kd p.1) → RepL K F (kvs.map (·.2)) (es.map (·.2)) →
    (∃ d v, getE es (kd k) = some d ∧ valV kvs k = some v ∧ Rep K F v d) ∨ (getE es (kd k) = none ∧ valV kvs k = none)
  | [], [], _, _ => .inr ⟨rfl, rfl⟩
  | [], _ :: _, e, _ => by simp at e
  | _ :: _, [], e, _ => by simp at e
  | p :: kvs, q :: es, e, r => by
    simp only [List.map_cons, List.cons.injEq] at e
    cases r with
    | cons r1 r2 =>
      unfold getE valV
      rw [List.find?_cons, List.find?_cons, e.1, inj]
      by_cases h : p.1 = k
      · simp only [h, decide_true]
        exact .inl ⟨_, _, rfl, rfl, r1⟩
      · simp only [h, decide_false]
        exact get_rel inj k e.2 r2
theorem put_rel {κ : Type} [DecidableEq κ] {kd : κ → D} (inj : ∀ a b, keyQ (kd a) (kd b) = decide (a = b)) (k : κ) {d : D} (rv : Rep K F v d) : ∀ {kvs : List (κ × V)} {es : List (D × D)}, es.map (·.1) = kvs.map (fun p => kd p.1) → RepL K F (kvs.map (·.2)) (es.map (·.2)) →
    (putE es (kd k) d).map (·.1) = (putK kvs k v).map (fun p => kd p.1) ∧ RepL K F ((putK kvs k v).map (·.2)) ((putE es (kd k) d).map (·.2)) := by
  intro kvs es e r
  have any : ∀ {kvs : List (κ × V)} {es : List (D × D)}, es.map (·.1) = kvs.map (fun p => kd p.1) → (es.any fun p => keyQ p.1 (kd k)) = kvs.any fun p => decide (p.1 = k) := by
    intro kvs
    induction kvs with
    | nil => intro es e; cases es with
      | nil => rfl
      | cons _ _ => simp at e
    | cons p kvs ih => intro es e; cases es with
      | nil => simp at e
      | cons q es =>
        simp only [List.map_cons, List.cons.injEq] at e
        rw [List.any_cons, List.any_cons, ih e.2, e.1, inj]
  have mp : ∀ {kvs : List (κ × V)} {es : List (D × D)}, es.map (·.1) = kvs.map (fun p => kd p.1) → RepL K F (kvs.map (·.2)) (es.map (·.2)) →
      (es.map fun p => if keyQ p.1 (kd k) then (p.1, d) else p).map (·.1) = (kvs.map fun p => if p.1 = k then (p.1, v) else p).map (fun p => kd p.1) ∧
      RepL K F ((kvs.map fun p => if p.1 = k then (p.1, v) else p).map (·.2)) ((es.map fun p => if keyQ p.1 (kd k) then (p.1, d) else p).map (·.2)) := by
    intro kvs
    induction kvs with
    | nil => intro es e r; cases es with
      | nil => exact ⟨rfl, .nil⟩
      | cons _ _ => simp at e
    | cons p kvs ih => intro es e r; cases es with
      | nil => simp at e
      | cons q es =>
        simp only [List.map_cons, List.cons.injEq] at e
        cases r with
        | cons r1 r2 =>
          obtain ⟨i1, i2⟩ := ih e.2 r2
          simp only [List.map_cons, e.1, inj]
          by_cases h : p.1 = k
          · simp only [h, decide_true, if_true, List.cons.injEq]
            exact ⟨⟨trivial, i1⟩, .cons rv i2⟩
          · simp only [h, decide_false, if_false, List.cons.injEq]
            exact ⟨⟨by simpa using e.1, i1⟩, .cons r1 i2⟩
  unfold putE putK
  rw [any e]
  by_cases h : (kvs.any fun p => decide (p.1 = k)) = true
  · rw [if_pos h, if_pos h]; exact mp e r
  · rw [if_neg h, if_neg h]
    refine ⟨by simp [e], ?_⟩
    rw [List.map_append, List.map_append]
    exact r.append (.cons rv .nil)
end
def EmptyD (H : Hp) (a : Addr) : Prop := H a = some (.dT []) ∨ H a = some (.dK [])
theorem empty_both {X : Cx} {pins : List (Addr × Obj)} {σ : L2.St} {H : Hp} {s : Shared} {a : Addr} (I : Inv X pins σ H s) (h : EmptyD H a) :
    s.heap.DictOfH (tupleKind (mixKind X.prog X.w)) a [] ∧ s.heap.DictOf (mixKind X.prog X.w) a [] ∧ (a == sysModules) = false := by
  rcases h with h | h
  · obtain ⟨z, y, xs, kt, o, es, ep, h1, h2, h3, h4, h5, h6⟩ := dt_of I.hok h
    cases kt
    have e0 : es = #[] := by
      have : es.toList = [] := h4
      exact Array.toList_inj.mp this
    subst e0
    exact ⟨⟨o, _, ep, h1, h2, h3, rfl, (fun x hx => by simp at hx), List.nodup_nil⟩, ⟨o, _, ep, h1, h2, h3, fun e he => by simp at he, .nil, List.nodup_nil⟩, y⟩
  · obtain ⟨z, y, vs, kv, o, es, ep, h1, h2, h3, h4, h5, h6⟩ := dk_of I.hok h
    cases kv
    have e0 : es = #[] := by
      have : es.toList = [] := by
        generalize es.toList = l at h5
        cases h5
        rfl
      exact Array.toList_inj.mp this
    subst e0
    exact ⟨⟨o, _, ep, h1, h2, h3, rfl, (fun x hx => by simp at hx), List.nodup_nil⟩, ⟨o, _, ep, h1, h2, h3, fun e he => by simp at he, .nil, List.nodup_nil⟩, y⟩
theorem DT.empty {K : Fg} {F H : Hp} {a : Addr} (h : DT K F H a []) : EmptyD H a := by
  obtain ⟨kvs, h1, h2, _⟩ := h
  cases kvs with
  | nil => exact .inl h1
  | cons _ _ => simp at h2
theorem DK.empty {K : Fg} {F H : Hp} {a : Addr} (h : DK K F H a []) : EmptyD H a := by
  obtain ⟨kvs, h1, h2, _⟩ := h
  cases kvs with
  | nil => exact .inr h1
  | cons _ _ => simp at h2
def KeyV (H : Hp) (y : V) : Prop := (∃ k, y = kV k) ∨ ∃ (b : Addr) (ks : List Key), y = .ref b ∧ H b = some (.tup (ks.map kV))
def DAsk (H : Hp) (a : Addr) (y : V) (o : Option V) : Prop := DGet H a y o ∨ (EmptyD H a ∧ KeyV H y ∧ o = none)
theorem ask_of {K : Fg} {F H : Hp} {a : Addr} {y : V} {es : List (D × D)} {k : D} (s : Same F H) (h : DT K F H a es ∨ DK K F H a es) (r : Rep K F y k) (hk : keyOk es k = true) :
    (∃ d v, getE es k = some d ∧ DAsk H a y (some v) ∧ Rep K F v d) ∨ (getE es k = none ∧ DAsk H a y none) := by
  unfold keyOk at hk
  rw [Bool.or_eq_true, Bool.and_eq_true, Bool.and_eq_true] at hk
  have kT : isKeyT k = true → KeyV H y := fun h => by
    obtain ⟨ks, rfl⟩ := isKeyT_of h
    obtain ⟨b, rfl, hb⟩ := rep_keyT r
    exact .inr ⟨b, ks, rfl, s _ _ hb⟩
  have kK : isKeyK k = true → KeyV H y := fun h => by
    obtain ⟨ks, rfl⟩ := isKeyK_of h
    exact .inl ⟨ks, rep_keyD r⟩
  cases es with
  | nil =>
    refine .inr ⟨rfl, .inr ⟨?_, ?_, rfl⟩⟩
    · rcases h with h | h
      · exact h.empty
      · exact h.empty
    · rcases hk with hk | hk
      · exact kT hk.1
      · exact kK hk.1
  | cons p es =>
    rcases h with ⟨kvs, h1, h2, h3⟩ | ⟨kvs, h1, h2, h3⟩
    · rcases hk with ⟨hk, _⟩ | ⟨_, hk⟩
      · obtain ⟨ks, rfl⟩ := isKeyT_of hk
        obtain ⟨b, rfl, hb⟩ := rep_keyT r
        rcases get_rel keyQ_T ks h2 h3 with ⟨d, v, e1, e2, e3⟩ | ⟨e1, e2⟩
        · exact .inl ⟨d, v, e1, .inl (e2 ▸ DGet.t h1 (s _ _ hb)), e3⟩
        · exact .inr ⟨e1, .inl (e2 ▸ DGet.t h1 (s _ _ hb))⟩
      · exfalso
        cases kvs with
        | nil => simp at h2
        | cons q kvs =>
          simp only [List.map_cons, List.cons.injEq] at h2
          rw [List.all_cons, h2.1, isKeyK_T, Bool.false_and] at hk
          cases hk
    · rcases hk with ⟨_, hk⟩ | ⟨hk, _⟩
      · exfalso
        cases kvs with
        | nil => simp at h2
        | cons q kvs =>
          simp only [List.map_cons, List.cons.injEq] at h2
          rw [List.all_cons, h2.1, isKeyT_D, Bool.false_and] at hk
          cases hk
      · obtain ⟨ks, rfl⟩ := isKeyK_of hk
        obtain rfl := rep_keyD r
        rcases get_rel keyQ_K ks h2 h3 with ⟨d, v, e1, e2, e3⟩ | ⟨e1, e2⟩
        · exact .inl ⟨d, v, e1, .inl (e2 ▸ DGet.k h1), e3⟩
        · exact .inr ⟨e1, .inl (e2 ▸ DGet.k h1)⟩
section
variable {X : Cx} {pins : List (Addr × Obj)} {σ : L2.St} {H : Hp} {s : Shared} {a : Addr} {y d : V} {u r : Value} {o : Option V} {A : Around} {E : Value → Shared → Prop}
theorem a_notIn {Q : Value → Shared → Prop} (hu : A.units + 1 < cLine) (I : Inv X pins σ H s) (g : DAsk H a y o) (ry : RelV y u) (h : ∀ s', Inv X pins σ H s' → Q (.bool (!o.isSome)) s') :
    wpAny (model X.prog X.w) A (compareOp .NotIn u (.ref a)) Q E s := by
  rcases g with g | ⟨e, k, rfl⟩
  · exact d_notIn hu I g ry h
  · obtain ⟨h1, h2, hd⟩ := empty_both I e
    rcases k with ⟨k, rfl⟩ | ⟨b, ks, rfl, hb⟩
    · exact wpAny_notIn_of (kV_is ry) hd h2.mapOf (h _ (I.tok _))
    · cases (show u = Value.ref b from ry)
      exact wpAny_notIn_heap (tupleKind_room_in1 hu) (key_of I.hok hb) hd h1 (h _ (I.tok _))
theorem a_get2 {Q : Value → Shared → Prop} (hu : A.units + 1 < cLine) (I : Inv X pins σ H s) (g : DAsk H a y o) (ry : RelV y u) (rd : RelV d r) (h : ∀ w' s', Inv X pins σ H s' → RelV (o.getD d) w' → Q w' s') :
    wpAny (model X.prog X.w) A (call (.builtin "dict.get") [.ref a, u, r]) Q E s := by
  rcases g with g | ⟨e, k, rfl⟩
  · exact d_get2 hu I g ry rd h
  · obtain ⟨h1, h2, hd⟩ := empty_both I e
    rcases k with ⟨k, rfl⟩ | ⟨b, ks, rfl, hb⟩
    · exact call_meetsIn PySem.F.slot_dict_get h2.typeIs PySem.F.entry_dict_get (PySem.F.args_dict_get_3 _ _ _) (meets_dict_get_default (mixKind X.prog X.w) a (kV_is ry) hd r) ⟨_, h2.mapOf, h _ _ (I.tok _) rd⟩
    · cases (show u = Value.ref b from ry)
      exact call_meetsIn PySem.F.slot_dict_get h1.typeIs PySem.F.entry_dict_get (PySem.F.args_dict_get_3 _ _ _) (meetsH_dict_get_default (tupleKind (mixKind X.prog X.w)) a b hd r) ⟨tupleKind_room_in1 hu, ks, [], key_of I.hok hb, h1, h _ _ (I.tok _) rd⟩
theorem DT.isD {K : Fg} {F : Hp} {es : List (D × D)} (h : DT K F H a es ∨ DK K F H a es) : IsD H a := by
  rcases h with ⟨kvs, h1, _⟩ | ⟨kvs, h1, _⟩
  · exact .inr ⟨_, .inl h1⟩
  · exact .inl ⟨_, .inl h1⟩
end
end L4
set_option Elab.async false
set_option linter.all false
set_option maxRecDepth 100000
namespace L4
open PySem PySem.Spec PyProof.Rows L2 L3
def dGet2 : D → D → D → Option D
  | .dict es, k, z => if keyOk es k then some ((getE es k).getD z) else none
  | _, _, _ => none
def opInA (d c : D) : Option Bool := match c with
  | .dict es => if keyOk es d then some (getE es d).isSome else none
  | _ => opIn d c
def opNotInA (d c : D) : Option Bool := match c with
  | .dict es => if keyOk es d then some (!(getE es d).isSome) else none
  | _ => opNotIn d c
def opIxA (x y : D) : Option D := match x with
  | .dict es => if keyOk es y then getE es y else none
  | _ => opIx x y
def pDGet2 (po pe pf : Pu D) : Pu D := fun ρ => bd (po ρ) fun d => bd (noX (pe ρ)) fun k => bd (noX (pf ρ)) fun z => oM (dGet2 d k z)
theorem W.nx {X : Cx} {G : Gh} {F : Hp} {σ : L2.St} {ρ : En} {α : Type} {m : M α} {C : α → Hp → Hp → Prop} (h : W X G F σ ρ (noX m) C) : W X G F σ ρ m C := by
  cases m with
  | ret a => exact h
  | exc x => exact h.elim
  | bad => exact h.elim
def tAGet2 (td ty tx : TE) : TE := fun σ H Q => td σ H fun x H1 => ∃ a, x = .ref a ∧ IsD H1 a ∧ ty σ H1 fun y H2 => tx σ H2 fun z H3 => ∃ o, DAsk H3 a y o ∧ Q (o.getD z) H3
section
variable {X : Cx} {o e f : Expr} {apos cpos : Pos} {td ty tx : TE}
theorem pe_aget2 (hu : X.A.units + 1 < cLine) (ho : PE X o td) (he : PE X e ty) (hf : PE X f tx) (m : M2 X o "get" apos e f cpos) : PE X (.Call (.Attribute o "get" apos) [e, f] [] cpos) (tAGet2 td ty tx) := by
  intro pins s σ H Q I h
  refine wpAny_Call_method m.base m.few m.line PySem.F.plainAttrs_dict PySem.F.slot_dict_get PySem.F.type_dict_get (thn (ho pins s σ H _ I h) fun u s1 ⟨x, H1, I1, rx, a, ex, d, q1⟩ => ?_)
  subst ex
  obtain rfl : u = Value.ref a := rx
  obtain ⟨t1, t2, _⟩ := isD_at I1 d
  refine ⟨t1, t2, ?_⟩
  rw [m.trees]
  refine Calls.callWith_builtin rfl (Calls.evalArgs_plain (Calls.spliced_cons (thn (he pins s1 σ H1 _ I1 q1) fun iv s2 ⟨y, H2, I2, ry, q2⟩ =>
    Calls.spliced_cons (thn (hf pins s2 σ H2 _ I2 q2) fun fv s3 ⟨z, H3, I3, rz, ov, g, q3⟩ => Calls.spliced_nil ?_))))
  exact a_get2 hu I3 g ry rz fun w' s4 I4 rw' => ⟨_, H3, I4, rw', q3⟩
end
section
variable {X : Cx} {o e f : Expr} {apos cpos pos : Pos} {po pe pf : Pu D}
theorem ap_dget2 (hu : X.A.units + 1100 < cLine) (ho : AO X o po) (he : AP X e pe) (hf : AP X f pf) (m : M2 X o "get" apos e f cpos) : AP X (.Call (.Attribute o "get" apos) [e, f] [] cpos) (pDGet2 po pe pf) :=
  fun G F σ H ρ Q S w => sem (pe_aget2 (by omega) pe_sem pe_sem pe_sem m) (ho G F σ H ρ _ S (w.bind.imp fun d F1 H1 s1 S1 w1 v hv => by
    have hd : ∃ es, d = .dict es := by
      cases hk : pe ρ with
      | ret k => cases hz : pf ρ with
        | ret z =>
          rw [hk] at w1; simp only [noX_ret, bd_ret] at w1; rw [hz] at w1; simp only [noX_ret, bd_ret] at w1
          obtain ⟨res, e, _⟩ := w1.opt
          cases d <;> first | exact ⟨_, rfl⟩ | cases e
        | exc x => rw [hk] at w1; simp only [noX_ret, bd_ret] at w1; rw [hz] at w1; exact w1.elim
        | bad => rw [hk] at w1; simp only [noX_ret, bd_ret] at w1; rw [hz] at w1; exact w1.elim
      | exc x => rw [hk] at w1; exact w1.elim
      | bad => rw [hk] at w1; exact w1.elim
    obtain ⟨es, rfl⟩ := hd
    obtain ⟨a, rfl, hh⟩ := (hv.or S1).dict S1.fh
    refine ⟨a, rfl, DT.isD hh, he G F1 σ H1 ρ _ S1 (w1.bind.nx.imp fun k F2 H2 s2 S2 w2 y hy => hf G F2 σ H2 ρ _ S2 (w2.bind.nx.imp fun z F3 H3 s3 S3 w3 zv hz => ?_))⟩
    obtain ⟨res, e, kk⟩ := w3.opt
    dsimp only [dGet2] at e
    split at e
    case isFalse => cases e
    rename_i hk
    cases e
    obtain ⟨a', ea, hh3⟩ := (((hv.mono s2).mono s3).or S3).dict S3.fh
    cases ea
    rcases ask_of S3.fh hh3 (hy.mono s3) hk with ⟨d, v, e1, g, r⟩ | ⟨e1, g⟩
    · refine ⟨some v, g, ?_⟩
      rw [e1] at kk
      exact kk F3 H3 (Same.refl _) S3 v r
    · refine ⟨none, g, ?_⟩
      rw [e1] at kk
      exact kk F3 H3 (Same.refl _) S3 zv hz))
end
def rDin (neg : Bool) : R2 := fun x y H Q => ∃ a o, y = .ref a ∧ DAsk H a x o ∧ Q (.bl (if neg then !o.isSome else o.isSome)) H
def rNotInA (K : Fg) : R2 := fun x y H Q => rD2 K opNotIn x y H Q ∨ rDin true x y H Q
def rDIx : R2 := fun x y H Q => ∃ a v, x = .ref a ∧ DGet H a y (some v) ∧ Q v H
def rIxA (K : Fg) : R2 := fun x y H Q => rIx K x y H Q ∨ rDIx x y H Q
section
variable {X : Cx}
theorem opr_notInA (hu : X.A.units + 1100 < cLine) : OpR X (compareOp .NotIn) (rNotInA X.K) := OpR.or (opr_notIn hu) (by
  intro pins s σ H x y v u Q I rx ry ⟨a, o, e, g, q⟩
  subst e
  obtain rfl : u = Value.ref a := ry
  exact a_notIn (by omega) I g rx fun s' I' => ⟨.bl _, H, I', rfl, q⟩)
theorem ix_dict (hu : X.A.units + 1100 < cLine) : IxR X rDIx := by
  intro value slice pins s σ H x y v u Q I rx ry ⟨a, w, e, g, q⟩ hs
  subst e
  obtain rfl : v = Value.ref a := rx
  have hT : s.TypeIs (.ref a) "dict" := dict_typeIs I g
  unfold subscriptTail
  refine wpAny_bind ?_
  rw [getitemInPython_of_ne hT.not_modules]
  refine wpAny_bind (wpAny_specialOf hT PySem.F.slot_dict_getitem.lookup ?_)
  have h₂ : wpAny (model X.prog X.w) X.A (getItem (.ref a) u) (EP X pins σ Q) X.xe s := d_getItem (by omega) I g ry fun w' s3 I3 rw' => ⟨w, H, I3, rw', q⟩
  have fin : wpAny (model X.prog X.w) X.A (subscripted slice false (.ref a) u) (fun r s₃ => wpAny (model X.prog X.w) X.A (letTemporaryGo value (.ref a) r >>= fun _ => pure r) (EP X pins σ Q) X.xe s₃) X.xe s := by
    rw [hs]
    exact wpAny_operating (wpAny_mono h₂ (fun r s₃ h₃ => wpAny_bind (wpAny_letTemporaryGo (wpAny_pure h₃))) fun _ _ x => x)
  first
    | exact wpAny_pure (wpAny_bind fin)
    | exact wpAny_bind (wpAny_pure (wpAny_bind fin))
    | exact wpAny_bind fin
theorem ix_any (hu : X.A.units + 1100 < cLine) : IxR X (rIxA X.K) := IxR.or ix_seq (ix_dict hu)
theorem keyOk_rep {K : Fg} {F H : Hp} {y : V} {es : List (D × D)} {k : D} (h : OR K F H y k) (hk : keyOk es k = true) : Rep K F y k := by
  rcases h with h | ⟨a, c, e, e2, h1⟩
  · exact h
  · exfalso
    subst e2
    unfold keyOk at hk
    cases c <;> simp [OC.d, isKeyT, isKeyK] at hk
theorem ok_notInA {K : Fg} : OpB K (rNotInA K) opNotInA := by
  intro G F σ H ρ x y dx dy res Q S ox oy e k
  unfold opNotInA at e
  split at e
  · rename_i es
    split at e
    case isFalse => cases e
    rename_i hk
    cases e
    obtain ⟨a, rfl, hh⟩ := oy.dict S.fh
    rcases ask_of S.fh hh (keyOk_rep ox hk) hk with ⟨d, v, e1, g, r⟩ | ⟨e1, g⟩
    · exact .inr ⟨a, _, rfl, g, by rw [e1] at k; exact k⟩
    · exact .inr ⟨a, _, rfl, g, by rw [e1] at k; exact k⟩
  · exact .inl (ok_D2 G F σ H ρ x y dx dy res Q S ox oy e k)
theorem ok_ixA {K : Fg} : OpD K (rIxA K) opIxA := by
  intro G F σ H ρ x y dx dy res Q S ox oy e k
  unfold opIxA at e
  split at e
  · rename_i es
    split at e
    case isFalse => cases e
    rename_i hk
    obtain ⟨a, rfl, hh⟩ := ox.dict S.fh
    rcases ask_of S.fh hh (keyOk_rep oy hk) hk with ⟨d, v, e1, g, r⟩ | ⟨e1, g⟩
    · rw [e1] at e
      cases e
      rcases g with g | ⟨_, _, z⟩
      · exact .inr ⟨a, v, rfl, g, k v F H (Same.refl _) S r⟩
      · cases z
    · rw [e1] at e; cases e
  · exact .inl (ok_ix G F σ H ρ x y dx dy res Q S ox oy e k)
end
def ownD (ρ : En) (i : Nat) : Option (Bool × List (D × D)) := match ρ[i]? with
  | some (some (.ol (.t es))) => some (true, es)
  | some (some (.ol (.k es))) => some (false, es)
  | _ => none
def ocD (t : Bool) (es : List (D × D)) : OC := if t then .t es else .k es
theorem ownD_own {ρ : En} {i : Nat} {t : Bool} {es : List (D × D)} (h : ownD ρ i = some (t, es)) : ρ[i]? = some (some (.ol (ocD t es))) := by
  unfold ownD at h
  split at h
  · rename_i q; cases h; exact q
  · rename_i q; cases h; exact q
  · cases h
def keyOf (t : Bool) (k : D) : Bool := if t then isKeyT k else isKeyK k
def dPut (t : Bool) (es : List (D × D)) (k d : D) : Option (List (D × D)) := if keyOf t k && decide (es.length < sizeLine) then some (putE es k d) else none
section
variable {S : Type}
def sDNew (t : Bool) (i : Nat) : SM S := fun K ρ => match okSet ρ i with
  | true => K.nx (ρ.set i (some (.ol (ocD t []))))
  | false => .bad
def sDPutE (i : Nat) (mi me : Ev S D) : SM S := fun K ρ => me K.x (fun d ρ1 => match ownD ρ1 i with
  | some _ => mi K.x (fun j ρ2 => match ownD ρ2 i with
    | some (t, es) => (oM (dPut t es j d)).on (fun e => K.x e ρ2) (fun es' => K.nx (ρ2.set i (some (.ol (ocD t es')))))
    | none => .bad) ρ1
  | none => .bad) ρ
variable {X : Cx} {b e : Expr} {mi me : Ev S D} {pos pos' tpos : Pos}
theorem as_dnew (t : Bool) {i : Nat} {x : Str} (hN : X.N.Nodup) (hi : X.N[i]? = some x) (hx : Loc X.env.scope x) (hs : swapsWith (.Dict [] [] tpos) (some (.Name x pos')) pos.line X.env = pure false) (hf : X.fn x = true ∨ X.env.scope.names.lookup x = some .local) :
    AS (S := S) X (.Assign [.Name x pos'] (.Dict [] [] tpos) pos) (sDNew t i) := fun OK K G F σ H ρ E hO hX St ok eo => by
  unfold sDNew at ok
  split at ok
  case h_2 => exact (hO ok).elim
  rename_i ho
  obtain ⟨hl, hop⟩ := okSet_of ho
  cases t with
  | true => exact semS (ps_set hN hi hx pe_dnewT hs hf) fun p hp => eo.nx F _ _ _ (Same.refl _) ((St.lay (o := .dT []) hp).store hop hl (.inr ⟨.t [], rfl, p, rfl, ⟨St.fh.free hp, St.oh.free hp, [], upd_same, rfl, .nil⟩, St.fresh_ne hp⟩)) ok
  | false => exact semS (ps_set hN hi hx pe_dnewK hs hf) fun p hp => eo.nx F _ _ _ (Same.refl _) ((St.lay (o := .dK []) hp).store hop hl (.inr ⟨.k [], rfl, p, rfl, ⟨St.fh.free hp, St.oh.free hp, [], upd_same, rfl, .nil⟩, St.fresh_ne hp⟩)) ok
theorem as_dput (hu : X.A.units + 1100 < cLine) {i : Nat} {x : Str} (hN : X.N[i]? = some x) (hv : Vis X.env.scope x) (hi : AE X b mi) (he : AE X e me)
    (hs : swapsWith e (some (.Subscript (.Name x pos') b tpos)) pos.line X.env = pure false)
    (hd : (x == ("__debug__" : Str)) = false := by decide) (hcd : (x == ("__classdict__" : Str)) = false := by decide) : AS X (.Assign [.Subscript (.Name x pos') b tpos] e pos) (sDPutE i mi me) := fun OK K G F σ H ρ E hO hX St ok eo =>
  semS (ps_dput (by omega) (pe_var hN hv hd hcd) pe_sem pe_sem hs) (he OK K.x _ G F σ H ρ _ hO hX St ok fun d v F1 H1 ρ1 s1 S1 r1 o1 => by
    split at o1
    case h_2 => exact (hO o1).elim
    rename_i te0 hd0
    obtain ⟨t0, es0⟩ := te0
    obtain ⟨a, ea, _⟩ := S1.ow i _ (.inl (ownD_own hd0))
    refine ⟨_, ea, hi OK K.x _ G F1 σ H1 ρ1 _ hO hX S1 o1 fun j u F2 H2 ρ2 s2 S2 r2 o2 => ?_⟩
    split at o2
    case h_2 => exact (hO o2).elim
    rename_i t es hds
    obtain ⟨es', hp, o3⟩ := opt_ok hO o2
    have hown := ownD_own hds
    obtain ⟨a', ea', oa⟩ := S2.ow i _ (.inl hown)
    rw [ea] at ea'
    injection ea' with ea'; injection ea' with ea'; injection ea' with ea'
    subst ea'
    unfold dPut at hp
    split at hp
    case isFalse => cases hp
    rename_i hc
    cases hp
    rw [Bool.and_eq_true, decide_eq_true_eq] at hc
    cases t with
    | true =>
      obtain ⟨ks, rfl⟩ := isKeyT_of hc.1
      obtain ⟨b, rfl, hb⟩ := rep_keyT r2
      obtain ⟨kvs, h1, h2, h3⟩ := (show Held X.K F2 H2 a (.t es) from oa.he)
      obtain ⟨p1, p2⟩ := put_rel keyQ_T ks (r1.mono s2) h2 h3
      have hlen : kvs.length = es.length := by have := congrArg List.length h2; simpa using this.symm
      refine ⟨a, _, rfl, DPut.t h1 (S2.fh _ _ hb) (by omega), eo.nx F2 σ _ _ (s1.trans s2) ?_ o3⟩
      have := S2.change (.inl hown) ea (c' := .t (putE es (keyT ks) d)) (o := .dT (putK kvs ks v)) ⟨_, upd_same, p1, p2⟩
      rw [hown] at this
      exact this
    | false =>
      obtain ⟨ks, rfl⟩ := isKeyK_of hc.1
      obtain rfl := rep_keyD r2
      obtain ⟨kvs, h1, h2, h3⟩ := (show Held X.K F2 H2 a (.k es) from oa.he)
      obtain ⟨p1, p2⟩ := put_rel keyQ_K ks (r1.mono s2) h2 h3
      have hlen : kvs.length = es.length := by have := congrArg List.length h2; simpa using this.symm
      refine ⟨a, _, rfl, DPut.k h1 (by omega), eo.nx F2 σ _ _ (s1.trans s2) ?_ o3⟩
      have := S2.change (.inl hown) ea (c' := .k (putE es (keyD ks) d)) (o := .dK (putK kvs ks v)) ⟨_, upd_same, p1, p2⟩
      rw [hown] at this
      exact this)
end
end L4
set_option Elab.async false
set_option linter.all false
set_option maxRecDepth 100000
namespace HT
open PySem PyProof.Rows
def lexLe : List Int → List Int → Bool
  | [], [] => true
  | [], _ :: _ => true
  | _ :: _, [] => false
  | x :: xs, y :: ys => if x = y then lexLe xs ys else decide (x ≤ y)
theorem lexLe_cons (x y : Int) (xs ys : List Int) : lexLe (x :: xs) (y :: ys) = if x = y then lexLe xs ys else decide (x ≤ y) := rfl
theorem lexLe_nil_nil : lexLe [] [] = true := rfl
theorem lexLe_nil_cons (y : Int) (ys : List Int) : lexLe [] (y :: ys) = true := rfl
theorem lexLe_cons_nil (x : Int) (xs : List Int) : lexLe (x :: xs) [] = false := rfl
theorem rcLe_int (A : Around) (s : Shared) (a : Int) (t : Tok) (c : Int) (u : Tok) (prog : Program) (w : World) (E : Value → Shared → Prop) (Q : Value → Shared → Prop) (h : Q (.bool (decide (a ≤ c))) s) :
    wpAny (model prog w) A (richCompare .LtE (.int a t) (.int c u)) Q E s :=
  (PyProof.Rows.le_int h : wpAny (model prog w) A (compareOp .LtE (.int a t) (.int c u)) Q E s)
section
open PySem.SeqAt
open PySem.AutoSeq1 (wpAny_loadPart')
open PySem.MeetsSeq PySem.MeetsSeq2 PySem.MeetsSeq3
theorem tuple_le_ints (l b : Addr) (items items2 : Array Value) (n n2 : Nat) (dd dd2 : Option Addr) (sl sl2 : Array (Option Value)) (ns ms : List Int) (hi : IntsAre items.toList ns) (hj : IntsAre items2.toList ms) :
    Meets (Builtin.«tuple.__le__» ⟨[.ref l, .ref b], []⟩)
      (fun _ R s => s.heap.get? l = some { cls := .type "tuple", dict := dd, data := .seq items n, slots := sl } ∧ s.heap.get? b = some { cls := .type "tuple", dict := dd2, data := .seq items2 n2, slots := sl2 } ∧
        R (.ok (.ret (.bool (lexLe ns ms)))) s) :=
  .of_wp fun prog w A R s h => by
    obtain ⟨hp, g, d, tk, os⟩ := s; obtain ⟨hl, hb, h⟩ := h
    have f2 := AutoSeq1.sub_tuple_tuple
    have z1 : items.size = ns.length := by rw [← hi.length]; simp
    have z2 : items2.size = ms.length := by rw [← hj.length]; simp
    wp_walk using wpAny_loadPart' hl, wpAny_loadPart' hb, wpAny_forIn_list _ (fun rest b s' => b.1 = none ∧ s' = ⟨hp, g, d, tk, os⟩ ∧ ∃ (vs ws : List Value) (ns' ms' : List Int), rest = vs.zip ws ∧
      IntsAre vs ns' ∧ IntsAre ws ms' ∧ ns'.length + items2.size = ms'.length + items.size ∧ R (.ok (.ret (.bool (lexLe ns' ms')))) ⟨hp, g, d, tk, os⟩) _
    case turn =>
      rintro ⟨y, x⟩ rest b s' ⟨hb', rfl, vs, ws, ns', ms', hz, hvi, hwi, hlen, hR⟩
      cases hvi with
      | nil => rw [List.zip_nil_left] at hz; cases hz
      | cons a t hvi' =>
        cases hwi with
        | nil => rw [List.zip_nil_right] at hz; cases hz
        | cons c u hwi' =>
          rw [List.zip_cons_cons] at hz
          injection hz with hyx hrest
          injection hyx with hy hx
          subst hy hx
          rw [lexLe_cons] at hR
          simp only [List.length_cons] at hlen
          obtain ⟨e, he, hiff⟩ := eqAt_int A.in1 ⟨hp, g, d, tk, os⟩ a t c u
          refine wpAny_bind (he prog w _ _ ?_)
          cases e with
          | true =>
            rw [if_pos (hiff.mp rfl)] at hR
            wp_walk
            exact ⟨rfl, rfl, _, _, _, _, hrest, hvi', hwi', by omega, hR⟩
          | false =>
            rw [if_neg (fun q => absurd (hiff.mpr q) Bool.false_ne_true)] at hR
            have hri := rcLe_int A.in1 ⟨hp, g, d, tk, os⟩ a t c u prog w
            wp_walk using hri
            exact ⟨_, rfl, by simpa using hR⟩
    case fin =>
      rintro ⟨b1, b2⟩ s' ⟨hb', rfl, vs, ws, ns', ms', hz, hvi, hwi, hlen, hR⟩
      simp only at hb'
      subst hb'
      have hv : lexLe ns' ms' = decide (items.size ≤ items2.size) := by
        cases hvi with
        | nil =>
          cases hwi with
          | nil =>
            simp only [List.length_nil] at hlen
            rw [lexLe_nil_nil]
            exact (decide_eq_true (by omega)).symm
          | cons c u hw =>
            simp only [List.length_nil, List.length_cons] at hlen
            rw [lexLe_nil_cons]
            exact (decide_eq_true (by omega)).symm
        | cons a t hv =>
          cases hwi with
          | nil =>
            simp only [List.length_nil, List.length_cons] at hlen
            rw [lexLe_cons_nil]
            exact (decide_eq_false (by omega)).symm
          | cons c u hw =>
            rw [List.zip_cons_cons] at hz
            cases hz
      rw [hv] at hR
      wp_walk
      exact ⟨_, rfl, by simpa [Builtin.Tuple.tupleCompareSizes] using hR⟩
    case h =>
      exact ⟨rfl, rfl, items.toList, items2.toList, ns, ms, rfl, hi, hj, by omega, h⟩
end
section
variable {prog : Program} {w : World} {A : Around} {E : Value → Shared → Prop} {s : Shared}
theorem le_tupInts {l b : Addr} {items items2 : Array Value} {ns ms : List Int} {Q : Value → Shared → Prop} (hl : IsTup s.heap l items) (hb : IsTup s.heap b items2) (hi : IntsAre items.toList ns) (hj : IntsAre items2.toList ms)
    (hu : A.units < cLine) (h : Q (.bool (lexLe ns ms)) s) : wpAny (model prog w) A (compareOp .LtE (.ref l) (.ref b)) Q E s := by
  obtain ⟨⟨cls, dd, data, sl⟩, ho, hc, n, hd⟩ := id hl
  obtain ⟨⟨cls2, dd2, data2, sl2⟩, ho2, hc2, n2, hd2⟩ := id hb
  simp only at hc hd hc2 hd2
  subst hc hd hc2 hd2
  exact richCompare_meets_room (op := .LtE) ⟨_, ho, rfl⟩ ⟨_, ho2, rfl⟩ PySem.F.slot_tuple_le PySem.F.entry_tuple_le (PySem.F.args_tuple_le_2 _ _) (tuple_le_ints l b items items2 n n2 dd dd2 sl sl2 ns ms hi hj)
    ⟨ho, ho2, show Value.bool (lexLe ns ms) ≠ Value.notImplemented ∧ Q (.bool (lexLe ns ms)) s from ⟨(fun x => nomatch x), h⟩⟩ hu
end
end HT
namespace L4
open PySem PySem.Spec PyProof.Rows L2 L3
def rLeT (K : PySem.W.Frag) : R2 := fun x y H Q => ∃ a b ns ms, x = .ref a ∧ y = .ref b ∧ SqT K H a (ns.map V.int) ∧ SqT K H b (ms.map V.int) ∧ Q (.bl (HT.lexLe ns ms)) H
theorem op_leT {X : Cx} (hu : X.A.units < cLine) : OpR X (compareOp .LtE) (rLeT X.K) := by
  intro pins s σ H x y v u Q I rx ry h
  obtain ⟨a, b, ns, ms, rfl, rfl, ha, hb, q⟩ := h
  cases rx
  cases ry
  obtain ⟨its, r1, p1, _⟩ := I.tuple ha
  obtain ⟨its2, r2, p2, _⟩ := I.tuple hb
  have i1 : IntsAre its.toArray.toList ns := intsAre_of r1
  have i2 : IntsAre its2.toArray.toList ms := intsAre_of r2
  exact HT.le_tupInts p1 p2 i1 i2 hu ⟨.bl (HT.lexLe ns ms), H, I, rfl, q⟩
def opLeA (x y : D) : Option Bool := match x, y with
  | .tuple a, .tuple b => match intsOf a, intsOf b with
    | some m, some n => some (HT.lexLe m n)
    | _, _ => none
  | x, y => opLe x y
def opLtA (x y : D) : Option Bool := match x, y with
  | .tuple a, .tuple b => match intsOf a, intsOf b with
    | some m, some n => some (HT.lexLt m n)
    | _, _ => none
  | x, y => opLt x y
def rLeA (K : Fg) : R2 := fun x y H Q => rI0 (fun i j => .bl (decide (i ≤ j))) x y H Q ∨ rLeT K x y H Q
def rLtA (K : Fg) : R2 := fun x y H Q => rI0 (fun i j => .bl (decide (i < j))) x y H Q ∨ rLtT K x y H Q
theorem op_leA {X : Cx} (hu : X.A.units + 1100 < cLine) : OpR X (compareOp .LtE) (rLeA X.K) := OpR.or op_le (op_leT (by omega))
theorem op_ltA {X : Cx} (hu : X.A.units + 1100 < cLine) : OpR X (compareOp .Lt) (rLtA X.K) := OpR.or op_lt (op_ltT (by omega))
theorem ok_leA {K : Fg} : OpB K (rLeA K) opLeA := by
  intro G F σ H ρ x y dx dy res Q S ox oy e k
  unfold opLeA at e
  split at e
  · rename_i a b
    split at e
    · rename_i m n hm hn
      cases e
      obtain ⟨p, vs, rfl, h1, h2⟩ := ox.tuple S.fh
      obtain ⟨q, us, rfl, g1, g2⟩ := oy.tuple S.fh
      rw [intsOf_eq hm] at h2
      rw [intsOf_eq hn] at g2
      rw [repL_ints h2] at h1
      rw [repL_ints g2] at g1
      exact .inr ⟨p, q, m, n, rfl, rfl, h1, g1, k⟩
    · cases e
  · exact .inl (ok_le G F σ H ρ x y dx dy res Q S ox oy e k)
theorem ok_ltA {K : Fg} : OpB K (rLtA K) opLtA := by
  intro G F σ H ρ x y dx dy res Q S ox oy e k
  unfold opLtA at e
  split at e
  · rename_i a b
    split at e
    · rename_i m n hm hn
      cases e
      obtain ⟨p, vs, rfl, h1, h2⟩ := ox.tuple S.fh
      obtain ⟨q, us, rfl, g1, g2⟩ := oy.tuple S.fh
      rw [intsOf_eq hm] at h2
      rw [intsOf_eq hn] at g2
      rw [repL_ints h2] at h1
      rw [repL_ints g2] at g1
      exact .inr ⟨p, q, m, n, rfl, rfl, h1, g1, k⟩
    · cases e
  · exact .inl (ok_lt G F σ H ρ x y dx dy res Q S ox oy e k)
end L4
set_option Elab.async false
set_option linter.all false
set_option maxRecDepth 100000
namespace PySem
open Sem (wp)
open AutoSeq1 (wpAny_loadPart')
section
variable {prog : Program} {w : World} {A : Around} {E : Value → Shared → Prop} {s : Shared}
end
section
variable {prog : Program} {w : World} {A : Around} {E : Value → Shared → Prop} {s : Shared}
end
end PySem
namespace L3
open PySem PySem.Spec PyProof.Rows L2 L4
end L3
namespace L4
open PySem PySem.Spec PyProof.Rows L2 L3
section
variable {X : Cx} {tg e : Expr} {p pos tp : Pos} {elts : List Expr} {x1 : Nat}
end
def Gh.add (G : Gh) (p : Addr) (o : HO) : Gh := { G with O := upd G.O p o }
theorem _root_.L3.StOk.hold {K : Fg} {G : Gh} {F H : Hp} {σ : L2.St} {ρ : En} (S : StOk K G F σ H ρ) {p : Addr} {o : HO} (hp : H p = some o) (fp : F p = none) (ne : ∀ (i : Nat) (e : OC), own ρ i e → σ[i]? ≠ some (some (V.ref p))) : StOk K (Gh.add G p o) F σ H ρ := by
  refine ⟨S.fh, fun b u e => ?_, fun b u e => ?_, S.ln, S.fz, fun i c h => ?_, S.dj, S.pp, S.pq, S.fb⟩
  · by_cases hb : b = p
    · subst hb
      rw [show (Gh.add G b o).O b = some o from upd_same] at e
      cases e; exact hp
    · rw [show (Gh.add G p o).O b = G.O b from upd_ne hb] at e
      exact S.oh b u e
  · by_cases hb : b = p
    · subst hb; exact fp
    · rw [show (Gh.add G p o).O b = G.O b from upd_ne hb] at e
      exact S.fo b u e
  · obtain ⟨a, e, oa⟩ := S.ow i c h
    refine ⟨a, e, oa.nf, ?_, oa.he⟩
    have : a ≠ p := fun z => ne i c h (by rw [e, z])
    exact (show (Gh.add G p o).O a = G.O a from upd_ne this).trans oa.no
theorem _root_.L3.StOk.unhold {K : Fg} {G : Gh} {F H : Hp} {σ : L2.St} {ρ : En} {p : Addr} {o : HO} (hn : G.O p = none) (S : StOk K (Gh.add G p o) F σ H ρ) :
    StOk K G F σ H ρ ∧ H p = some o ∧ F p = none ∧ ∀ (i : Nat) (e : OC), own ρ i e → σ[i]? ≠ some (some (V.ref p)) := by
  have at_p : (Gh.add G p o).O p = some o := upd_same
  have at_b : ∀ b, b ≠ p → (Gh.add G p o).O b = G.O b := fun b hb => upd_ne hb
  have nb : ∀ b u, G.O b = some u → b ≠ p := fun b u e z => by rw [z, hn] at e; cases e
  refine ⟨⟨S.fh, fun b u e => S.oh b u ((at_b b (nb b u e)).trans e), fun b u e => S.fo b u ((at_b b (nb b u e)).trans e), S.ln, S.fz, fun i c h => ?_, S.dj, S.pp, S.pq, S.fb⟩, S.oh p o at_p, S.fo p o at_p, fun i c h e => ?_⟩
  · obtain ⟨a, e, oa⟩ := S.ow i c h
    have : a ≠ p := fun z => by have := oa.no; rw [z, at_p] at this; cases this
    exact ⟨a, e, oa.nf, (at_b a this).symm.trans oa.no, oa.he⟩
  · obtain ⟨a, e', oa⟩ := S.ow i c h
    rw [e] at e'
    injection e' with e'; injection e' with e'; injection e' with e'
    have := oa.no
    rw [← e', at_p] at this
    cases this
theorem W.held {X : Cx} {G : Gh} {F : Hp} {σ : L2.St} {ρ : En} {α : Type} {m : M α} {C : α → Hp → Hp → Prop} {p : Addr} {o : HO} (hn : G.O p = none) (h : W X G F σ ρ m C) :
    W X (Gh.add G p o) F σ ρ m fun a F' H' => C a F' H' := by
  cases m with
  | ret a => exact fun F2 H2 s2 S2 => h F2 H2 s2 (S2.unhold hn).1
  | exc x =>
    have nb : ∀ b u, G.O b = some u → b ≠ p := fun b u e z => by rw [z, hn] at e; cases e
    have at_b : ∀ b u, G.O b = some u → (Gh.add G p o).O b = some u := fun b u e => (show (Gh.add G p o).O b = G.O b from upd_ne (nb b u e)).trans e
    exact fun F' H' s' a C dd pins σ g I xs xr => h F' H' s' a C dd pins σ ⟨g.fh, fun b u e => g.oh b u (at_b b u e), fun b u e => g.fo b u (at_b b u e), g.fb⟩ I xs xr
  | bad => exact h
def pRepL (pa : Pu (List D)) (pb : Pu D) : Pu (List D) := fun ρ => bd (pa ρ) fun ds => bd (pb ρ) fun y => oM (opMulL (.list ds) y)
theorem al_rep {X : Cx} {a b : Expr} {pos : Pos} {pa : Pu (List D)} {pb : Pu D} (ha : AL X a pa) (hb : AO X b pb) : AL X (.BinOp a .Mult b pos) (pRepL pa pb) :=
  fun G F σ H ρ Q S w => sem (pe_op op_rep pe_sem pe_sem) (ha G F σ H ρ _ S (w.bind.imp fun ds F1 H1 s1 S1 w1 v fr => by
    obtain ⟨p, rfl, oa, ne⟩ := fr
    obtain ⟨vs, h1, h2⟩ := oa.he
    have S1' := S1.hold h1 oa.nf ne
    refine hb (Gh.add G p (.lst vs)) F1 σ H1 ρ _ S1' ((W.held oa.no w1.bind).imp fun y F2 H2 s2 S2 w2 u hu => ?_)
    obtain ⟨S2', g1, g2, g3⟩ := S2.unhold oa.no
    obtain ⟨res, e, kk⟩ := w2.opt
    cases y <;> try (cases e)
    rename_i k'
    dsimp only [opMulL] at e
    split at e
    case isFalse => cases e
    rename_i hc
    cases e
    simp only [Bool.and_eq_true, decide_eq_true_eq] at hc
    have hi : u = .int k' := (hu.or S2).int
    subst hi
    refine ⟨p, k', vs, rfl, rfl, g1, hc.1.1, hc.1.2, by rw [h2.length]; exact hc.2, fun q hq => ?_⟩
    obtain ⟨S3, r3⟩ := S2'.newLst hq (RepL.rep (h2.mono s2) k'.toNat)
    exact kk F2 _ (Same.refl _) S3 _ r3))
end L4
set_option Elab.async false
set_option linter.all false
set_option maxRecDepth 100000
namespace L4
open PySem PySem.Spec PyProof.Rows L2 L3
end L4
namespace L4
open PySem PySem.Spec PyProof.Rows L2 L3
theorem get_list {X : Cx} : PGet X gIxL := by
  intro pins s σ H x y v u Q I rx ry h
  obtain ⟨p, xs, i, z, rfl, rfl, hq, he, q⟩ := h
  cases rx
  obtain ⟨t, rfl⟩ := ry
  obtain ⟨its, r, pl, hz⟩ := I.list (SqL.of hq)
  obtain ⟨j, h1, h2, h3, h4, h5⟩ := atI_get he
  obtain ⟨w, ew, rw'⟩ := r.get h2
  have hl := r.length
  have hn := line63
  have fin : EP X pins σ Q w s := ⟨z, H, I, rw', q⟩
  by_cases h0 : 0 ≤ i
  · have hj : i.toNat = j := by
      rw [seqIndex_of h0 h5] at h1
      exact Option.some.inj h1
    exact wpAny_getItem_list pl.isList h0 (by omega) (by rw [hj]; simpa using ew) fin
  · have hj : (i + (its.toArray.size : Int)).toNat = j := by
      rw [seqIndex_neg (by omega) h4] at h1
      rw [List.size_toArray, ← hl]
      exact Option.some.inj h1
    exact wpAny_getItem_list_neg pl.isList (by omega) (by rw [List.size_toArray] <;> omega) (by omega) (by rw [hj]; simpa using ew) fin
section
variable {S : Type} {X : Cx} {b e : Expr} {mj me : Ev S D} {pos pos' tpos : Pos}
theorem as_augS {i : Nat} {x : Str} {op : Operator} {t : TIp} {f : D → D → Option D} (hN : X.N[i]? = some x) (hv : Vis X.env.scope x) (ho : PIp X op t) (hf : ipD f X.K t) (hj : AE X b mj) (he : AE X e me)
    (ha : ∀ ov iv new, augStore b ov iv new = (do holding [new, ov, iv] (setItem ov iv new); release [new, ov, iv] []; pure .next))
    (hd : (x == ("__debug__" : Str)) = false := by decide) (hcd : (x == ("__classdict__" : Str)) = false := by decide) : AS X (.AugAssign (.Subscript (.Name x pos') b tpos) op e pos) (sAugS i f mj me) := fun OK K G F σ H ρ E hO hX St ok eo =>
  semS (ps_augS (pe_var hN hv hd hcd) pe_sem get_list pe_sem ho set_list ha) (by
    unfold sAugS at ok
    split at ok
    case h_2 => exact (hO ok).elim
    rename_i ds0 hd0
    obtain ⟨a, vs0, ea, _, _⟩ := own_ref St hd0
    refine ⟨_, ea, hj OK K.x _ G F σ H ρ _ hO hX St ok fun j u F1 H1 ρ1 s1 S1 r1 o1 => ?_⟩
    split at o1
    case h_2 => exact (hO o1).elim
    rename_i ds hds
    obtain ⟨a', vs, ea', hh, rv⟩ := own_ref S1 hds
    rw [ea] at ea'
    injection ea' with ea'; injection ea' with ea'; injection ea' with ea'
    subst ea'
    obtain ⟨dx, hx, o2⟩ := opt_ok hO o1
    have hint : ∃ k, j = .int k := by
      cases j <;> first | exact ⟨_, rfl⟩ | cases hx
    obtain ⟨k, rfl⟩ := hint
    cases r1
    obtain ⟨v, ev, rvv⟩ := atI_rep rv (show atI ds k = some dx from hx)
    refine ⟨a, vs, k, v, rfl, rfl, hh, ev, ?_⟩
    refine he OK K.x _ G F1 σ H1 ρ1 _ hO hX S1 o2 fun d w F2 H2 ρ2 s2 S2 r2 o3 => ?_
    obtain ⟨r, er, o4⟩ := opt_ok hO o3
    refine hf v w dx d r F2 H2 _ (rvv.mono s2) r2 er fun z rz => ?_
    split at o4
    case h_2 => exact (hO o4).elim
    rename_i ds2 hds2
    obtain ⟨a2, vs2, ea2, hh2, rv2⟩ := own_ref S2 hds2
    rw [ea] at ea2
    injection ea2 with ea2; injection ea2 with ea2; injection ea2 with ea2
    subst ea2
    obtain ⟨ds', hp, o5⟩ := opt_ok hO o4
    unfold putD at hp
    obtain ⟨q, hq, rfl⟩ := Option.map_eq_some_iff.mp hp
    refine ⟨a, vs2, k, q, rfl, rfl, hh2, by rw [rv2.length]; exact hq, ?_⟩
    exact eo.nx F2 σ _ _ (s1.trans s2) (own_set S2 hds2 ea (RepL.set rz q rv2)) o5)
end
end L4
set_option Elab.async false
set_option linter.all false
set_option maxRecDepth 100000
namespace HT
open PySem PySem.Spec PyProof.Rows
section
variable {prog : Program} {w : World} {A : Around} {E : Value → Shared → Prop} {s : Shared} {xs : Array (Int × Tok)} {l : Addr}
end
end HT
namespace L4
open PySem PySem.Spec PyProof.Rows L2 L3
def fSumA : List D → Option D
  | [.tuple ds] => match intsOf ds with
    | some ns => if sumOk ns then some (.int ns.sum) else none
    | none => none
  | l => fSum l
def fMaxA : List D → Option D
  | [.tuple ds] => fMaxT [.tuple ds]
  | l => fMax l
def rMaxA (K : Fg) : List V → Hp → VK → Prop := fun xs H Q => rIntsT K gMax xs H Q ∨ (rInts K gMax xs H Q ∨ ∃ i j, xs = [.int i, .int j] ∧ Q (.int (if j > i then j else i)) H)
theorem call_maxA {X : Cx} (hc : X.calm = true) : CallR X (.builtin "max") (rMaxA X.K) := CallR.or (call_maxT hc) ((call_maxL hc).or (call_max2 hc))
theorem ok_maxA {K : Fg} : CallD K (rMaxA K) fMaxA := by
  intro G F σ H ρ xs ds res Q S o e k
  unfold fMaxA at e
  split at e
  · exact .inl (ok_maxT G F σ H ρ xs _ res Q S o e k)
  · exact .inr (ok_max G F σ H ρ xs ds res Q S o e k)
end L4
set_option Elab.async false
set_option linter.all false
set_option maxRecDepth 100000
namespace L4
open PySem PySem.Spec PyProof.Rows L2 L3 PySem.W
section
variable {prog : Program} {w : World} {A : Around} {E : Value → Shared → Prop} {s : Shared} {K : Frag} {x C : Addr} {ox : Obj} {od : Option Obj} {name : Str} {expr : Bool} {Q : Value → Shared → Prop}
theorem get_exc {v : Value} (X : K.In s.heap) (I : PySem.W.InstAt s.heap x ox C od) (hga : findIn K (.ref C) "__getattribute__" = some (some (.builtin "BaseException.__getattribute__"))) (hgr : findIn K (.ref C) "__getattr__" = some none) (hb : mroIn K C (.type "BaseException") = some true)
    (hf : findObj K C od name = some (.value v)) (hh : handedIn v = true) (h : Q v { s with toks := s.toks + 1 }) : wpAny (model prog w) A (getAttr (.ref x) name expr) Q E s := by
  obtain ⟨hp, g, d, t, os⟩ := s
  have L0 := I.type (M := model prog w)
  have L1 := looks_findIn (M := model prog w) X hga
  have L2 := looks_findIn (M := model prog w) X hgr
  have L3 := looks_find (M := model prog w) X I hf
  have L4 := looks_mroIn (M := model prog w) X hb
  have bnd := F.attr_ValueError.ga.bind (.ref x)
  have ok := F.args_bexc_ga (.ref x) (.str name t)
  have kd : builtinKind "BaseException.__getattribute__" = some .slot := by decide +kernel
  have sp : splitId "BaseException.__getattribute__" = some ("BaseException", "__getattribute__") := by decide +kernel
  unfold getAttr getAttrBy
  refine wpAny_bind (wpAny_mkText (wpAny_holding (wpAny_bind (L0.at (wpAny_bind (L1.at ?_))))))
  show wpAny _ _ (getAttrByItsOwn _ _ _ _ _ _) _ _ _
  unfold getAttrByItsOwn
  repeat (any_goals (first | assumption | with_reducible refine L0.at ?_ | with_reducible refine L2.at ?_ | wp_step))
  rw [if_neg (by cases expr <;> decide)]
  unfold boundAndCalled
  rw [bnd]
  repeat (any_goals (first | assumption | with_reducible refine L0.at ?_ | with_reducible refine L2.at ?_ | wp_step))
  refine codeAny_call_builtin F.attr_ValueError.ga.plain F.entry_bexc_ga ?_
  simp only [checkBuiltinCall, kd, sp]
  refine wpAny_bind ?_
  unfold isInstance
  refine wpAny_bind (L0.at (L4.at ?_))
  repeat (any_goals (first | assumption | with_reducible refine L0.at ?_ | with_reducible refine L3.at ?_ | wp_step))
  show wpAny _ _ (handedOut v) _ _ _
  rw [handedOut_of hh]
  exact wpAny_pure h
end
section
variable {prog : Program} {w : World} {A : Around} {E : Value → Shared → Prop} {s : Shared} {K : Frag} {x C D : Addr} {ox : Obj} {name : Str} {v : Value} {Q : Unit → Shared → Prop}
theorem set_exc1 {cd : ClassData} {bmB : List Value} (X : K.In s.heap) (hx : s.heap.get? x = some ox) (hc : ox.cls = .ref C) (hn : notCls ox = true) (hdn : ox.dict = none) (hs : findIn K (.ref C) "__setattr__" = some (some (.builtin "object.__setattr__")))
    (hcd : clsIn K C = some cd) (hm : cd.mro = .ref C :: .ref D :: [.type "ValueError", .type "Exception", .type "BaseException", .type "object"]) (hd : cd.hasDict = true) (hna : findIn K (.ref C) name = some none)
    (h : ∀ h' dx tk, s.heap.objs.size ≤ dx → h'.Ns1 dx (fun y => if y = name then some v else none) → h'.get? x = some { ox with dict := some dx } → (∀ b o, b ≠ x → s.heap.get? b = some o → h'.get? b = some o) → Q () { s with heap := h', toks := tk }) :
    wpAny (model prog w) A (setAttr (.ref x) name v) Q E s := by
  obtain ⟨hp, g, d, t, os⟩ := s
  obtain ⟨oc, odi, oda, osl⟩ := ox
  dsimp only at hc hdn
  subst hc hdn
  have I : PySem.W.InstAt hp x ⟨.ref C, none, oda, osl⟩ C none := ⟨hx, rfl, hn, trivial⟩
  refine PySem.W.set_plain X I hs ?_
  have SF := F.store_ValueError
  have L0 := I.type (M := model prog w)
  have L1 := looks_findIn (M := model prog w) X hna
  have L4 := looks_mroIn (M := model prog w) (r := true) X (C := C) (base := .type "object") (by unfold mroIn; rw [hcd, Option.bind_some, hm]; rfl)
  have LC := looks_clsIn (M := model prog w) X hcd
  have pass := SF.passes (.ref x)
  have ok := SF.args (.ref x) (.str name t) v
  refine codeAny_call_builtin SF.slot.plain SF.entry ?_
  simp only [checkBuiltinCall, SF.kind, SF.split]
  refine wpAny_bind ?_
  unfold isInstance
  refine wpAny_bind (L0.at (L4.at ?_))
  have LM : Looks (model prog w) hp (mroOf (.ref C)) cd.mro := (looks_clsIn X hcd).andThen .now
  rw [if_neg (by decide)]
  have run : ∀ A', wpAny (model prog w) A' (Builtin.«object.__setattr__» { pos := [Value.ref x, Value.str name t, v] }) (fun fin s' => ∃ f, fin = .done (.ret f) ∧ Q () s') E ⟨hp, g, d, t + 1, os⟩ := by
    intro A'
    unfold Builtin.«object.__setattr__»
    repeat (first | rw [refuse_eq] | with_reducible refine LM.at ?_ | (rw [hm, refuseLoop_ref, refuseLoop_ref, pass]) | with_reducible refine L0.at ?_ | with_reducible refine L1.at ?_ | (with_reducible refine LC.at ?_; rw [hd]) | wp_step)
    have fin : wpAny (model prog w) A' (do
        let d ← alloc { cls := Value.type "dict", data := Data.dict #[] }
        update x fun o => { cls := o.cls, dict := some d, data := o.data, slots := o.slots }
        dictMade (.ref C) x d)
        (fun a s' => wpAny (model prog w) A' (match a with
          | some d => Builtin.ObjectAttr.storeInDict d (Value.str name t) name v
          | none => Builtin.ObjectAttr.noDictFor (Value.ref x) (Value.ref C) name (none : Option Value).isSome) (fun fin s' => ∃ f, fin = Fin.done (Flow.ret f) ∧ Q () s') E s') E ⟨hp, g, d, t + 1, os⟩ := by
      refine wpAny_bind (wpAny_alloc' (wpAny_bind (wpAny_update' (Heap.get?_push_of_some _ hx) (wpAny_pure ?_))))
      have xs : x ≠ hp.objs.size := Nat.ne_of_lt (Heap.lt_size hx)
      show wpAny _ _ (Builtin.ObjectAttr.storeInDict hp.objs.size (.str name t) name v) _ _ _
      have e0 : ((hp.push { cls := .type "dict", data := .dict #[] }).update x fun o => { cls := o.cls, dict := some hp.objs.size, data := o.data, slots := o.slots }).get? hp.objs.size = some { cls := .type "dict", data := .dict #[] } := by
        rw [Heap.get?_update_other _ _ xs]; exact Heap.get?_push_size hp rfl
      have n0 : ((hp.push { cls := .type "dict", data := .dict #[] }).update x fun o => { cls := o.cls, dict := some hp.objs.size, data := o.data, slots := o.slots }).Ns hp.objs.size (fun _ => none) := ⟨_, #[], _, e0, rfl, fun e he => absurd he (by simp), fun _ => rfl⟩
      unfold Builtin.ObjectAttr.storeInDict Builtin.ObjectAttr.newKeyGuard
      refine wpAny_bind (wpAny_pure (wpAny_bind (wpAny_nsSet1 (Heap.Ns1.of_empty n0) fun h' n1 sb => ?_)))
      obtain ⟨oD, esD, epD, q1, q2, q3⟩ := n1.count (PySem.Within.cons name v PySem.Within.nil)
      refine wpAny_bind (wpAny_lookBehind q1 (by rw [q2]; exact pastItsLine_dict (Nat.le_trans q3 (show 1 ≤ sizeLine + 1 from by decide))) (wpAny_pure ⟨_, rfl, ?_⟩))
      refine h h' hp.objs.size _ (Nat.le_refl _) n1 ?_ fun b o nb q => ?_
      · rw [sb.2 x xs]
        refine Heap.get?_update_self _ (Heap.get?_push_of_some _ hx) ?_
        have fr := (Heap.get?_some_iff.mp hx).2
        cases oda <;> first | rfl | exact fr
      · rw [sb.2 b (Nat.ne_of_lt (Heap.lt_size q)), Heap.get?_update_other _ _ (Ne.symm nb)]
        exact Heap.get?_push_of_some _ q
    cases oda <;> first | exact fin | cases hn
  have fin : wpAny (model prog w) A.in1 (Builtin.«object.__setattr__» { pos := [Value.ref x, Value.str name t, v] }) (fun fin s' => match fin with
      | .done f => (match (Except.ok f : Result) with | .ok (.ret v) => Q () s' | .ok a => False | .error e => E e s')
      | .again c' => c'.quiet = true ∧ codeAny (model prog w) A c' (fun r s' => match r with | .ok (.ret v) => Q () s' | .ok a => False | .error e => E e s') s') E ⟨hp, g, d, t + 1, os⟩ :=
    wpAny_mono (run _) (fun f s' z => by obtain ⟨u, rfl, q⟩ := z; exact q) fun _ _ z => z
  cases hsig : Manifest.signature? "object.__setattr__" with
  | none => exact wpAny_pure fin
  | some sig =>
    simp only [argsOk, hsig] at ok
    show wpAny _ _ (Bind.checkArgs "object.__setattr__" sig ⟨[.ref x, .str name t, v], []⟩) _ _ _
    rw [show Bind.checkArgs "object.__setattr__" sig ⟨[.ref x, .str name t, v], []⟩ = pure () from ok]
    exact wpAny_pure fin
end
end L4
set_option Elab.async false
set_option linter.all false
set_option maxRecDepth 100000
namespace L4
open PySem PySem.Spec PyProof.Rows L2 L3 PySem.W
abbrev bmV : List Value := [.type "ValueError", .type "Exception", .type "BaseException", .type "object"]
structure XC (K : Frag) (C D fI : Addr) : Prop where
  obj : ∃ nm q N bs sn sub ab col dd k0 k1 k2 k3 k5, K.lookup C = some (excClassObj nm q C N bs (.ref D :: bmV) true sn sub ab col dd k0 k1 k2 k3 k5 "ValueError.__new__")
  tl : tailIn K bmV (.ref D :: bmV) = true
  ini : findIn K (.ref C) "__init__" = some (some (.ref fI))
  fn : typeIn K (.ref fI) = some (.type "function")
  sa : findIn K (.ref C) "__setattr__" = some (some (.builtin "object.__setattr__"))
  ga : findIn K (.ref C) "__getattribute__" = some (some (.builtin "BaseException.__getattribute__"))
  gr : findIn K (.ref C) "__getattr__" = some none
section
variable {prog : Program} {w : World} {A : Around} {E : Value → Shared → Prop} {K : Frag} {C D fI : Addr} {h : Heap} {g : Array GenState} {d : Drawn} {t : Nat} {os : OsState} {rest : List Value}
abbrev newX (h : Heap) (C : Addr) (rest : List Value) : Heap := (h.push { cls := .type "tuple", data := .seq rest.toArray }).push { cls := .ref C, data := .fields #[.ref h.objs.size, .none, .none, .none, .bool false, .none] }
theorem newX_kept {b : Addr} {o : Obj} (q : h.get? b = some o) : (newX h C rest).get? b = some o := Heap.get?_push_of_some _ (Heap.get?_push_of_some _ q)
theorem newX_at : (newX h C rest).get? (h.objs.size + 1) = some { cls := .ref C, data := .fields #[.ref h.objs.size, .none, .none, .none, .bool false, .none] } := by
  have z := Heap.get?_push_size (h.push { cls := .type "tuple", data := .seq rest.toArray }) (o := { cls := .ref C, data := .fields #[.ref h.objs.size, .none, .none, .none, .bool false, .none] }) rfl
  rwa [Heap.size_push] at z
theorem made_by_init (X : K.In h) (c : XC K C D fI) {Q : Fin → Shared → Prop} (hz : rest.length ≤ sizeLine)
    (hq : wpAny (model prog w) A (call (.ref fI) (.ref (h.objs.size + 1) :: rest)) (fun r s' => r = .none ∧ Q (.done (.ret (.ref (h.objs.size + 1)))) s') E ⟨newX h C rest, g, d, t, os⟩) :
    wpAny (model prog w) A (Builtin.«type.__call__» ⟨.ref C :: rest, []⟩) Q E ⟨h, g, d, t, os⟩ := by
  obtain ⟨nm, q, N, bs, sn, sub, ab, col, dd, k0, k1, k2, k3, k5, lk⟩ := c.obj
  have hC := X _ _ lk
  have T : OwnTail h bmV (.ref D :: bmV) := tail_of_in X c.tl
  have B := F.excBase_ValueError
  repeat (first | with_reducible refine wpAny_loadPart_at hC ?_ | with_reducible refine wpAny_madeBy_exc hC ?_ | wp_step)
  refine codeAny_call_builtin_code (Code.quiet_builtin _ B.quiet) (wpAny_check_new_subT B T hC (codeAny_exc_new_subT B T hC ?_ hz))
  show wpAny _ _ _ _ _ _
  have X1 : K.In (newX h C rest) := X.keeps fun b o z => newX_kept z
  have LI := looks_findIn (M := model prog w) X1 c.ini
  have LB := bind_fn (M := model prog w) X1 (.ref (h.objs.size + 1)) c.fn
  have hC1 := newX_kept (rest := rest) (C := C) hC
  have yes : (Value.ref C :: .ref D :: bmV).contains (.ref C) = true := by simp
  unfold isInstance
  repeat (first | with_reducible refine wpAny_loadPart_at newX_at ?_ | (with_reducible refine wpAny_isSubtype_exc hC1 ?_; rw [yes]) | wp_step)
  show wpAny _ _ (typeLookup (.ref C) _) _ _ _
  refine LI.at ?_
  refine wpAny_holding (wpAny_bind (LB.at ?_))
  refine wpAny_bind (wpAny_mono hq (fun r s' z => ?_) fun _ _ z => z)
  obtain ⟨rfl, z⟩ := z
  wp_walk
  exact z
theorem call_exc (X : K.In h) (c : XC K C D fI) {Q : Value → Shared → Prop} (hz : rest.length ≤ sizeLine)
    (hq : wpAny (model prog w) (A.under (.builtin "type.__call__" ⟨.ref C :: rest, []⟩)) (call (.ref fI) (.ref (h.objs.size + 1) :: rest)) (fun r s' => r = .none ∧ Q (.ref (h.objs.size + 1)) s') E ⟨newX h C rest, g, d, t, os⟩) :
    wpAny (model prog w) A (call (.ref C) rest) Q E ⟨h, g, d, t, os⟩ := by
  obtain ⟨nm, q, N, bs, sn, sub, ab, col, dd, k0, k1, k2, k3, k5, lk⟩ := c.obj
  have hC := X _ _ lk
  have f1 := tc_lookup
  have f2 := tc_bind (.ref C)
  have ty : (⟨h, g, d, t, os⟩ : Shared).TypeIs (.ref C) "type" := ⟨_, hC, rfl⟩
  refine wpAny_call (codeAny_of_tree ?_)
  show wpAny _ _ (callAny (.ref C) _) _ _ _
  repeat (any_goals (first | assumption | with_reducible refine wpAny_loadPart_at hC ?_ | wp_step))
  refine ⟨rfl, codeAny_call_builtin_at (Code.quiet_builtin _ (by decide +kernel)) entry_typeCall (wpAny_check_type_call_sub hC (made_by_init X c hz ?_))⟩
  exact hq
end
end L4
set_option Elab.async false
set_option linter.all false
set_option maxRecDepth 100000
namespace L4
open PySem PySem.Spec PyProof.Rows L2 L3
def XN (e C : Addr) (dd : Option Addr) : Heap → Prop := fun h => ∃ oe vs, h.get? e = some oe ∧ oe.cls = .ref C ∧ oe.dict = dd ∧ oe.data = .fields vs ∧ 1 < vs.size ∧ vs[1]? = some .none
section
variable {P : Program} {w : World} {h h' : Heap} {e C dx : Addr} {dd : Option Addr} {H : Hp} {fs : List (Str × V)}
theorem XN.ok {H' : Hp} (x : XN e C dd h) : ObjOk P w H' h e (.ext (XN e C dd)) := by
  obtain ⟨oe, vs, q, r⟩ := x
  exact ⟨⟨oe, vs, q, r⟩, ⟨oe, q⟩, fun h1 h2 ⟨o, vs, z, r⟩ k => ⟨o, vs, k o z, r⟩⟩
theorem XD.ok {H' : Hp} (x : XD dx fs h) : ObjOk P w H' h dx (.ext (XD dx fs)) := by
  obtain ⟨mA, n, r⟩ := x
  obtain ⟨o, es, ep, q, z⟩ := id n
  exact ⟨⟨mA, n, r⟩, ⟨o, q⟩, fun h1 h2 ⟨m, n, r⟩ k => ⟨m, n.at fun o q => k o q, r⟩⟩
theorem cls_of {K : Fg} {D fI : Addr} (c : XC K C D fI) : ∃ cd, PySem.W.clsIn K C = some cd ∧ cd.mro = .ref C :: .ref D :: bmV ∧ cd.hasDict = true := by
  obtain ⟨nm, q, N, bs, sn, sub, ab, col, dd, k0, k1, k2, k3, k5, lk⟩ := c.obj
  refine ⟨_, by unfold PySem.W.clsIn; rw [lk], rfl, rfl⟩
theorem un_x1 {fr : List Addr} {o1 o2 : HO} (ea : ∃ φ, H e = some (.ext φ)) (hd : h.objs.size ≤ dx) (hn : H dx = none) (heo : ∃ o, h'.get? e = some o) (k : ∀ b o, b ≠ e → h.get? b = some o → h'.get? b = some o) : Un fr [] H (upd (upd H dx o1) e o2) h h' := by
  obtain ⟨φ, ea⟩ := ea
  have nd : ∀ b o, h.get? b = some o → b ≠ dx := fun b o q => Nat.ne_of_lt (Nat.lt_of_lt_of_le (Heap.lt_size q) hd)
  have ne : ∀ b, H b = none → b ≠ e := fun b n z => by subst z; rw [ea] at n; cases n
  have kp : ∀ b u, H b = some u → (∀ φ, u ≠ .ext φ) → (upd (upd H dx o1) e o2) b = some u := fun b u q nu => by
    rw [upd_ne (fun z => by subst z; rw [ea] at q; cases q; exact nu _ rfl), upd_ne (fun z => by subst z; rw [hn] at q; cases q)]
    exact q
  refine ⟨fun b o q n _ _ => k b o (ne b n) q, fun b o q n _ _ => ⟨o.slots, k b o (ne b n) q⟩, fun b o q n _ => ?_, fun b o q _ => ?_, fun b xs q => kp b _ q (fun _ z => by cases z), fun b o u q => kp b _ q (fun _ z => by cases z), fun b ps q => ⟨#[], ?_⟩⟩
  · rw [upd_ne (ne b n), upd_ne (nd b o q)]; exact n
  · by_cases z : b = e
    · subst z; exact heo
    · exact ⟨o, k b o z q⟩
  · rw [kp b _ q (fun _ z => by cases z)]; simp
theorem hok_x1 {o1 o2 : HO} (ok : HOk P w H h) (ea : ∃ φ, H e = some (.ext φ)) (hn : H dx = none) (k : ∀ b o, b ≠ e → h.get? b = some o → h'.get? b = some o)
    (h1 : ObjOk P w (upd (upd H dx o1) e o2) h' dx o1) (h2 : ObjOk P w (upd (upd H dx o1) e o2) h' e o2) : HOk P w (upd (upd H dx o1) e o2) h' := fun a o q => by
  obtain ⟨φ, ea⟩ := ea
  have kp : ∀ b u, H b = some u → (∀ φ, u ≠ .ext φ) → (upd (upd H dx o1) e o2) b = some u := fun b u r nu => by
    rw [upd_ne (fun z => by subst z; rw [ea] at r; cases r; exact nu _ rfl), upd_ne (fun z => by subst z; rw [hn] at r; cases r)]
    exact r
  by_cases z : a = e
  · subst z; rw [upd_same] at q; cases q; exact h2
  · rw [upd_ne z] at q
    by_cases y : a = dx
    · subst y; rw [upd_same] at q; cases q; exact h1
    · rw [upd_ne y] at q
      refine (ok a o q).stay (fun b u hb r => k b u (fun x => ?_) r) (fun b r => kp b _ r (fun _ z => by cases z)) fun b xs r => kp b _ r (fun _ z => by cases z)
      subst x
      rcases hb with rfl | hb
      · exact z rfl
      · rw [ea] at hb; cases hb
end
section
variable {X : Cx} {pins : List (Addr × Obj)} {σ : L2.St} {H : Hp} {s : Shared} {e C D fI dx : Addr} {f : Str} {y : V} {u : Value} {A : Around} {E : Value → Shared → Prop} {fs : List (Str × V)} {Q : Unit → Shared → Prop}
theorem setx1 (I : Inv X pins σ H s) (ea : H e = some (.ext (XN e C none))) (c : XC X.K C D fI) (n : NoAttr X.K C f) (ry : RelV y u)
    (h : ∀ s' dx, H dx = none → dx ≠ e → Inv X pins σ (upd (upd H dx (.ext (XD dx [(f, y)]))) e (.ext (XN e C (some dx)))) s' → Q () s') : wpAny (model X.prog X.w) A (setAttr (.ref e) f u) Q E s := by
  obtain ⟨⟨oe, vs, q, q1, q2, q3, q4, q5⟩, _⟩ := I.hok e _ ea
  obtain ⟨cd, k1, k2, k3⟩ := cls_of c
  refine set_exc1 (bmB := bmV) I.kIn q q1 (by unfold PySem.W.notCls; rw [q3]) q2 c.sa k1 k2 k3 n fun h' dx tk hd ns he kp => ?_
  have hn : H dx = none := I.hok.fresh hd
  have nx : dx ≠ e := fun z => by subst z; rw [ea] at hn; cases hn
  have xn : XN e C (some dx) h' := ⟨_, vs, he, q1, rfl, q3, q4, q5⟩
  have xd : XD dx [(f, y)] h' := by
    refine ⟨_, ns, fun g hg => ?_, fun g => ?_⟩
    · by_cases z : g = f
      · subst z; exact List.mem_singleton.mpr rfl
      · exact absurd (show (if g = f then some u else none) = none from if_neg z) hg
    · by_cases z : g = f
      · subst z
        rw [show List.lookup g [(g, y)] = some y by simp [List.lookup], show (if g = g then some u else none) = some u from if_pos rfl]
        exact ry
      · rw [show List.lookup g [(f, y)] = none by simp [List.lookup, beq_eq_false_iff_ne.mpr z], show (if g = f then some u else none) = none from if_neg z]
        exact True.intro
  exact h _ dx hn nx (I.un (un_x1 ⟨_, ea⟩ hd hn ⟨_, he⟩ kp) (hok_x1 I.hok ⟨_, ea⟩ hn kp xd.ok xn.ok))
end
end L4
set_option Elab.async false
set_option linter.all false
set_option maxRecDepth 100000
namespace L4
open PySem PySem.Spec PyProof.Rows L2 L3
def sX1 (C : Addr) (f : Str) (i : Nat) : TS := fun D σ H => ∃ e y, σ[0]? = some (some (.ref e)) ∧ σ[i]? = some (some y) ∧ H e = some (.ext (XN e C none)) ∧ ∀ dx, H dx = none → dx ≠ e → D.nx σ (upd (upd H dx (.ext (XD dx [(f, y)]))) e (.ext (XN e C (some dx))))
section
variable {X : Cx} {C D fI : Addr} {f : Str} {o value : Expr} {i : Nat} {pos pos' : Pos}
theorem ps_x1 (c : XC X.K C D fI) (n : NoAttr X.K C f) (ha : PE X o (tVar 0)) (hv : PE X value (tVar i)) (hs : swapsWith value (some (.Attribute o f pos')) pos.line X.env = pure false) : PS X (.Assign [.Attribute o f pos'] value pos) (sX1 C f i) := by
  intro pins s σ H Dd I h
  obtain ⟨e, y, h0, hi, he, k⟩ := h
  refine plainObj_wpAny_Assign_Attribute (thn (hv pins s σ H (fun v H' => v = y ∧ H' = H) I ⟨y, hi, rfl, rfl⟩) fun u s1 ⟨y', H1, I1, ry, e1, e2⟩ => thn (ha pins s1 σ H1 (fun v H' => v = .ref e ∧ H' = H) (by rw [e2] at I1 ⊢; exact I1) ⟨_, h0, rfl, e2⟩) fun ov s2 ⟨x, H2, I2, rx, e3, e4⟩ => ?_) hs
  subst e1 e2 e3 e4
  obtain rfl : ov = Value.ref e := rx
  exact setx1 I2 he c n ry fun s3 dx hn ne I3 => ⟨σ, _, I3, k dx hn ne⟩
end
def spI (C : Addr) (fl : List Str) : Sp := fun vs H Q _ => ∃ e args, vs = .ref e :: args ∧ args.length = fl.length ∧ H e = some (.ext (XN e C none)) ∧
  ((fl = [] ∧ Q .non H) ∨ (fl ≠ [] ∧ ∀ dx, H dx = none → dx ≠ e → Q .non (upd (upd H dx (.ext (XD dx (fl.zip args)))) e (.ext (XN e C (some dx))))))
section
variable {P : Program} {w : World} {K : Fg} {mg : Str → Option Value} {base : Heap} {qual : Str} {st : Stmt} {f : Addr} {fd : FuncData} {k : Nat} {C D : Addr} {f1 f2 q1 q2 self : Str} {a1 a2 a3 a4 b1 b2 b3 b4 : Pos}
theorem init1 (Fn : Fun K "__init__" qual st f fd) (Sc : FnScope [self, q1] [self, q1] (defScope st)) (hb : defBody st = [.Assign [.Attribute (.Name self a1) f1 a2] (.Name q1 a3) a4]) (c : XC K C D f) (n : NoAttr K C f1)
    (v0 : Vis (defScope st) self := by first | exact Or.inl rfl | exact Or.inr (Or.inl rfl) | exact Or.inr (Or.inr rfl)) (v1 : Vis (defScope st) q1 := by first | exact Or.inl rfl | exact Or.inr (Or.inl rfl) | exact Or.inr (Or.inr rfl))
    (d0 : (self == ("__debug__" : Str)) = false := by decide) (d1 : (q1 == ("__debug__" : Str)) = false := by decide) (c0 : (self == ("__classdict__" : Str)) = false := by decide) (c1 : (q1 == ("__classdict__" : Str)) = false := by decide) : FnOk P w K mg base (CX1 P w) (k + 1) f fd [self, q1] (spI C [f1]) := by
  refine fn_x Fn Sc (fun vs H Q E h => ?_) (fun cdv A outer s H vs Q E hr h => ?_)
  · obtain ⟨e, args, rfl, hl, _⟩ := h; simp at hl ⊢; exact hl
  · obtain ⟨e, args, rfl, hl, he, h⟩ := h
    match args, hl with
    | [y], _ =>
      rw [hb]
      refine ⟨_, pss_cons (ps_x1 (i := 1) c n (pe_var rfl v0 d0 c0) (pe_var rfl v1 d1 c1) rfl) pss_nil, e, y, rfl, rfl, he, fun dx hn ne => ?_⟩
      rcases h with ⟨h, _⟩ | ⟨_, h⟩
      · cases h
      · exact h dx hn ne
end
end L4
set_option Elab.async false
set_option linter.all false
set_option maxRecDepth 100000
namespace L4
open PySem PySem.Spec PyProof.Rows L2 L3
section
variable {M : Model} {A : Around} {E : Value → Shared → Prop} {s : Shared} {env : Env} {K : Fg} {C D fI : Addr}
theorem raised_made {x : Sem Value} {Q : Flow → Shared → Prop} (c : XC K C D fI) (hh : A.handled = none)
    (h : wpAny M A x (fun v s1 => ∃ e oe vs, v = .ref e ∧ K.In s1.heap ∧ s1.heap.get? e = some oe ∧ oe.cls = .ref C ∧ oe.data = .fields vs ∧ vs[1]? = some .none ∧ E (.ref e) s1) E s) :
    wpAny M A (raiseStmt env (some x) none) Q E s := by
  obtain ⟨nm, q, N, bs, sn, sub, ab, col, dd, k0, k1, k2, k3, k5, lk⟩ := c.obj
  have isB : (Value.ref C :: .ref D :: bmV).contains (.type "BaseException") = true := by rfl
  unfold raiseStmt
  refine wpAny_bind (wpAny_mono h (fun v s1 z => ?_) fun _ _ z => z)
  obtain ⟨e, oe, vs, rfl, X, he, hc, hd, h1, hE⟩ := z
  obtain ⟨hp, g, d, t, os⟩ := s1
  have hC := X _ _ lk
  repeat (first | (with_reducible refine wpAny_loadPart_at he ?_; rw [hc]) | with_reducible refine wpAny_loadPart_at hC ?_ | (with_reducible refine wpAny_isSubtype_exc hC ?_; rw [isB]) | with_reducible refine wpAny_field he hd h1 ?_ | wp_step)
  exact wpAny_raiseNew_none hh hE
end
def MadeX (H H' : Hp) (e C : Addr) (fl : List Str) (vs : List V) (dd : Option Addr) : Prop :=
  (fl = [] ∧ dd = none ∧ H' = upd H e (.ext (XN e C none))) ∨ (fl ≠ [] ∧ ∃ dx, dd = some dx ∧ H dx = none ∧ dx ≠ e ∧ H' = upd (upd (upd H e (.ext (XN e C none))) dx (.ext (XD dx (fl.zip vs)))) e (.ext (XN e C (some dx))))
section
variable {X : Cx} {pins : List (Addr × Obj)} {σ : L2.St} {H : Hp} {s : Shared} {C D fI : Addr} {fd : FuncData} {ps fl : List Str} {k : Nat} {us : List Value} {vs : List V} {Q : Value → Shared → Prop} {E : Value → Shared → Prop}
theorem inv_newX (I : Inv X pins σ H s) : Inv X pins σ (upd H (s.heap.objs.size + 1) (.ext (XN (s.heap.objs.size + 1) C none))) { s with heap := newX s.heap C us } := by
  have I1 := I.kept (h' := s.heap.push { cls := .type "tuple", data := .seq us.toArray }) (t' := s.toks) fun b u q => Heap.get?_push_of_some _ q
  refine I1.laid (a := s.heap.objs.size + 1) (t' := s.toks) (h' := newX s.heap C us) (fun b u q => Heap.get?_push_of_some _ q) (Nat.le_of_eq (Heap.size_push _ _)) ?_
  exact XN.ok ⟨_, _, newX_at, rfl, rfl, rfl, (show 1 < 6 from by decide), rfl⟩
theorem run_makeX (c : XC X.K C D fI) (Fn : FnOk X.prog X.w X.K X.mg X.base (CX1 X.prog X.w) k fI fd ps (spI C fl)) (hr : Room (k + 1) X.A) (hb : L2.Binds X.K fd ps []) (I : Inv X pins σ H s) (r : Vals vs us) (hl : vs.length = fl.length) (hz : us.length ≤ sizeLine)
    (h : ∀ e dd H' s', s.heap.objs.size ≤ e → Inv X pins σ H' s' → MadeX H H' e C fl vs dd → H' e = some (.ext (XN e C dd)) → Q (.ref e) s') : wpAny (model X.prog X.w) X.A (call (.ref C) us) Q E s := by
  have I2 := inv_newX (C := C) (us := us) I
  have hn : H (s.heap.objs.size + 1) = none := I.hok.fresh (Nat.le_succ _)
  obtain ⟨hp, g, d, t, os⟩ := s
  have sp : ∀ E', spI C fl (V.ref (hp.objs.size + 1) :: vs) (upd H (hp.objs.size + 1) (.ext (XN (hp.objs.size + 1) C none))) (fun v H' => v = .non ∧ ∃ dd, MadeX H H' (hp.objs.size + 1) C fl vs dd ∧ H' (hp.objs.size + 1) = some (.ext (XN (hp.objs.size + 1) C dd))) E' := by
    intro E'
    refine ⟨_, vs, rfl, hl, upd_same, ?_⟩
    by_cases z : fl = []
    · exact .inl ⟨z, rfl, none, .inl ⟨z, rfl, rfl⟩, upd_same⟩
    · exact .inr ⟨z, fun dx q ne => ⟨rfl, some dx, .inr ⟨z, dx, rfl, by rw [upd_ne ne] at q; exact q, ne, rfl⟩, upd_same⟩⟩
  have r2 : Vals (V.ref (hp.objs.size + 1) :: vs) (Value.ref (hp.objs.size + 1) :: us) := .cons rfl r
  have hl2 : ((Value.ref (hp.objs.size + 1) :: us) ++ []).length = ps.length := by
    have e := r2.length
    rw [Fn.len _ _ _ _ (sp fun _ _ _ => False)] at e
    rw [List.append_nil]
    exact e.symm
  refine call_exc I.kIn c hz (wpAny_call (codeAny_mono (Fn.run _ X.stack _ _ ⟨Value.ref (hp.objs.size + 1) :: us, []⟩ (Value.ref (hp.objs.size + 1) :: us) _ _ (fun _ _ _ => False) (hr.make C us []) (I2.env0.make C us []) (by
    have := hb _ (Value.ref (hp.objs.size + 1) :: us) I2.kIn hl2
    rw [List.append_nil] at this
    exact this) r2 (sp _)) fun r s' q => ?_))
  cases r with
  | error e => obtain ⟨_, _, _, _, _, _, _, _, _, _, z⟩ := q; exact z.elim
  | ok fl' =>
    cases fl' with
    | ret u =>
      obtain ⟨v, H', I3, rv, ev, dd, mk, he⟩ := I2.after q
      subst ev
      exact ⟨rv, h _ dd H' s' (Nat.le_succ _) I3 mk he⟩
    | next => exact False.elim q
    | brk => exact False.elim q
    | cont => exact False.elim q
end
end L4
set_option Elab.async false
set_option linter.all false
set_option maxRecDepth 100000
namespace L4
open PySem PySem.Spec PyProof.Rows L2 L3
structure CCl (P : Program) (w : World) (K : Fg) (mg : Str → Option Value) (base : Heap) (x : Str) (k : Nat) (fl : List Str) : Prop where
  ex : ∃ C D fI fd ps, XC K C D fI ∧ FnOk P w K mg base (CX1 P w) k fI fd ps (spI C fl) ∧ L2.Binds K fd ps [] ∧ mg x = some (.ref C) ∧ PySem.W.nsIn K mainGlobals x = some (some (.ref C)) ∧ PySem.W.keepIn K (.ref C) = true ∧ (∀ f ∈ fl, NoAttr K C f) ∧ PySem.W.exmOne K (.ref C) (.ref C) = some true
def sRaise {S : Type} (x : Str) (fl : List Str) (ms : Ev S (List D)) : SM S := fun K ρ => ms K.x (fun ds ρ1 => K.x ⟨x, fl.zip ds⟩ ρ1) ρ
theorem zip_rep {K : Fg} {F : Hp} : ∀ {fl : List Str} {vs : List V} {ds : List D}, RepL K F vs ds → fl.length = vs.length → Paired (fun (p : Str × V) (q : Str × D) => p.1 = q.1 ∧ Rep K F p.2 q.2) (fl.zip vs) (fl.zip ds)
  | [], _, _, .nil, _ => .nil
  | f :: fl, _, _, .cons r t, h => .cons ⟨rfl, r⟩ (zip_rep t (by simpa using h))
section
variable {X : Cx} {pins : List (Addr × Obj)} {σ : L2.St} {H H' : Hp} {s : Shared} {e C : Addr} {dd : Option Addr} {fl : List Str} {vs : List V} {ds : List D} {G : Gh} {F : Hp} {ρ : En} {x : Str}
theorem raise_go (I : Inv X pins σ H' s) (hs : X.s₀.heap.objs.size ≤ e) (hn : H e = none) (mk : MadeX H H' e C fl vs dd) (he : H' e = some (.ext (XN e C dd))) (St : StOk X.K G F σ H ρ) (r : RepL X.K F vs ds) (hl : fl.length = vs.length)
    (hc : PySem.W.nsIn X.K mainGlobals x = some (some (.ref C))) (xw : XW X G F ρ ⟨x, fl.zip ds⟩) : X.xe (.ref e) s := by
  obtain ⟨⟨oe, ws, q1, q2, q3, q4, q5, q6⟩, _⟩ := I.hok e _ he
  have I2 : Inv X pins σ (upd H' e (.ext (XO e C dd))) s := by
    have := I.write (x := e) (e := e) (o := .ext (XO e C dd)) (h' := s.heap) (t' := s.toks) (by rw [he]; exact True.intro) (.inl rfl) (fun b u _ z => z) ⟨_, q1⟩ (XO.ok ⟨oe, q1, q2, q3, by unfold PySem.W.notCls; rw [q4]⟩)
    exact this
  have low : ∀ b u, b ≠ e → H b = some u → upd H' e (.ext (XO e C dd)) b = some u := fun b u ne z => by
    rw [upd_ne ne]
    rcases mk with ⟨_, _, rfl⟩ | ⟨_, dx, _, hd, _, rfl⟩
    · rw [upd_ne ne]; exact z
    · rw [upd_ne ne, upd_ne (fun y => by subst y; rw [hd] at z; cases z), upd_ne ne]; exact z
  have ne : ∀ b u, H b = some u → b ≠ e := fun b u z y => by subst y; rw [hn] at z; cases z
  refine xw F _ s e C dd pins σ ⟨fun b u z => ?_, fun b u z => ?_, St.fo, St.fb⟩ I2 ⟨hs, upd_same, oe, ws, q1, q2, q3, q4, q5, .inl q6⟩ ⟨hc, ?_⟩
  · have := St.fh b u z; exact low b u (ne b u this) this
  · have := St.oh b u z; exact low b u (ne b u this) this
  · rcases mk with ⟨z, rfl, _⟩ | ⟨z, dx, rfl, _, nx, rfl⟩
    · subst z; exact .inl ⟨rfl, rfl⟩
    · exact .inr ⟨dx, _, rfl, by rw [upd_ne nx, upd_ne nx, upd_same], zip_rep r hl⟩
end
section
variable {S : Type} {X : Cx} {k : Nat} {x : Str} {fl : List Str} {p cpos pos : Pos} {e : Expr} {es : List Expr} {ms : Ev S (List D)}
theorem as_raise (C : CCl X.prog X.w X.K X.mg X.base x k fl) (hr : Room (k + 1) X.A) (hg : Gl X x) (ha : AEa X (e :: es) ms) (hn : (e :: es).length = fl.length) (hz : fl.length ≤ 1000)
    (hdb : (x == ("__debug__" : Str)) = false) (he : starEach (e :: es) X.env = (false, eval e X.env) :: starEach es X.env) (hpl : (backTo cpos (starEach es X.env)).any (·.1) = false) :
    AS X (.Raise (some (.Call (.Name x p) (e :: es) [] cpos)) none pos) (sRaise x fl ms) := by
  obtain ⟨Cl, D, fI, fd, ps, c, Fn, hb, hm, hc, kp, _⟩ := C.ex
  intro OK K G F σ H ρ E hO hX St ok eo
  unfold tSemS
  intro pins s I
  rw [arm_exec_Raise]
  refine wpAny_bind (wpAny_standAt (raised_made c hr.hd ?_))
  refine wpAny_bind (wpAny_mono (wpAny_Call_Name_kw (ld_glob I hg hm (PySem.W.callWith_K (h₀ := X.base) I.ok.mod.kin kp (Q := fun v s1 => ∃ e oe vs, v = .ref e ∧ X.K.In s1.heap ∧ s1.heap.get? e = some oe ∧ oe.cls = .ref Cl ∧ oe.data = .fields vs ∧ vs[1]? = some .none ∧ X.xe (.ref e) s1) ?_ he hpl) hdb)) (fun v s3 z => wpAny_bind (wpAny_standAt (wpAny_pure z))) fun _ _ z => z)
  have ar : tSemA X (e :: es) σ H fun vs H1 => ∃ F1 ρ1 ds, StOk X.K G F1 σ H1 ρ1 ∧ vs.length = (e :: es).length ∧ RepL X.K F1 vs ds ∧ OK (K.x ⟨x, fl.zip ds⟩ ρ1) :=
    ha OK K.x _ G F σ H ρ _ hO hX St ok fun ds vs F1 H1 ρ1 s1 S1 hl r1 o1 => ⟨F1, ρ1, ds, S1, hl, r1, o1⟩
  unfold tSemA at ar
  refine thn (ar cpos pins s I) fun us s1 ⟨vs, H1, I1, rv, F1, ρ1, ds, S1, hl, r1, o1⟩ => ⟨I1.kIn, ?_⟩
  have hlv : vs.length = fl.length := hl.trans hn
  refine run_makeX (vs := vs) c Fn hr hb I1 rv hlv (by rw [List.nil_append, ← rv.length, hlv]; exact le1000 hz) fun a dd H2 s2 hs I2 mk hh => ?_
  obtain ⟨⟨oe, ws, q1, q2, q3, q4, q5, q6⟩, _⟩ := I2.hok a _ hh
  exact ⟨a, oe, ws, rfl, I2.kIn, q1, q2, q4, q6, raise_go I2 (Nat.le_trans I1.sz hs) (I1.hok.fresh hs) mk hh S1 r1 hlv.symm hc (hX F1 ρ1 _ o1)⟩
end
end L4
set_option Elab.async false
set_option linter.all false
set_option maxRecDepth 100000
namespace L4
open PySem PySem.Spec PyProof.Rows L2 L3
section
variable {prog : Program} {w : World} {A : Around} {E : Value → Shared → Prop} {s : Shared} {env : Env} {K : Fg} {e C : Addr}
theorem handle_as {t : Expr} {n : Str} {b0 : Stmt} {suite : List Stmt} {pos : Pos} {rest : List ExceptHandler} {Q : Flow → Shared → Prop}
    (h : wpAny (model prog w) (A.mark (some (.ref e))) (eval t env) (fun c s1 => K.In s1.heap ∧ PySem.W.exmOne K (.ref C) c = some true ∧ (∃ oe, s1.heap.get? e = some oe ∧ oe.cls = .ref C) ∧
      wpAny (model prog w) (A.mark (some (.ref e))) (setFlight (.ref e) none) (fun _ s2 => wpAny (model prog w) (A.mark (some (.ref e))) (storeName env n (.ref e)) (fun _ s3 =>
        wpAny (model prog w) (A.mark (some (.ref e))) (execs (b0 :: suite) env) (fun f s4 => wpAny (model prog w) A (do bindName env n .none; unbindBehindTheSuite env n pos) (fun _ s5 => Q f s5) E s4) (fun _ _ => False) s3) (fun _ _ => False) s2) (fun _ _ => False) s1) (fun _ _ => False) s) :
    wpAny (model prog w) A (handleBy (.ref e) env (.ExceptHandler (some t) (some n) (b0 :: suite) pos :: rest)) Q E s := by
  refine wpAny_handleBy_cons (codeAny_handlers_test (wpAny_mono h (fun c s1 z => ?_) fun _ _ z => z.elim)) (fun z => nomatch z)
  obtain ⟨X, hx, ⟨oe, he, hc⟩, k⟩ := z
  have LT : PySem.W.Looks (model prog w) s1.heap (typeOf (.ref e)) (.ref C) := hc ▸ (PySem.W.Looks.ld he).andThen .now
  obtain ⟨hp, g, d, tk, os⟩ := s1
  refine (PySem.W.exm_one (M := model prog w) X LT hx).at ?_
  refine codeAny_handlers_suite_as (wpAny_mono k (fun _ s2 k2 => wpAny_mono k2 (fun _ s3 k3 => wpAny_mono k3 (fun f s4 k4 => k4) fun _ _ z => z.elim) fun _ _ z => z.elim) fun _ _ z => z.elim)
theorem name_goes {n : Str} {pos : Pos} {m : Str → Option Value} {Q : Unit → Shared → Prop} (hl : env.kindOf n = some .local) (hn : s.heap.Ns env.locals m) (hk : env.scope.kind = .function)
    (k : ∀ h' v t', h'.Ns env.locals (fun y => if y = n then v else m y) → Heap.SameBut env.locals s.heap h' → Q () { s with heap := h', toks := t' }) : wpAny (model prog w) A (do bindName env n .none; unbindBehindTheSuite env n pos) Q E s := by
  have hc : (env.scope.kind == .class || (env.scope.kind == .module && env.locals != env.globals)) = false := by rw [hk]; rfl
  refine wpAny_bind (wpAny_bindName (wpAny_storeName_local hl hn (fun h1 n1 b1 => ?_) hc))
  simp only [unbindBehindTheSuite, unbindName]
  refine wpAny_onRaise (wpAny_bind (wpAny_point (wpAny_bind ?_)))
  unfold deleteName
  simp only [hl, hc]
  rw [if_neg (by decide)]
  refine wpAny_bind (wpAny_nsDel_keeps n1 fun h2 v n2 b2 => ?_)
  simp only [if_true, Option.isSome_some, Bool.not_true, Bool.false_eq_true, if_false]
  refine wpAny_pure (wpAny_point (k h2 v _ ?_ (b1.trans b2)))
  refine (show (fun y => if y = n then v else if y = n then some Value.none else m y) = (fun y => if y = n then v else m y) from ?_) ▸ n2
  funext y
  by_cases q : y = n
  · rw [if_pos q, if_pos q]
  · rw [if_neg q, if_neg q, if_neg q]
end
section
variable {X : Cx} {pins : List (Addr × Obj)} {σ : L2.St} {H : Hp} {s : Shared} {j : Nat} {n : Str} {A : Around} {E : Value → Shared → Prop}
theorem goes_ok {pos : Pos} {Q : Unit → Shared → Prop} (I : Inv X pins σ H s) (hN : X.N.Nodup) (hj : X.N[j]? = some n) (hl : X.env.kindOf n = some .local)
    (k : ∀ s', Inv X pins (σ.set j none) H s' → Q () s') : wpAny (model X.prog X.w) A (do bindName X.env n .none; unbindBehindTheSuite X.env n pos) Q E s := by
  obtain ⟨m, hn, hv⟩ := id I.loc
  refine name_goes hl hn I.ok.kind fun h' v t' n1 b1 => k _ ?_
  have neL : ∀ b o, X.s₀.heap.get? b = some o → b ≠ X.env.locals := fun b o q => Nat.ne_of_lt (Nat.lt_of_lt_of_le (Heap.lt_size q) I.ok.above)
  refine ⟨I.ok, I.os, I.bare, ⟨fun b o q z hb hx => ?_, fun b o q z hb hx => ?_, I.base.free, fun b o q hx => ?_, I.base.tups, I.base.frzs, I.base.tbls⟩, ⟨_, n1, fun i x u q1 q2 q3 => ?_⟩, fun x c q => ?_, I.free, I.freeC, fun p hp => ?_, fun b o q => ?_, by simpa using I.len⟩
  · exact (b1.2 b (neL b o q)).trans (I.base.keep b o q z hb hx)
  · obtain ⟨sl, r⟩ := I.base.slot b o q z hb hx
    exact ⟨sl, (b1.2 b (neL b o q)).trans r⟩
  · obtain ⟨o', r⟩ := I.base.there b o q hx
    exact ⟨o', (b1.2 b (neL b o q)).trans r⟩
  · have ne : i ≠ j := fun z => by
      subst z
      have hi : i < σ.length := by rw [I.len]; exact (List.getElem?_eq_some_iff.mp q1).1
      rw [List.getElem?_set_self hi] at q2
      cases q2
    rw [List.getElem?_set_ne (Ne.symm ne)] at q2
    obtain ⟨w', r, l⟩ := hv i x u q1 q2 q3
    refine ⟨w', r, ?_⟩
    rcases l with ⟨l1, l2⟩ | ⟨l1, c, l2, l3⟩
    · refine .inl ⟨l1, ?_⟩
      have nx : x ≠ n := fun z => by subst z; exact ne (nodup_ix hN q1 hj)
      show (if x = n then v else m x) = _
      rw [if_neg nx]; exact l2
    · refine .inr ⟨l1, c, l2, ?_⟩
      obtain ⟨oc, g1, g2⟩ := l3
      exact ⟨oc, (b1.2 c (I.cne x c l2)).trans g1, g2⟩
  · obtain ⟨v', oc, g1, g2⟩ := I.cell x c q
    exact ⟨v', oc, (b1.2 c (I.cne x c q)).trans g1, g2⟩
  · obtain ⟨g1, g2, g3, g4⟩ := I.pin p hp
    exact ⟨(b1.2 p.1 g3).trans g1, g2, g3, g4⟩
  · refine (I.hok b o q).stay (fun c u hc r => (b1.2 c ?_).trans r) (fun _ r => r) fun _ _ r => r
    rintro rfl
    rcases hc with z | z
    · rw [← z, I.free] at q; cases q
    · rw [I.free] at z; cases z
abbrev cau (X : Cx) (e : Addr) : Cx := { X with A := X.A.mark (some (.ref e)), calm := false, xe := fun _ _ => False }
theorem caught_in {e : Addr} (I : Inv X pins σ H s) : Inv (cau X e) pins σ H s :=
  ⟨⟨I.ok.mod, I.ok.kind, I.ok.glob, I.ok.blt, I.ok.above, I.ok.inj, I.ok.has, I.ok.cab, (fun z => nomatch z), I.ok.frames, I.ok.stk, I.ok.exf, I.ok.bs, I.ok.bsz, I.ok.noex, I.ok.exfs, I.ok.funs, I.ok.frf⟩, I.os, I.bare, I.base, I.loc, I.cell, I.free, I.freeC, I.pin, I.hok, I.len⟩
theorem caught_out {e : Addr} (h : X.calm = true → X.A.handled = none) (I : Inv (cau X e) pins σ H s) : Inv X pins σ H s :=
  ⟨⟨I.ok.mod, I.ok.kind, I.ok.glob, I.ok.blt, I.ok.above, I.ok.inj, I.ok.has, I.ok.cab, h, I.ok.frames, I.ok.stk, I.ok.exf, I.ok.bs, I.ok.bsz, I.ok.noex, I.ok.exfs, I.ok.funs, I.ok.frf⟩, I.os, I.bare, I.base, I.loc, I.cell, I.free, I.freeC, I.pin, I.hok, I.len⟩
end
def tXat (K : Fg) (ta : TE) (f : Str) : TE := fun σ H Q => ta σ H fun x H1 => ∃ a C D fI dx fv v, x = .ref a ∧ XC K C D fI ∧ NoAttr K C f ∧ H1 a = some (.ext (XO a C (some dx))) ∧ H1 dx = some (.ext (XD dx fv)) ∧ fv.lookup f = some v ∧ Q v H1
theorem pe_xat {X : Cx} {o : Expr} {ta : TE} {f : Str} {pos : Pos} (ha : PE X o ta) (hb : attributeBase o f X.env (eval o X.env) = eval o X.env) : PE X (.Attribute o f pos) (tXat X.K ta f) := by
  intro pins s σ H Q I h
  refine attr_of hb (thn (ha pins s σ H _ I h) fun u s1 ⟨x, H1, I1, rx, a, C, D, fI, dx, fv, v, ex, c, n, h1, h2, l, q⟩ => ?_)
  subst ex
  obtain rfl : u = Value.ref a := rx
  obtain ⟨⟨oe, q1, q2, q3, q4⟩, _⟩ := I1.hok a _ h1
  obtain ⟨⟨mA, na, wi, r⟩, _⟩ := I1.hok dx _ h2
  obtain ⟨cd, k1, k2, k3⟩ := cls_of c
  obtain ⟨od, z1, hlk⟩ := lookIn_ns na
  have It : PySem.W.InstAt s1.heap a oe C (some od) := ⟨q1, q2, q4, by rw [q3]; exact z1⟩
  obtain ⟨u, hu, ru⟩ := RelO.some_of (v := v) (o := mA f) (by rw [← l]; exact r f)
  have lk : PySem.W.lookIn f od = some (some u) := by rw [hlk, hu]
  refine get_exc I1.kIn It c.ga c.gr (by unfold PySem.W.mroIn; rw [k1, Option.bind_some, k2]; rfl) (PySem.W.findObj_own (by unfold PySem.W.hasDictIn; rw [k1]; exact k3) n rfl lk) (handed_of ru) ⟨v, H1, I1.tok _, ru, q⟩
end L4
set_option Elab.async false
set_option linter.all false
set_option maxRecDepth 100000
namespace L4
open PySem PySem.Spec PyProof.Rows L2 L3
section
variable {M : Model} {A : Around} {E : Value → Shared → Prop} {s : Shared} {e C : Addr} {dd : Option Addr} {H : Hp} {lo : Nat}
theorem flight_again {Q : Unit → Shared → Prop} (fs : List Addr) (xs : XS H s.heap lo e C dd) (k : ∀ h', Mv fs s.heap h' e → XS H h' lo e C dd → Q () { s with heap := h' }) : wpAny M A (setFlight (.ref e) none) Q E s := by
  obtain ⟨oe, vs, he, hc, hdd, hd, hz, tb⟩ := xs.obj
  simp only [setFlight]
  rcases tb with tb | ⟨T, oT, ts, tb, hTe, hTl, hTn, hT, hTd, t3⟩
  · refine wpAny_bind (wpAny_field he hd tb ?_)
    rw [if_neg (by decide)]
    exact wpAny_pure (k s.heap ⟨fun _ _ q _ _ _ => q, fun b o q _ _ => ⟨o.slots, q⟩, fun b o q => ⟨o, q⟩⟩ xs)
  · refine wpAny_bind (wpAny_field he hd tb ?_)
    rw [if_pos (by simp)]
    have z3 : 3 < ts.size := (Array.getElem?_eq_some_iff.mp t3).1
    have isT : TbOf s.heap e T := ⟨oe, vs, he, hd, tb⟩
    have off : ∀ b, b ≠ T → (s.heap.update T (Obj.mapFields (·.setIfInBounds 3 ((none : Option Addr).elim Value.none fun f => rawInt f)))).get? b = s.heap.get? b := fun b hb => Heap.get?_update_other _ _ (Ne.symm hb)
    have T0 : (s.heap.update T (Obj.mapFields (·.setIfInBounds 3 ((none : Option Addr).elim Value.none fun f => rawInt f)))).get? T = some (oT.mapFields (·.setIfInBounds 3 ((none : Option Addr).elim Value.none fun f => rawInt f))) := Heap.get?_update_self _ hT (Obj.isFreed_of_fields (Obj.data_mapFields hTd _))
    have nt : ∀ b, ¬ TbOf s.heap e b → b ≠ T := fun b z q => z (q ▸ isT)
    refine wpAny_setField hT hTd z3 (k _ ⟨fun b o q _ _ z => (off b (nt b z)).trans q, fun b o q _ z => ⟨o.slots, (off b (nt b z)).trans q⟩, fun b o q => ?_⟩ ⟨xs.yg, xs.trk, oe, vs, (off e (Ne.symm hTe)).trans he, hc, hdd, hd, hz, .inr ⟨T, _, _, tb, hTe, hTl, hTn, T0, Obj.data_mapFields hTd _, by simp [z3]⟩⟩)
    by_cases z : b = T
    · subst z; exact ⟨_, T0⟩
    · exact ⟨o, (off b z).trans q⟩
end
def deadQ (ρ : En) (j : Nat) : Bool := match ρ[j]? with
  | some (some _) => false
  | _ => true
theorem dead_of {ρ : En} {j : Nat} (h : deadQ ρ j = true) : ∀ av, ρ[j]? ≠ some (some av) := fun av z => by
  unfold deadQ at h
  rw [z] at h
  cases h
theorem _root_.L3.StOk.setdead {K : Fg} {G : Gh} {F H : Hp} {σ : L2.St} {ρ : En} (S : StOk K G F σ H ρ) {j : Nat} (hj : ∀ av, ρ[j]? ≠ some (some av)) (u : Option V) : StOk K G F (σ.set j u) H ρ := by
  have ne : ∀ i av, ρ[i]? = some (some av) → i ≠ j := fun i av q z => by subst z; exact hj av q
  have at_ : ∀ i av, ρ[i]? = some (some av) → (σ.set j u)[i]? = σ[i]? := fun i av q => List.getElem?_set_ne (Ne.symm (ne i av q))
  have ao : ∀ i c, own ρ i c → (σ.set j u)[i]? = σ[i]? := fun i c q => by rcases q with q | q <;> exact at_ i _ q
  refine ⟨S.fh, S.oh, S.fo, by simpa using S.ln, fun i d q => by rw [at_ i _ q]; exact S.fz i d q, fun i c q => by rw [ao i c q]; exact S.ow i c q, fun i k c e a q1 q2 z1 z2 => ?_, fun i a q => ?_, S.pq, S.fb⟩
  · rw [ao i c q1] at z1
    rw [ao k e q2] at z2
    exact S.dj i k c e a q1 q2 z1 z2
  · obtain ⟨z1, c, z2⟩ := S.pp i a q
    exact ⟨by rw [at_ i _ z2]; exact z1, c, z2⟩
theorem gok_st {K : Fg} {G : Gh} {F F' H H' : Hp} {vs : List V} {ds : List D} (S : StOk K G F (vs.map some) H (fzs ds)) (g : GOk G F' H') (s : Same F F') : StOk K G F' (vs.map some) H' (fzs ds) := by
  refine ⟨g.fh, g.oh, g.fo, S.ln, fun i d q => ?_, fun i c q => (no_own q).elim, fun i j c e a q => (no_own q).elim, S.pp, S.pq, g.fb⟩
  obtain ⟨v, e, r⟩ := S.fz i d q
  exact ⟨v, e, r.mono s⟩
def tryD (x c : Str) (gl : List Str) (ex : Ex) : Option D := if ex.cls = x then (gl.mapM fun f => ex.fs.lookup f).map fun ws => .tuple (.str c :: ws) else none
def tryM (m : M D) (x c : Str) (gl : List Str) : M D := match m with
  | .ret d => .ret d
  | .exc ex => oM (tryD x c gl ex)
  | .bad => .bad
def sTryA {S : Type} (i j : Nat) (ms : Ev S (List D)) (mf : List D → M D) (x c : Str) (gl : List Str) : SM S := fun K ρ => ms (fun _ _ => .bad) (fun ds ρ1 => match okSet ρ1 i && deadQ ρ1 j with
  | true => bd (tryM (mf ds) x c gl) fun t => K.nx (ρ1.set i (some (.fz t)))
  | false => .bad) ρ
def tXs (K : Fg) (j : Nat) : List Str → TA
  | [] => tNil
  | f :: r => tCons (tXat K (tVar j) f) (tXs K j r)
theorem lookup_rep {K : Fg} {F : Hp} {f : Str} : ∀ {fv : List (Str × V)} {fs : List (Str × D)} {d : D}, Paired (fun (p : Str × V) (q : Str × D) => p.1 = q.1 ∧ Rep K F p.2 q.2) fv fs → fs.lookup f = some d → ∃ v, fv.lookup f = some v ∧ Rep K F v d
  | _, _, d, .nil, h => by cases h
  | (a, v) :: _, (b, e) :: _, d, .cons ⟨r1, r2⟩ t, h => by
    dsimp only at r1 r2
    subst r1
    rw [List.lookup_cons] at h ⊢
    cases q : f == a with
    | true => rw [q] at h; cases h; exact ⟨v, rfl, r2⟩
    | false => rw [q] at h; exact lookup_rep t h
theorem xs_go {K : Fg} {F H : Hp} {σ : L2.St} {j : Nat} {a C B fI dx : Addr} {fv : List (Str × V)} {fs : List (Str × D)} (hj : σ[j]? = some (some (.ref a))) (c : XC K C B fI) (h1 : H a = some (.ext (XO a C (some dx)))) (h2 : H dx = some (.ext (XD dx fv))) (hp : Paired (fun (p : Str × V) (q : Str × D) => p.1 = q.1 ∧ Rep K F p.2 q.2) fv fs) :
    ∀ {gl : List Str} {ws : List D} {Q : List V → Hp → Prop}, (∀ f ∈ gl, NoAttr K C f) → (gl.mapM fun f => fs.lookup f) = some ws → (∀ vs, vs.length = gl.length → RepL K F vs ws → Q vs H) → tXs K j gl σ H Q
  | [], ws, Q, _, h, k => by cases h; exact k [] rfl .nil
  | f :: r, ws, Q, n, h, k => by
    rw [List.mapM_cons] at h
    obtain ⟨d, e1, h⟩ := Option.bind_eq_some_iff.mp h
    obtain ⟨ds, e2, h⟩ := Option.bind_eq_some_iff.mp h
    cases h
    obtain ⟨v, lv, rv⟩ := lookup_rep hp e1
    refine ⟨.ref a, hj, a, C, B, fI, dx, fv, v, rfl, c, n f List.mem_cons_self, h1, h2, lv, ?_⟩
    exact xs_go hj c h1 h2 hp (fun g hg => n g (List.mem_cons_of_mem _ hg)) e2 fun vs hl r => k (v :: vs) (by simp [hl]) (.cons rv r)
section
variable {S : Type} {X : Cx} {k k' m i j : Nat} {mf : List D → M D} {g x n c v : Str} {fl gl : List Str} {e : Expr} {es ts : List Expr} {ms : Ev S (List D)} {pv pg pc pa pC pv2 pt pa2 ph pos pk : Pos} {kc : Option Str} {k2 : Nat}
theorem as_tryA (C : CF X.prog X.w X.K X.mg X.base g k (spD X.K m mf)) (Cc : CCl X.prog X.w X.K X.mg X.base x k' fl) (hr : Room k X.A) (hg : Gl X g) (hgx : Gl X x) (ha : ∀ E, AEa (X.wish E) (e :: es) ms) (hn : (e :: es).length = m)
    (hN : X.N.Nodup) (hi : X.N[i]? = some v) (hj : X.N[j]? = some n) (hij : i ≠ j) (hv : Loc X.env.scope v) (hnl : X.env.scope.names.lookup n = some .local) (stk : X.stack = X.env :: X.outer) (frm : X.env.frame = some X.env.locals) (hgl : ∀ f ∈ gl, f ∈ fl) (g0 : gl ≠ []) (hsz : ts.length ≤ 1000)
    (ht : ∀ a, PA (cau X a) ts (tCons (tC (.str c)) (tXs X.K j gl))) (htl : ts.length = gl.length + 1)
    (hf : X.fn v = true ∨ X.env.scope.names.lookup v = some .local)
    (hs : swapsWith (.Call (.Name g pg) (e :: es) [] pc) (some (.Name v pv)) pa.line X.env = pure false) (hs2 : swapsWith (.Tuple ts k2 pt) (some (.Name v pv2)) pa2.line X.env = pure false)
    (hdb : (g == ("__debug__" : Str)) = false) (hdx : (x == ("__debug__" : Str)) = false) (he : starEach (e :: es) X.env = (false, eval e X.env) :: starEach es X.env) (hpl : (backTo pc (starEach es X.env)).any (·.1) = false) :
    AS X (.Try [.Assign [.Name v pv] (.Call (.Name g pg) (e :: es) [] pc) pa] [.ExceptHandler (some (.Name x pC)) (some n) [.Assign [.Name v pv2] (.Tuple ts k2 pt) pa2] ph] [] [] pos) (sTryA i j ms mf x c gl) := by
  obtain ⟨f, fd, ps, Fn, hm, kp, hb⟩ := C.ex
  obtain ⟨Cl, B, fI, fd', ps', xc, _, _, hmx, hcx, _, hna, hex⟩ := Cc.ex
  intro OK K G F σ H ρ E hO hX St ok eo
  unfold tSemS
  intro pins s I
  rw [arm_exec_Try]
  refine wpAny_bind (wpAny_standAt (wpAny_tryStmt_except (wpAny_execs_cons (wpAny_Assign_Name ?_ hs))))
  generalize hXE : (fun (e : Value) (s1 : Shared) => wpAny (model X.prog X.w) X.A (noteFrame e X.env) (fun _ s2 => wpAny (model X.prog X.w) X.A (setFlight e none) (fun _ s3 => wpAny (model X.prog X.w) X.A (handleBy e X.env [.ExceptHandler (some (.Name x pC)) (some n) [.Assign [.Name v pv2] (.Tuple ts k2 pt) pa2] ph]) (SP X pins E) X.xe s3) X.xe s2) X.xe s1) = XE
  refine wpAny_Call_Name_kw (ld_glob I hg hm (PySem.W.callWith_K (h₀ := X.base) I.ok.mod.kin kp ?_ he hpl) hdb)
  have ar : tSemA (X.wish XE) (e :: es) σ H fun vs H1 => ∃ F1 ρ1 ds, Same F F1 ∧ StOk X.K G F1 σ H1 ρ1 ∧ vs.length = (e :: es).length ∧ RepL X.K F1 vs ds ∧ OK (match okSet ρ1 i && deadQ ρ1 j with | true => bd (tryM (mf ds) x c gl) fun t => K.nx (ρ1.set i (some (.fz t))) | false => .bad) :=
    ha XE OK _ _ G F σ H ρ _ hO (fun _ _ _ z => (hO z).elim) St ok fun ds vs F1 H1 ρ1 s1 S1 hl r1 o1 => ⟨F1, ρ1, ds, s1, S1, hl, r1, o1⟩
  unfold tSemA at ar
  refine thn (ar pc pins s (I.wish _)) fun us s1 ⟨vs, H1, I1', rv, F1, ρ1, ds, sm1, S1, hl, r1, o1⟩ => ⟨I1'.kIn, ?_⟩
  have I1 : Inv X pins σ H1 s1 := I1'.unwish
  cases hq : (okSet ρ1 i && deadQ ρ1 j) with
  | false => rw [hq] at o1; exact (hO o1).elim
  | true =>
  rw [hq] at o1
  rw [Bool.and_eq_true] at hq
  obtain ⟨il, iop⟩ := okSet_of hq.1
  have jd := dead_of hq.2
  have o1 : OK (bd (tryM (mf ds) x c gl) fun t => K.nx (ρ1.set i (some (.fz t)))) := o1
  have pre := call_preD S1 r1
  have sp : spD X.K m mf vs H1 (fun u H2 => ∃ F2 d, mf ds = .ret d ∧ Same F1 F2 ∧ StOk X.K G F2 σ H2 ρ1 ∧ Rep X.K F2 u d) (fun cv dd H2 => ∃ ex F2 C', cv = .ref C' ∧ mf ds = .exc ex ∧ Same F1 F2 ∧ StOk X.K G F2 σ H2 ρ1 ∧ XR X.K F2 H2 C' dd ex) := by
    refine ⟨_, F1, ds, hl.trans hn, pre, ?_⟩
    cases hd : mf ds with
    | bad => rw [hd] at o1; exact (hO o1).elim
    | ret d =>
      intro u F2 H2 s2 S2 r2
      exact ⟨F2, d, rfl, s2, (call_postD (avs' := ds.map AV.fz) S1 s2 S2).1, r2⟩
    | exc ex =>
      intro F2 H2 C' dd g xr
      exact ⟨ex, F2, C', rfl, rfl, g.fb, (call_postD (avs' := ds.map AV.fz) S1 g.fb (gok_st pre g g.fb)).1, xr⟩
  have hlen : ([] ++ us ++ ([] : List Value)).length = ps.length := by
    rw [List.append_nil, List.nil_append, ← rv.length]; exact Fn.len _ _ _ _ sp
  have bnd := hb s1 ([] ++ us) I1.kIn hlen
  rw [List.append_nil] at bnd
  refine wpAny_call (codeAny_mono (Fn.run X.A X.stack s1 H1 ⟨[] ++ us, []⟩ ([] ++ us) vs _ _ hr I1.env0 bnd rv sp) fun r s' hq' => ?_)
  have fin : ∀ {F2 : Hp} {σ2 : L2.St} {H2 : Hp} {ρ2 : En} {s2 : Shared}, Same F1 F2 → Inv X pins σ2 H2 s2 → StOk X.K G F2 σ2 H2 ρ2 → OK (K.nx ρ2) → SP X pins E .next s2 := fun {F2 σ2 H2 ρ2 s2} sm I2 S2 o2 => ⟨σ2, H2, I2, eo.nx F2 σ2 H2 ρ2 (sm1.trans sm) S2 o2⟩
  cases r with
  | ok fl' =>
    cases fl' with
    | next => exact False.elim hq'
    | brk => exact False.elim hq'
    | cont => exact False.elim hq'
    | ret u =>
      obtain ⟨y, H2, I2, ry, F2, d, hd, sm2, S2, r2⟩ := I1.after hq'
      rw [hd] at o1
      refine store_ok I2 hN hi hv ry (fun s3 I3 => ?_) hf
      refine wpAny_execs_nil (wpAny_execs_nil ?_)
      exact fin sm2 I3 (S2.store iop il (.inl ⟨d, rfl, r2⟩)) o1
  | error ev =>
    obtain ⟨a, C', dd, H2, rfl, hos, hba, un, hk, xs, ex, F2, C'', ec, hd, sm2, S2, xr⟩ := hq'
    cases ec
    have I2 : Inv X pins σ H2 s' := I1.call' hos un hk hba fun b z => absurd z (by simp)
    subst hXE
    rw [hd] at o1
    cases htd : tryD x c gl ex with
    | none => rw [show tryM (M.exc ex) x c gl = oM (tryD x c gl ex) from rfl, htd] at o1; exact (hO o1).elim
    | some t =>
    rw [show tryM (M.exc ex) x c gl = oM (tryD x c gl ex) from rfl, htd] at o1
    have o1 : OK (K.nx (ρ1.set i (some (.fz t)))) := o1
    unfold tryD at htd
    split at htd
    case isFalse => cases htd
    rename_i hcls
    obtain ⟨ws, hws, et⟩ := Option.map_eq_some_iff.mp htd
    subst et
    obtain ⟨xr1, xr2⟩ := xr
    rw [hcls, hcx] at xr1
    cases xr1
    have hlo : X.s₀.heap.objs.size ≤ s1.heap.objs.size := I1.sz
    have pinlt : ∀ p ∈ X.pn ++ pins, p.1 < s1.heap.objs.size := fun p hp => Heap.lt_size (I1.pin p hp).1
    have npin : ∀ {h : Heap}, XS H2 h s1.heap.objs.size a Cl dd → ∀ p ∈ X.pn ++ pins, ¬ TbOf h a p.1 := fun y p hp z => absurd (Nat.lt_of_lt_of_le (pinlt p hp) (y.tb z).2.1) (Nat.lt_irrefl _)
    refine noted_ok (base := X.base) (env := X.env) (outer := X.outer) (L := X.env.locals) (P := X.prog) (w := X.w) (I2.ok.frames.trans (congrArg some stk)) (stk ▸ I2.stack) frm I2.hok xs fun h3 m3 xs3 => ?_
    have I3 : Inv X pins σ H2 { s' with heap := h3 } := Inv.mv I2 (by rw [stk]; exact m3) xs xs3 hlo (npin xs) s'.toks
    refine handle_as (K := X.K) (C := Cl) (ld_glob (X := cau X a) (caught_in I3) hgx hmx ⟨I3.kIn, hex, ?_, ?_⟩ hdx)
    · obtain ⟨oe, _, q1, q2, _⟩ := xs3.obj
      exact ⟨oe, q1, q2⟩
    refine flight_again (s := { s' with heap := h3 }) (frs X.stack) xs3 fun h4 m4 xs4 => ?_
    have I4 : Inv X pins σ H2 { s' with heap := h4 } := Inv.mv (s := { s' with heap := h3 }) I3 m4 xs3 xs4 hlo (npin xs3) s'.toks
    refine store_ok I4 hN hj (.inl hnl) (v := .ref a) rfl (fun s5 I5 => ?_) (.inr hnl)
    have hjl : j < σ.length := by rw [I1.len]; exact (List.getElem?_eq_some_iff.mp hj).1
    have atj : (σ.set j (some (V.ref a)))[j]? = some (some (V.ref a)) := List.getElem?_set_self hjl
    have suite := pss_cons (ps_set (X := cau X a) hN hi hv (pe_tup (ht a)) hs2 hf) (pss_nil (X := cau X a))
    have S3 := S2.setdead jd (some (V.ref a))
    have rd : (tTup (tCons (tC (.str c)) (tXs X.K j gl))) (σ.set j (some (V.ref a))) H2 fun y H6 => ∃ p vs, H2 p = none ∧ RepL X.K F2 vs (.str c :: ws) ∧ (σ.set j (some (V.ref a))).set i (some y) = (σ.set j (some (V.ref a))).set i (some (V.ref p)) ∧ H6 = upd H2 p (.tup vs) := by
      have go : ∀ vs, vs.length = gl.length → RepL X.K F2 vs ws → (V.str c :: vs).length ≤ sizeLine ∧ ∀ p, H2 p = none → ∃ p' vs', H2 p' = none ∧ RepL X.K F2 vs' (.str c :: ws) ∧ (σ.set j (some (V.ref a))).set i (some (V.ref p)) = (σ.set j (some (V.ref a))).set i (some (V.ref p')) ∧ upd H2 p (.tup (V.str c :: vs)) = upd H2 p' (.tup vs') := fun vs hl r =>
        ⟨le1000 (by rw [List.length_cons, hl]; omega), fun p hp => ⟨p, _, hp, .cons (.str c) r, rfl, rfl⟩⟩
      rcases xr2 with ⟨z, _⟩ | ⟨dx, fv, rfl, hdx', hpr⟩
      · exfalso
        rw [z] at hws
        cases gl with
        | nil => exact g0 rfl
        | cons f r => rw [List.mapM_cons] at hws; cases hws
      · exact xs_go atj xc xs4.trk hdx' hpr (fun f hf => hna f (hgl f hf)) hws go
    refine wpAny_mono (suite pins s5 _ H2 { nx := fun σ6 H6 => ∃ p vs, H2 p = none ∧ RepL X.K F2 vs (.str c :: ws) ∧ σ6 = (σ.set j (some (V.ref a))).set i (some (V.ref p)) ∧ H6 = upd H2 p (.tup vs), rt := fun _ _ => False, bk := fun _ _ => False, ct := fun _ _ => False } (caught_in I5) ?_) (fun f s6 z => ?_) fun _ _ z => z
    · exact rd
    · cases f with
      | next =>
        obtain ⟨σ6, H6, I6, p, vs6, hp6, r6, rfl, rfl⟩ := z
        refine goes_ok (caught_out I2.ok.hd I6) hN hj hnl fun s7 I7 => ?_
        obtain ⟨sm3, S4, r4⟩ := S3.newTup hp6 r6
        refine fin (sm2.trans sm3) I7 (StOk.setdead (S4.store iop il (.inl ⟨_, rfl, r4⟩)) (fun av => ?_) none) o1
        rw [List.getElem?_set_ne hij]
        exact jd av
      | brk => obtain ⟨_, _, _, z⟩ := z; exact z.elim
      | cont => obtain ⟨_, _, _, z⟩ := z; exact z.elim
      | ret u => obtain ⟨_, _, _, _, _, z⟩ := z; exact z.elim
end
end L4
set_option Elab.async false
set_option linter.all false
set_option maxRecDepth 100000
namespace L4
open PySem PySem.Spec PyProof.Rows L2 L3
theorem av {X : Cx} (i : Nat) {x : Str} {pos : Pos} (hN : X.N[i]? = some x := by rfl) (hv : Vis X.env.scope x := by first | exact Or.inl rfl | exact Or.inr (Or.inl rfl) | exact Or.inr (Or.inr rfl))
    (hd : (x == ("__debug__" : Str)) = false := by decide) (hcd : (x == ("__classdict__" : Str)) = false := by decide) : AP X (.Name x pos) (pVar i) := ap_var hN hv hd hcd
section
variable {X : Cx}
variable {a : Expr} {ps : Pa (List D)} {p p2 pos pos2 : Pos}
end
end L4
set_option Elab.async false
set_option linter.all false
set_option maxRecDepth 100000
namespace L3
open PySem PySem.Spec PyProof.Rows L2 L4
end L3
namespace L4
open PySem PySem.Spec PyProof.Rows L2 L3
section
variable {X : Cx} {tg e : Expr} {p pos tp : Pos} {elts : List Expr} {x1 : Nat}
end
end L4
set_option Elab.async false
set_option linter.all false
set_option maxRecDepth 100000
namespace L4
open PySem PySem.Spec PyProof.Rows L2 L3
inductive Ty where
  | tup | lst | str
def Ty.s : Ty → String
  | .tup => "tuple"
  | .lst => "list"
  | .str => "str"
def onT {S : Type} (t : Ty) (d : D) (m : M S) : M S := match t, d with
  | .tup, .tuple _ => m
  | .lst, .list _ => m
  | .str, .str _ => m
  | _, _ => .bad
def tyW (K : Fg) (T : String) (x : V) (H : Hp) : Prop := tyV K T x H ∨ (T = "tuple" ∧ ∃ p xs, x = .ref p ∧ H p = some (.tup xs))
theorem tyW_is {X : Cx} {pins : List (Addr × Obj)} {σ : L2.St} {H : Hp} {s : Shared} {T : String} {x : V} {v : Value} (I : Inv X pins σ H s) (r : RelV x v) (ty : tyW X.K T x H) :
    s.TypeIs v T ∧ ∀ a, v = .ref a → ∃ ob, s.heap.get? a = some ob ∧ ob.dict = none := by
  rcases ty with ty | ⟨rfl, p, xs, rfl, h⟩
  · exact tyV_is I r ty
  · cases r
    obtain ⟨_, its, _, ⟨o, e, c, _⟩, ob, e2, d⟩ := I.hok p _ h
    refine ⟨⟨o, e, c⟩, fun a q => ?_⟩
    cases q
    exact ⟨ob, e2, d⟩
def rMeth (K : Fg) (f : D → List D → Option D) : V → List V → Hp → VK → Prop := fun x xs H Q => ∃ G F σ ρ d ds res, StOk K G F σ H ρ ∧ OR K F H x d ∧ RepL K F xs ds ∧ f d ds = some res ∧
  ∀ y F' H', Same F F' → StOk K G F' σ H' ρ → Rep K F' y res → Q y H'
def tMt (K : Fg) (T : String) (r : V → List V → Hp → VK → Prop) (to : TE) (t : TA) : TE := fun σ H Q => to σ H fun x H1 => tyW K T x H1 ∧ t σ H1 fun xs H2 => r x xs H2 Q
section
variable {X : Cx} {o e : Expr} {es : List Expr} {to : TE} {t : TA} {name : Str} {apos cpos : Pos} {T id : String} {r : V → List V → Hp → VK → Prop}
theorem pe_meth (pa : PlainAttrs T) (slot : Slot T name id) (hty : typeOf (.builtin id) = pure (.type "method_descriptor")) (hm : MtR X id r) (ho : PE X o to) (ha : PA X (e :: es) t)
    (hbase : attributeBase o name X.env (eval o X.env) = eval o X.env)
    (hfew : ((backTo cpos (starEach (e :: es) X.env)).all (fun x => !x.1) && (backToKw cpos (keywordEach [] X.env)).all (fun x => x.1.isSome)
      && decide ((e :: es).length + ([] : List Keyword).length + (if ([] : List Keyword).isEmpty then 0 else 1) < 30)) = true)
    (hline : (apos.endLine == cpos.line) = true) (hs : starEach (e :: es) X.env = (false, eval e X.env) :: starEach es X.env) (hplain : (backTo cpos (starEach es X.env)).any (·.1) = false) :
    PE X (.Call (.Attribute o name apos) (e :: es) [] cpos) (tMt X.K T r to t) := by
  intro pins s σ H Q I h
  refine wpAny_Call_method_late hbase hfew hline rfl (thn (ho pins s σ H _ I h) fun v s1 ⟨x, H1, I1, r1, ty, q1⟩ => ?_)
  obtain ⟨h1, h2⟩ := tyW_is I1 r1 ty
  refine ⟨T, id, pa, slot, hty, h1, h2, ?_⟩
  have hA := ha cpos pins s1 σ H1 _ I1 q1
  rw [hs] at hA ⊢
  refine Calls.callWith_builtin (by show (false || (backTo cpos (starEach es X.env)).any (·.1)) = false; rw [hplain] <;> rfl) (Calls.evalArgs_plain ?_)
  exact thn hA fun us s2 ⟨vs, H2, I2, r2, q2⟩ => hm pins s2 σ H2 x vs v us Q I2 r1 r2 q2
end
def pMeth (t : Ty) (f : D → List D → Option D) (po : Pu D) (ps : Pa D) : Pu D := fun ρ => bd (po ρ) fun d => onT t d (ps (fun ds => oM (f d ds)) ρ)
theorem onT_ty {α : Type} {X : Cx} {G : Gh} {F H : Hp} {σ : L2.St} {ρ : En} {t : Ty} {d : D} {m : M α} {C : α → Hp → Hp → Prop} {v : V} (S : StOk X.K G F σ H ρ) (hv : VO X.K F σ ρ v d) (w : W X G F σ ρ (onT t d m) C) :
    tyW X.K t.s v H ∧ W X G F σ ρ m C := by
  have o := hv.or S
  cases t with
  | tup =>
    cases d with
    | tuple ds =>
      have r := o.tup'
      cases r with
      | tup h1 h2 => exact ⟨.inr ⟨rfl, _, _, rfl, S.fh _ _ h1⟩, w⟩
    | _ => exact False.elim w
  | lst =>
    cases d with
    | list ds =>
      obtain ⟨a, vs, rfl, h1, h2⟩ := o.list S.fh
      exact ⟨.inl (.inl ⟨rfl, _, h1⟩), w⟩
    | _ => exact False.elim w
  | str =>
    cases d with
    | str ds =>
      rw [o.str]
      exact ⟨.inl rfl, w⟩
    | _ => exact False.elim w
section
variable {X : Cx} {o e : Expr} {es : List Expr} {name : Str} {apos cpos : Pos} {id : String} {po : Pu D} {ps : Pa D} {pl : Pa (List D)} {ty : Ty}
theorem ap_meth {f : D → List D → Option D} (pa : PlainAttrs ty.s) (slot : Slot ty.s name id) (hty : typeOf (.builtin id) = pure (.type "method_descriptor")) (hm : MtR X id (rMeth X.K f)) (ho : AO X o po) (ha : AA X (e :: es) ps)
    (hbase : attributeBase o name X.env (eval o X.env) = eval o X.env)
    (hfew : ((backTo cpos (starEach (e :: es) X.env)).all (fun x => !x.1) && (backToKw cpos (keywordEach [] X.env)).all (fun x => x.1.isSome)
      && decide ((e :: es).length + ([] : List Keyword).length + (if ([] : List Keyword).isEmpty then 0 else 1) < 30)) = true)
    (hline : (apos.endLine == cpos.line) = true) (hs : starEach (e :: es) X.env = (false, eval e X.env) :: starEach es X.env) (hplain : (backTo cpos (starEach es X.env)).any (·.1) = false) :
    AP X (.Call (.Attribute o name apos) (e :: es) [] cpos) (pMeth ty f po ps) :=
  fun G F σ H ρ Q S w => sem (pe_meth pa slot hty hm pe_sem pa_sem hbase hfew hline hs hplain) (ho G F σ H ρ _ S (w.bind.imp fun d F1 H1 s1 S1 w1 v hv => by
    obtain ⟨ht, w2⟩ := onT_ty S1 hv w1
    refine ⟨ht, ha G F1 σ H1 ρ _ _ _ S1 w2 fun ds vs F2 H2 s2 S2 _ r2 w3 => ?_⟩
    obtain ⟨res, e, k⟩ := w3.opt
    exact ⟨G, F2, σ, ρ, d, ds, res, S2, (hv.mono s2).or S2, r2, e, fun y F3 H3 s3 S3 r3 => k F3 H3 s3 S3 y r3⟩))
end
def fCount : D → List D → Option D
  | .tuple xs, [y] => if inOk y xs then some (.int (xs.countP fun z => PyData.eqv z y : Nat)) else none
  | _, _ => none
theorem countP_reads {h : Heap} {vs : Array Value} {xs : List PyData} {as : List Addr} {d : PyData} (rs : ReadsAll h vs.toList xs as) (hxs : PyData.canLayAll0 xs = true) :
    vs.toList.countP (fun y => PyData.eqv (SeqAt.readOf h y) d) = xs.countP (fun y => PyData.eqv y d) := by
  rw [← SeqAt.readsAll_map xs _ _ hxs rs, List.countP_map]
  rfl
theorem mt_count {X : Cx} (hu : X.A.units + 1100 < cLine) : MtR X "tuple.count" (rMeth X.K fCount) := by
  intro pins s σ H x xs v us Q I rx rxs ⟨G, F, σ', ρ, d, ds, res, S, ho, hr, e, k⟩
  unfold fCount at e
  split at e
  case h_2 => cases e
  rename_i ts y
  split at e
  case isFalse => cases e
  rename_i hc
  cases e
  simp only [inOk, Bool.and_eq_true, decide_eq_true_eq] at hc
  obtain ⟨as, ra⟩ := (reads_of I).1 (ho.rep S.fh) rx
  cases hr with
  | cons hy hn =>
    cases hn
    obtain ⟨u, rfl, ru⟩ := vals1 rxs
    obtain ⟨bs, rb⟩ := (reads_of I).1 (hy.mono S.fh) ru
    cases ra with
    | tuple h1 h2 h3 h4 =>
      rename_i ob items n
      obtain ⟨cl, dd, da, sl⟩ := ob
      dsimp only at h2 h3
      subst h2 h3
      refine call_meets PySem.F.slot_tuple_count ⟨_, h1, rfl⟩ PySem.F.entry_tuple_count (PySem.F.args_tuple_count_2 _ _) (SeqAt.tuple_countAt _ _ _ _ _ u (fun z => PyData.eqv (SeqAt.readOf s.heap z) y)) ⟨h1, SeqAt.items_eqAt h4 rb hc.1.1 hc.1.2 (by have := Nat.min_le_right (PyData.depthAll ts) y.depth; omega), ?_⟩
      rw [countP_reads h4 hc.1.1]
      exact ⟨.int _, H, I.tok _, ⟨_, rfl⟩, k _ F H (Same.refl _) S (.int _)⟩
def sPut2 {S : Type} (i ia ib : Nat) (me : Ev S D) : SM S := fun K ρ => me K.x (fun d ρ1 => un2 d fun u v => match ownL ρ1 i, ρ1[ia]?, ρ1[ib]? with
  | some ds, some (some (.fz ja)), some (some (.fz jb)) => (oM (putD ds ja u)).on (fun e => K.x e ρ1) (fun d1 => (oM (putD d1 jb v)).on (fun e => K.x e ρ1) (fun d2 => K.nx (setO ρ1 i d2)))
  | _, _, _ => .bad) ρ
theorem ownL_setO {ρ : En} {i : Nat} {d0 ds : List D} (h : ownL ρ i = some d0) : ownL (setO ρ i ds) i = some ds := by
  unfold ownL at h
  split at h
  · rename_i q
    have hl : i < ρ.length := (List.getElem?_eq_some_iff.mp q).1
    unfold setO ownL
    rw [q]
    dsimp only
    rw [List.getElem?_set_self hl]
  · rename_i q
    have hl : i < ρ.length := (List.getElem?_eq_some_iff.mp q).1
    unfold setO ownL
    rw [q]
    dsimp only
    rw [List.getElem?_set_self hl]
  · cases h
theorem setO_setO {ρ : En} {i : Nat} {d0 d1 d2 : List D} (h : ownL ρ i = some d0) : setO (setO ρ i d1) i d2 = setO ρ i d2 := by
  unfold ownL at h
  split at h
  · rename_i q
    have hl : i < ρ.length := (List.getElem?_eq_some_iff.mp q).1
    have e : setO ρ i d1 = ρ.set i (some (.ol (.l d1))) := by unfold setO; rw [q]
    have e2 : setO ρ i d2 = ρ.set i (some (.ol (.l d2))) := by unfold setO; rw [q]
    rw [e, e2]
    unfold setO
    rw [List.getElem?_set_self hl]
    dsimp only
    rw [List.set_set]
  · rename_i q
    have hl : i < ρ.length := (List.getElem?_eq_some_iff.mp q).1
    have e : setO ρ i d1 = ρ.set i (some (.op (.l d1))) := by unfold setO; rw [q]
    have e2 : setO ρ i d2 = ρ.set i (some (.op (.l d2))) := by unfold setO; rw [q]
    rw [e, e2]
    unfold setO
    rw [List.getElem?_set_self hl]
    dsimp only
    rw [List.set_set]
  · cases h
theorem putD_at {ds d1 : List D} {j d : D} (h : putD ds j d = some d1) : ∃ k q, j = .int k ∧ ixN ds.length k = some q ∧ d1 = ds.set q d := by
  unfold putD at h
  split at h
  · rename_i k
    obtain ⟨q, hq, rfl⟩ := Option.map_eq_some_iff.mp h
    exact ⟨k, q, rfl, hq, rfl⟩
  · cases h
theorem as_put2 {S : Type} {X : Cx} {e : Expr} {me : Ev S D} {i ia ib kk : Nat} {x ya yb : Str} {p1 p2 p3 p4 t1 t2 tp pos : Pos} (hc : X.calm = true) (hN : X.N[i]? = some x) (hv : Vis X.env.scope x) (hNa : X.N[ia]? = some ya) (hva : Vis X.env.scope ya) (hNb : X.N[ib]? = some yb) (hvb : Vis X.env.scope yb) (he : AE X e me)
    (ha1 : ∀ v, assign (.Subscript (.Name x p1) (.Name ya p2) t1) X.env v = (do
      let ov ← holding [v] (eval (.Name x p1) X.env)
      let iv ← holding [v, ov] (eval (.Name ya p2) X.env)
      standAt t1
      holding [v, ov, iv] (setItem ov iv v)
      release [v, ov, iv] []))
    (ha2 : ∀ v, assign (.Subscript (.Name x p3) (.Name yb p4) t2) X.env v = (do
      let ov ← holding [v] (eval (.Name x p3) X.env)
      let iv ← holding [v, ov] (eval (.Name yb p4) X.env)
      standAt t2
      holding [v, ov, iv] (setItem ov iv v)
      release [v, ov, iv] []))
    (hs1 : (assignEach [.Subscript (.Name x p1) (.Name ya p2) t1, .Subscript (.Name x p3) (.Name yb p4) t2] X.env).map (·.2) = assign (.Subscript (.Name x p1) (.Name ya p2) t1) X.env :: (assignEach [.Subscript (.Name x p3) (.Name yb p4) t2] X.env).map (·.2))
    (hs2 : (assignEach [.Subscript (.Name x p3) (.Name yb p4) t2] X.env).map (·.2) = assign (.Subscript (.Name x p3) (.Name yb p4) t2) X.env :: (assignEach [] X.env).map (·.2))
    (hn : (assignEach [.Subscript (.Name x p1) (.Name ya p2) t1, .Subscript (.Name x p3) (.Name yb p4) t2] X.env).length = 2) (hst : (assignEach [.Subscript (.Name x p1) (.Name ya p2) t1, .Subscript (.Name x p3) (.Name yb p4) t2] X.env).findIdx? (·.1) = none)
    (hs : swapsWithSole [.Tuple [.Subscript (.Name x p1) (.Name ya p2) t1, .Subscript (.Name x p3) (.Name yb p4) t2] kk tp] e pos.line X.env = pure false) (hw : swappedStores [.Tuple [.Subscript (.Name x p1) (.Name ya p2) t1, .Subscript (.Name x p3) (.Name yb p4) t2] kk tp] e X.env = pure none)
    (h1 : (assignEach [.Tuple [.Subscript (.Name x p1) (.Name ya p2) t1, .Subscript (.Name x p3) (.Name yb p4) t2] kk tp] X.env).map (·.2) = [assign (.Tuple [.Subscript (.Name x p1) (.Name ya p2) t1, .Subscript (.Name x p3) (.Name yb p4) t2] kk tp) X.env])
    (hd : (x == ("__debug__" : Str)) = false := by decide) (hcd : (x == ("__classdict__" : Str)) = false := by decide)
    (hda : (ya == ("__debug__" : Str)) = false := by decide) (hcda : (ya == ("__classdict__" : Str)) = false := by decide)
    (hdb : (yb == ("__debug__" : Str)) = false := by decide) (hcdb : (yb == ("__classdict__" : Str)) = false := by decide) :
    AS X (.Assign [.Tuple [.Subscript (.Name x p1) (.Name ya p2) t1, .Subscript (.Name x p3) (.Name yb p4) t2] kk tp] e pos) (sPut2 i ia ib me) := fun OK K G F σ H ρ E hO hX St ok eo =>
  semS (ps_asg pe_sem (pg_tup hc (pgs_cons (pg_sub (pe_var hN hv hd hcd) (pe_var hNa hva hda hcda) set_list ha1) (pgs_cons (pg_sub (pe_var hN hv hd hcd) (pe_var hNb hvb hdb hcdb) set_list ha2) pgs_nil hs2) hs1) hn hst) hs hw h1) (he OK K.x _ G F σ H ρ _ hO hX St ok fun d v F1 H1 ρ1 s1 S1 r1 o1 => by
    unfold un2 at o1
    split at o1
    case h_2 => exact (hO o1).elim
    rename_i da db
    split at o1
    case h_2 => exact (hO o1).elim
    rename_i ds ja jb hds hja hjb
    obtain ⟨d1, hp1, o2⟩ := opt_ok hO o1
    obtain ⟨d2, hp2, o3⟩ := opt_ok hO o2
    obtain ⟨k1, q1, rfl, hq1, rfl⟩ := putD_at hp1
    obtain ⟨k2, q2, rfl, hq2, rfl⟩ := putD_at hp2
    obtain ⟨a, vs, ea, hh, rv⟩ := own_ref S1 hds
    obtain ⟨va, eva, rva⟩ := S1.fz ia _ hja
    obtain ⟨vb, evb, rvb⟩ := S1.fz ib _ hjb
    cases rva
    cases rvb
    cases r1 with
    | tup g1 g2 =>
      cases g2 with
      | cons ra g3 =>
        cases g3 with
        | cons rb g4 =>
          cases g4
          rename_i u1 u2
          have S2 := own_set S1 hds ea (RepL.set ra q1 rv)
          have hds2 := ownL_setO (ds := ds.set q1 da) hds
          have S3 := own_set S2 hds2 ea (RepL.set rb q2 (RepL.set ra q1 rv))
          rw [setO_setO hds] at S3
          refine ⟨_, _, rfl, SqT.of (S1.fh _ _ g1), rfl, _, _, rfl, _, ea, _, eva, a, vs, k1, q1, rfl, rfl, hh, by rw [rv.length]; exact hq1, _, _, rfl, _, ea, _, evb, a, _, k2, q2, rfl, rfl, upd_same, by rw [List.length_set, rv.length]; simpa using hq2, ?_⟩
          exact ⟨rfl, eo.nx F1 σ _ _ s1 S3 o3⟩)
end L4
set_option Elab.async false
set_option linter.all false
set_option maxRecDepth 100000
set_option maxHeartbeats 8000000
namespace K06
open PySem PySem.Spec PyProof.Rows L2 L3 L4
noncomputable section
def top (i : Nat) : Stmt := PySem.Challenge.pw_passersby_k06_hands_that_meet.main.body.getD i (.Pass ⟨0, 0, 0, 0⟩)
structure BN (mg : Str → Option Value) : Prop where
  range : mg "range" = none
  len : mg "len" = none
  tuple : mg "tuple" = none
  list : mg "list" = none
  max : mg "max" = none
  min : mg "min" = none
  sum : mg "sum" = none
  abs : mg "abs" = none
  repr : mg "repr" = none
  enumerate : mg "enumerate" = none
  isinstance : mg "isinstance" = none
  all : mg "all" = none
  any : mg "any" = none
  int : mg "int" = none
  str : mg "str" = none
  bool : mg "bool" = none
  zip : mg "zip" = none
  sorted : mg "sorted" = none
  set : mg "set" = none
  dict : mg "dict" = none
  reversed : mg "reversed" = none
structure KN (mg : Str → Option Value) : Prop where
  non : True
section
variable {P : Program} {w : World} {K : Fg} {mg : Str → Option Value} {base : Heap}
def clsBody (s : Stmt) : List Stmt := match s with
  | .ClassDef _ _ _ b _ _ _ _ _ _ _ => b
  | _ => []
abbrev s_init_NoMeeting : Stmt := (clsBody (top 2)).getD 0 (.Pass ⟨0, 0, 0, 0⟩)
theorem sc_init_NoMeeting : FnScope ["self", "place"] ["self", "place"] (defScope s_init_NoMeeting) := ⟨rfl, rfl, rfl, by decide +kernel, rfl, by decide +kernel, by decide +kernel⟩
theorem cl_NoMeeting {Cl D f : Addr} {fd : FuncData} (Fn : Fun K "__init__" "NoMeeting.__init__" s_init_NoMeeting f fd) (c : XC K Cl D f) (hm : mg "NoMeeting" = some (.ref Cl)) (hc : PySem.W.nsIn K mainGlobals "NoMeeting" = some (some (.ref Cl))) (kp : PySem.W.keepIn K (.ref Cl) = true) (na : ∀ f ∈ (["place"] : List Str), NoAttr K Cl f) (ex : PySem.W.exmOne K (.ref Cl) (.ref Cl) = some true) : CCl P w K mg base "NoMeeting" 1 ["place"] :=
  ⟨Cl, D, f, fd, ["self", "place"], c, init1 (k := 0) Fn sc_init_NoMeeting rfl c (na _ (by simp)), (Fn.binds fun _ _ _ _ _ _ us hl => match us, hl with | [_, _], _ => rfl), hm, hc, kp, na, ex⟩
abbrev s_seated : Stmt := top 4
abbrev N_seated : List Str := ["rule", "counts", "hands", "start", "many"]
theorem sc_seated : FnScope N_seated ["rule", "counts"] (defScope s_seated) := ⟨rfl, rfl, rfl, by decide +kernel, rfl, by decide +kernel, by decide +kernel⟩
def c_seated_r2 (v_hands : List D) : M D :=
  bd (oM (fTuple [(PyData.list v_hands)])) fun x3 => .ret x3
def c_seated_s1 (v_hands : List D) (d_ : D) (kn4 : List D × Unit → M D) : M D :=
  un2 d_ fun y5 y6 => bd (oM (opMulL (PyData.list [y5]) y6)) fun l7 => bd (oM (mExt v_hands l7)) fun l8 => kn4 (l8, ())
def c_seated (p_rule : D) (p_counts : D) : M D :=
  bd (bd (oM (opIxA p_rule (.int 1))) fun x1 => oM (fZip [x1, p_counts])) fun l2 => forS (fun s9 d10 kn => c_seated_s1 s9.1 d10 kn) l2 ([], ()) (fun s9 => c_seated_r2 s9.1)
def mf_seated : List D → M D := fun l => match l with
  | [p_rule, p_counts] => c_seated p_rule p_counts
  | _ => .bad
set_option maxHeartbeats 4000000 in
theorem fn_seated {f : Addr} {fd : FuncData} (Fn : Fun K "seated" "seated" s_seated f fd) (B : BN mg) (Kn : KN mg) : FnOk P w K mg base (CX1 P w) 1 f fd ["rule", "counts"] (spD K 2 mf_seated) :=
  fn_okD (k := 0) Fn sc_seated (fun cdv A outer s H E hr =>
  (ass_cons (as_to (sh := [.f, .f, .o, .dead, .dead]) (as_setL (i := 2) sc_seated.nd rfl (by first | exact Or.inl rfl | exact Or.inr rfl) (ael_pu (al_lst aa_nil (by decide +kernel))) rfl (.inl rfl)))
   (ass_cons (as_forS (sh := [.dead, .dead, .o, .dead, .dead]) PassesOwn.leaving rfl (aei_pu (ai_zip rfl B.zip (aa_cons (ap_ix (ix_any (room_u hr)) ok_ixA (ao (av 0)) (ao ap_int) (fun _ _ => rfl)) (aa_cons (av 1) aa_nil (star_ok rfl)) (star_ok rfl)) rfl rfl)) (ag_tup2 rfl (ags_cons (ag_name (i := 3) (Nat.zero_le _) sc_seated.nd rfl (by first | exact Or.inl rfl | exact Or.inr rfl) (.inl rfl)) (ags_cons (ag_name (i := 4) (Nat.zero_le _) sc_seated.nd rfl (by first | exact Or.inl rfl | exact Or.inr rfl) (.inl rfl)) ags_nil rfl) rfl) rfl rfl)
    (ass_one (as_extL (i := 2) rfl (by first | exact Or.inl rfl | exact Or.inr (Or.inl rfl) | exact Or.inr (Or.inr rfl)) (ael_pu (al_repV (j := 4) (al_lst (aa_cons (av 3) aa_nil (star_ok rfl)) (by decide +kernel)) rfl (by first | exact Or.inl rfl | exact Or.inr (Or.inl rfl) | exact Or.inr (Or.inr rfl)))) rfl rfl rfl rfl rfl rfl)) (fun _ => rfl))
   (ass_one (as_ret (ae_pu (ap_callTy call_tuple_of ok_tuple rfl B.tuple (by decide +kernel) (aao_cons (ao_peek (i := 2) rfl (by first | exact Or.inl rfl | exact Or.inr (Or.inl rfl) | exact Or.inr (Or.inr rfl))) aao_nil (star_ok rfl)) (by decide) (by decide) rfl rfl)))))))
  (fun ds hl => match ds, hl with | [p_rule, p_counts], _ => by kernel_rfl)
theorem ok_seated {f : Addr} {fd : FuncData} (Fn : Fun K "seated" "seated" s_seated f fd) (hmg : mg "seated" = some (.ref f)) (B : BN mg) (Kn : KN mg) : CF P w K mg base "seated" 1 (spD K 2 mf_seated) :=
  ⟨f, fd, ["rule", "counts"], fn_seated Fn B Kn, hmg, Fn.kp, (Fn.binds fun _ _ _ _ _ _ us hl => match us, hl with | [_, _], _ => rfl)⟩
abbrev s_crowd_of : Stmt := top 5
abbrev N_crowd_of : List Str := ["rule", "hands", "numbers", "room"]
theorem sc_crowd_of : FnScope N_crowd_of ["rule", "hands"] (defScope s_crowd_of) := ⟨rfl, rfl, rfl, by decide +kernel, rfl, by decide +kernel, by decide +kernel⟩
def c_crowd_of_r2 (v_numbers : List D) : M D :=
  bd (oM (fTuple [(PyData.list v_numbers)])) fun x4 => .ret x4
def c_crowd_of_s1 (v_numbers : List D) (d_ : D) (kn5 : List D × Unit → M D) : M D :=
  bd (oM (opIx (PyData.list v_numbers) d_)) fun x6 => bd (oM (opAddI x6 (.int 1))) fun x7 => bd (oM (putD v_numbers d_ x7)) fun l8 => kn5 (l8, ())
def c_crowd_of (p_rule : D) (p_hands : D) : M D :=
  bd (bd (oM (opIxA p_rule (.int 0))) fun x1 => oM (opMulL (PyData.list [(.int 0)]) x1)) fun l2 => bd (oM (seqD p_hands)) fun l3 => forS (fun s9 d10 kn => c_crowd_of_s1 s9.1 d10 kn) l3 (l2, ()) (fun s9 => c_crowd_of_r2 s9.1)
def mf_crowd_of : List D → M D := fun l => match l with
  | [p_rule, p_hands] => c_crowd_of p_rule p_hands
  | _ => .bad
set_option maxHeartbeats 4000000 in
theorem fn_crowd_of {f : Addr} {fd : FuncData} (Fn : Fun K "crowd_of" "crowd_of" s_crowd_of f fd) (B : BN mg) (Kn : KN mg) : FnOk P w K mg base (CX1 P w) 1 f fd ["rule", "hands"] (spD K 2 mf_crowd_of) :=
  fn_okD (k := 0) Fn sc_crowd_of (fun cdv A outer s H E hr =>
  (ass_cons (as_to (sh := [.dead, .f, .o, .dead]) (as_setL (i := 2) sc_crowd_of.nd rfl (by first | exact Or.inl rfl | exact Or.inr rfl) (ael_pu (al_rep (al_lst (aa_cons ap_int aa_nil (star_ok rfl)) (by decide +kernel)) (ao (ap_ix (ix_any (room_u hr)) ok_ixA (ao (av 0)) (ao ap_int) (fun _ _ => rfl))))) rfl (.inl rfl)))
   (ass_cons (as_forS (sh := [.dead, .dead, .o, .dead]) PassesOwn.leaving rfl (aei_pu (ai_seq (av 1))) (ag_name (i := 3) (Nat.zero_le _) sc_crowd_of.nd rfl (by first | exact Or.inl rfl | exact Or.inr rfl) (.inl rfl))
    (ass_one (as_augS (i := 2) rfl (by first | exact Or.inl rfl | exact Or.inr (Or.inl rfl) | exact Or.inr (Or.inr rfl)) ip_add ipd_add (ae_pu (av 3)) (ae_pu ap_int) (fun _ _ _ => rfl))) (fun _ => rfl))
   (ass_one (as_ret (ae_pu (ap_callTy call_tuple_of ok_tuple rfl B.tuple (by decide +kernel) (aao_cons (ao_peek (i := 2) rfl (by first | exact Or.inl rfl | exact Or.inr (Or.inl rfl) | exact Or.inr (Or.inr rfl))) aao_nil (star_ok rfl)) (by decide) (by decide) rfl rfl)))))))
  (fun ds hl => match ds, hl with | [p_rule, p_hands], _ => by kernel_rfl)
theorem ok_crowd_of {f : Addr} {fd : FuncData} (Fn : Fun K "crowd_of" "crowd_of" s_crowd_of f fd) (hmg : mg "crowd_of" = some (.ref f)) (B : BN mg) (Kn : KN mg) : CF P w K mg base "crowd_of" 1 (spD K 2 mf_crowd_of) :=
  ⟨f, fd, ["rule", "hands"], fn_crowd_of Fn B Kn, hmg, Fn.kp, (Fn.binds fun _ _ _ _ _ _ us hl => match us, hl with | [_, _], _ => rfl)⟩
abbrev s_turns_of : Stmt := top 6
abbrev N_turns_of : List Str := ["rule", "turns", "meeting"]
theorem sc_turns_of : FnScope N_turns_of ["rule"] (defScope s_turns_of) := ⟨rfl, rfl, rfl, by decide +kernel, rfl, by decide +kernel, by decide +kernel⟩
def c_turns_of_r2 (v_turns : List (D × D)) : M D :=
  .ret (PyData.dict v_turns)
def c_turns_of_s1 (v_turns : List (D × D)) (d_ : D) (kn3 : List (D × D) × Unit → M D) : M D :=
  bd (bd (asI (.int 2)) fun lo4 => oM (fCut d_ lo4 none)) fun x5 => bd (bd (asI (.int 2)) fun hi6 => oM (fCut d_ none hi6)) fun x7 => bd (oM (dPut true v_turns x7 x5)) fun l8 => kn3 (l8, ())
def c_turns_of (p_rule : D) : M D :=
  bd (bd (oM (opIxA p_rule (.int 2))) fun x1 => oM (seqD x1)) fun l2 => forS (fun s9 d10 kn => c_turns_of_s1 s9.1 d10 kn) l2 ([], ()) (fun s9 => c_turns_of_r2 s9.1)
def mf_turns_of : List D → M D := fun l => match l with
  | [p_rule] => c_turns_of p_rule
  | _ => .bad
set_option maxHeartbeats 4000000 in
theorem fn_turns_of {f : Addr} {fd : FuncData} (Fn : Fun K "turns_of" "turns_of" s_turns_of f fd) (B : BN mg) (Kn : KN mg) : FnOk P w K mg base (CX1 P w) 1 f fd ["rule"] (spD K 1 mf_turns_of) :=
  fn_okD (k := 0) Fn sc_turns_of (fun cdv A outer s H E hr =>
  (ass_cons (as_to (sh := [.f, .t, .dead]) (as_dnew true (i := 1) sc_turns_of.nd rfl (by first | exact Or.inl rfl | exact Or.inr rfl) rfl (.inl rfl)))
   (ass_cons (as_forS (sh := [.dead, .t, .dead]) PassesOwn.leaving rfl (aei_pu (ai_seq (ap_ix (ix_any (room_u hr)) ok_ixA (ao (av 0)) (ao ap_int) (fun _ _ => rfl)))) (ag_name (i := 2) (Nat.zero_le _) sc_turns_of.nd rfl (by first | exact Or.inl rfl | exact Or.inr rfl) (.inl rfl))
    (ass_one (as_dput (room_u hr) (i := 1) rfl (by first | exact Or.inl rfl | exact Or.inr (Or.inl rfl) | exact Or.inr (Or.inr rfl)) (ae_pu (ap_slice (ao (av 2)) apo_none (apo_some ap_int))) (ae_pu (ap_slice (ao (av 2)) (apo_some ap_int) apo_none)) rfl)) (fun _ => rfl))
   (ass_one (as_frz (i := 1) (as_ret (ae_pu (av 1))))))))
  (fun ds hl => match ds, hl with | [p_rule], _ => by kernel_rfl)
theorem ok_turns_of {f : Addr} {fd : FuncData} (Fn : Fun K "turns_of" "turns_of" s_turns_of f fd) (hmg : mg "turns_of" = some (.ref f)) (B : BN mg) (Kn : KN mg) : CF P w K mg base "turns_of" 1 (spD K 1 mf_turns_of) :=
  ⟨f, fd, ["rule"], fn_turns_of Fn B Kn, hmg, Fn.kp, (Fn.binds fun _ _ _ _ _ _ us hl => match us, hl with | [_], _ => rfl)⟩
abbrev s_turned_from : Stmt := top 7
abbrev N_turned_from : List Str := ["turns", "one", "other", "turned"]
theorem sc_turned_from : FnScope N_turned_from ["turns", "one", "other"] (defScope s_turned_from) := ⟨rfl, rfl, rfl, by decide +kernel, rfl, by decide +kernel, by decide +kernel⟩
def c_turned_from (p_turns : D) (p_one : D) (p_other : D) : M D :=
  bd (oM (opLeA p_one p_other)) fun b1 => if b1 then
    bd (oM (dGet2 p_turns (.tuple [p_one, p_other]) (.tuple [p_one, p_other]))) fun x2 => .ret x2
   else
    bd (oM (dGet2 p_turns (.tuple [p_other, p_one]) (.tuple [p_other, p_one]))) fun x3 => bd (bd (oM (opIxA x3 (.int 1))) fun x4 => bd (oM (opIxA x3 (.int 0))) fun x5 => .ret (.tuple [x4, x5])) fun x6 => .ret x6
def mf_turned_from : List D → M D := fun l => match l with
  | [p_turns, p_one, p_other] => c_turned_from p_turns p_one p_other
  | _ => .bad
set_option maxHeartbeats 4000000 in
theorem fn_turned_from {f : Addr} {fd : FuncData} (Fn : Fun K "turned_from" "turned_from" s_turned_from f fd) (B : BN mg) (Kn : KN mg) : FnOk P w K mg base (CX1 P w) 1 f fd ["turns", "one", "other"] (spD K 3 mf_turned_from) :=
  fn_okD (k := 0) Fn sc_turned_from (fun cdv A outer s H E hr =>
  (ass_cons (as_if (aet_pu (at_cmp (op_leA (room_u hr)) ok_leA (ao (av 1)) (ao (av 2)) rfl))
    (ass_one (as_ret (ae_pu (ap_dget2 (room_u hr) (ao (av 0)) (ap_tup (aa_cons (av 1) (aa_cons (av 2) aa_nil (star_ok rfl)) (star_ok rfl)) (by decide +kernel)) (ap_tup (aa_cons (av 1) (aa_cons (av 2) aa_nil (star_ok rfl)) (star_ok rfl)) (by decide +kernel)) ⟨rfl, rfl, rfl, rfl⟩))))
    ass_nil)
   (ass_cons (as_to (sh := [.dead, .dead, .dead, .f]) (as_set (i := 3) sc_turned_from.nd rfl (by first | exact Or.inl rfl | exact Or.inr rfl) (ae_pu (ap_dget2 (room_u hr) (ao (av 0)) (ap_tup (aa_cons (av 2) (aa_cons (av 1) aa_nil (star_ok rfl)) (star_ok rfl)) (by decide +kernel)) (ap_tup (aa_cons (av 2) (aa_cons (av 1) aa_nil (star_ok rfl)) (star_ok rfl)) (by decide +kernel)) ⟨rfl, rfl, rfl, rfl⟩)) rfl (.inl rfl)))
   (ass_one (as_ret (ae_pu (ap_tup (aa_cons (ap_ix (ix_any (room_u hr)) ok_ixA (ao (av 3)) (ao ap_int) (fun _ _ => rfl)) (aa_cons (ap_ix (ix_any (room_u hr)) ok_ixA (ao (av 3)) (ao ap_int) (fun _ _ => rfl)) aa_nil (star_ok rfl)) (star_ok rfl)) (by decide +kernel))))))))
  (fun ds hl => match ds, hl with | [p_turns, p_one, p_other], _ => by kernel_rfl)
theorem ok_turned_from {f : Addr} {fd : FuncData} (Fn : Fun K "turned_from" "turned_from" s_turned_from f fd) (hmg : mg "turned_from" = some (.ref f)) (B : BN mg) (Kn : KN mg) : CF P w K mg base "turned_from" 1 (spD K 3 mf_turned_from) :=
  ⟨f, fd, ["turns", "one", "other"], fn_turned_from Fn B Kn, hmg, Fn.kp, (Fn.binds fun _ _ _ _ _ _ us hl => match us, hl with | [_, _, _], _ => rfl)⟩
abbrev s_hands_met : Stmt := top 8
abbrev N_hands_met : List Str := ["rule", "hands", "i", "j", "many", "rooms", "turned"]
theorem sc_hands_met : FnScope N_hands_met ["rule", "hands", "i", "j"] (defScope s_hands_met) := ⟨rfl, rfl, rfl, by decide +kernel, rfl, by decide +kernel, by decide +kernel⟩
def c_hands_met (p_rule : D) (p_hands : D) (p_i : D) (p_j : D) : M D :=
  bd (oM (fLen [p_hands])) fun x1 => bd (bd (bd (bd (oM (opLeA (.int 0) p_i)) fun b2 => if b2 then oM (opLtA p_i x1) else .ret false) fun b3 => .ret (!b3)) fun b7 => if b7 then .ret true else bd (bd (bd (oM (opLeA (.int 0) p_j)) fun b4 => if b4 then oM (opLtA p_j x1) else .ret false) fun b5 => .ret (!b5)) fun b6 => if b6 then .ret true else oM (opEq p_i p_j)) fun b8 => if b8 then
    .exc ⟨"NoMeeting", [("place", (.int 0))]⟩
   else
    bd (oM (fList [p_hands])) fun l9 => bd (bd (c_turns_of p_rule) fun x10 => bd (oM (opIxA p_hands p_i)) fun x11 => bd (oM (opIxA p_hands p_j)) fun x12 => c_turned_from x10 x11 x12) fun x13 => bd (oM (opIxA x13 (.int 0))) fun x14 => bd (oM (putD l9 p_i x14)) fun l15 => bd (oM (opIxA x13 (.int 1))) fun x16 => bd (oM (putD l15 p_j x16)) fun l17 => bd (oM (fTuple [(PyData.list l17)])) fun x18 => .ret x18
def mf_hands_met : List D → M D := fun l => match l with
  | [p_rule, p_hands, p_i, p_j] => c_hands_met p_rule p_hands p_i p_j
  | _ => .bad
set_option maxHeartbeats 4000000 in
theorem fn_hands_met {f : Addr} {fd : FuncData} (Fn : Fun K "hands_met" "hands_met" s_hands_met f fd) (B : BN mg) (Kn : KN mg) (C_turned_from : CF P w K mg base "turned_from" 1 (spD K 3 mf_turned_from)) (C_turns_of : CF P w K mg base "turns_of" 1 (spD K 1 mf_turns_of)) (X_NoMeeting : CCl P w K mg base "NoMeeting" 1 ["place"]) : FnOk P w K mg base (CX1 P w) 3 f fd ["rule", "hands", "i", "j"] (spD K 4 mf_hands_met) :=
  fn_okD (k := 2) Fn sc_hands_met (fun cdv A outer s H E hr =>
  (ass_cons (as_to (sh := [.f, .f, .f, .f, .f, .dead, .dead]) (as_set (i := 4) sc_hands_met.nd rfl (by first | exact Or.inl rfl | exact Or.inr rfl) (ae_pu (ap_callB call_lenA ok_len rfl B.len PySem.boot_len (aao_cons (ao (av 1)) aao_nil (star_ok rfl)) (by decide) (by decide) rfl rfl)) rfl (.inl rfl)))
   (ass_cons (as_if (aet_pu (at_aw (aw_or (at_not (at_chain (op_leA (room_u hr)) (op_ltA (room_u hr)) ok_leA ok_ltA (ao ap_int) (ao (av 2)) (ao (av 4)) (by with_unfolding_all rfl))) (aw_or (at_not (at_chain (op_leA (room_u hr)) (op_ltA (room_u hr)) ok_leA ok_ltA (ao ap_int) (ao (av 3)) (ao (av 4)) (by with_unfolding_all rfl))) (aw_or1 (at_cmp (opr_eq (room_u hr)) ok_D2 (ao (av 2)) (ao (av 3)) rfl))))))
    (ass_one (as_raise X_NoMeeting (hr.mono (by decide)) rfl (aea_cons (ae_pu ap_int) aea_nil (star_ok rfl)) rfl (by decide) (by decide) (star_ok rfl) rfl))
    ass_nil)
   (ass_cons (as_to (sh := [.f, .f, .f, .f, .dead, .o, .dead]) (as_setL (i := 5) sc_hands_met.nd rfl (by first | exact Or.inl rfl | exact Or.inr rfl) (ael_pu (al_callTy call_list_of ok_list rfl B.list (by decide +kernel) (aao_cons (ao (av 1)) aao_nil (star_ok rfl)) (by decide) (by decide) rfl rfl)) rfl (.inl rfl)))
   (ass_cons (as_to (sh := [.dead, .dead, .f, .f, .dead, .o, .f]) (as_set (i := 6) sc_hands_met.nd rfl (by first | exact Or.inl rfl | exact Or.inr rfl) (ae_pu (ap_fn C_turned_from (hr.mono (by decide)) rfl (aa_cons (ap_fn C_turns_of (hr.mono (by decide)) rfl (aa_cons (av 0) aa_nil (star_ok rfl)) rfl (by decide) rfl rfl) (aa_cons (ap_ix (ix_any (room_u hr)) ok_ixA (ao (av 1)) (ao (av 2)) (fun _ _ => rfl)) (aa_cons (ap_ix (ix_any (room_u hr)) ok_ixA (ao (av 1)) (ao (av 3)) (fun _ _ => rfl)) aa_nil (star_ok rfl)) (star_ok rfl)) (star_ok rfl)) rfl (by decide) rfl rfl)) rfl (.inl rfl)))
   (ass_cons (as_to (sh := [.dead, .dead, .dead, .f, .dead, .o, .f]) (as_put (i := 5) rfl (by first | exact Or.inl rfl | exact Or.inr (Or.inl rfl) | exact Or.inr (Or.inr rfl)) (ae_pu (av 2)) (ae_pu (ap_ix (ix_any (room_u hr)) ok_ixA (ao (av 6)) (ao ap_int) (fun _ _ => rfl))) (fun _ => rfl) rfl rfl rfl))
   (ass_cons (as_to (sh := [.dead, .dead, .dead, .dead, .dead, .o, .dead]) (as_put (i := 5) rfl (by first | exact Or.inl rfl | exact Or.inr (Or.inl rfl) | exact Or.inr (Or.inr rfl)) (ae_pu (av 3)) (ae_pu (ap_ix (ix_any (room_u hr)) ok_ixA (ao (av 6)) (ao ap_int) (fun _ _ => rfl))) (fun _ => rfl) rfl rfl rfl))
   (ass_one (as_ret (ae_pu (ap_callTy call_tuple_of ok_tuple rfl B.tuple (by decide +kernel) (aao_cons (ao_peek (i := 5) rfl (by first | exact Or.inl rfl | exact Or.inr (Or.inl rfl) | exact Or.inr (Or.inr rfl))) aao_nil (star_ok rfl)) (by decide) (by decide) rfl rfl)))))))))))
  (fun ds hl => match ds, hl with | [p_rule, p_hands, p_i, p_j], _ => by kernel_rfl)
theorem ok_hands_met {f : Addr} {fd : FuncData} (Fn : Fun K "hands_met" "hands_met" s_hands_met f fd) (hmg : mg "hands_met" = some (.ref f)) (B : BN mg) (Kn : KN mg) (C_turned_from : CF P w K mg base "turned_from" 1 (spD K 3 mf_turned_from)) (C_turns_of : CF P w K mg base "turns_of" 1 (spD K 1 mf_turns_of)) (X_NoMeeting : CCl P w K mg base "NoMeeting" 1 ["place"]) : CF P w K mg base "hands_met" 3 (spD K 4 mf_hands_met) :=
  ⟨f, fd, ["rule", "hands", "i", "j"], fn_hands_met Fn B Kn C_turned_from C_turns_of X_NoMeeting, hmg, Fn.kp, (Fn.binds fun _ _ _ _ _ _ us hl => match us, hl with | [_, _, _, _], _ => rfl)⟩
abbrev s__law_feed : Stmt := top 10
abbrev N__law_feed : List Str := ["_law_script", "_law_k", "_law_cell", "_law_great"]
theorem sc__law_feed : FnScope N__law_feed ["_law_script", "_law_k"] (defScope s__law_feed) := ⟨rfl, rfl, rfl, by decide +kernel, rfl, by decide +kernel, by decide +kernel⟩
def c__law_feed (p_law_script : D) (p_law_k : D) : M (List D) :=
  bd (bd (bd (oM (fLen [p_law_script])) fun x1 => oM (opGt x1 (.int 0))) fun b4 => if b4 then bd (bd (oM (fLen [p_law_script])) fun x2 => oM (opMod p_law_k x2)) fun x3 => oM (opIxA p_law_script x3) else .ret (.int 0)) fun x5 => bd (bd (bd (oM (fAbs [x5])) fun x6 => bd (oM (opPow (.int 10) (.int 18))) fun x7 => oM (opGe x6 x7)) fun b8 => if b8 then oM (fAbs [x5]) else .ret (.int 0)) fun x9 => bd (bd (bd (oM (opMod x5 (.int 1000003))) fun x10 => bd (oM (opMulI (.int 7919) p_law_k)) fun x11 => oM (opAdd x10 x11)) fun x12 => .ret [x9, x12, (.int 0)]) fun l13 => .ret l13
def mf__law_feed : List D → M (List D) := fun l => match l with
  | [p_law_script, p_law_k] => c__law_feed p_law_script p_law_k
  | _ => .bad
set_option maxHeartbeats 4000000 in
theorem fn__law_feed {f : Addr} {fd : FuncData} (Fn : Fun K "_law_feed" "_law_feed" s__law_feed f fd) (B : BN mg) (Kn : KN mg) : FnOk P w K mg base (CX1 P w) 1 f fd ["_law_script", "_law_k"] (spL K 2 mf__law_feed) :=
  fn_okL (k := 0) Fn sc__law_feed (fun cdv A outer s H E hr =>
  (ass_cons (as_to (sh := [.dead, .f, .f, .dead]) (as_set (i := 2) sc__law_feed.nd rfl (by first | exact Or.inl rfl | exact Or.inr rfl) (ae_pu (ap_if (at_cmp op_gt ok_gt (ao (ap_callB call_lenA ok_len rfl B.len PySem.boot_len (aao_cons (ao (av 0)) aao_nil (star_ok rfl)) (by decide) (by decide) rfl rfl)) (ao ap_int) rfl) (ap_ix (ix_any (room_u hr)) ok_ixA (ao (av 0)) (ao (ap_bin op_mod ok_mod (ao (av 1)) (ao (ap_callB call_lenA ok_len rfl B.len PySem.boot_len (aao_cons (ao (av 0)) aao_nil (star_ok rfl)) (by decide) (by decide) rfl rfl)))) (fun _ _ => rfl)) ap_int)) rfl (.inl rfl)))
   (ass_cons (as_to (sh := [.dead, .f, .f, .f]) (as_set (i := 3) sc__law_feed.nd rfl (by first | exact Or.inl rfl | exact Or.inr rfl) (ae_pu (ap_if (at_cmp op_ge ok_ge (ao (ap_callB call_abs ok_abs rfl B.abs (by decide +kernel) (aao_cons (ao (av 2)) aao_nil (star_ok rfl)) (by decide) (by decide) rfl rfl)) (ao (ap_bin op_pow ok_pow (ao ap_int) (ao ap_int))) rfl) (ap_callB call_abs ok_abs rfl B.abs (by decide +kernel) (aao_cons (ao (av 2)) aao_nil (star_ok rfl)) (by decide) (by decide) rfl rfl) ap_int)) rfl (.inl rfl)))
   (ass_one (as_retL (ael_pu (al_lst (aa_cons (av 3) (aa_cons (ap_bin op_addA ok_add (ao (ap_bin op_mod ok_mod (ao (av 2)) (ao ap_int))) (ao (ap_bin op_mul ok_mul (ao ap_int) (ao (av 1))))) (aa_cons ap_int aa_nil (star_ok rfl)) (star_ok rfl)) (star_ok rfl)) (by decide +kernel))))))))
  (fun ds hl => match ds, hl with | [p_law_script, p_law_k], _ => by kernel_rfl)
theorem ok__law_feed {f : Addr} {fd : FuncData} (Fn : Fun K "_law_feed" "_law_feed" s__law_feed f fd) (hmg : mg "_law_feed" = some (.ref f)) (B : BN mg) (Kn : KN mg) : CF P w K mg base "_law_feed" 1 (spL K 2 mf__law_feed) :=
  ⟨f, fd, ["_law_script", "_law_k"], fn__law_feed Fn B Kn, hmg, Fn.kp, (Fn.binds fun _ _ _ _ _ _ us hl => match us, hl with | [_, _], _ => rfl)⟩
abbrev s__law_next : Stmt := top 11
abbrev N__law_next : List Str := ["_law_feed_here", "_law_many", "_law_digit", "_law_turn", "_law_one_here"]
theorem sc__law_next : FnScope N__law_next ["_law_feed_here", "_law_many"] (defScope s__law_next) := ⟨rfl, rfl, rfl, by decide +kernel, rfl, by decide +kernel, by decide +kernel⟩
def c__law_next (p_law_feed_here : List D) (p_law_many : D) : M (D × List D) :=
  bd (bd (oM (opIxA (PyData.list p_law_feed_here) (.int 0))) fun x1 => oM (opGt x1 (.int 0))) fun b2 => if b2 then
    bd (bd (oM (opIxA (PyData.list p_law_feed_here) (.int 0))) fun x3 => oM (opMod x3 p_law_many)) fun x4 => bd (bd (oM (opIxA (PyData.list p_law_feed_here) (.int 0))) fun x5 => oM (opDiv x5 p_law_many)) fun x6 => bd (oM (putD p_law_feed_here (.int 0) x6)) fun l7 => .ret (x4, l7)
   else
    bd (bd (oM (opIxA (PyData.list p_law_feed_here) (.int 2))) fun x8 => oM (opAdd x8 (.int 1))) fun x9 => bd (oM (putD p_law_feed_here (.int 2) x9)) fun l10 => bd (bd (bd (bd (bd (oM (opIxA (PyData.list l10) (.int 1))) fun x11 => bd (oM (opMulI (.int 41) x9)) fun x12 => oM (opAdd x11 x12)) fun x13 => oM (opAdd x13 (.int 3))) fun x15 => bd (bd (oM (opMulI x9 x9)) fun x14 => oM (opAdd x14 (.int 69621))) fun x16 => oM (opMulI x15 x16)) fun x17 => oM (opMod x17 (.int 998244353))) fun x18 => bd (bd (bd (bd (bd (bd (bd (oM (opMod x18 (.int 65519))) fun x19 => oM (opAdd x19 (.int 40692))) fun x20 => oM (opMulI x18 x20)) fun x21 => oM (opAdd x21 x9)) fun x22 => oM (opMod x22 (.int 2147483629))) fun x23 => oM (opDiv x23 (.int 13))) fun x24 => oM (opMod x24 p_law_many)) fun x25 => .ret (x25, l10)
def mf__law_next : List D → List D → M (D × List D) := fun p_law_feed_here l => match l with
  | [p_law_many] => c__law_next p_law_feed_here p_law_many
  | _ => .bad
set_option maxHeartbeats 4000000 in
theorem fn__law_next {f : Addr} {fd : FuncData} (Fn : Fun K "_law_next" "_law_next" s__law_next f fd) (B : BN mg) (Kn : KN mg) : FnOk P w K mg base (CX1 P w) 1 f fd ["_law_feed_here", "_law_many"] (sp1 K 2 mf__law_next) :=
  fn_ok1 (k := 0) Fn sc__law_next (fun cdv A outer s H E hr =>
  (ass_cons (as_if (aet_pu (at_cmp op_gt ok_gt (ao (ap_ix (ix_any (room_u hr)) ok_ixA (ao_peek (i := 0) rfl (by first | exact Or.inl rfl | exact Or.inr (Or.inl rfl) | exact Or.inr (Or.inr rfl))) (ao ap_int) (fun _ _ => rfl))) (ao ap_int) rfl))
    (ass_cons (as_to (sh := [.p, .f, .f, .dead, .dead]) (as_set (i := 2) sc__law_next.nd rfl (by first | exact Or.inl rfl | exact Or.inr rfl) (ae_pu (ap_bin op_mod ok_mod (ao (ap_ix (ix_any (room_u hr)) ok_ixA (ao_peek (i := 0) rfl (by first | exact Or.inl rfl | exact Or.inr (Or.inl rfl) | exact Or.inr (Or.inr rfl))) (ao ap_int) (fun _ _ => rfl))) (ao (av 1)))) rfl (.inl rfl)))
   (ass_cons (as_to (sh := [.p, .dead, .f, .dead, .dead]) (as_put (i := 0) rfl (by first | exact Or.inl rfl | exact Or.inr (Or.inl rfl) | exact Or.inr (Or.inr rfl)) (ae_pu ap_int) (ae_pu (ap_bin op_fdiv ok_div (ao (ap_ix (ix_any (room_u hr)) ok_ixA (ao_peek (i := 0) rfl (by first | exact Or.inl rfl | exact Or.inr (Or.inl rfl) | exact Or.inr (Or.inr rfl))) (ao ap_int) (fun _ _ => rfl))) (ao (av 1)))) (fun _ => rfl) rfl rfl rfl))
   (ass_one (as_ret (ae_pu (av 2))))))
    ass_nil)
   (ass_cons (as_to (sh := [.p, .f, .dead, .f, .dead]) (as_set (i := 3) sc__law_next.nd rfl (by first | exact Or.inl rfl | exact Or.inr rfl) (ae_pu (ap_bin op_addA ok_add (ao (ap_ix (ix_any (room_u hr)) ok_ixA (ao_peek (i := 0) rfl (by first | exact Or.inl rfl | exact Or.inr (Or.inl rfl) | exact Or.inr (Or.inr rfl))) (ao ap_int) (fun _ _ => rfl))) (ao ap_int))) rfl (.inl rfl)))
   (ass_cons (as_to (sh := [.p, .f, .dead, .f, .dead]) (as_put (i := 0) rfl (by first | exact Or.inl rfl | exact Or.inr (Or.inl rfl) | exact Or.inr (Or.inr rfl)) (ae_pu ap_int) (ae_pu (av 3)) (fun _ => rfl) rfl rfl rfl))
   (ass_cons (as_to (sh := [.p, .f, .dead, .f, .f]) (as_set (i := 4) sc__law_next.nd rfl (by first | exact Or.inl rfl | exact Or.inr rfl) (ae_pu (ap_bin op_mod ok_mod (ao (ap_bin op_mul ok_mul (ao (ap_bin op_addA ok_add (ao (ap_bin op_addA ok_add (ao (ap_ix (ix_any (room_u hr)) ok_ixA (ao_peek (i := 0) rfl (by first | exact Or.inl rfl | exact Or.inr (Or.inl rfl) | exact Or.inr (Or.inr rfl))) (ao ap_int) (fun _ _ => rfl))) (ao (ap_bin op_mul ok_mul (ao ap_int) (ao (av 3)))))) (ao ap_int))) (ao (ap_bin op_addA ok_add (ao (ap_bin op_mul ok_mul (ao (av 3)) (ao (av 3)))) (ao ap_int))))) (ao ap_int))) rfl (.inl rfl)))
   (ass_one (as_ret (ae_pu (ap_bin op_mod ok_mod (ao (ap_bin op_fdiv ok_div (ao (ap_bin op_mod ok_mod (ao (ap_bin op_addA ok_add (ao (ap_bin op_mul ok_mul (ao (av 4)) (ao (ap_bin op_addA ok_add (ao (ap_bin op_mod ok_mod (ao (av 4)) (ao ap_int))) (ao ap_int))))) (ao (av 3)))) (ao ap_int))) (ao ap_int))) (ao (av 1)))))))))))
  (fun g ds hl => match ds, hl with | [p_law_many], _ => by kernel_rfl)
theorem ok__law_next {f : Addr} {fd : FuncData} (Fn : Fun K "_law_next" "_law_next" s__law_next f fd) (hmg : mg "_law_next" = some (.ref f)) (B : BN mg) (Kn : KN mg) : CF P w K mg base "_law_next" 1 (sp1 K 2 mf__law_next) :=
  ⟨f, fd, ["_law_feed_here", "_law_many"], fn__law_next Fn B Kn, hmg, Fn.kp, (Fn.binds fun _ _ _ _ _ _ us hl => match us, hl with | [_, _], _ => rfl)⟩
abbrev s__law_one : Stmt := top 12
abbrev N__law_one : List Str := ["_law_feed_here", "_law_some"]
theorem sc__law_one : FnScope N__law_one ["_law_feed_here", "_law_some"] (defScope s__law_one) := ⟨rfl, rfl, rfl, by decide +kernel, rfl, by decide +kernel, by decide +kernel⟩
def c__law_one (p_law_feed_here : List D) (p_law_some : D) : M (D × List D) :=
  bd (oM (fLen [p_law_some])) fun x1 => bd (c__law_next p_law_feed_here x1) fun r2 => bd (oM (opIxA p_law_some r2.1)) fun x3 => .ret (x3, r2.2)
def mf__law_one : List D → List D → M (D × List D) := fun p_law_feed_here l => match l with
  | [p_law_some] => c__law_one p_law_feed_here p_law_some
  | _ => .bad
set_option maxHeartbeats 4000000 in
theorem fn__law_one {f : Addr} {fd : FuncData} (Fn : Fun K "_law_one" "_law_one" s__law_one f fd) (B : BN mg) (Kn : KN mg) (C__law_next : CF P w K mg base "_law_next" 1 (sp1 K 2 mf__law_next)) : FnOk P w K mg base (CX1 P w) 2 f fd ["_law_feed_here", "_law_some"] (sp1 K 2 mf__law_one) :=
  fn_ok1 (k := 1) Fn sc__law_one (fun cdv A outer s H E hr =>
  (ass_one (as_ret (ae_ix (ix_any (room_u hr)) ok_ixA (ae_pu (av 1)) (ae_fn1 (i := 0) C__law_next (hr.mono (by decide)) rfl rfl (by first | exact Or.inl rfl | exact Or.inr (Or.inl rfl) | exact Or.inr (Or.inr rfl)) (aea_cons (ae_pu (ap_callB call_lenA ok_len rfl B.len PySem.boot_len (aao_cons (ao (av 1)) aao_nil (star_ok rfl)) (by decide) (by decide) rfl rfl)) aea_nil (star_ok rfl)) rfl (by decide) rfl rfl) (fun _ _ => rfl)))))
  (fun g ds hl => match ds, hl with | [p_law_some], _ => by kernel_rfl)
theorem ok__law_one {f : Addr} {fd : FuncData} (Fn : Fun K "_law_one" "_law_one" s__law_one f fd) (hmg : mg "_law_one" = some (.ref f)) (B : BN mg) (Kn : KN mg) (C__law_next : CF P w K mg base "_law_next" 1 (sp1 K 2 mf__law_next)) : CF P w K mg base "_law_one" 2 (sp1 K 2 mf__law_one) :=
  ⟨f, fd, ["_law_feed_here", "_law_some"], fn__law_one Fn B Kn C__law_next, hmg, Fn.kp, (Fn.binds fun _ _ _ _ _ _ us hl => match us, hl with | [_, _], _ => rfl)⟩
abbrev s__law_rule : Stmt := top 13
abbrev N__law_rule : List Str := ["_law_feed_here", "_law_most", "_law_sorts", "_law_rooms", "_law_often", "_law_meets", "_law_a", "_law_b", "_law_c", "_law_d", "_law_starts"]
theorem sc__law_rule : FnScope N__law_rule ["_law_feed_here", "_law_most", "_law_sorts"] (defScope s__law_rule) := ⟨rfl, rfl, rfl, by decide +kernel, rfl, by decide +kernel, by decide +kernel⟩
abbrev N__law_rule_0 : List Str := ["_law_feed_here", "_law_most", "_law_sorts", "_law_rooms", "_law_often", "_law_meets", "_law_a", "_law_b", "_law_c", "_law_d", "_law_starts", "_law_sort"]
theorem nd_N__law_rule_0 : N__law_rule_0.Nodup := by decide +kernel
abbrev N__law_rule_1 : List Str := ["_law_feed_here", "_law_most", "_law_sorts", "_law_rooms", "_law_often", "_law_meets", "_law_a", "_law_b", "_law_c", "_law_d", "_law_starts", "_law_room"]
theorem nd_N__law_rule_1 : N__law_rule_1.Nodup := by decide +kernel
def c__law_rule_r2 (v_law_feed_here : List D) (v_law_sorts : D) (v_law_rooms : D) (v_law_often : D) (v_law_meets : List D) : M (D × List D) :=
  bd (oM (fRange1 [v_law_sorts])) fun l6 => bd (compE (fun s7 d8 => bd (c__law_next s7.1 s7.2.2.1) fun r9 => .ret (some r9.1, (r9.2, s7.2.1, s7.2.2.1, s7.2.2.2.1, ()))) l6 (v_law_feed_here, v_law_sorts, v_law_rooms, v_law_meets, ())) fun r10 => bd (fitM r10.1) fun l11 => bd (oM (fTuple [(PyData.list l11)])) fun x12 => bd (oM (fTuple [(PyData.list r10.2.2.2.2.1)])) fun x13 => bd (oM (fRange1 [r10.2.2.2.1])) fun l14 => bd (compE (fun s15 d16 => bd (c__law_next s15.1 (.int 2)) fun r17 => bd (oM (opEq r17.1 (.int 0))) fun b18 => .ret (some (.bool b18), (r17.2, s15.2.1, ()))) l14 (r10.2.1, r10.2.2.2.1, ())) fun r19 => bd (fitM r19.1) fun l20 => bd (oM (fTuple [(PyData.list l20)])) fun x21 => .ret ((.tuple [r10.2.2.2.1, x12, x13, x21]), r19.2.1)
def c__law_rule_r4 (kn22 : List D × D × D × D × List D × Unit → M (D × List D)) (v_law_feed_here : List D) (v_law_sorts : D) (v_law_rooms : D) (v_law_often : D) (v_law_meets : List D) (v_law_a : D) : M (D × List D) :=
  kn22 (v_law_feed_here, v_law_sorts, v_law_rooms, v_law_often, v_law_meets, ())
def c__law_rule_s3 (kn22 : List D × D × D × D × List D × Unit → M (D × List D)) (v_law_feed_here : List D) (v_law_sorts : D) (v_law_rooms : D) (v_law_often : D) (v_law_meets : List D) (v_law_a : D) (d_ : D) (kn24 : List D × D × D × D × List D × D × Unit → M (D × List D)) : M (D × List D) :=
  bd (c__law_next v_law_feed_here v_law_rooms) fun r25 => bd (c__law_next r25.2 v_law_rooms) fun r26 => bd (c__law_one r26.2 (.list [d_, v_law_a, r26.1])) fun r27 => bd (c__law_next r27.2 v_law_often) fun r28 => bd (oM (opEq r28.1 (.int 0))) fun b29 => if b29 then bd (oM (opNotInA (.tuple [r25.1, r27.1]) (.tuple [(.tuple [v_law_a, d_]), (.tuple [d_, v_law_a])]))) fun b30 => if b30 then
    bd (oM (mApp v_law_meets [(.tuple [v_law_a, d_, r25.1, r27.1])])) fun l31 => kn24 (r28.2, v_law_sorts, v_law_rooms, v_law_often, l31, v_law_a, ())
   else
    kn24 (r28.2, v_law_sorts, v_law_rooms, v_law_often, v_law_meets, v_law_a, ()) else kn24 (r28.2, v_law_sorts, v_law_rooms, v_law_often, v_law_meets, v_law_a, ())
def c__law_rule_s1 (v_law_feed_here : List D) (v_law_sorts : D) (v_law_rooms : D) (v_law_often : D) (v_law_meets : List D) (d_ : D) (kn22 : List D × D × D × D × List D × Unit → M (D × List D)) : M (D × List D) :=
  bd (oM (fRange2 [d_, v_law_rooms])) fun l23 => forS (fun s32 d33 kn => c__law_rule_s3 kn22 s32.1 s32.2.1 s32.2.2.1 s32.2.2.2.1 s32.2.2.2.2.1 s32.2.2.2.2.2.1 d33 kn) l23 (v_law_feed_here, v_law_sorts, v_law_rooms, v_law_often, v_law_meets, d_, ()) (fun s32 => c__law_rule_r4 kn22 s32.1 s32.2.1 s32.2.2.1 s32.2.2.2.1 s32.2.2.2.2.1 s32.2.2.2.2.2.1)
def c__law_rule (p_law_feed_here : List D) (p_law_most : D) (p_law_sorts : D) : M (D × List D) :=
  bd (c__law_next p_law_feed_here p_law_most) fun r1 => bd (oM (opAdd (.int 1) r1.1)) fun x2 => bd (c__law_next r1.2 (.int 3)) fun r3 => bd (oM (opAdd (.int 1) r3.1)) fun x4 => bd (oM (fRange1 [x2])) fun l5 => forS (fun s34 d35 kn => c__law_rule_s1 s34.1 s34.2.1 s34.2.2.1 s34.2.2.2.1 s34.2.2.2.2.1 d35 kn) l5 (r3.2, p_law_sorts, x2, x4, [], ()) (fun s34 => c__law_rule_r2 s34.1 s34.2.1 s34.2.2.1 s34.2.2.2.1 s34.2.2.2.2.1)
def mf__law_rule : List D → List D → M (D × List D) := fun p_law_feed_here l => match l with
  | [p_law_most, p_law_sorts] => c__law_rule p_law_feed_here p_law_most p_law_sorts
  | _ => .bad
set_option maxHeartbeats 4000000 in
theorem fn__law_rule {f : Addr} {fd : FuncData} (Fn : Fun K "_law_rule" "_law_rule" s__law_rule f fd) (B : BN mg) (Kn : KN mg) (C__law_next : CF P w K mg base "_law_next" 1 (sp1 K 2 mf__law_next)) (C__law_one : CF P w K mg base "_law_one" 2 (sp1 K 2 mf__law_one)) : FnOk P w K mg base (CX1 P w) 3 f fd ["_law_feed_here", "_law_most", "_law_sorts"] (sp1 K 3 mf__law_rule) :=
  fn_ok1 (k := 2) Fn sc__law_rule (fun cdv A outer s H E hr =>
  (ass_cons (as_to (sh := [.p, .dead, .f, .f, .dead, .dead, .dead, .dead, .dead, .dead, .dead]) (as_set (i := 3) sc__law_rule.nd rfl (by first | exact Or.inl rfl | exact Or.inr rfl) (ae_bin op_addA ok_add (ae_pu ap_int) (ae_fn1 (i := 0) C__law_next (hr.mono (by decide)) rfl rfl (by first | exact Or.inl rfl | exact Or.inr (Or.inl rfl) | exact Or.inr (Or.inr rfl)) (aea_cons (ae_pu (av 1)) aea_nil (star_ok rfl)) rfl (by decide) rfl rfl)) rfl (.inl rfl)))
   (ass_cons (as_to (sh := [.p, .dead, .f, .f, .f, .dead, .dead, .dead, .dead, .dead, .dead]) (as_set (i := 4) sc__law_rule.nd rfl (by first | exact Or.inl rfl | exact Or.inr rfl) (ae_bin op_addA ok_add (ae_pu ap_int) (ae_fn1 (i := 0) C__law_next (hr.mono (by decide)) rfl rfl (by first | exact Or.inl rfl | exact Or.inr (Or.inl rfl) | exact Or.inr (Or.inr rfl)) (aea_cons (ae_pu ap_int) aea_nil (star_ok rfl)) rfl (by decide) rfl rfl)) rfl (.inl rfl)))
   (ass_cons (as_to (sh := [.p, .dead, .f, .f, .f, .o, .dead, .dead, .dead, .dead, .dead]) (as_setL (i := 5) sc__law_rule.nd rfl (by first | exact Or.inl rfl | exact Or.inr rfl) (ael_pu (al_lst aa_nil (by decide +kernel))) rfl (.inl rfl)))
   (ass_cons (as_forS (sh := [.p, .dead, .f, .f, .f, .o, .dead, .dead, .dead, .dead, .dead]) PassesOwn.leaving rfl (aei_pu (ai_range1 rfl B.range (aa_cons (av 3) aa_nil (star_ok rfl)) rfl)) (ag_name (i := 6) (Nat.zero_le _) sc__law_rule.nd rfl (by first | exact Or.inl rfl | exact Or.inr rfl) (.inl rfl))
    (ass_one (as_forS (sh := [.p, .dead, .f, .f, .f, .o, .f, .dead, .dead, .dead, .dead]) PassesOwn.leaving rfl (aei_pu (ai_range2 rfl B.range (aa_cons (av 6) (aa_cons (av 3) aa_nil (star_ok rfl)) (star_ok rfl)) rfl rfl)) (ag_name (i := 7) (Nat.zero_le _) sc__law_rule.nd rfl (by first | exact Or.inl rfl | exact Or.inr rfl) (.inl rfl))
    (ass_cons (as_to (sh := [.p, .dead, .f, .f, .f, .o, .f, .f, .f, .f, .dead]) (as_par (i := 8) (j := 9) rfl sc__law_rule.nd rfl rfl (by decide) rfl rfl (aea_cons (ae_fn1 (i := 0) C__law_next (hr.mono (by decide)) rfl rfl (by first | exact Or.inl rfl | exact Or.inr (Or.inl rfl) | exact Or.inr (Or.inr rfl)) (aea_cons (ae_pu (av 3)) aea_nil (star_ok rfl)) rfl (by decide) rfl rfl) (aea_cons (ae_fn1 (i := 0) C__law_one (hr.mono (by decide)) rfl rfl (by first | exact Or.inl rfl | exact Or.inr (Or.inl rfl) | exact Or.inr (Or.inr rfl)) (aea_cons (ae_z (ael_lst (aea_cons (ae_pu (av 7)) (aea_cons (ae_pu (av 6)) (aea_cons (ae_fn1 (i := 0) C__law_next (hr.mono (by decide)) rfl rfl (by first | exact Or.inl rfl | exact Or.inr (Or.inl rfl) | exact Or.inr (Or.inr rfl)) (aea_cons (ae_pu (av 3)) aea_nil (star_ok rfl)) rfl (by decide) rfl rfl) aea_nil (star_ok rfl)) (star_ok rfl)) (star_ok rfl)) (by decide +kernel))) aea_nil (star_ok rfl)) rfl (by decide) rfl rfl) aea_nil (star_ok rfl)) (star_ok rfl)) rfl rfl))
   (ass_one (as_if (aet_aw (aew_and (aet_cmp (opr_eq (room_u hr)) ok_D2 (ae_fn1 (i := 0) C__law_next (hr.mono (by decide)) rfl rfl (by first | exact Or.inl rfl | exact Or.inr (Or.inl rfl) | exact Or.inr (Or.inr rfl)) (aea_cons (ae_pu (av 4)) aea_nil (star_ok rfl)) rfl (by decide) rfl rfl) (ae_pu ap_int) rfl) (aew_and1 (aet_pu (at_cmp (opr_notInA (room_u hr)) ok_notInA (ao (ap_tup (aa_cons (av 8) (aa_cons (av 9) aa_nil (star_ok rfl)) (star_ok rfl)) (by decide +kernel))) (ao (ap_tup (aa_cons (ap_tup (aa_cons (av 6) (aa_cons (av 7) aa_nil (star_ok rfl)) (star_ok rfl)) (by decide +kernel)) (aa_cons (ap_tup (aa_cons (av 7) (aa_cons (av 6) aa_nil (star_ok rfl)) (star_ok rfl)) (by decide +kernel)) aa_nil (star_ok rfl)) (star_ok rfl)) (by decide +kernel))) rfl)))))
    (ass_one (as_app (i := 5) rfl (by first | exact Or.inl rfl | exact Or.inr (Or.inl rfl) | exact Or.inr (Or.inr rfl)) (aea_cons (ae_pu (ap_tup (aa_cons (av 6) (aa_cons (av 7) (aa_cons (av 8) (aa_cons (av 9) aa_nil (star_ok rfl)) (star_ok rfl)) (star_ok rfl)) (star_ok rfl)) (by decide +kernel))) aea_nil (star_ok rfl)) rfl rfl rfl rfl rfl rfl))
    ass_nil))) (fun _ => rfl))) (fun _ => rfl))
   (ass_cons (as_to (sh := [.p, .dead, .dead, .f, .dead, .o, .dead, .dead, .dead, .dead, .f]) (as_set (i := 10) sc__law_rule.nd rfl (by first | exact Or.inl rfl | exact Or.inr rfl) (ae_callTy call_tuple_of ok_tuple rfl B.tuple (by decide +kernel) (aea_cons (ae_z (ael_comp (sh := [.p, .dead, .f, .f, .dead, .o, .dead, .dead, .dead, .dead, .dead]) (N' := N__law_rule_0) (k := 1) rfl (compOk_of (N := N__law_rule) (sc := (defScope s__law_rule)) (by decide +kernel) rfl rfl) (aei_pu (ai_range1 rfl B.range (aa_cons (av 2) aa_nil (star_ok rfl)) rfl)) (fun cl s' H' fp C' => (ag_name (i := 11) (show 11 ≤ 11 by decide) nd_N__law_rule_0 rfl (by first | exact Or.inl rfl | exact Or.inr rfl) (.inr rfl))) (fun cl s' H' fp C' => (aets_pu ats_nil)) (fun cl s' H' fp C' => (ae_fn1 (i := 0) C__law_next (hr.mono (by decide)) rfl rfl (by first | exact Or.inl rfl | exact Or.inr (Or.inl rfl) | exact Or.inr (Or.inr rfl)) (aea_cons (ae_pu (av 3)) aea_nil (star_ok rfl)) rfl (by decide) rfl rfl)) (fun _ => rfl))) aea_nil (star_ok rfl)) (by decide) (by decide) rfl rfl) rfl (.inl rfl)))
   (ass_one (as_ret (ae_tup (aea_cons (ae_pu (av 3)) (aea_cons (ae_pu (av 10)) (aea_cons (ae_pu (ap_callTy call_tuple_of ok_tuple rfl B.tuple (by decide +kernel) (aao_cons (ao_peek (i := 5) rfl (by first | exact Or.inl rfl | exact Or.inr (Or.inl rfl) | exact Or.inr (Or.inr rfl))) aao_nil (star_ok rfl)) (by decide) (by decide) rfl rfl)) (aea_cons (ae_callTy call_tuple_of ok_tuple rfl B.tuple (by decide +kernel) (aea_cons (ae_z (ael_comp (sh := [.p, .dead, .dead, .f, .dead, .dead, .dead, .dead, .dead, .dead, .dead]) (N' := N__law_rule_1) (k := 1) rfl (compOk_of (N := N__law_rule) (sc := (defScope s__law_rule)) (by decide +kernel) rfl rfl) (aei_pu (ai_range1 rfl B.range (aa_cons (av 3) aa_nil (star_ok rfl)) rfl)) (fun cl s' H' fp C' => (ag_name (i := 11) (show 11 ≤ 11 by decide) nd_N__law_rule_1 rfl (by first | exact Or.inl rfl | exact Or.inr rfl) (.inr rfl))) (fun cl s' H' fp C' => (aets_pu ats_nil)) (fun cl s' H' fp C' => (ae_b (aeb_cmp (opr_eq (room_u hr)) ok_D2 (ae_fn1 (i := 0) C__law_next (hr.mono (by decide)) rfl rfl (by first | exact Or.inl rfl | exact Or.inr (Or.inl rfl) | exact Or.inr (Or.inr rfl)) (aea_cons (ae_pu ap_int) aea_nil (star_ok rfl)) rfl (by decide) rfl rfl) (ae_pu ap_int) rfl))) (fun _ => rfl))) aea_nil (star_ok rfl)) (by decide) (by decide) rfl rfl) aea_nil (star_ok rfl)) (star_ok rfl)) (star_ok rfl)) (star_ok rfl)) (by decide +kernel))))))))))
  (fun g ds hl => match ds, hl with | [p_law_most, p_law_sorts], _ => by kernel_rfl)
theorem ok__law_rule {f : Addr} {fd : FuncData} (Fn : Fun K "_law_rule" "_law_rule" s__law_rule f fd) (hmg : mg "_law_rule" = some (.ref f)) (B : BN mg) (Kn : KN mg) (C__law_next : CF P w K mg base "_law_next" 1 (sp1 K 2 mf__law_next)) (C__law_one : CF P w K mg base "_law_one" 2 (sp1 K 2 mf__law_one)) : CF P w K mg base "_law_rule" 3 (sp1 K 3 mf__law_rule) :=
  ⟨f, fd, ["_law_feed_here", "_law_most", "_law_sorts"], fn__law_rule Fn B Kn C__law_next C__law_one, hmg, Fn.kp, (Fn.binds fun _ _ _ _ _ _ us hl => match us, hl with | [_, _, _], _ => rfl)⟩
abbrev s__law_counts : Stmt := top 14
abbrev N__law_counts : List Str := ["_law_feed_here", "_law_sorts", "_law_most", "_law_row"]
theorem sc__law_counts : FnScope N__law_counts ["_law_feed_here", "_law_sorts", "_law_most"] (defScope s__law_counts) := ⟨rfl, rfl, rfl, by decide +kernel, rfl, by decide +kernel, by decide +kernel⟩
abbrev N__law_counts_0 : List Str := ["_law_feed_here", "_law_sorts", "_law_most", "_law_row", "_law_sort"]
theorem nd_N__law_counts_0 : N__law_counts_0.Nodup := by decide +kernel
def c__law_counts_j1 (v_law_feed_here : List D) (v_law_row : List D) : M (D × List D) :=
  bd (oM (fTuple [(PyData.list v_law_row)])) fun x12 => .ret (x12, v_law_feed_here)
def c__law_counts (p_law_feed_here : List D) (p_law_sorts : D) (p_law_most : D) : M (D × List D) :=
  bd (oM (fRange1 [p_law_sorts])) fun l1 => bd (compE (fun s2 d3 => bd (oM (opAdd s2.2.2.1 (.int 1))) fun x4 => bd (c__law_next s2.1 x4) fun r5 => .ret (some r5.1, (r5.2, s2.2.1, s2.2.2.1, ()))) l1 (p_law_feed_here, p_law_sorts, p_law_most, ())) fun r6 => bd (fitM r6.1) fun l7 => bd (bd (oM (fMaxA [(PyData.list l7)])) fun x8 => oM (opEq x8 (.int 0))) fun b9 => if b9 then
    bd (c__law_next r6.2.1 r6.2.2.1) fun r10 => bd (oM (putD l7 r10.1 (.int 1))) fun l11 => c__law_counts_j1 r10.2 l11
   else
    c__law_counts_j1 r6.2.1 l7
def mf__law_counts : List D → List D → M (D × List D) := fun p_law_feed_here l => match l with
  | [p_law_sorts, p_law_most] => c__law_counts p_law_feed_here p_law_sorts p_law_most
  | _ => .bad
set_option maxHeartbeats 4000000 in
theorem fn__law_counts {f : Addr} {fd : FuncData} (Fn : Fun K "_law_counts" "_law_counts" s__law_counts f fd) (B : BN mg) (Kn : KN mg) (C__law_next : CF P w K mg base "_law_next" 1 (sp1 K 2 mf__law_next)) : FnOk P w K mg base (CX1 P w) 2 f fd ["_law_feed_here", "_law_sorts", "_law_most"] (sp1 K 3 mf__law_counts) :=
  fn_ok1 (k := 1) Fn sc__law_counts (fun cdv A outer s H E hr =>
  (ass_cons (as_to (sh := [.p, .f, .dead, .o]) (as_setECompL (i := 3) sc__law_counts.nd rfl (by first | exact Or.inl rfl | exact Or.inr rfl) (.inl rfl) (sh := [.p, .f, .f, .dead]) (N' := N__law_counts_0) (k := 1) rfl (compOk_of (N := N__law_counts) (sc := (defScope s__law_counts)) (by decide +kernel) rfl rfl) (aei_pu (ai_range1 rfl B.range (aa_cons (av 1) aa_nil (star_ok rfl)) rfl)) (fun cl s' H' fp C' => (ag_name (i := 4) (show 4 ≤ 4 by decide) nd_N__law_counts_0 rfl (by first | exact Or.inl rfl | exact Or.inr rfl) (.inr rfl))) (fun cl s' H' fp C' => (aets_pu ats_nil)) (fun cl s' H' fp C' => (ae_fn1 (i := 0) C__law_next (hr.mono (by decide)) rfl rfl (by first | exact Or.inl rfl | exact Or.inr (Or.inl rfl) | exact Or.inr (Or.inr rfl)) (aea_cons (ae_pu (ap_bin op_addA ok_add (ao (av 2)) (ao ap_int))) aea_nil (star_ok rfl)) rfl (by decide) rfl rfl)) rfl (fun _ => rfl)))
   (ass_cons (as_to (sh := [.p, .dead, .dead, .o]) (as_if (aet_pu (at_cmp (opr_eq (room_u hr)) ok_D2 (ao (ap_callB (call_maxA rfl) ok_maxA rfl B.max (by decide +kernel) (aao_cons (ao_peek (i := 3) rfl (by first | exact Or.inl rfl | exact Or.inr (Or.inl rfl) | exact Or.inr (Or.inr rfl))) aao_nil (star_ok rfl)) (by decide) (by decide) rfl rfl)) (ao ap_int) rfl))
    (ass_one (as_put (i := 3) rfl (by first | exact Or.inl rfl | exact Or.inr (Or.inl rfl) | exact Or.inr (Or.inr rfl)) (ae_fn1 (i := 0) C__law_next (hr.mono (by decide)) rfl rfl (by first | exact Or.inl rfl | exact Or.inr (Or.inl rfl) | exact Or.inr (Or.inr rfl)) (aea_cons (ae_pu (av 1)) aea_nil (star_ok rfl)) rfl (by decide) rfl rfl) (ae_pu ap_int) (fun _ => rfl) rfl rfl rfl))
    ass_nil))
   (ass_one (as_ret (ae_pu (ap_callTy call_tuple_of ok_tuple rfl B.tuple (by decide +kernel) (aao_cons (ao_peek (i := 3) rfl (by first | exact Or.inl rfl | exact Or.inr (Or.inl rfl) | exact Or.inr (Or.inr rfl))) aao_nil (star_ok rfl)) (by decide) (by decide) rfl rfl)))))))
  (fun g ds hl => match ds, hl with | [p_law_sorts, p_law_most], _ => by kernel_rfl)
theorem ok__law_counts {f : Addr} {fd : FuncData} (Fn : Fun K "_law_counts" "_law_counts" s__law_counts f fd) (hmg : mg "_law_counts" = some (.ref f)) (B : BN mg) (Kn : KN mg) (C__law_next : CF P w K mg base "_law_next" 1 (sp1 K 2 mf__law_next)) : CF P w K mg base "_law_counts" 2 (sp1 K 3 mf__law_counts) :=
  ⟨f, fd, ["_law_feed_here", "_law_sorts", "_law_most"], fn__law_counts Fn B Kn C__law_next, hmg, Fn.kp, (Fn.binds fun _ _ _ _ _ _ us hl => match us, hl with | [_, _, _], _ => rfl)⟩
abbrev s__law_turned : Stmt := top 15
abbrev N__law_turned : List Str := ["_law_rule_here", "_law_one_here", "_law_other", "_law_a", "_law_b", "_law_c", "_law_d"]
theorem sc__law_turned : FnScope N__law_turned ["_law_rule_here", "_law_one_here", "_law_other"] (defScope s__law_turned) := ⟨rfl, rfl, rfl, by decide +kernel, rfl, by decide +kernel, by decide +kernel⟩
def c__law_turned_r2 (v_law_one_here : D) (v_law_other : D) : M D :=
  .ret (.tuple [v_law_one_here, v_law_other])
def c__law_turned_s1 (v_law_one_here : D) (v_law_other : D) (d_ : D) (kn3 : D × D × Unit → M D) : M D :=
  un4 d_ fun y4 y5 y6 y7 => bd (oM (opEq (.tuple [y4, y5]) (.tuple [v_law_one_here, v_law_other]))) fun b8 => if b8 then
    .ret (.tuple [y6, y7])
   else
    bd (oM (opEq (.tuple [y5, y4]) (.tuple [v_law_one_here, v_law_other]))) fun b9 => if b9 then
    .ret (.tuple [y7, y6])
   else
    kn3 (v_law_one_here, v_law_other, ())
def c__law_turned (p_law_rule_here : D) (p_law_one_here : D) (p_law_other : D) : M D :=
  bd (bd (oM (opIxA p_law_rule_here (.int 2))) fun x1 => oM (seqD x1)) fun l2 => forS (fun s10 d11 kn => c__law_turned_s1 s10.1 s10.2.1 d11 kn) l2 (p_law_one_here, p_law_other, ()) (fun s10 => c__law_turned_r2 s10.1 s10.2.1)
def mf__law_turned : List D → M D := fun l => match l with
  | [p_law_rule_here, p_law_one_here, p_law_other] => c__law_turned p_law_rule_here p_law_one_here p_law_other
  | _ => .bad
set_option maxHeartbeats 4000000 in
theorem fn__law_turned {f : Addr} {fd : FuncData} (Fn : Fun K "_law_turned" "_law_turned" s__law_turned f fd) (B : BN mg) (Kn : KN mg) : FnOk P w K mg base (CX1 P w) 1 f fd ["_law_rule_here", "_law_one_here", "_law_other"] (spD K 3 mf__law_turned) :=
  fn_okD (k := 0) Fn sc__law_turned (fun cdv A outer s H E hr =>
  (ass_cons (as_forS (sh := [.dead, .f, .f, .dead, .dead, .dead, .dead]) PassesOwn.leaving rfl (aei_pu (ai_seq (ap_ix (ix_any (room_u hr)) ok_ixA (ao (av 0)) (ao ap_int) (fun _ _ => rfl)))) (ag_tup4 rfl (ags_cons (ag_name (i := 3) (Nat.zero_le _) sc__law_turned.nd rfl (by first | exact Or.inl rfl | exact Or.inr rfl) (.inl rfl)) (ags_cons (ag_name (i := 4) (Nat.zero_le _) sc__law_turned.nd rfl (by first | exact Or.inl rfl | exact Or.inr rfl) (.inl rfl)) (ags_cons (ag_name (i := 5) (Nat.zero_le _) sc__law_turned.nd rfl (by first | exact Or.inl rfl | exact Or.inr rfl) (.inl rfl)) (ags_cons (ag_name (i := 6) (Nat.zero_le _) sc__law_turned.nd rfl (by first | exact Or.inl rfl | exact Or.inr rfl) (.inl rfl)) ags_nil rfl) rfl) rfl) rfl) rfl rfl)
    (ass_cons (as_if (aet_pu (at_cmp (opr_eq (room_u hr)) ok_D2 (ao (ap_tup (aa_cons (av 3) (aa_cons (av 4) aa_nil (star_ok rfl)) (star_ok rfl)) (by decide +kernel))) (ao (ap_tup (aa_cons (av 1) (aa_cons (av 2) aa_nil (star_ok rfl)) (star_ok rfl)) (by decide +kernel))) rfl))
    (ass_one (as_ret (ae_pu (ap_tup (aa_cons (av 5) (aa_cons (av 6) aa_nil (star_ok rfl)) (star_ok rfl)) (by decide +kernel)))))
    ass_nil)
   (ass_one (as_if (aet_pu (at_cmp (opr_eq (room_u hr)) ok_D2 (ao (ap_tup (aa_cons (av 4) (aa_cons (av 3) aa_nil (star_ok rfl)) (star_ok rfl)) (by decide +kernel))) (ao (ap_tup (aa_cons (av 1) (aa_cons (av 2) aa_nil (star_ok rfl)) (star_ok rfl)) (by decide +kernel))) rfl))
    (ass_one (as_ret (ae_pu (ap_tup (aa_cons (av 6) (aa_cons (av 5) aa_nil (star_ok rfl)) (star_ok rfl)) (by decide +kernel)))))
    ass_nil))) (fun _ => rfl))
   (ass_one (as_ret (ae_pu (ap_tup (aa_cons (av 1) (aa_cons (av 2) aa_nil (star_ok rfl)) (star_ok rfl)) (by decide +kernel)))))))
  (fun ds hl => match ds, hl with | [p_law_rule_here, p_law_one_here, p_law_other], _ => by kernel_rfl)
theorem ok__law_turned {f : Addr} {fd : FuncData} (Fn : Fun K "_law_turned" "_law_turned" s__law_turned f fd) (hmg : mg "_law_turned" = some (.ref f)) (B : BN mg) (Kn : KN mg) : CF P w K mg base "_law_turned" 1 (spD K 3 mf__law_turned) :=
  ⟨f, fd, ["_law_rule_here", "_law_one_here", "_law_other"], fn__law_turned Fn B Kn, hmg, Fn.kp, (Fn.binds fun _ _ _ _ _ _ us hl => match us, hl with | [_, _, _], _ => rfl)⟩
abbrev s__law_due : Stmt := top 16
abbrev N__law_due : List Str := ["_law_rule_here", "_law_hands", "_law_i", "_law_j", "_law_found"]
theorem sc__law_due : FnScope N__law_due ["_law_rule_here", "_law_hands", "_law_i", "_law_j"] (defScope s__law_due) := ⟨rfl, rfl, rfl, by decide +kernel, rfl, by decide +kernel, by decide +kernel⟩
def c__law_due (p_law_rule_here : D) (p_law_hands : D) (p_law_i : D) (p_law_j : D) : M D :=
  bd (bd (oM (opEq p_law_i p_law_j)) fun b5 => if b5 then .ret true else bd (bd (oM (fMin2 [p_law_i, p_law_j])) fun x1 => oM (opLtA x1 (.int 0))) fun b4 => if b4 then .ret true else bd (oM (fMaxA [p_law_i, p_law_j])) fun x2 => bd (oM (fLen [p_law_hands])) fun x3 => oM (opGe x2 x3)) fun b6 => if b6 then
    .ret (.tuple [(.str "none"), (.int 0)])
   else
    bd (oM (fList [p_law_hands])) fun l7 => bd (bd (oM (opIxA p_law_hands p_law_i)) fun x8 => bd (oM (opIxA p_law_hands p_law_j)) fun x9 => c__law_turned p_law_rule_here x8 x9) fun x10 => un2 x10 fun y11 y12 => bd (oM (putD l7 p_law_i y11)) fun l13 => bd (oM (putD l13 p_law_j y12)) fun l14 => bd (oM (fTuple [(PyData.list l14)])) fun x15 => .ret x15
def mf__law_due : List D → M D := fun l => match l with
  | [p_law_rule_here, p_law_hands, p_law_i, p_law_j] => c__law_due p_law_rule_here p_law_hands p_law_i p_law_j
  | _ => .bad
set_option maxHeartbeats 4000000 in
theorem fn__law_due {f : Addr} {fd : FuncData} (Fn : Fun K "_law_due" "_law_due" s__law_due f fd) (B : BN mg) (Kn : KN mg) (C__law_turned : CF P w K mg base "_law_turned" 1 (spD K 3 mf__law_turned)) : FnOk P w K mg base (CX1 P w) 2 f fd ["_law_rule_here", "_law_hands", "_law_i", "_law_j"] (spD K 4 mf__law_due) :=
  fn_okD (k := 1) Fn sc__law_due (fun cdv A outer s H E hr =>
  (ass_cons (as_if (aet_pu (at_aw (aw_or (at_cmp (opr_eq (room_u hr)) ok_D2 (ao (av 2)) (ao (av 3)) rfl) (aw_or (at_cmp (op_ltA (room_u hr)) ok_ltA (ao (ap_callB (call_min2 rfl) ok_min2 rfl B.min (by decide +kernel) (aao_cons (ao (av 2)) (aao_cons (ao (av 3)) aao_nil (star_ok rfl)) (star_ok rfl)) (by decide) (by decide) rfl rfl)) (ao ap_int) rfl) (aw_or1 (at_cmp op_ge ok_ge (ao (ap_callB (call_maxA rfl) ok_maxA rfl B.max (by decide +kernel) (aao_cons (ao (av 2)) (aao_cons (ao (av 3)) aao_nil (star_ok rfl)) (star_ok rfl)) (by decide) (by decide) rfl rfl)) (ao (ap_callB call_lenA ok_len rfl B.len PySem.boot_len (aao_cons (ao (av 1)) aao_nil (star_ok rfl)) (by decide) (by decide) rfl rfl)) rfl))))))
    (ass_one (as_ret (ae_pu (ap_tup (aa_cons ap_str (aa_cons ap_int aa_nil (star_ok rfl)) (star_ok rfl)) (by decide +kernel)))))
    ass_nil)
   (ass_cons (as_to (sh := [.f, .f, .f, .f, .o]) (as_setL (i := 4) sc__law_due.nd rfl (by first | exact Or.inl rfl | exact Or.inr rfl) (ael_pu (al_callTy call_list_of ok_list rfl B.list (by decide +kernel) (aao_cons (ao (av 1)) aao_nil (star_ok rfl)) (by decide) (by decide) rfl rfl)) rfl (.inl rfl)))
   (ass_cons (as_to (sh := [.dead, .dead, .dead, .dead, .o]) (as_put2 (i := 4) (ia := 2) (ib := 3) rfl rfl (by first | exact Or.inl rfl | exact Or.inr (Or.inl rfl) | exact Or.inr (Or.inr rfl)) rfl (by first | exact Or.inl rfl | exact Or.inr (Or.inl rfl) | exact Or.inr (Or.inr rfl)) rfl (by first | exact Or.inl rfl | exact Or.inr (Or.inl rfl) | exact Or.inr (Or.inr rfl)) (ae_pu (ap_fn C__law_turned (hr.mono (by decide)) rfl (aa_cons (av 0) (aa_cons (ap_ix (ix_any (room_u hr)) ok_ixA (ao (av 1)) (ao (av 2)) (fun _ _ => rfl)) (aa_cons (ap_ix (ix_any (room_u hr)) ok_ixA (ao (av 1)) (ao (av 3)) (fun _ _ => rfl)) aa_nil (star_ok rfl)) (star_ok rfl)) (star_ok rfl)) rfl (by decide) rfl rfl)) (fun _ => rfl) (fun _ => rfl) rfl rfl rfl rfl rfl rfl rfl))
   (ass_one (as_ret (ae_pu (ap_callTy call_tuple_of ok_tuple rfl B.tuple (by decide +kernel) (aao_cons (ao_peek (i := 4) rfl (by first | exact Or.inl rfl | exact Or.inr (Or.inl rfl) | exact Or.inr (Or.inr rfl))) aao_nil (star_ok rfl)) (by decide) (by decide) rfl rfl))))))))
  (fun ds hl => match ds, hl with | [p_law_rule_here, p_law_hands, p_law_i, p_law_j], _ => by kernel_rfl)
theorem ok__law_due {f : Addr} {fd : FuncData} (Fn : Fun K "_law_due" "_law_due" s__law_due f fd) (hmg : mg "_law_due" = some (.ref f)) (B : BN mg) (Kn : KN mg) (C__law_turned : CF P w K mg base "_law_turned" 1 (spD K 3 mf__law_turned)) : CF P w K mg base "_law_due" 2 (spD K 4 mf__law_due) :=
  ⟨f, fd, ["_law_rule_here", "_law_hands", "_law_i", "_law_j"], fn__law_due Fn B Kn C__law_turned, hmg, Fn.kp, (Fn.binds fun _ _ _ _ _ _ us hl => match us, hl with | [_, _, _, _], _ => rfl)⟩
abbrev s__law_told : Stmt := top 17
abbrev N__law_told : List Str := ["_law_rule_here", "_law_hands", "_law_i", "_law_j", "_law_found", "e"]
theorem sc__law_told : FnScope N__law_told ["_law_rule_here", "_law_hands", "_law_i", "_law_j"] (defScope s__law_told) := ⟨rfl, rfl, rfl, by decide +kernel, rfl, by decide +kernel, by decide +kernel⟩
def c__law_told (p_law_rule_here : D) (p_law_hands : D) (p_law_i : D) (p_law_j : D) : M D :=
  bd (tryM (c_hands_met p_law_rule_here p_law_hands p_law_i p_law_j) "NoMeeting" "none" ["place"]) fun x1 => .ret x1
def mf__law_told : List D → M D := fun l => match l with
  | [p_law_rule_here, p_law_hands, p_law_i, p_law_j] => c__law_told p_law_rule_here p_law_hands p_law_i p_law_j
  | _ => .bad
set_option maxHeartbeats 4000000 in
theorem fn__law_told {f : Addr} {fd : FuncData} (Fn : Fun K "_law_told" "_law_told" s__law_told f fd) (B : BN mg) (Kn : KN mg) (C_hands_met : CF P w K mg base "hands_met" 3 (spD K 4 mf_hands_met)) (X_NoMeeting : CCl P w K mg base "NoMeeting" 1 ["place"]) : FnOk P w K mg base (CX1 P w) 4 f fd ["_law_rule_here", "_law_hands", "_law_i", "_law_j"] (spD K 4 mf__law_told) :=
  fn_okD (k := 3) Fn sc__law_told (fun cdv A outer s H E hr =>
  (ass_cons (as_to (sh := [.f, .f, .f, .f, .dead, .dead]) (as_set (i := 4) sc__law_told.nd rfl (by first | exact Or.inl rfl | exact Or.inr rfl) (ae_pu ap_non) rfl (.inl rfl)))
   (ass_cons (as_tryA (i := 4) (j := 5) (gl := ["place"]) C_hands_met X_NoMeeting (hr.mono (by decide)) rfl rfl (fun _ => (aea_cons (ae_pu (av 0)) (aea_cons (ae_pu (av 1)) (aea_cons (ae_pu (av 2)) (aea_cons (ae_pu (av 3)) aea_nil (star_ok rfl)) (star_ok rfl)) (star_ok rfl)) (star_ok rfl))) rfl sc__law_told.nd rfl rfl (by decide) (by first | exact Or.inl rfl | exact Or.inr rfl) rfl rfl rfl (by simp) (by simp) (by decide) (fun _ => pa_cons pe_str (pa_cons (pe_xat (pe_var (i := 5) rfl (by first | exact Or.inl rfl | exact Or.inr (Or.inl rfl) | exact Or.inr (Or.inr rfl))) rfl) pa_nil (star_ok rfl)) (star_ok rfl)) rfl (.inl rfl) rfl rfl (by decide) (by decide) (star_ok rfl) rfl)
   (ass_one (as_ret (ae_pu (av 4)))))))
  (fun ds hl => match ds, hl with | [p_law_rule_here, p_law_hands, p_law_i, p_law_j], _ => by kernel_rfl)
theorem ok__law_told {f : Addr} {fd : FuncData} (Fn : Fun K "_law_told" "_law_told" s__law_told f fd) (hmg : mg "_law_told" = some (.ref f)) (B : BN mg) (Kn : KN mg) (C_hands_met : CF P w K mg base "hands_met" 3 (spD K 4 mf_hands_met)) (X_NoMeeting : CCl P w K mg base "NoMeeting" 1 ["place"]) : CF P w K mg base "_law_told" 4 (spD K 4 mf__law_told) :=
  ⟨f, fd, ["_law_rule_here", "_law_hands", "_law_i", "_law_j"], fn__law_told Fn B Kn C_hands_met X_NoMeeting, hmg, Fn.kp, (Fn.binds fun _ _ _ _ _ _ us hl => match us, hl with | [_, _, _, _], _ => rfl)⟩
abbrev s_law : Stmt := top 18
abbrev N_law : List Str := ["_law_script", "_law_k", "_law_feed_here", "_law_sorts", "_law_rule_here", "_law_counts_here", "_law_hands", "_law_due_here", "_law_sort", "_law_turn", "_law_i", "_law_j", "_law_rooms"]
theorem sc_law : FnScope N_law ["_law_script"] (defScope s_law) := ⟨rfl, rfl, rfl, by decide +kernel, rfl, by decide +kernel, by decide +kernel⟩
abbrev N_law_0 : List Str := ["_law_script", "_law_k", "_law_feed_here", "_law_sorts", "_law_rule_here", "_law_counts_here", "_law_hands", "_law_due_here", "_law_sort", "_law_turn", "_law_i", "_law_j", "_law_rooms", "_law_hand"]
theorem nd_N_law_0 : N_law_0.Nodup := by decide +kernel
abbrev N_law_1 : List Str := ["_law_script", "_law_k", "_law_feed_here", "_law_sorts", "_law_rule_here", "_law_counts_here", "_law_hands", "_law_due_here", "_law_sort", "_law_turn", "_law_i", "_law_j", "_law_rooms", "_law_room"]
theorem nd_N_law_1 : N_law_1.Nodup := by decide +kernel
def c_law_r2 (v_law_script : D) : M D :=
  .ret (.bool true)
def c_law_r7 (kn5 : D × Unit → M D) (v_law_script : D) (v_law_feed_here : List D) (v_law_rule_here : D) (v_law_hands : D) : M D :=
  bd (bd (bd (bd (bd (oM (opIxA v_law_rule_here (.int 0))) fun x30 => oM (fRange1 [x30])) fun l33 => bd (compC (fun d31 => bd (onT .tup v_law_hands (oM (fCount v_law_hands [d31]))) fun x32 => .ret (some x32)) l33) fitM) fun l34 => .ret (PyData.list l34)) fun x35 => oM (fTuple [x35])) fun x36 => bd (bd (bd (c_crowd_of v_law_rule_here v_law_hands) fun x37 => oM (fRepr [x37])) fun x38 => bd (oM (fRepr [x36])) fun x39 => oM (opNe x38 x39)) fun b40 => if b40 then
    .ret (.bool false)
   else
    kn5 (v_law_script, ())
def c_law_j8 (kn5 : D × Unit → M D) (kn41 : D × List D × D × D × Unit → M D) (v_law_script : D) (v_law_feed_here : List D) (v_law_rule_here : D) (v_law_hands : D) (v_law_i : D) (v_law_j : D) : M D :=
  bd (c__law_next v_law_feed_here (.int 2)) fun r56 => bd (oM (opEq r56.1 (.int 0))) fun b57 => if b57 then un2 (.tuple [v_law_i, v_law_j]) fun y58 y59 => bd (c__law_due v_law_rule_here v_law_hands y58 y59) fun x60 => bd (bd (bd (c__law_told v_law_rule_here v_law_hands y58 y59) fun x61 => oM (fRepr [x61])) fun x62 => bd (oM (fRepr [x60])) fun x63 => oM (opNe x62 x63)) fun b64 => if b64 then
    .ret (.bool false)
   else
    bd (bd (bd (oM (opIxA x60 (.int 0))) fun x65 => oM (opNe x65 (.str "none"))) fun b66 => if b66 then .ret x60 else .ret v_law_hands) fun x67 => kn41 (v_law_script, r56.2, v_law_rule_here, x67, ()) else un2 (.tuple [v_law_j, v_law_i]) fun y68 y69 => bd (c__law_due v_law_rule_here v_law_hands y68 y69) fun x70 => bd (bd (bd (c__law_told v_law_rule_here v_law_hands y68 y69) fun x71 => oM (fRepr [x71])) fun x72 => bd (oM (fRepr [x70])) fun x73 => oM (opNe x72 x73)) fun b74 => if b74 then
    .ret (.bool false)
   else
    bd (bd (bd (oM (opIxA x70 (.int 0))) fun x75 => oM (opNe x75 (.str "none"))) fun b76 => if b76 then .ret x70 else .ret v_law_hands) fun x77 => kn41 (v_law_script, r56.2, v_law_rule_here, x77, ())
def c_law_s6 (kn5 : D × Unit → M D) (v_law_script : D) (v_law_feed_here : List D) (v_law_rule_here : D) (v_law_hands : D) (d_ : D) (kn41 : D × List D × D × D × Unit → M D) : M D :=
  bd (oM (fLen [v_law_hands])) fun x42 => bd (c__law_next v_law_feed_here x42) fun r43 => bd (oM (fLen [v_law_hands])) fun x44 => bd (c__law_next r43.2 x44) fun r45 => bd (c__law_next r45.2 (.int 6)) fun r46 => bd (oM (opEq r46.1 (.int 0))) fun b47 => if b47 then
    bd (bd (bd (oM (opNeg (.int 1))) fun x48 => bd (oM (fLen [v_law_hands])) fun x49 => bd (oM (opPow (.int 10) (.int 30))) fun x50 => bd (bd (oM (fLen [v_law_hands])) fun x51 => oM (opNeg x51)) fun x52 => .ret [x48, x49, x50, r43.1, x52]) fun l53 => .ret (PyData.list l53)) fun x54 => bd (c__law_one r46.2 x54) fun r55 => c_law_j8 kn5 kn41 v_law_script r55.2 v_law_rule_here v_law_hands r43.1 r55.1
   else
    c_law_j8 kn5 kn41 v_law_script r46.2 v_law_rule_here v_law_hands r43.1 r45.1
def c_law_j5 (kn5 : D × Unit → M D) (v_law_script : D) (v_law_feed_here : List D) (v_law_rule_here : D) (v_law_hands : D) : M D :=
  bd (oM (fRange1 [(.int 12)])) fun l29 => forS (fun s78 d79 kn => c_law_s6 kn5 s78.1 s78.2.1 s78.2.2.1 s78.2.2.2.1 d79 kn) l29 (v_law_script, v_law_feed_here, v_law_rule_here, v_law_hands, ()) (fun s78 => c_law_r7 kn5 s78.1 s78.2.1 s78.2.2.1 s78.2.2.2.1)
def c_law_r4 (kn5 : D × Unit → M D) (v_law_script : D) (v_law_feed_here : List D) (v_law_rule_here : D) (v_law_counts_here : D) (v_law_hands : D) (v_law_due_here : D) : M D :=
  bd (bd (oM (fRepr [v_law_hands])) fun x15 => bd (bd (oM (fTuple [v_law_due_here])) fun x14 => oM (fRepr [x14])) fun x16 => oM (opNe x15 x16)) fun b17 => if b17 then
    .ret (.bool false)
   else
    bd (c__law_next v_law_feed_here (.int 3)) fun r18 => bd (oM (opGt r18.1 (.int 0))) fun b19 => if b19 then
    bd (c__law_one r18.2 (PyData.list [(.int 1), (.int 2), (.int 7), (.int 60)])) fun r20 => bd (oM (fRange1 [r20.1])) fun l21 => bd (compE (fun s22 d23 => bd (oM (opIxA s22.2.2.1 (.int 0))) fun x24 => bd (c__law_next s22.2.1 x24) fun r25 => .ret (some r25.1, (s22.1, r25.2, s22.2.2.1, s22.2.2.2.1, ()))) l21 (v_law_script, r20.2, v_law_rule_here, v_law_hands, ())) fun r26 => bd (fitM r26.1) fun l27 => bd (oM (fTuple [(PyData.list l27)])) fun x28 => c_law_j5 kn5 r26.2.1 r26.2.2.1 r26.2.2.2.1 x28
   else
    c_law_j5 kn5 v_law_script r18.2 v_law_rule_here v_law_hands
def c_law_s3 (kn5 : D × Unit → M D) (v_law_script : D) (v_law_feed_here : List D) (v_law_rule_here : D) (v_law_counts_here : D) (v_law_hands : D) (v_law_due_here : D) (d_ : D) (kn80 : D × List D × D × D × D × D × Unit → M D) : M D :=
  bd (bd (bd (bd (bd (bd (oM (opIxA v_law_rule_here (.int 1))) fun x81 => oM (opIxA x81 d_)) fun x82 => .ret [x82]) fun l83 => bd (oM (opIxA v_law_counts_here d_)) fun x84 => oM (opMulL (PyData.list l83) x84)) fun l85 => .ret (PyData.list l85)) fun x86 => oM (opAdd v_law_due_here x86)) fun x87 => kn80 (v_law_script, v_law_feed_here, v_law_rule_here, v_law_counts_here, v_law_hands, x87, ())
def c_law_s1 (v_law_script : D) (d_ : D) (kn5 : D × Unit → M D) : M D :=
  bd (c__law_feed v_law_script d_) fun l6 => bd (c__law_next l6 (.int 4)) fun r7 => bd (oM (opAdd (.int 1) r7.1)) fun x8 => bd (c__law_rule r7.2 (.int 6) x8) fun r9 => bd (c__law_one r9.2 (PyData.list [(.int 1), (.int 3), (.int 15)])) fun r10 => bd (c__law_counts r10.2 x8 r10.1) fun r11 => bd (c_seated r9.1 r11.1) fun x12 => bd (oM (fRange1 [x8])) fun l13 => forS (fun s88 d89 kn => c_law_s3 kn5 s88.1 s88.2.1 s88.2.2.1 s88.2.2.2.1 s88.2.2.2.2.1 s88.2.2.2.2.2.1 d89 kn) l13 (v_law_script, r11.2, r9.1, r11.1, x12, (PyData.list []), ()) (fun s88 => c_law_r4 kn5 s88.1 s88.2.1 s88.2.2.1 s88.2.2.2.1 s88.2.2.2.2.1 s88.2.2.2.2.2.1)
def c_law (p_law_script : D) : M D :=
  bd (bd (bd (bd (oM (fLen [p_law_script])) fun x1 => oM (fMin2 [(.int 6), x1])) fun x2 => oM (opAdd (.int 2) x2)) fun x3 => oM (fRange1 [x3])) fun l4 => forS (fun s90 d91 kn => c_law_s1 s90.1 d91 kn) l4 (p_law_script, ()) (fun s90 => c_law_r2 s90.1)
def mf_law : List D → M D := fun l => match l with
  | [p_law_script] => c_law p_law_script
  | _ => .bad
set_option maxHeartbeats 4000000 in
theorem fn_law {f : Addr} {fd : FuncData} (Fn : Fun K "law" "law" s_law f fd) (B : BN mg) (Kn : KN mg) (C__law_feed : CF P w K mg base "_law_feed" 1 (spL K 2 mf__law_feed)) (C__law_rule : CF P w K mg base "_law_rule" 3 (sp1 K 3 mf__law_rule)) (C__law_counts : CF P w K mg base "_law_counts" 2 (sp1 K 3 mf__law_counts)) (C_seated : CF P w K mg base "seated" 1 (spD K 2 mf_seated)) (C__law_next : CF P w K mg base "_law_next" 1 (sp1 K 2 mf__law_next)) (C__law_one : CF P w K mg base "_law_one" 2 (sp1 K 2 mf__law_one)) (C__law_due : CF P w K mg base "_law_due" 2 (spD K 4 mf__law_due)) (C_crowd_of : CF P w K mg base "crowd_of" 1 (spD K 2 mf_crowd_of)) (C__law_told : CF P w K mg base "_law_told" 4 (spD K 4 mf__law_told)) : FnOk P w K mg base (CX1 P w) 5 f fd ["_law_script"] (spD K 1 mf_law) :=
  fn_okD (k := 4) Fn sc_law (fun cdv A outer s H E hr =>
  (ass_cons (as_forS (sh := [.f, .dead, .dead, .dead, .dead, .dead, .dead, .dead, .dead, .dead, .dead, .dead, .dead]) PassesOwn.leaving rfl (aei_pu (ai_range1 rfl B.range (aa_cons (ap_bin op_addA ok_add (ao ap_int) (ao (ap_callB (call_min2 rfl) ok_min2 rfl B.min (by decide +kernel) (aao_cons (ao ap_int) (aao_cons (ao (ap_callB call_lenA ok_len rfl B.len PySem.boot_len (aao_cons (ao (av 0)) aao_nil (star_ok rfl)) (by decide) (by decide) rfl rfl)) aao_nil (star_ok rfl)) (star_ok rfl)) (by decide) (by decide) rfl rfl))) aa_nil (star_ok rfl)) rfl)) (ag_name (i := 1) (Nat.zero_le _) sc_law.nd rfl (by first | exact Or.inl rfl | exact Or.inr rfl) (.inl rfl))
    (ass_cons (as_to (sh := [.f, .dead, .o, .dead, .dead, .dead, .dead, .dead, .dead, .dead, .dead, .dead, .dead]) (as_setL (i := 2) sc_law.nd rfl (by first | exact Or.inl rfl | exact Or.inr rfl) (ael_pu (al_fn C__law_feed (hr.mono (by decide)) rfl (aa_cons (av 0) (aa_cons (av 1) aa_nil (star_ok rfl)) (star_ok rfl)) rfl (by decide) rfl rfl)) rfl (.inl rfl)))
   (ass_cons (as_to (sh := [.f, .dead, .o, .f, .dead, .dead, .dead, .dead, .dead, .dead, .dead, .dead, .dead]) (as_set (i := 3) sc_law.nd rfl (by first | exact Or.inl rfl | exact Or.inr rfl) (ae_bin op_addA ok_add (ae_pu ap_int) (ae_fn1 (i := 2) C__law_next (hr.mono (by decide)) rfl rfl (by first | exact Or.inl rfl | exact Or.inr (Or.inl rfl) | exact Or.inr (Or.inr rfl)) (aea_cons (ae_pu ap_int) aea_nil (star_ok rfl)) rfl (by decide) rfl rfl)) rfl (.inl rfl)))
   (ass_cons (as_to (sh := [.f, .dead, .o, .f, .f, .dead, .dead, .dead, .dead, .dead, .dead, .dead, .dead]) (as_set (i := 4) sc_law.nd rfl (by first | exact Or.inl rfl | exact Or.inr rfl) (ae_fn1 (i := 2) C__law_rule (hr.mono (by decide)) rfl rfl (by first | exact Or.inl rfl | exact Or.inr (Or.inl rfl) | exact Or.inr (Or.inr rfl)) (aea_cons (ae_pu ap_int) (aea_cons (ae_pu (av 3)) aea_nil (star_ok rfl)) (star_ok rfl)) rfl (by decide) rfl rfl) rfl (.inl rfl)))
   (ass_cons (as_to (sh := [.f, .dead, .o, .f, .f, .f, .dead, .dead, .dead, .dead, .dead, .dead, .dead]) (as_set (i := 5) sc_law.nd rfl (by first | exact Or.inl rfl | exact Or.inr rfl) (ae_fn1 (i := 2) C__law_counts (hr.mono (by decide)) rfl rfl (by first | exact Or.inl rfl | exact Or.inr (Or.inl rfl) | exact Or.inr (Or.inr rfl)) (aea_cons (ae_pu (av 3)) (aea_cons (ae_fn1 (i := 2) C__law_one (hr.mono (by decide)) rfl rfl (by first | exact Or.inl rfl | exact Or.inr (Or.inl rfl) | exact Or.inr (Or.inr rfl)) (aea_cons (ae_pu (ap_z (al_lst (aa_cons ap_int (aa_cons ap_int (aa_cons ap_int aa_nil (star_ok rfl)) (star_ok rfl)) (star_ok rfl)) (by decide +kernel)))) aea_nil (star_ok rfl)) rfl (by decide) rfl rfl) aea_nil (star_ok rfl)) (star_ok rfl)) rfl (by decide) rfl rfl) rfl (.inl rfl)))
   (ass_cons (as_to (sh := [.f, .dead, .o, .f, .f, .f, .f, .dead, .dead, .dead, .dead, .dead, .dead]) (as_set (i := 6) sc_law.nd rfl (by first | exact Or.inl rfl | exact Or.inr rfl) (ae_pu (ap_fn C_seated (hr.mono (by decide)) rfl (aa_cons (av 4) (aa_cons (av 5) aa_nil (star_ok rfl)) (star_ok rfl)) rfl (by decide) rfl rfl)) rfl (.inl rfl)))
   (ass_cons (as_to (sh := [.f, .dead, .o, .f, .f, .f, .f, .f, .dead, .dead, .dead, .dead, .dead]) (as_set (i := 7) sc_law.nd rfl (by first | exact Or.inl rfl | exact Or.inr rfl) (ae_pu (ap_z (al_lst aa_nil (by decide +kernel)))) rfl (.inl rfl)))
   (ass_cons (as_forS (sh := [.f, .dead, .o, .dead, .f, .f, .f, .f, .dead, .dead, .dead, .dead, .dead]) PassesOwn.leaving rfl (aei_pu (ai_range1 rfl B.range (aa_cons (av 3) aa_nil (star_ok rfl)) rfl)) (ag_name (i := 8) (Nat.zero_le _) sc_law.nd rfl (by first | exact Or.inl rfl | exact Or.inr rfl) (.inl rfl))
    (ass_one (as_set (i := 7) sc_law.nd rfl (by first | exact Or.inl rfl | exact Or.inr rfl) (ae_pu (ap_bin op_addA ok_add (ao (av 7)) (ao (ap_z (al_rep (al_lst (aa_cons (ap_ix (ix_any (room_u hr)) ok_ixA (ao (ap_ix (ix_any (room_u hr)) ok_ixA (ao (av 4)) (ao ap_int) (fun _ _ => rfl))) (ao (av 8)) (fun _ _ => rfl)) aa_nil (star_ok rfl)) (by decide +kernel)) (ao (ap_ix (ix_any (room_u hr)) ok_ixA (ao (av 5)) (ao (av 8)) (fun _ _ => rfl)))))))) rfl (.inl rfl))) (fun _ => rfl))
   (ass_cons (as_if (aet_pu (at_cmp (opr_ne (room_u hr)) ok_D2 (ao (ap_callB (call_repr (room_u hr) hr.gd) ok_repr rfl B.repr (by decide +kernel) (aao_cons (ao (av 6)) aao_nil (star_ok rfl)) (by decide) (by decide) rfl rfl)) (ao (ap_callB (call_repr (room_u hr) hr.gd) ok_repr rfl B.repr (by decide +kernel) (aao_cons (ao (ap_callTy call_tuple_of ok_tuple rfl B.tuple (by decide +kernel) (aao_cons (ao (av 7)) aao_nil (star_ok rfl)) (by decide) (by decide) rfl rfl)) aao_nil (star_ok rfl)) (by decide) (by decide) rfl rfl)) rfl))
    (ass_one (as_ret (ae_pu ap_bl)))
    ass_nil)
   (ass_cons (as_to (sh := [.f, .dead, .o, .dead, .f, .dead, .f, .dead, .dead, .dead, .dead, .dead, .dead]) (as_if (aet_cmp op_gt ok_gt (ae_fn1 (i := 2) C__law_next (hr.mono (by decide)) rfl rfl (by first | exact Or.inl rfl | exact Or.inr (Or.inl rfl) | exact Or.inr (Or.inr rfl)) (aea_cons (ae_pu ap_int) aea_nil (star_ok rfl)) rfl (by decide) rfl rfl) (ae_pu ap_int) rfl)
    (ass_one (as_set (i := 6) sc_law.nd rfl (by first | exact Or.inl rfl | exact Or.inr rfl) (ae_callTy call_tuple_of ok_tuple rfl B.tuple (by decide +kernel) (aea_cons (ae_z (ael_comp (sh := [.f, .dead, .o, .dead, .f, .dead, .f, .dead, .dead, .dead, .dead, .dead, .dead]) (N' := N_law_0) (k := 1) rfl (compOk_of (N := N_law) (sc := (defScope s_law)) (by decide +kernel) rfl rfl) (aei_range1 rfl B.range (aea_cons (ae_fn1 (i := 2) C__law_one (hr.mono (by decide)) rfl rfl (by first | exact Or.inl rfl | exact Or.inr (Or.inl rfl) | exact Or.inr (Or.inr rfl)) (aea_cons (ae_pu (ap_z (al_lst (aa_cons ap_int (aa_cons ap_int (aa_cons ap_int (aa_cons ap_int aa_nil (star_ok rfl)) (star_ok rfl)) (star_ok rfl)) (star_ok rfl)) (by decide +kernel)))) aea_nil (star_ok rfl)) rfl (by decide) rfl rfl) aea_nil (star_ok rfl)) rfl) (fun cl s' H' fp C' => (ag_name (i := 13) (show 13 ≤ 13 by decide) nd_N_law_0 rfl (by first | exact Or.inl rfl | exact Or.inr rfl) (.inr rfl))) (fun cl s' H' fp C' => (aets_pu ats_nil)) (fun cl s' H' fp C' => (ae_fn1 (i := 2) C__law_next (hr.mono (by decide)) rfl rfl (by first | exact Or.inl rfl | exact Or.inr (Or.inl rfl) | exact Or.inr (Or.inr rfl)) (aea_cons (ae_pu (ap_ix (ix_any (room_u hr)) ok_ixA (ao (av 4)) (ao ap_int) (fun _ _ => rfl))) aea_nil (star_ok rfl)) rfl (by decide) rfl rfl)) (fun _ => rfl))) aea_nil (star_ok rfl)) (by decide) (by decide) rfl rfl) rfl (.inl rfl)))
    ass_nil))
   (ass_cons (as_forS (sh := [.f, .dead, .o, .dead, .f, .dead, .f, .dead, .dead, .dead, .dead, .dead, .dead]) PassesOwn.leaving rfl (aei_pu (ai_range1 rfl B.range (aa_cons ap_int aa_nil (star_ok rfl)) rfl)) (ag_name (i := 9) (Nat.zero_le _) sc_law.nd rfl (by first | exact Or.inl rfl | exact Or.inr rfl) (.inl rfl))
    (ass_cons (as_to (sh := [.f, .dead, .o, .dead, .f, .dead, .f, .dead, .dead, .dead, .f, .f, .dead]) (as_par (i := 10) (j := 11) rfl sc_law.nd rfl rfl (by decide) rfl rfl (aea_cons (ae_fn1 (i := 2) C__law_next (hr.mono (by decide)) rfl rfl (by first | exact Or.inl rfl | exact Or.inr (Or.inl rfl) | exact Or.inr (Or.inr rfl)) (aea_cons (ae_pu (ap_callB call_lenA ok_len rfl B.len PySem.boot_len (aao_cons (ao (av 6)) aao_nil (star_ok rfl)) (by decide) (by decide) rfl rfl)) aea_nil (star_ok rfl)) rfl (by decide) rfl rfl) (aea_cons (ae_fn1 (i := 2) C__law_next (hr.mono (by decide)) rfl rfl (by first | exact Or.inl rfl | exact Or.inr (Or.inl rfl) | exact Or.inr (Or.inr rfl)) (aea_cons (ae_pu (ap_callB call_lenA ok_len rfl B.len PySem.boot_len (aao_cons (ao (av 6)) aao_nil (star_ok rfl)) (by decide) (by decide) rfl rfl)) aea_nil (star_ok rfl)) rfl (by decide) rfl rfl) aea_nil (star_ok rfl)) (star_ok rfl)) rfl rfl))
   (ass_cons (as_to (sh := [.f, .dead, .o, .dead, .f, .dead, .f, .dead, .dead, .dead, .f, .f, .dead]) (as_if (aet_cmp (opr_eq (room_u hr)) ok_D2 (ae_fn1 (i := 2) C__law_next (hr.mono (by decide)) rfl rfl (by first | exact Or.inl rfl | exact Or.inr (Or.inl rfl) | exact Or.inr (Or.inr rfl)) (aea_cons (ae_pu ap_int) aea_nil (star_ok rfl)) rfl (by decide) rfl rfl) (ae_pu ap_int) rfl)
    (ass_one (as_set (i := 11) sc_law.nd rfl (by first | exact Or.inl rfl | exact Or.inr rfl) (ae_fn1 (i := 2) C__law_one (hr.mono (by decide)) rfl rfl (by first | exact Or.inl rfl | exact Or.inr (Or.inl rfl) | exact Or.inr (Or.inr rfl)) (aea_cons (ae_pu (ap_z (al_lst (aa_cons (ap_un un_neg ok_neg (ao ap_int)) (aa_cons (ap_callB call_lenA ok_len rfl B.len PySem.boot_len (aao_cons (ao (av 6)) aao_nil (star_ok rfl)) (by decide) (by decide) rfl rfl) (aa_cons (ap_bin op_pow ok_pow (ao ap_int) (ao ap_int)) (aa_cons (av 10) (aa_cons (ap_un un_neg ok_neg (ao (ap_callB call_lenA ok_len rfl B.len PySem.boot_len (aao_cons (ao (av 6)) aao_nil (star_ok rfl)) (by decide) (by decide) rfl rfl))) aa_nil (star_ok rfl)) (star_ok rfl)) (star_ok rfl)) (star_ok rfl)) (star_ok rfl)) (by decide +kernel)))) aea_nil (star_ok rfl)) rfl (by decide) rfl rfl) rfl (.inl rfl)))
    ass_nil))
   (ass_cons (as_to (sh := [.f, .dead, .o, .dead, .f, .dead, .f, .dead, .dead, .dead, .f, .f, .dead]) (as_asg (ae_if (aet_cmp (opr_eq (room_u hr)) ok_D2 (ae_fn1 (i := 2) C__law_next (hr.mono (by decide)) rfl rfl (by first | exact Or.inl rfl | exact Or.inr (Or.inl rfl) | exact Or.inr (Or.inr rfl)) (aea_cons (ae_pu ap_int) aea_nil (star_ok rfl)) rfl (by decide) rfl rfl) (ae_pu ap_int) rfl) (ae_pu (ap_tup (aa_cons (av 10) (aa_cons (av 11) aa_nil (star_ok rfl)) (star_ok rfl)) (by decide +kernel))) (ae_pu (ap_tup (aa_cons (av 11) (aa_cons (av 10) aa_nil (star_ok rfl)) (star_ok rfl)) (by decide +kernel)))) (ag_tup2 rfl (ags_cons (ag_name (i := 10) (Nat.zero_le _) sc_law.nd rfl (by first | exact Or.inl rfl | exact Or.inr rfl) (.inl rfl)) (ags_cons (ag_name (i := 11) (Nat.zero_le _) sc_law.nd rfl (by first | exact Or.inl rfl | exact Or.inr rfl) (.inl rfl)) ags_nil rfl) rfl) rfl rfl) rfl rfl rfl))
   (ass_cons (as_to (sh := [.f, .dead, .o, .dead, .f, .dead, .f, .f, .dead, .dead, .f, .f, .dead]) (as_set (i := 7) sc_law.nd rfl (by first | exact Or.inl rfl | exact Or.inr rfl) (ae_pu (ap_fn C__law_due (hr.mono (by decide)) rfl (aa_cons (av 4) (aa_cons (av 6) (aa_cons (av 10) (aa_cons (av 11) aa_nil (star_ok rfl)) (star_ok rfl)) (star_ok rfl)) (star_ok rfl)) rfl (by decide) rfl rfl)) rfl (.inl rfl)))
   (ass_cons (as_if (aet_pu (at_cmp (opr_ne (room_u hr)) ok_D2 (ao (ap_callB (call_repr (room_u hr) hr.gd) ok_repr rfl B.repr (by decide +kernel) (aao_cons (ao (ap_fn C__law_told (hr.mono (by decide)) rfl (aa_cons (av 4) (aa_cons (av 6) (aa_cons (av 10) (aa_cons (av 11) aa_nil (star_ok rfl)) (star_ok rfl)) (star_ok rfl)) (star_ok rfl)) rfl (by decide) rfl rfl)) aao_nil (star_ok rfl)) (by decide) (by decide) rfl rfl)) (ao (ap_callB (call_repr (room_u hr) hr.gd) ok_repr rfl B.repr (by decide +kernel) (aao_cons (ao (av 7)) aao_nil (star_ok rfl)) (by decide) (by decide) rfl rfl)) rfl))
    (ass_one (as_ret (ae_pu ap_bl)))
    ass_nil)
   (ass_one (as_set (i := 6) sc_law.nd rfl (by first | exact Or.inl rfl | exact Or.inr rfl) (ae_pu (ap_if (at_cmp (opr_ne (room_u hr)) ok_D2 (ao (ap_ix (ix_any (room_u hr)) ok_ixA (ao (av 7)) (ao ap_int) (fun _ _ => rfl))) (ao ap_str) rfl) (av 7) (av 6))) rfl (.inl rfl)))))))) (fun _ => rfl))
   (ass_cons (as_to (sh := [.f, .dead, .dead, .dead, .f, .dead, .f, .dead, .dead, .dead, .dead, .dead, .f]) (as_set (i := 12) sc_law.nd rfl (by first | exact Or.inl rfl | exact Or.inr rfl) (ae_pu (ap_callTy call_tuple_of ok_tuple rfl B.tuple (by decide +kernel) (aao_cons (ao (ap_z (al_comp (N' := N_law_1) (k := 1) rfl (compOk_of (N := N_law) (sc := (defScope s_law)) (by decide +kernel) rfl rfl) (ai_range1 rfl B.range (aa_cons (ap_ix (ix_any (room_u hr)) ok_ixA (ao (av 4)) (ao ap_int) (fun _ _ => rfl)) aa_nil (star_ok rfl)) rfl) (fun cl s' H' fp C' => (ag_name (i := 13) (show 13 ≤ 13 by decide) nd_N_law_1 rfl (by first | exact Or.inl rfl | exact Or.inr rfl) (.inr rfl))) (fun cl s' H' fp C' => ats_nil) (fun cl s' H' fp C' => (ap_meth (ty := .tup) PySem.F.plainAttrs_tuple PySem.F.slot_tuple_count PySem.F.type_tuple_count (mt_count (room_u hr)) (ao (av 6)) (aa_cons (av 13) aa_nil (star_ok rfl)) rfl rfl rfl rfl rfl)) (fun _ => rfl)))) aao_nil (star_ok rfl)) (by decide) (by decide) rfl rfl)) rfl (.inl rfl)))
   (ass_one (as_if (aet_pu (at_cmp (opr_ne (room_u hr)) ok_D2 (ao (ap_callB (call_repr (room_u hr) hr.gd) ok_repr rfl B.repr (by decide +kernel) (aao_cons (ao (ap_fn C_crowd_of (hr.mono (by decide)) rfl (aa_cons (av 4) (aa_cons (av 6) aa_nil (star_ok rfl)) (star_ok rfl)) rfl (by decide) rfl rfl)) aao_nil (star_ok rfl)) (by decide) (by decide) rfl rfl)) (ao (ap_callB (call_repr (room_u hr) hr.gd) ok_repr rfl B.repr (by decide +kernel) (aao_cons (ao (av 12)) aao_nil (star_ok rfl)) (by decide) (by decide) rfl rfl)) rfl))
    (ass_one (as_ret (ae_pu ap_bl)))
    ass_nil))))))))))))) (fun _ => rfl))
   (ass_one (as_ret (ae_pu ap_bl)))))
  (fun ds hl => match ds, hl with | [p_law_script], _ => by kernel_rfl)
theorem ok_law {f : Addr} {fd : FuncData} (Fn : Fun K "law" "law" s_law f fd) (hmg : mg "law" = some (.ref f)) (B : BN mg) (Kn : KN mg) (C__law_feed : CF P w K mg base "_law_feed" 1 (spL K 2 mf__law_feed)) (C__law_rule : CF P w K mg base "_law_rule" 3 (sp1 K 3 mf__law_rule)) (C__law_counts : CF P w K mg base "_law_counts" 2 (sp1 K 3 mf__law_counts)) (C_seated : CF P w K mg base "seated" 1 (spD K 2 mf_seated)) (C__law_next : CF P w K mg base "_law_next" 1 (sp1 K 2 mf__law_next)) (C__law_one : CF P w K mg base "_law_one" 2 (sp1 K 2 mf__law_one)) (C__law_due : CF P w K mg base "_law_due" 2 (spD K 4 mf__law_due)) (C_crowd_of : CF P w K mg base "crowd_of" 1 (spD K 2 mf_crowd_of)) (C__law_told : CF P w K mg base "_law_told" 4 (spD K 4 mf__law_told)) : CF P w K mg base "law" 5 (spD K 1 mf_law) :=
  ⟨f, fd, ["_law_script"], fn_law Fn B Kn C__law_feed C__law_rule C__law_counts C_seated C__law_next C__law_one C__law_due C_crowd_of C__law_told, hmg, Fn.kp, (Fn.binds fun _ _ _ _ _ _ us hl => match us, hl with | [_], _ => rfl)⟩
end
end
end K06
set_option Elab.async false
set_option linter.all false
set_option maxRecDepth 100000
namespace L4
open PySem PySem.Spec PyProof.Rows L2 L3
theorem bdR {S T : Type} (s : S) (k : S → M T) : bd (.ret s) k = k s := id rfl
theorem oMS {S : Type} (s : S) : oM (some s) = .ret s := id rfl
theorem fitM_ok {S : Type} {ds : List S} (h : ds.length ≤ 1000) : fitM ds = .ret ds := if_pos (le1000 h)
theorem atI_nat {α : Type} (xs : List α) (i : Nat) (h : i < xs.length) : atI xs (i : Int) = some (xs[i]'h) := by
  unfold atI ixN
  rw [if_pos (Int.natCast_nonneg _), if_pos (by omega)]
  simp [h]
theorem atI_ok {α : Type} (xs : List α) (i : Int) (h0 : 0 ≤ i) (h : i < xs.length) : ∃ x ∈ xs, atI xs i = some x := by
  obtain ⟨n, rfl⟩ := Int.eq_ofNat_of_zero_le h0
  exact ⟨_, List.getElem_mem _, atI_nat xs n (by omega)⟩
def wordOk (s : Str) : Bool := PyData.strOk s && decide ((reprText s).length ≤ 24) && PyData.strOk (reprText s)
def Ok (k : Nat) : Nat → D → Prop
  | 0, _ => False
  | _ + 1, .none => True
  | _ + 1, .bool _ => True
  | _ + 1, .int i => i.natAbs < 10 ^ (16 + k)
  | _ + 1, .str s => wordOk s = true
  | n + 1, .list ds => ds.length ≤ 6 + k ∧ ∀ d ∈ ds, Ok k n d
  | n + 1, .tuple ds => ds.length ≤ 6 + k ∧ ∀ d ∈ ds, Ok k n d
  | _ + 1, .dict _ => False
theorem lay_all : ∀ {ds : List D}, (∀ d ∈ ds, d.canLay0 = true) → PyData.canLayAll0 ds = true
  | [], _ => by simp [PyData.canLayAll0]
  | d :: r, h => by
    simp only [PyData.canLayAll0, Bool.and_eq_true]
    exact ⟨h d List.mem_cons_self, lay_all fun e he => h e (List.mem_cons_of_mem _ he)⟩
theorem deep_all {n : Nat} : ∀ {ds : List D}, (∀ d ∈ ds, d.depth ≤ n) → PyData.depthAll ds ≤ n
  | [], _ => by simp [PyData.depthAll]
  | d :: r, h => by
    simp only [PyData.depthAll]
    exact Nat.max_le.mpr ⟨h d List.mem_cons_self, deep_all fun e he => h e (List.mem_cons_of_mem _ he)⟩
theorem log_lt {m : Nat} (h : m < 10 ^ 36) : m.log2 < 1920 := by
  by_cases h0 : m = 0
  · subst h0; decide
  · exact (Nat.log2_lt h0).mpr (Nat.lt_of_lt_of_le h (by decide +kernel))
theorem strOk_iff {s : Str} : PyData.strOk s = true ↔ ∀ c ∈ s.cps.toList, c < 1114112 := by
  unfold PyData.strOk
  rw [← Array.all_toList, List.all_eq_true]
  simp
theorem strOk_lit (s : String) : PyData.strOk (Str.ofString s) = true := by
  rw [strOk_iff, signs_ofString]
  intro c hc
  obtain ⟨ch, _, rfl⟩ := List.mem_map.mp hc
  have := ch.valid
  have e : ch.toNat = ch.val.toNat := rfl
  rw [e]
  rcases this with h | ⟨_, h⟩
  · have h' : ch.val.toNat < 0xd800 := h
    omega
  · have h' : ch.val.toNat < 0x110000 := h
    omega
theorem strOk_app {a b : Str} (ha : PyData.strOk a = true) (hb : PyData.strOk b = true) : PyData.strOk (a ++ b) = true := by
  rw [strOk_iff] at *
  intro c hc
  rcases mem_cps_append.mp hc with h | h
  · exact ha c h
  · exact hb c h
theorem strOk_join {sep : Str} {ts : List Str} (hs : PyData.strOk sep = true) (h : ∀ t ∈ ts, PyData.strOk t = true) : PyData.strOk (Str.join sep ts) = true := by
  rw [strOk_iff] at *
  intro c hc
  rcases (mem_join sep c ts).mp hc with ⟨t, ht, hc⟩ | ⟨_, hc⟩
  · exact strOk_iff.mp (h t ht) c hc
  · exact hs c hc
theorem join_le {ts : List Str} : (Str.join ", " ts).length ≤ piled ts := by
  by_cases h : ts = []
  · subst h; exact Nat.zero_le _
  · have := join_length_add ts h; omega
def lim : Nat → Nat
  | 0 => 24
  | n + 1 => 4 + 9 * (lim n + 2)
end L4
set_option Elab.async false
set_option linter.all false
set_option maxRecDepth 100000
namespace L4
open PySem PySem.Spec PyProof.Rows L2 L3
theorem eqI (a b : Int) : opEq (.int a) (.int b) = some (a == b) := by
  unfold opEq eqOk
  simp [PyData.canLay0, PyData.depth, PyData.eqv]
theorem gtI (a b : Int) : opGt (.int a) (.int b) = some (decide (b < a)) := id rfl
theorem geI (a b : Int) : opGe (.int a) (.int b) = some (decide (b ≤ a)) := id rfl
theorem addI (a b : Int) : opAdd (.int a) (.int b) = some (.int (a + b)) := id rfl
theorem modI (i j : Int) (h : 0 < j) : opMod (.int i) (.int j) = some (.int (i % j)) := if_pos h
theorem divI (i j : Int) (h : 0 < j) (h2 : j < 1073741824) : opDiv (.int i) (.int j) = some (.int (i / j)) := if_pos (by simp [h, h2])
theorem mulL (i j : Int) (h : -(2 ^ 64) < i) (h2 : i < 2 ^ 64) : opMulI (.int i) (.int j) = some (.int (i * j)) := if_pos (by simp only [mulOk, Bool.or_eq_true, Bool.and_eq_true, decide_eq_true_eq]; exact .inl ⟨h, h2⟩)
theorem mulR (i j : Int) (h : -(2 ^ 64) < j) (h2 : j < 2 ^ 64) : opMulI (.int i) (.int j) = some (.int (i * j)) := if_pos (by simp only [mulOk, Bool.or_eq_true, Bool.and_eq_true, decide_eq_true_eq]; exact .inr ⟨h, h2⟩)
theorem lenT (ds : List D) : fLen [.tuple ds] = some (.int ds.length) := id rfl
theorem lenL (ds : List D) : fLen [.list ds] = some (.int ds.length) := id rfl
theorem seqT (ds : List D) : seqD (.tuple ds) = some ds := id rfl
theorem seqL (ds : List D) : seqD (.list ds) = some ds := id rfl
theorem tupL (ds : List D) : fTuple [.list ds] = some (.tuple ds) := id rfl
theorem tupT (ds : List D) : fTuple [.tuple ds] = some (.tuple ds) := id rfl
theorem cutT (ds : List D) (lo hi : Option Int) : fCut (.tuple ds) lo hi = some (.tuple (L4.cutD ds lo hi)) := id rfl
theorem cutLs (ds : List D) (lo hi : Option Int) : fCut (.list ds) lo hi = some (.list (L4.cutD ds lo hi)) := id rfl
theorem ixTn (ds : List D) (n : Nat) (h : n < ds.length) : opIx (.tuple ds) (.int n) = some ds[n] := atI_nat ds n h
theorem ixT0 (a : D) (r : List D) : opIx (.tuple (a :: r)) (.int 0) = some a := ixTn (a :: r) 0 (by simp)
theorem ixT1 (a b : D) (r : List D) : opIx (.tuple (a :: b :: r)) (.int 1) = some b := ixTn (a :: b :: r) 1 (by simp)
theorem ixT2 (a b c : D) (r : List D) : opIx (.tuple (a :: b :: c :: r)) (.int 2) = some c := ixTn (a :: b :: c :: r) 2 (by simp)
theorem ix3_0 (a b c : D) : opIx (.list [a, b, c]) (.int 0) = some a := id rfl
theorem ix3_1 (a b c : D) : opIx (.list [a, b, c]) (.int 1) = some b := id rfl
theorem ix3_2 (a b c : D) : opIx (.list [a, b, c]) (.int 2) = some c := id rfl
theorem put3_0 (a b c d : D) : putD [a, b, c] (.int 0) d = some [d, b, c] := id rfl
theorem put3_2 (a b c d : D) : putD [a, b, c] (.int 2) d = some [a, b, d] := id rfl
theorem beq_len (n m : Nat) : ((n : Int) == (m : Int)) = decide (n = m) := by
  by_cases h : n = m
  · simp [h]
  · simp only [h, decide_false]; rw [beq_eq_false_iff_ne]; omega
def sW (lo hi : Int) : D → Bool
  | .int i => decide (lo ≤ i) && decide (i ≤ hi)
  | _ => false
def sS (w : Str) : D → Bool
  | .str s => s == w
  | _ => false
def Ey (d : D) : Prop := d.canLay0 = true ∧ d.depth ≤ 1000
end L4
set_option Elab.async false
set_option linter.all false
set_option maxRecDepth 100000
namespace L4
open PySem PySem.Spec PyProof.Rows L2 L3
theorem forC_pre {S T ι : Type} {step : T → D → (T → M S) → M S} {e : ι → D} {F : List ι → T} {k : T → M S} : ∀ (is pre : List ι),
    (∀ p i q, is = p ++ i :: q → ∀ kn : T → M S, step (F (pre ++ p)) (e i) kn = kn (F (pre ++ p ++ [i]))) → forC step (is.map e) (F pre) k = k (F (pre ++ is))
  | [], pre, _ => by simp [forC]
  | i :: r, pre, h => by
    show step (F pre) (e i) _ = _
    have h0 := h [] i r rfl (fun s' => forC step (r.map e) s' k)
    rw [List.append_nil] at h0
    rw [h0]
    have := forC_pre (step := step) (e := e) (F := F) (k := k) r (pre ++ [i]) fun p j q hq kn => by
      have := h (i :: p) j q (by rw [hq]; rfl) kn
      simpa using this
    rw [this]
    simp
theorem forS_pre {S T ι : Type} {step : T → D → (T → M S) → M S} {e : ι → D} {F : List ι → T} {k : T → M S} (is : List ι)
    (h : ∀ p i q, is = p ++ i :: q → ∀ kn : T → M S, step (F p) (e i) kn = kn (F (p ++ [i]))) : forS step (is.map e) (F []) k = k (F is) := by
  rw [forS_is]
  have := forC_pre (step := step) (e := e) (F := F) (k := k) is [] (by simpa using h)
  simpa using this
theorem forC_ex {S T : Type} {step : T → D → (T → M S) → M S} {R : M S → Prop} {P : Nat → T → Prop} {k : T → M S} : ∀ (ds : List D) (i : Nat) (s : T),
    (∀ (j : Nat) (s : T) (d : D), ds[j]? = some d → P (i + j) s → ∀ kn : T → M S, (∀ s', P (i + j + 1) s' → R (kn s')) → R (step s d kn)) →
    P i s → (∀ s', P (i + ds.length) s' → R (k s')) → R (forC step ds s k)
  | [], i, s, _, hp, hk => hk s hp
  | d :: r, i, s, h, hp, hk => by
    show R (step s d _)
    refine h 0 s d rfl hp _ fun s' hp' => ?_
    refine forC_ex r (i + 1) s' (fun j s d hd hp kn hkn => h (j + 1) s d (by simpa using hd) (by rw [show i + (j + 1) = i + 1 + j by omega]; exact hp) kn fun s' q => hkn s' (by rw [show i + 1 + j + 1 = i + (j + 1) + 1 by omega]; exact q)) hp' fun s' hs => hk s' ?_
    rw [show i + (d :: r).length = i + 1 + r.length by simp; omega]; exact hs
theorem forS_ex {S T : Type} {step : T → D → (T → M S) → M S} {R : M S → Prop} {P : Nat → T → Prop} {k : T → M S} (ds : List D) (s : T)
    (h : ∀ (j : Nat) (s : T) (d : D), ds[j]? = some d → P j s → ∀ kn : T → M S, (∀ s', P (j + 1) s' → R (kn s')) → R (step s d kn))
    (hp : P 0 s) (hk : ∀ s', P ds.length s' → R (k s')) : R (forS step ds s k) := by
  rw [forS_is]
  exact forC_ex ds 0 s (by simpa using h) hp (by simpa using hk)
theorem compC_map {ι : Type} {step : D → M (Option D)} {e g : ι → D} : ∀ (is : List ι), (∀ i ∈ is, step (e i) = .ret (some (g i))) → compC step (is.map e) = .ret (is.map g)
  | [], _ => rfl
  | i :: r, h => by
    rw [List.map_cons, compC, h i List.mem_cons_self, compC_map r fun d hd => h d (List.mem_cons_of_mem _ hd)]
    rfl
theorem compE_ix0 {T ι : Type} {step : T → D → M (Option D × T)} {P : Nat → T → Prop} {e : ι → D} {R : ι → Prop} : ∀ (ds : List D) (i : Nat) (s : T),
    (∀ (j : Nat) (s : T) (d : D), ds[j]? = some d → P (i + j) s → ∃ x s', step s d = .ret (some (e x), s') ∧ P (i + j + 1) s' ∧ R x) → P i s →
    ∃ xs s', compE step ds s = .ret (List.map e xs, s') ∧ P (i + ds.length) s' ∧ xs.length = ds.length ∧ ∀ x ∈ xs, R x
  | [], i, s, _, hp => ⟨[], s, rfl, hp, rfl, fun _ h => by cases h⟩
  | d :: r, i, s, h, hp => by
    obtain ⟨x, s1, e1, p1, r1⟩ := h 0 s d rfl hp
    obtain ⟨xs, s2, e2, p2, l2, r2⟩ := compE_ix0 r (i + 1) s1 (fun j s d hd hp => by
      have := h (j + 1) s d (by simpa using hd) (by rw [show i + (j + 1) = i + 1 + j by omega]; exact hp)
      rw [show i + (j + 1) + 1 = i + 1 + j + 1 by omega] at this
      exact this) p1
    refine ⟨x :: xs, s2, ?_, ?_, by simp [l2], ?_⟩
    · rw [compE, e1]; simp only [noX_ret, bd_ret]; rw [e2]; rfl
    · rw [show i + (d :: r).length = i + 1 + r.length by simp; omega]; exact p2
    · intro y hy
      cases hy with
      | head => exact r1
      | tail _ h => exact r2 y h
theorem compE_ix {T ι : Type} {step : T → D → M (Option D × T)} {P : Nat → T → Prop} {e : ι → D} {R : ι → Prop} (ds : List D) (s : T)
    (h : ∀ (j : Nat) (s : T) (d : D), ds[j]? = some d → P j s → ∃ x s', step s d = .ret (some (e x), s') ∧ P (j + 1) s' ∧ R x) (hp : P 0 s) :
    ∃ xs s', compE step ds s = .ret (List.map e xs, s') ∧ P ds.length s' ∧ xs.length = ds.length ∧ ∀ x ∈ xs, R x := by
  have := compE_ix0 (step := step) (P := P) (e := e) (R := R) ds 0 s (by simpa using h) hp
  simpa using this
abbrev iN (n : Nat) : D := .int (n : Int)
def rng (lo hi : Nat) : List Nat := (List.range (hi - lo)).map (lo + ·)
theorem rng_length (lo hi : Nat) : (rng lo hi).length = hi - lo := by simp [rng]
theorem rangeD_nat (lo n : Nat) : rangeD (lo : Int) n = ((List.range n).map (lo + ·)).map iN := by
  unfold rangeD
  rw [List.map_map]
  apply List.map_congr_left
  intro a _
  show PyData.int _ = PyData.int _
  congr 1
theorem small_nat {n : Nat} (h : n ≤ 100000) : small62 (n : Int) = true := by
  unfold small62
  simp only [Bool.and_eq_true, decide_eq_true_eq]
  omega
theorem range1N (n : Nat) (h : n ≤ 100000) : fRange1 [.int (n : Int)] = some ((List.range n).map iN) := by
  unfold fRange1
  simp only [small_nat h, if_true]
  have := rangeD_nat 0 n
  simp only [Int.toNat_natCast]
  rw [show (0 : Int) = ((0 : Nat) : Int) from rfl, this]
  simp
theorem range2N (lo hi : Nat) (h : lo ≤ 100000) (h2 : hi ≤ 100000) : fRange2 [.int (lo : Int), .int (hi : Int)] = some ((rng lo hi).map iN) := by
  unfold fRange2
  simp only [small_nat h, small_nat h2, Bool.and_self, if_true]
  rw [show ((hi : Int) - (lo : Int)).toNat = hi - lo by omega, rangeD_nat]
  rfl
mutual
def sz : D → Nat
  | .list ds => 1 + szs ds
  | .tuple ds => 1 + szs ds
  | .none => 1
  | .bool _ => 1
  | .int _ => 1
  | .str _ => 1
  | .dict _ => 1
def szs : List D → Nat
  | [] => 0
  | d :: r => sz d + szs r
end
mutual
def Sm : D → Prop
  | .list ds => Sms ds
  | .tuple ds => Sms ds
  | .none => True
  | .bool _ => True
  | .int i => i.natAbs < 10 ^ 19
  | .str s => wordOk s = true
  | .dict _ => False
def Sms : List D → Prop
  | [] => True
  | d :: r => Sm d ∧ Sms r
end
theorem Sms_of : ∀ {ds : List D}, (∀ d ∈ ds, Sm d) → Sms ds
  | [], _ => by simp [Sms]
  | e :: r, h => by
    simp only [Sms]
    exact ⟨h e List.mem_cons_self, Sms_of fun d hd => h d (List.mem_cons_of_mem _ hd)⟩
mutual
theorem Sm.lay : ∀ {d : D}, Sm d → d.canLay0 = true
  | .none, h => by simp [PyData.canLay0]
  | .bool _, h => by simp [PyData.canLay0]
  | .int _, h => by simp [PyData.canLay0]
  | .str s, h => by
    have h' : wordOk s = true := by simpa [Sm] using h
    unfold wordOk at h'
    simp only [Bool.and_eq_true] at h'
    simp [PyData.canLay0, h'.1.1]
  | .list ds, h => by simp only [PyData.canLay0]; exact Sms.lay (by simpa [Sm] using h)
  | .tuple ds, h => by simp only [PyData.canLay0]; exact Sms.lay (by simpa [Sm] using h)
  | .dict _, h => by simp [Sm] at h
theorem Sms.lay : ∀ {ds : List D}, Sms ds → PyData.canLayAll0 ds = true
  | [], _ => by simp [PyData.canLayAll0]
  | d :: r, h => by
    simp only [Sms] at h
    simp only [PyData.canLayAll0, Bool.and_eq_true]
    exact ⟨Sm.lay h.1, Sms.lay h.2⟩
end
mutual
theorem Sm.show : ∀ {d : D}, Sm d → d.showable = true
  | .none, h => by simp [PyData.showable]
  | .bool _, h => by simp [PyData.showable]
  | .int i, h => by
    have h' : i.natAbs < 10 ^ 19 := by simpa [Sm] using h
    simp only [PyData.showable, decide_eq_true_eq]
    exact log_lt (Nat.lt_of_lt_of_le h' (Nat.pow_le_pow_right (by decide) (by decide)))
  | .str s, h => by simp [PyData.showable]
  | .list ds, h => by simp only [PyData.showable]; exact Sms.show (by simpa [Sm] using h)
  | .tuple ds, h => by simp only [PyData.showable]; exact Sms.show (by simpa [Sm] using h)
  | .dict _, h => by simp [Sm] at h
theorem Sms.show : ∀ {ds : List D}, Sms ds → PyData.showableAll ds = true
  | [], _ => by simp [PyData.showableAll]
  | d :: r, h => by
    simp only [Sms] at h
    simp only [PyData.showableAll, Bool.and_eq_true]
    exact ⟨Sm.show h.1, Sms.show h.2⟩
end
mutual
theorem Sm.text : ∀ {d : D}, Sm d → d.shown.length + 2 ≤ 30 * sz d ∧ PyData.strOk d.shown = true
  | .none, h => by refine ⟨?_, by simp only [PyData.shown]; exact strOk_lit _⟩; simp only [PyData.shown, sz]; decide
  | .bool b, h => by
    refine ⟨?_, by cases b <;> simp only [PyData.shown] <;> exact strOk_lit _⟩
    cases b <;> simp only [PyData.shown, sz] <;> decide
  | .int i, h => by
    have h' : i.natAbs < 10 ^ 19 := by simpa [Sm] using h
    refine ⟨?_, by simp only [PyData.shown]; exact strOk_lit _⟩
    simp only [PyData.shown, sz]
    have h1 := int_text_length_le10 (a := i) (k := 19) (by decide) h'
    have h2 : (Str.ofString (toString i)).length = (toString i).length := by
      show (Str.ofString (toString i)).cps.size = _
      rw [← Array.length_toList, signs_ofString, List.length_map, String.length_toList]
    omega
  | .str s, h => by
    have h' : wordOk s = true := by simpa [Sm] using h
    unfold wordOk at h'
    simp only [Bool.and_eq_true, decide_eq_true_eq] at h'
    simp only [PyData.shown, sz]
    exact ⟨by omega, h'.2⟩
  | .list ds, h => by
    obtain ⟨h1, h2⟩ := Sms.text (ds := ds) (by simpa [Sm] using h)
    have h5 : (Str.join ", " (PyData.shownAll ds)).length ≤ piled (PyData.shownAll ds) := join_le
    have h6 : PyData.strOk (Str.join ", " (PyData.shownAll ds)) = true := strOk_join (strOk_lit _) h2
    simp only [PyData.shown, listText_eq_join, sz]
    refine ⟨?_, strOk_app (strOk_app (strOk_lit _) h6) (strOk_lit _)⟩
    rw [strLen_append, strLen_append]
    have e1 : ((("[" : String) : Str)).length = 1 := rfl
    have e2 : ((("]" : String) : Str)).length = 1 := rfl
    rw [e1, e2]; omega
  | .tuple ds, h => by
    obtain ⟨h1, h2⟩ := Sms.text (ds := ds) (by simpa [Sm] using h)
    have h5 : (Str.join ", " (PyData.shownAll ds)).length ≤ piled (PyData.shownAll ds) := join_le
    have h6 : PyData.strOk (Str.join ", " (PyData.shownAll ds)) = true := strOk_join (strOk_lit _) h2
    simp only [PyData.shown, tupleText, sz]
    refine ⟨?_, strOk_app (strOk_app (strOk_lit _) h6) (strOk_lit _)⟩
    rw [strLen_append, strLen_append]
    have e1 : ((("(" : String) : Str)).length = 1 := rfl
    have e3 : (((if (PyData.shownAll ds).length == 1 then ",)" else ")" : String) : Str)).length ≤ 2 := by split <;> decide
    rw [e1]; omega
  | .dict _, h => by simp [Sm] at h
theorem Sms.text : ∀ {ds : List D}, Sms ds → piled (PyData.shownAll ds) ≤ 30 * szs ds ∧ ∀ t ∈ PyData.shownAll ds, PyData.strOk t = true
  | [], _ => by simp [PyData.shownAll, piled, szs]
  | d :: r, h => by
    simp only [Sms] at h
    obtain ⟨h1, h2⟩ := Sm.text h.1
    obtain ⟨h3, h4⟩ := Sms.text h.2
    simp only [PyData.shownAll, szs]
    refine ⟨?_, fun t ht => ?_⟩
    · rw [piled_cons]; omega
    · rcases List.mem_cons.mp ht with rfl | ht
      · exact h2
      · exact h4 t ht
end
theorem reprS {d : D} (h : Sm d) (hs : sz d ≤ 30000) (hd : d.depth ≤ 60) : fRepr [d] = some (.str d.shown) := by
  obtain ⟨t1, t2⟩ := h.text
  show (if reprOk d then some (PyData.str d.shown) else none) = _
  unfold reprOk
  rw [if_pos]
  simp only [Bool.and_eq_true, decide_eq_true_eq]
  exact ⟨⟨⟨h.show, h.lay⟩, by omega⟩, Nat.le_trans (show d.shown.length ≤ 1000000 by omega) (by decide)⟩
theorem neSelf {d : D} (h : Sm d) : opNe (.str d.shown) (.str d.shown) = some false := by
  obtain ⟨t1, t2⟩ := h.text
  unfold opNe eqOk
  rw [if_pos]
  · simp [PyData.eqv]
  · simp [PyData.canLay0, t2, PyData.depth]
end L4
set_option Elab.async false
set_option linter.all false
set_option maxRecDepth 100000
namespace L4
open PySem PySem.Spec PyProof.Rows L2 L3
theorem ixA_L (ds : List D) (k : D) : opIxA (.list ds) k = opIx (.list ds) k := id rfl
theorem ixA_T (ds : List D) (k : D) : opIxA (.tuple ds) k = opIx (.tuple ds) k := id rfl
theorem leA (a b : Int) : opLeA (.int a) (.int b) = some (decide (a ≤ b)) := id rfl
theorem ltA (a b : Int) : opLtA (.int a) (.int b) = some (decide (a < b)) := id rfl
theorem inA_L (d : D) (ds : List D) : opInA d (.list ds) = opIn d (.list ds) := id rfl
theorem inA_T (d : D) (ds : List D) : opInA d (.tuple ds) = opIn d (.tuple ds) := id rfl
theorem notInA_L (d : D) (ds : List D) : opNotInA d (.list ds) = opNotIn d (.list ds) := id rfl
theorem notInA_T (d : D) (ds : List D) : opNotInA d (.tuple ds) = opNotIn d (.tuple ds) := id rfl
theorem ixN_L {ι : Type} (e : ι → D) (is : List ι) (n : Nat) (h : n < is.length) : opIx (.list (is.map e)) (.int (n : Int)) = some (e is[n]) := by
  have := atI_nat (is.map e) n (by simpa using h)
  rw [List.getElem_map] at this
  exact this
theorem ixN_T {ι : Type} (e : ι → D) (is : List ι) (n : Nat) (h : n < is.length) : opIx (.tuple (is.map e)) (.int (n : Int)) = some (e is[n]) := by
  have := atI_nat (is.map e) n (by simpa using h)
  rw [List.getElem_map] at this
  exact this
theorem app_ok (ds : List D) (d : D) (h : ds.length ≤ 100000) : mApp ds [d] = some (ds ++ [d]) := if_pos (Nat.lt_of_le_of_lt h (by decide))
theorem fitM_big {S : Type} {ds : List S} (h : ds.length ≤ 100000) : fitM ds = .ret ds := if_pos (Nat.le_trans h (by decide))
abbrev pD (p : Nat × Nat) : D := .tuple [iN p.1, iN p.2]
theorem natEq (a b : Nat) : ((a : Int) == (b : Int)) = decide (a = b) := beq_len a b
theorem eqv_pair (p q : Nat × Nat) : PyData.eqv (pD p) (pD q) = decide (p = q) := by
  simp only [pD, iN, PyData.eqv, PyData.eqvAll, natEq, Bool.and_true]
  rw [Bool.eq_iff_iff]
  simp [Prod.ext_iff]
theorem lay_pair (p : Nat × Nat) : (pD p).canLay0 = true ∧ (pD p).depth ≤ 1000 := by
  simp [pD, PyData.canLay0, PyData.canLayAll0, PyData.depth, PyData.depthAll]
theorem eqP (p q : Nat × Nat) : opEq (pD p) (pD q) = some (decide (p = q)) := by
  unfold opEq eqOk
  rw [if_pos (by simp [lay_pair]), eqv_pair]
theorem notInP2 (p q r : Nat × Nat) : opNotIn (pD p) (.tuple [pD q, pD r]) = some (!(decide (q = p) || decide (r = p))) := by
  have hi : inOk (pD p) [pD q, pD r] = true := by
    unfold inOk
    simp [lay_pair, PyData.canLayAll0]
  rw [show opNotIn (pD p) (.tuple [pD q, pD r]) = if inOk (pD p) [pD q, pD r] then some (!([pD q, pD r].any fun y => PyData.eqv y (pD p))) else none from rfl, if_pos hi]
  simp only [List.any_cons, List.any_nil, eqv_pair, Bool.or_false]
theorem eqN (a b : Nat) : opEq (iN a) (iN b) = some (decide (a = b)) := by
  show opEq (.int a) (.int b) = _
  rw [eqI, natEq]
theorem addN (a b : Nat) : opAdd (iN a) (iN b) = some (iN (a + b)) := by
  show some (PyData.int ((a : Int) + (b : Int))) = _
  rw [← Int.natCast_add]
abbrev Mt := Nat × Nat × Nat × Nat
abbrev mD (m : Mt) : D := .tuple [iN m.1, iN m.2.1, iN m.2.2.1, iN m.2.2.2]
structure Rl where
  n : Nat
  st : List Nat
  ms : List Mt
  sy : List Bool
abbrev Rl.d (r : Rl) : D := .tuple [iN r.n, .tuple (r.st.map iN), .tuple (r.ms.map mD), .tuple (r.sy.map PyData.bool)]
def plt (p q : Nat × Nat) : Prop := p.1 < q.1 ∨ p.1 = q.1 ∧ p.2 < q.2
structure MtOk (n : Nat) (m : Mt) : Prop where
  ab : m.1 ≤ m.2.1
  b : m.2.1 < n
  c : m.2.2.1 < n
  d : m.2.2.2 < n
  ne : m.2.2 ≠ (m.1, m.2.1)
  ne' : m.2.2 ≠ (m.2.1, m.1)
structure Wf (r : Rl) : Prop where
  n1 : 1 ≤ r.n
  st : ∀ s ∈ r.st, s < r.n
  sy : r.sy.length = r.n
  ms : ∀ m ∈ r.ms, MtOk r.n m
  so : r.ms.Pairwise fun m m' => plt (m.1, m.2.1) (m'.1, m'.2.1)
def look (ms : List Mt) (p : Nat × Nat) : Option (Nat × Nat) := (ms.find? fun m => decide (m.1 = p.1) && decide (m.2.1 = p.2)).map (·.2.2)
def turn (ms : List Mt) (i j : Nat) : Nat × Nat := if i ≤ j then (look ms (i, j)).getD (i, j) else let t := (look ms (j, i)).getD (j, i); (t.2, t.1)
theorem look_mem {ms : List Mt} {p q : Nat × Nat} (h : look ms p = some q) : (p.1, p.2, q.1, q.2) ∈ ms := by
  unfold look at h
  obtain ⟨m, hm, rfl⟩ := Option.map_eq_some_iff.mp h
  have h1 := List.find?_some hm
  have h2 := List.mem_of_find?_eq_some hm
  simp only [Bool.and_eq_true, decide_eq_true_eq] at h1
  rw [← h1.1, ← h1.2]
  exact h2
theorem turn_lt {r : Rl} (w : Wf r) {i j : Nat} (hi : i < r.n) (hj : j < r.n) : (turn r.ms i j).1 < r.n ∧ (turn r.ms i j).2 < r.n := by
  have go : ∀ a b, a < r.n → b < r.n → ((look r.ms (a, b)).getD (a, b)).1 < r.n ∧ ((look r.ms (a, b)).getD (a, b)).2 < r.n := fun a b ha hb => by
    cases e : look r.ms (a, b) with
    | none => exact ⟨ha, hb⟩
    | some q =>
      have m := w.ms _ (look_mem e)
      exact ⟨m.c, m.d⟩
  unfold turn
  split
  · exact go i j hi hj
  · obtain ⟨h1, h2⟩ := go j i hj hi
    exact ⟨h2, h1⟩
end L4
set_option Elab.async false
set_option linter.all false
set_option maxRecDepth 100000
namespace L4
open PySem PySem.Spec PyProof.Rows L2 L3
theorem sm_nat {n : Nat} (h : n ≤ 1000000000) : Sm (iN n) := by
  simp only [iN, Sm, Int.natAbs_natCast]
  exact Nat.lt_of_le_of_lt h (by decide)
theorem sm_nats {l : List Nat} (h : ∀ s ∈ l, s ≤ 1000000000) : Sm (.tuple (l.map iN)) := by
  simp only [Sm]
  refine Sms_of fun d hd => ?_
  obtain ⟨s, hs, rfl⟩ := List.mem_map.mp hd
  exact sm_nat (h s hs)
theorem szs_map {ι : Type} {e : ι → D} {B : Nat} (h : ∀ i, sz (e i) = B) : ∀ l : List ι, szs (l.map e) = l.length * B
  | [] => by simp [szs]
  | i :: r => by rw [List.map_cons, szs, szs_map h r, h i, List.length_cons, Nat.succ_mul]; omega
theorem depth_tuple {ds : List D} {n : Nat} (h : ∀ d ∈ ds, d.depth ≤ n) : (PyData.tuple ds).depth ≤ n + 1 := by
  have := deep_all h
  simp only [PyData.depth]; omega
theorem min2 (a b : Nat) : fMin2 [.int (a : Int), .int (b : Int)] = some (iN (min a b)) := by
  show some (PyData.int _) = _
  congr 2
  split <;> omega
end L4
set_option Elab.async false
set_option linter.all false
set_option maxRecDepth 100000
namespace L4
open PySem PySem.Spec PyProof.Rows L2 L3
abbrev kvM (m : Mt) : D × D := (pD (m.1, m.2.1), pD m.2.2)
theorem keyQ_pD (p q : Nat × Nat) : keyQ (pD p) (pD q) = decide (p = q) := by
  show (decide ((p.1 : Int) = q.1) && (decide ((p.2 : Int) = q.2) && true)) = _
  rw [Bool.eq_iff_iff]
  simp [Prod.ext_iff]
  omega
theorem isKey_pD (p : Nat × Nat) : isKeyT (pD p) = true := id rfl
theorem isKeyK_pD (p : Nat × Nat) : isKeyK (pD p) = false := id rfl
theorem keyOk_ms (ms : List Mt) (p : Nat × Nat) : keyOk (ms.map kvM) (pD p) = true := by
  unfold keyOk
  rw [isKey_pD, Bool.true_and, isKeyK_pD, Bool.false_and, Bool.or_false, List.all_eq_true]
  intro x hx
  obtain ⟨m, _, rfl⟩ := List.mem_map.mp hx
  rfl
theorem getE_ms (p : Nat × Nat) : ∀ ms : List Mt, getE (ms.map kvM) (pD p) = (look ms p).map pD
  | [] => rfl
  | m :: r => by
    have ih := getE_ms p r
    unfold getE look at ih ⊢
    rw [List.map_cons, List.find?_cons, List.find?_cons, keyQ_pD]
    by_cases h : (m.1, m.2.1) = p
    · have h1 : m.1 = p.1 := by rw [← h]
      have h2 : m.2.1 = p.2 := by rw [← h]
      simp [h1, h2]
    · have h1 : (decide (m.1 = p.1) && decide (m.2.1 = p.2)) = false := by
        rw [Bool.eq_false_iff]
        intro q
        simp only [Bool.and_eq_true, decide_eq_true_eq] at q
        exact h (Prod.ext q.1 q.2)
      rw [h1]
      simp only [h, decide_false]
      exact ih
theorem dget_ms (ms : List Mt) (p : Nat × Nat) : dGet2 (.dict (ms.map kvM)) (pD p) (pD p) = some (pD ((look ms p).getD p)) := by
  show (if keyOk _ _ then some ((getE _ _).getD _) else none) = _
  rw [if_pos (keyOk_ms ms p), getE_ms]
  cases look ms p <;> rfl
theorem putE_new {es : List (D × D)} {k d : D} (h : ∀ p ∈ es, keyQ p.1 k = false) : putE es k d = es ++ [(k, d)] := by
  unfold putE
  rw [if_neg]
  rw [Bool.not_eq_true, List.any_eq_false]
  intro p hp
  rw [h p hp]
  decide
theorem look_cons (m : Mt) (r : List Mt) (p : Nat × Nat) : look (m :: r) p = if (m.1, m.2.1) = p then some m.2.2 else look r p := by
  unfold look
  rw [List.find?_cons]
  by_cases h : (m.1, m.2.1) = p
  · have h1 : m.1 = p.1 := by rw [← h]
    have h2 : m.2.1 = p.2 := by rw [← h]
    simp [h1, h2]
  · have h1 : (decide (m.1 = p.1) && decide (m.2.1 = p.2)) = false := by
      rw [Bool.eq_false_iff]
      intro q
      simp only [Bool.and_eq_true, decide_eq_true_eq] at q
      exact h (Prod.ext q.1 q.2)
    rw [h1, if_neg h]
theorem add1N (a : Nat) : opAdd (.int 1) (iN a) = some (iN (a + 1)) := by
  show some (PyData.int (1 + (a : Int))) = some (PyData.int ((a + 1 : Nat) : Int))
  rw [Int.natCast_add, Int.add_comm]
  rfl
theorem rng_at {lo hi j : Nat} {d : D} (h : ((rng lo hi).map iN)[j]? = some d) : d = iN (lo + j) ∧ lo + j < hi := by
  rw [List.getElem?_map] at h
  obtain ⟨x, hx, rfl⟩ := Option.map_eq_some_iff.mp h
  have hl := (List.getElem?_eq_some_iff.mp hx).1
  rw [rng_length] at hl
  unfold rng at hx
  rw [List.getElem?_map, List.getElem?_range hl] at hx
  cases hx
  exact ⟨rfl, by omega⟩
theorem range_at {n j : Nat} {d : D} (h : ((List.range n).map iN)[j]? = some d) : d = iN j ∧ j < n := by
  rw [List.getElem?_map] at h
  obtain ⟨x, hx, rfl⟩ := Option.map_eq_some_iff.mp h
  have hl := (List.getElem?_eq_some_iff.mp hx).1
  rw [List.length_range] at hl
  rw [List.getElem?_range hl] at hx
  cases hx
  exact ⟨rfl, hl⟩
theorem ixG_T {ι : Type} (e : ι → D) (is : List ι) (n : Nat) (z : ι) (h : n < is.length) : opIx (.tuple (is.map e)) (.int (n : Int)) = some (e (is.getD n z)) := by
  rw [ixN_T e is n h, List.getD_eq_getElem?_getD, List.getElem?_eq_getElem h]
  rfl
theorem getD_lt {l : List Nat} {n : Nat} (h : ∀ s ∈ l, s < n) {k : Nat} (hk : k < l.length) : l.getD k 0 < n := by
  rw [List.getD_eq_getElem?_getD, List.getElem?_eq_getElem hk]
  exact h _ (List.getElem_mem _)
theorem zipD_nat : ∀ (as bs : List Nat), zipD (as.map iN) (bs.map iN) = (as.zip bs).map pD := by
  intro as
  induction as with
  | nil => intro bs; rfl
  | cons a as ih =>
    intro bs
    cases bs with
    | nil => rfl
    | cons b bs =>
      unfold zipD at ih ⊢
      simp [ih]
structure Ahd (n a b : Nat) (ms : List Mt) : Prop where
  ok : ∀ m ∈ ms, MtOk n m
  so : ms.Pairwise fun m m' => plt (m.1, m.2.1) (m'.1, m'.2.1)
  ah : ∀ m ∈ ms, plt (m.1, m.2.1) (a, b)
  le : ms.length ≤ a * n + b
theorem Ahd.next {n a b : Nat} {ms : List Mt} (h : Ahd n a b ms) : Ahd n a (b + 1) ms :=
  ⟨h.ok, h.so, fun m hm => by rcases h.ah m hm with q | ⟨q, q2⟩ <;> simp only [plt] at * <;> omega, by have := h.le; omega⟩
theorem Ahd.add {n a b : Nat} {ms : List Mt} {c d : Nat} (h : Ahd n a b ms) (hm : MtOk n (a, b, c, d)) : Ahd n a (b + 1) (ms ++ [(a, b, c, d)]) := by
  refine ⟨fun m hm' => ?_, ?_, fun m hm' => ?_, by have := h.le; simp; omega⟩
  · rcases List.mem_append.mp hm' with q | q
    · exact h.ok m q
    · rw [List.mem_singleton.mp q]; exact hm
  · rw [List.pairwise_append]
    refine ⟨h.so, List.pairwise_singleton _ _, fun m hm x hx => ?_⟩
    rw [List.mem_singleton.mp hx]
    exact h.ah m hm
  · rcases List.mem_append.mp hm' with q | q
    · rcases h.ah m q with q | ⟨q, q2⟩ <;> simp only [plt] at * <;> omega
    · rw [List.mem_singleton.mp q]; exact .inr ⟨rfl, Nat.lt_succ_self _⟩
theorem Ahd.row {n a b : Nat} {ms : List Mt} (h : Ahd n a b ms) (hb : b ≤ n) : Ahd n (a + 1) (a + 1) ms :=
  ⟨h.ok, h.so, fun m hm => by rcases h.ah m hm with q | ⟨q, q2⟩ <;> simp only [plt] at * <;> omega, by have := h.le; rw [Nat.succ_mul]; omega⟩
theorem un2_pD {S : Type} (p : Nat × Nat) (k : D → D → M S) : un2 (pD p) k = k (iN p.1) (iN p.2) := id rfl
theorem fZip_tt (as bs : List D) : fZip [.tuple as, .tuple bs] = some (zipD as bs) := id rfl
end L4
set_option Elab.async false
set_option linter.all false
set_option maxRecDepth 100000
namespace L4
open PySem PySem.Spec PyProof.Rows L2 L3
def tab (n : Nat) (f : Nat → Nat) : List Nat := (List.range n).map f
abbrev tabD (n : Nat) (f : Nat → Nat) : List D := (tab n f).map iN
def up (f : Nat → Nat) (i v : Nat) : Nat → Nat := fun r => if r = i then v else f r
theorem tab_length (n : Nat) (f : Nat → Nat) : (tab n f).length = n := by simp [tab]
theorem tab_at {n : Nat} {f : Nat → Nat} {i : Nat} (h : i < n) : (tab n f)[i]? = some (f i) := by
  unfold tab
  rw [List.getElem?_map, List.getElem?_range h]
  rfl
theorem tab_set (n : Nat) (f : Nat → Nat) (i v : Nat) : (tab n f).set i v = tab n (up f i v) := by
  apply List.ext_getElem?
  intro r
  by_cases hr : r < n
  · rw [tab_at hr]
    by_cases h : i = r
    · subst h
      rw [List.getElem?_set_self (by rw [tab_length]; exact hr)]
      simp [up]
    · rw [List.getElem?_set_ne h, tab_at hr]
      unfold up
      rw [if_neg (fun z => h z.symm)]
  · rw [List.getElem?_eq_none_iff.mpr (by rw [List.length_set, tab_length]; omega), List.getElem?_eq_none_iff.mpr (by rw [tab_length]; omega)]
theorem tab_ixL {n : Nat} {f : Nat → Nat} {i : Nat} (h : i < n) : opIx (.list (tabD n f)) (.int (i : Int)) = some (iN (f i)) := by
  have h' : i < (tab n f).length := by rw [tab_length]; exact h
  have := ixN_L iN (tab n f) i h'
  have e : (tab n f)[i]'h' = f i := by
    have := tab_at (f := f) h
    rw [List.getElem?_eq_getElem h'] at this
    exact Option.some.inj this
  rw [this, e]
theorem ixN_nat {n i : Nat} (h : i < n) : L2.ixN n (i : Int) = some i := by
  unfold L2.ixN
  rw [if_pos (by omega), if_pos (by omega)]
  rfl
theorem tab_put {n : Nat} {f : Nat → Nat} {i : Nat} (v : Nat) (h : i < n) : putD (tabD n f) (.int (i : Int)) (iN v) = some (tabD n (up f i v)) := by
  show (L2.ixN _ (i : Int)).map _ = _
  rw [List.length_map, tab_length, ixN_nat h]
  show some ((tabD n f).set i (iN v)) = _
  rw [tabD, ← List.map_set, tab_set]
theorem nats_put {l : List Nat} {i : Nat} (v : Nat) (h : i < l.length) : putD (l.map iN) (.int (i : Int)) (iN v) = some ((l.set i v).map iN) := by
  show (L2.ixN _ (i : Int)).map _ = _
  rw [List.length_map, ixN_nat h]
  show some ((l.map iN).set i (iN v)) = _
  rw [← List.map_set]
theorem addI1 (a : Nat) : opAddI (iN a) (.int 1) = some (iN (a + 1)) := by
  show some (PyData.int ((a : Int) + 1)) = some (PyData.int ((a + 1 : Nat) : Int))
  rw [Int.natCast_add]; rfl
def cnt (hs : List Nat) (r : Nat) : Nat := hs.count r
theorem cnt_snoc (hs : List Nat) (h : Nat) : cnt (hs ++ [h]) = up (cnt hs) h (cnt hs h + 1) := by
  funext r
  unfold cnt up
  rw [List.count_append, List.count_singleton]
  by_cases e : r = h
  · subst e; simp
  · have : ¬ h = r := fun z => e z.symm
    simp [e, this]
theorem mulL_rep (d : D) (k : Nat) (h : k ≤ 100000) : opMulL (.list [d]) (iN k) = some (List.replicate k d) := by
  have e : (List.replicate k [d]).flatten = List.replicate k d := by
    induction k with
    | zero => rfl
    | succ k ih => rw [List.replicate_succ, List.flatten_cons, ih (by omega), List.replicate_succ]; rfl
  have hs : (100000 : Nat) ≤ sizeLine := by decide
  have hl : [d].length * (k : Int).toNat ≤ sizeLine := by
    rw [List.length_singleton, Nat.one_mul, Int.toNat_natCast]
    exact Nat.le_trans h hs
  have h1 : -(2 ^ 63) ≤ (k : Int) := by omega
  have h2 : (k : Int) < 2 ^ 63 := by omega
  have hc : (decide (-(2 ^ 63) ≤ (k : Int)) && decide ((k : Int) < 2 ^ 63) && decide ([d].length * (k : Int).toNat ≤ sizeLine)) = true := by
    rw [decide_eq_true h1, decide_eq_true h2, decide_eq_true hl]; rfl
  have e2 : opMulL (.list [d]) (iN k) = if (decide (-(2 ^ 63) ≤ (k : Int)) && decide ((k : Int) < 2 ^ 63) && decide ([d].length * (k : Int).toNat ≤ sizeLine)) = true then some (List.replicate (k : Int).toNat [d]).flatten else none := id rfl
  rw [e2, if_pos hc, Int.toNat_natCast, e]
theorem zeros_tab (n : Nat) : List.replicate n (PyData.int 0) = tabD n (cnt []) := by
  unfold tabD tab
  rw [List.map_map]
  apply List.ext_getElem
  · simp
  · intro i h1 h2
    simp [cnt]
def canB (f : Nat → Nat) (m : Mt) : Bool := let w := if m.1 = m.2.1 then 2 else 1; decide (w ≤ f m.1) && decide (w ≤ f m.2.1)
def ledF (f : Nat → Nat) (m : Mt) : Nat → Nat :=
  let f1 := up f m.1 (f m.1 - 1)
  let f2 := up f1 m.2.1 (f1 m.2.1 - 1)
  let f3 := up f2 m.2.2.1 (f2 m.2.2.1 + 1)
  up f3 m.2.2.2 (f3 m.2.2.2 + 1)
end L4
set_option Elab.async false
set_option linter.all false
set_option maxRecDepth 100000
namespace L4
open PySem PySem.Spec PyProof.Rows L2 L3
theorem eqSelf {d : D} (h : Sm d) : opEq (.str d.shown) (.str d.shown) = some true := by
  obtain ⟨t1, t2⟩ := h.text
  unfold opEq eqOk
  rw [if_pos]
  · simp [PyData.eqv]
  · simp [PyData.canLay0, t2, PyData.depth]
theorem nats_repr {l : List Nat} (h : ∀ s ∈ l, s ≤ 1000000000) (hl : l.length ≤ 10000) : fRepr [.tuple (l.map iN)] = some (.str (PyData.tuple (l.map iN)).shown) ∧ opNe (.str (PyData.tuple (l.map iN)).shown) (.str (PyData.tuple (l.map iN)).shown) = some false ∧
    opEq (.str (PyData.tuple (l.map iN)).shown) (.str (PyData.tuple (l.map iN)).shown) = some true := by
  have hs := sm_nats h
  refine ⟨reprS hs ?_ ?_, neSelf hs, eqSelf hs⟩
  · simp only [sz]
    rw [szs_map (B := 1) (fun i => by simp [sz])]
    omega
  · refine Nat.le_trans (depth_tuple (n := 1) fun d hd => ?_) (by decide)
    obtain ⟨s, _, rfl⟩ := List.mem_map.mp hd
    simp [iN, PyData.depth]
theorem tab_mem {n : Nat} {f : Nat → Nat} {x : Nat} (h : x ∈ tab n f) : ∃ r, r < n ∧ x = f r := by
  unfold tab at h
  obtain ⟨r, hr, rfl⟩ := List.mem_map.mp h
  exact ⟨r, List.mem_range.mp hr, rfl⟩
def saidS (bs : List Bool) : D := if bs.all id then .str "yes" else if bs.any id then .str "both" else .str "no"
end L4
set_option Elab.async false
set_option linter.all false
set_option maxRecDepth 100000
namespace L4
open PySem PySem.Spec PyProof.Rows L2 L3
def seatOf (l : List (Nat × Nat)) : List Nat := l.flatMap fun p => List.replicate p.2 p.1
theorem seat_snoc (p : List (Nat × Nat)) (x : Nat × Nat) : seatOf (p ++ [x]) = seatOf p ++ List.replicate x.2 x.1 := by
  unfold seatOf
  rw [List.flatMap_append]
  simp
def canNs (f : Nat → Nat) (ms : List Mt) : List Nat := (ms.zipIdx.filter fun p => canB f p.1).map (·.2)
theorem ext_ok (as bs : List D) (h : as.length + bs.length ≤ 100000) : mExt as bs = some (as ++ bs) := if_pos (decide_eq_true (Nat.le_trans h (by decide)))
theorem seat_length (l : List (Nat × Nat)) : (seatOf l).length = (l.map (·.2)).sum := by
  induction l with
  | nil => rfl
  | cons p l ih =>
    unfold seatOf at ih ⊢
    rw [List.flatMap_cons, List.length_append, List.length_replicate, ih, List.map_cons, List.sum_cons]
def metHs (r : Rl) (hs : List Nat) (i j : Nat) : List Nat := (hs.set i (turn r.ms (hs.getD i 0) (hs.getD j 0)).1).set j (turn r.ms (hs.getD i 0) (hs.getD j 0)).2
section
variable {r : Rl} (w : Wf r) {hs : List Nat} {i j : Nat} (hi : i < hs.length) (hj : j < hs.length) (hij : i ≠ j)
include w hi hj hij
end
def cdOf (r q : Rl) (i j : Nat) : Nat × Nat := ((turn r.ms (i / q.n) (j / q.n)).1 * q.n + (turn q.ms (i % q.n) (j % q.n)).1, (turn r.ms (i / q.n) (j / q.n)).2 * q.n + (turn q.ms (i % q.n) (j % q.n)).2)
def cell (r q : Rl) (i j : Nat) : List Mt := if cdOf r q i j = (i, j) then [] else [(i, j, cdOf r q i j)]
def rowMs (r q : Rl) (i : Nat) : List Mt := (rng i (r.n * q.n)).flatMap (cell r q i)
def sideMs (r q : Rl) : List Mt := (List.range (r.n * q.n)).flatMap (rowMs r q)
structure Two (r q : Rl) : Prop where
  wr : Wf r
  wq : Wf q
  rn : r.n ≤ 6
  qn : q.n ≤ 6
  st : r.st.length = q.st.length
  s4 : q.st.length ≤ 4
def sayAt (both a b : Bool) : Bool := if both then a && b else a || b
def saysOf (r q : Rl) (both : Bool) (p : Nat) : Bool := sayAt both (r.sy.getD (p / q.n) false) (q.sy.getD (p % q.n) false)
def startsOf (r q : Rl) : List Nat := (List.range r.st.length).map fun k => r.st.getD k 0 * q.n + q.st.getD k 0
def side (r q : Rl) (both : Bool) : Rl := ⟨r.n * q.n, startsOf r q, sideMs r q, (List.range (r.n * q.n)).map (saysOf r q both)⟩
def wordD (both : Bool) : D := if both then .str "both" else .str "either"
section
variable {r q : Rl} (h : Two r q)
include h
end
end L4
set_option Elab.async false
set_option linter.all false
set_option maxRecDepth 100000
namespace L4
open PySem PySem.Spec PyProof.Rows L2 L3
abbrev cT (l : List Nat) : D := .tuple (l.map iN)
def partF (n : Nat) (g f : Nat → Nat) : Nat → Nat := cnt (seatOf ((List.range n).map fun p => (g p, f p)))
structure Sd (r q : Rl) (g : Nat → Nat) (R : Rl) : Prop where
  wf : Wf R
  lt : ∀ {a}, a < r.n * q.n → g a < R.n
  tn : ∀ {a b}, a < r.n * q.n → b < r.n * q.n → (g (cdOf r q a b).1, g (cdOf r q a b).2) = turn R.ms (g a) (g b)
  st : (startsOf r q).map g = R.st
section
variable {r q : Rl} (h : Two r q)
include h
section
variable {g : Nat → Nat} {R : Rl} (s : Sd r q g R) (both : Bool) {hs : List Nat} (hh : ∀ x ∈ hs, x < r.n * q.n)
include s hh
omit h s hh in
end
end
end L4
set_option Elab.async false
set_option linter.all false
set_option maxRecDepth 100000
namespace K06
open PySem PySem.Spec PyProof.Rows L2 L3 L4
def Fd (T : Nat) (f : List D) : Prop := ∃ a b t : Int, f = [.int a, .int b, .int t] ∧ 0 ≤ t ∧ t ≤ T
theorem Fd.le {T T' : Nat} {f : List D} (h : Fd T f) (hl : T ≤ T') : Fd T' f := by
  obtain ⟨a, b, t, e, h0, h1⟩ := h
  exact ⟨a, b, t, e, h0, by omega⟩
theorem next_okI {T : Nat} {f : List D} {m : Int} (h : Fd T f) (hT : T ≤ 1000000) (hm : 0 < m) (hm2 : m < 1073741824) :
    ∃ (r : Int) (f' : List D), c__law_next f (.int m) = .ret (.int r, f') ∧ 0 ≤ r ∧ r < m ∧ Fd (T + 1) f' := by
  obtain ⟨a, b, t, rfl, h0, h1⟩ := h
  unfold c__law_next
  simp only [ixA_L]
  rw [L4.ix3_0, oMS, bdR, L4.gtI, oMS, bdR]
  by_cases ha : 0 < a
  · simp only [ha, decide_true, if_true]
    simp only [oMS, bdR, L4.modI _ _ hm, L4.divI _ _ hm hm2, L4.put3_0]
    exact ⟨_, _, rfl, Int.emod_nonneg _ (by omega), Int.emod_lt_of_pos _ hm, _, _, _, rfl, h0, by omega⟩
  · simp only [ha, decide_false]
    rw [if_neg (by decide)]
    simp only [oMS, bdR, L4.ix3_2, L4.ix3_1, L4.put3_2, L4.addI]
    rw [L4.mulL 41 _ (by decide) (by decide), L4.mulL (t + 1) (t + 1) (by omega) (by omega)]
    simp only [oMS, bdR, L4.addI]
    have tb : (t + 1) * (t + 1) ≤ 1000001 * 1000001 := Int.mul_le_mul (by omega) (by omega) (by omega) (by omega)
    have tb0 : 0 ≤ (t + 1) * (t + 1) := Int.mul_nonneg (by omega) (by omega)
    rw [L4.mulR _ ((t + 1) * (t + 1) + 69621) (by omega) (by omega)]
    simp only [oMS, bdR]
    rw [L4.modI _ _ (by decide)]
    simp only [oMS, bdR]
    rw [L4.modI _ _ (by decide)]
    simp only [oMS, bdR, L4.addI]
    have g1 := Int.emod_nonneg ((b + 41 * (t + 1) + 3) * ((t + 1) * (t + 1) + 69621)) (b := (998244353 : Int)) (by decide)
    have g2 := Int.emod_lt_of_pos ((b + 41 * (t + 1) + 3) * ((t + 1) * (t + 1) + 69621)) (b := (998244353 : Int)) (by decide)
    rw [L4.mulL _ _ (by omega) (by omega)]
    simp only [oMS, bdR, L4.addI]
    rw [L4.modI _ _ (by decide)]
    simp only [oMS, bdR]
    rw [L4.divI _ _ (by decide) (by decide)]
    simp only [oMS, bdR]
    rw [L4.modI _ _ hm]
    exact ⟨_, _, rfl, Int.emod_nonneg _ (by omega), Int.emod_lt_of_pos _ hm, _, _, _, rfl, by omega, by omega⟩
theorem next_ok {T : Nat} {f : List D} {m : Nat} (h : Fd T f) (hT : T ≤ 1000000) (hm : 0 < m) (hm2 : m ≤ 1000000000) :
    ∃ (r : Nat) (f' : List D), c__law_next f (.int (m : Int)) = .ret (iN r, f') ∧ r < m ∧ Fd (T + 1) f' := by
  obtain ⟨r, f', e, h1, h2, h3⟩ := next_okI h hT (m := (m : Int)) (by omega) (by omega)
  obtain ⟨n, rfl⟩ := Int.eq_ofNat_of_zero_le h1
  exact ⟨n, f', e, by omega, h3⟩
theorem feed_ok (ns : List Int) (k : Int) (hn : ns.length ≤ 63) : ∃ f, c__law_feed (.list (ns.map PyData.int)) (.int k) = .ret f ∧ Fd 0 f := by
  unfold c__law_feed
  simp only [ixA_L]
  have e1 : fLen [.list (ns.map PyData.int)] = some (.int ns.length) := by rw [L4.lenL, List.length_map]
  have p18 : opPow (.int 10) (.int 18) = some (.int 1000000000000000000) := id rfl
  have tail : ∀ c : Int, ∃ f, (bd (bd (bd (oM (fAbs [.int c])) fun x6 => bd (oM (opPow (.int 10) (.int 18))) fun x7 => oM (opGe x6 x7)) fun b8 => if b8 then oM (fAbs [.int c]) else .ret (.int 0)) fun x9 => bd (bd (bd (oM (opMod (.int c) (.int 1000003))) fun x10 => bd (oM (opMulI (.int 7919) (.int k))) fun x11 => oM (opAdd x10 x11)) fun x12 => .ret [x9, x12, (.int 0)]) fun l13 => M.ret l13) = .ret f ∧ Fd 0 f := fun c => by
    have a1 : fAbs [.int c] = some (.int (if c < 0 then -c else c)) := id rfl
    simp only [a1, p18, oMS, bdR, L4.geI]
    rw [L4.modI _ _ (by decide), L4.mulL _ _ (by decide) (by decide)]
    simp only [oMS, bdR, L4.addI]
    generalize (if c < 0 then -c else c) = A
    generalize decide ((1000000000000000000 : Int) ≤ A) = B
    cases B
    · exact ⟨_, rfl, _, _, _, rfl, Int.le_refl _, Int.le_refl _⟩
    · exact ⟨_, rfl, _, _, _, rfl, Int.le_refl _, Int.le_refl _⟩
  simp only [e1, oMS, bdR, L4.gtI]
  by_cases h : 0 < (ns.length : Int)
  · simp only [h, decide_true, if_true]
    rw [L4.modI _ _ h, oMS, bdR]
    have m1 := Int.emod_nonneg k (b := (ns.length : Int)) (by omega)
    have m2 := Int.emod_lt_of_pos k h
    obtain ⟨x, hx, e⟩ := atI_ok (ns.map PyData.int) (k % ns.length) m1 (by rw [List.length_map]; exact m2)
    obtain ⟨i, hi, rfl⟩ := List.mem_map.mp hx
    have e2 : opIx (.list (ns.map PyData.int)) (.int (k % ns.length)) = some (.int i) := e
    rw [e2, oMS, bdR]
    exact tail i
  · simp only [h, decide_false]
    rw [if_neg (by decide), bdR]
    exact tail 0
theorem one_ok {T : Nat} {f : List D} {m : List D} (hm : 0 < m.length) (hm2 : m.length < 1000) (h : Fd T f) (hT : T ≤ 1000000) :
    ∃ (x : D) (f' : List D), c__law_one f (.list m) = .ret (x, f') ∧ x ∈ m ∧ Fd (T + 1) f' := by
  unfold c__law_one
  simp only [ixA_L]
  obtain ⟨r, f', t1, t2, t3, t4⟩ := next_okI h hT (m := (m.length : Int)) (by omega) (by omega)
  obtain ⟨x, hx, e⟩ := atI_ok m r t2 t3
  have e2 : opIx (.list m) (.int r) = some x := e
  rw [L4.lenL, oMS, bdR, t1, bdR]
  simp only [e2, oMS, bdR]
  exact ⟨x, f', rfl, hx, t4⟩
end K06
set_option Elab.async false
set_option linter.all false
set_option maxRecDepth 100000
namespace K06
open PySem PySem.Spec PyProof.Rows L2 L3 L4
def RuleEnd (T most sorts : Nat) (m : M (D × List D)) : Prop := ∃ (r : Rl) (f' : List D), m = .ret (r.d, f') ∧ Wf r ∧ r.n ≤ most ∧ r.st.length = sorts ∧ r.ms.length ≤ 2000 ∧ Fd (T + 7000) f'
theorem rule_in {R : M (D × List D) → Prop} {T n a sorts often : Nat} {f : List D} {ms : List Mt} {kn22 : List D × D × D × D × List D × Unit → M (D × List D)} (hf : Fd T f) (hT : T ≤ 990000) (hn : n ≤ 40) (ha : a < n) (ho : 1 ≤ often) (ho2 : often ≤ 3) (hA : Ahd n a a ms)
    (k : ∀ f' ms', Fd (T + 4 * n) f' → Ahd n (a + 1) (a + 1) ms' → R (kn22 (f', iN sorts, iN n, iN often, ms'.map mD, ()))) : R (c__law_rule_s1 f (iN sorts) (iN n) (iN often) (ms.map mD) (iN a) kn22) := by
  unfold c__law_rule_s1
  rw [range2N a n (by omega) (by omega), oMS, bdR]
  refine forS_ex (P := fun i s => ∃ f ms, s = (f, iN sorts, iN n, iN often, List.map mD ms, iN a, ()) ∧ Fd (T + 4 * i) f ∧ Ahd n a (a + i) ms) _ _ ?_ ⟨f, ms, rfl, hf, hA⟩ ?_
  · rintro i s d hd ⟨f, ms, rfl, hf, hA⟩ kn hkn
    obtain ⟨rfl, hi⟩ := rng_at hd
    unfold c__law_rule_s3
    dsimp only
    obtain ⟨c, f1, e1, hc, hf1⟩ := next_ok (m := n) hf (by omega) (by omega) (by omega)
    obtain ⟨e, f2, e2, he, hf2⟩ := next_ok (m := n) hf1 (by omega) (by omega) (by omega)
    obtain ⟨x, f3, e3, hx, hf3⟩ := one_ok (m := [iN (a + i), iN a, iN e]) (by simp) (by simp) hf2 (by omega)
    obtain ⟨x', f4, e4, _, hf4⟩ := next_ok (m := often) hf3 (by omega) (by omega) (by omega)
    have hd : ∃ d, d < n ∧ x = iN d := by
      simp only [List.mem_cons, List.mem_nil_iff, or_false] at hx
      rcases hx with rfl | rfl | rfl
      · exact ⟨_, hi, rfl⟩
      · exact ⟨_, ha, rfl⟩
      · exact ⟨_, he, rfl⟩
    obtain ⟨d, hd, rfl⟩ := hd
    rw [e1, bdR]; dsimp only
    rw [e2, bdR]; dsimp only
    rw [e3, bdR]; dsimp only
    rw [e4, bdR]; dsimp only
    rw [eqI, oMS, bdR]
    have skip : R (kn (f4, iN sorts, iN n, iN often, List.map mD ms, iN a, ())) := hkn _ ⟨f4, ms, rfl, hf4.le (by omega), hA.next⟩
    split
    · rw [notInA_T, show (PyData.tuple [iN c, iN d]) = pD (c, d) from rfl, show (PyData.tuple [PyData.tuple [iN a, iN (a + i)], PyData.tuple [iN (a + i), iN a]]) = .tuple [pD (a, a + i), pD (a + i, a)] from rfl, notInP2, oMS, bdR]
      split
      · rename_i hne
        have hle := hA.le
        have hlen : (ms.map mD).length ≤ 100000 := by
          rw [List.length_map]
          have : a * n ≤ 40 * 40 := Nat.mul_le_mul (by omega) hn
          omega
        rw [app_ok _ _ hlen, oMS, bdR]
        have hne' : ¬ ((a, a + i) = (c, d)) ∧ ¬ ((a + i, a) = (c, d)) := by
          simp only [Bool.not_eq_true', Bool.or_eq_false_iff, decide_eq_false_iff_not] at hne
          exact hne
        have := hkn (f4, iN sorts, iN n, iN often, List.map mD (ms ++ [(a, a + i, c, d)]), iN a, ()) ⟨f4, _, rfl, hf4.le (by omega), hA.add ⟨by simp, hi, hc, hd, fun z => hne'.1 z.symm, fun z => hne'.2 z.symm⟩⟩
        rw [List.map_append] at this
        exact this
      · exact skip
    · exact skip
  · rintro s ⟨f, ms, rfl, hf, hA⟩
    rw [List.length_map, rng_length] at hf hA
    unfold c__law_rule_r4
    exact k f ms (hf.le (by omega)) (hA.row (by omega))
theorem rule_ok {T : Nat} {f : List D} {most sorts : Nat} (h : Fd T f) (hT : T ≤ 900000) (hm : 1 ≤ most) (hm2 : most ≤ 40) (hs : 1 ≤ sorts) (hs2 : sorts ≤ 4) : RuleEnd T most sorts (c__law_rule f (iN most) (iN sorts)) := by
  unfold c__law_rule
  obtain ⟨n0, f1, e1, h1, hf1⟩ := next_ok (m := most) h (by omega) (by omega) (by omega)
  obtain ⟨o0, f2, e2, h2, hf2⟩ := next_ok (m := 3) hf1 (by omega) (by omega) (by omega)
  have e2' : c__law_next f1 (.int 3) = .ret (iN o0, f2) := e2
  rw [e1, bdR]; dsimp only
  rw [add1N, oMS, bdR, e2', bdR]; dsimp only
  rw [add1N, oMS, bdR, range1N _ (by omega), oMS, bdR]
  generalize hn : n0 + 1 = n
  have hn40 : n ≤ 40 := by omega
  have hb : ∀ j, j ≤ n → 4 * n * j ≤ 6400 := fun j hj => by
    have : n * j ≤ 40 * 40 := Nat.mul_le_mul hn40 (by omega)
    have e : 4 * n * j = 4 * (n * j) := Nat.mul_assoc _ _ _
    omega
  refine forS_ex (P := fun j s => ∃ f ms, s = (f, iN sorts, iN n, iN (o0 + 1), List.map mD ms, ()) ∧ Fd (T + 2 + 4 * n * j) f ∧ Ahd n j j ms) _ _ ?_ ⟨f2, [], rfl, hf2.le (by omega), ⟨fun _ h => (nomatch h), .nil, fun _ h => (nomatch h), Nat.zero_le _⟩⟩ ?_
  · rintro j s d hd ⟨f, ms, rfl, hf, hA⟩ kn hkn
    obtain ⟨rfl, hj⟩ := range_at hd
    dsimp only
    refine rule_in hf (by have := hb j (by omega); omega) hn40 hj (by omega) (by omega) hA fun f' ms' hf' hA' => hkn _ ⟨f', ms', rfl, hf'.le ?_, hA'⟩
    rw [Nat.mul_succ]; omega
  · rintro s ⟨f, ms, rfl, hf, hA⟩
    rw [List.length_map, List.length_range] at hf hA
    dsimp only
    unfold c__law_rule_r2
    have hfb := hb n (Nat.le_refl _)
    rw [range1N sorts (by omega), oMS, bdR]
    obtain ⟨st, s1, c1, ⟨f1, hs1, hf1⟩, l1, r1⟩ := compE_ix (P := fun j (s : List D × D × D × List D × Unit) => ∃ f, s = (f, iN sorts, iN n, List.map mD ms, ()) ∧ Fd (T + 6402 + j) f) (e := iN) (R := fun x => x < n)
      (step := fun s7 d8 => bd (c__law_next s7.1 s7.2.2.1) fun r9 => .ret (some r9.1, (r9.2, s7.2.1, s7.2.2.1, s7.2.2.2.1, ()))) ((List.range sorts).map iN) (f, iN sorts, iN n, List.map mD ms, ())
      (by
        rintro j s d hd ⟨f, rfl, hf⟩
        obtain ⟨rfl, hj⟩ := range_at hd
        obtain ⟨x, f', e, hx, hf'⟩ := next_ok (m := n) hf (by omega) (by omega) (by omega)
        dsimp only
        rw [e, bdR]
        exact ⟨x, _, rfl, ⟨f', rfl, hf'⟩, hx⟩) ⟨f, rfl, hf.le (by omega)⟩
    subst hs1
    rw [List.length_map, List.length_range] at hf1 l1
    rw [c1, bdR]; dsimp only
    rw [fitM_ok (by rw [List.length_map]; omega), bdR, tupL, oMS, bdR, tupL, oMS, bdR, range1N n (by omega), oMS, bdR]
    obtain ⟨sy, s2, c2, ⟨f2, hs2, hf2⟩, l2, _⟩ := compE_ix (P := fun j (s : List D × D × Unit) => ∃ f, s = (f, iN n, ()) ∧ Fd (T + 6402 + sorts + j) f) (e := PyData.bool) (R := fun _ => True)
      (step := fun s15 d16 => bd (c__law_next s15.1 (.int 2)) fun r17 => bd (oM (opEq r17.1 (.int 0))) fun b18 => .ret (some (.bool b18), (r17.2, s15.2.1, ()))) ((List.range n).map iN) (f1, iN n, ())
      (by
        rintro j s d hd ⟨f, rfl, hf⟩
        obtain ⟨rfl, hj⟩ := range_at hd
        obtain ⟨x, f', e, hx, hf'⟩ := next_ok (m := 2) hf (by omega) (by omega) (by omega)
        have e' : c__law_next f (.int 2) = .ret (iN x, f') := e
        dsimp only
        rw [e', bdR]; dsimp only
        rw [eqI, oMS, bdR]
        exact ⟨_, _, rfl, ⟨f', rfl, hf'⟩, trivial⟩) ⟨f1, rfl, hf1⟩
    subst hs2
    rw [List.length_map, List.length_range] at hf2 l2
    rw [c2, bdR]; dsimp only
    rw [fitM_ok (by rw [List.length_map]; omega), bdR, tupL, oMS, bdR]
    exact ⟨⟨n, st, ms, sy⟩, f2, rfl, ⟨(show 1 ≤ n by omega), r1, l2, hA.ok, hA.so⟩, (show n ≤ most by omega), l1, (show ms.length ≤ 2000 by
      have := hA.le
      have : n * n ≤ 40 * 40 := Nat.mul_le_mul hn40 hn40
      omega), hf2.le (by omega)⟩
end K06
set_option Elab.async false
set_option linter.all false
set_option maxRecDepth 100000
namespace K06
open PySem PySem.Spec PyProof.Rows L2 L3 L4
theorem turns_ok {r : Rl} (w : Wf r) (hl : r.ms.length ≤ 100000) : c_turns_of r.d = .ret (.dict (r.ms.map kvM)) := by
  unfold c_turns_of
  rw [ixA_T, ixT2, oMS, bdR, seqT, oMS, bdR]
  refine (forS_pre (e := mD) (F := fun pre => (pre.map kvM, ())) r.ms ?_).trans rfl
  intro p m q hpq kn
  dsimp only
  unfold c_turns_of_s1
  have e1 : fCut (mD m) (some 2) none = some (pD m.2.2) := rfl
  have e2 : fCut (mD m) none (some 2) = some (pD (m.1, m.2.1)) := rfl
  have a2 : asI (.int 2) = .ret (some 2) := id rfl
  rw [a2, bdR, e1, oMS, bdR, bdR, e2, oMS, bdR]
  have hlen : p.length ≤ 100000 := by rw [hpq] at hl; simp at hl; omega
  have e3 : dPut true (p.map kvM) (pD (m.1, m.2.1)) (pD m.2.2) = some (p.map kvM ++ [kvM m]) := by
    unfold dPut
    rw [show keyOf true (pD (m.1, m.2.1)) = true from rfl, Bool.true_and, if_pos (by rw [List.length_map, decide_eq_true_eq]; exact Nat.lt_of_le_of_lt hlen (by decide)), putE_new]
    intro x hx
    obtain ⟨m', hm', rfl⟩ := List.mem_map.mp hx
    rw [keyQ_pD, decide_eq_false_iff_not]
    intro z
    have so := w.so
    rw [hpq, List.pairwise_append] at so
    have := so.2.2 m' hm' m List.mem_cons_self
    rw [z] at this
    rcases this with h | ⟨_, h⟩ <;> omega
  rw [e3, oMS, bdR, List.map_append]
  rfl
theorem turnedFrom_ok (ms : List Mt) (i j : Nat) : c_turned_from (.dict (ms.map kvM)) (iN i) (iN j) = .ret (pD (turn ms i j)) := by
  unfold c_turned_from turn
  rw [leA, oMS, bdR]
  by_cases h : i ≤ j
  · have h' : (i : Int) ≤ (j : Int) := by omega
    simp only [h, h', decide_true, if_true]
    rw [show (PyData.tuple [iN i, iN j]) = pD (i, j) from rfl, dget_ms, oMS, bdR]
  · have h' : ¬ (i : Int) ≤ (j : Int) := by omega
    simp only [h, h', decide_false, if_false]
    rw [if_neg (by decide), show (PyData.tuple [iN j, iN i]) = pD (j, i) from rfl, dget_ms, oMS, bdR, ixA_T, ixA_T, ixT1, ixT0, oMS, bdR, oMS, bdR, bdR]
end K06
set_option Elab.async false
set_option linter.all false
set_option maxRecDepth 100000
namespace K06
open PySem PySem.Spec PyProof.Rows L2 L3 L4
theorem lawTurned_loop (i j : Nat) : ∀ ms : List Mt, (∀ m ∈ ms, m.1 ≤ m.2.1) → forS (fun (s10 : D × D × Unit) d11 kn => c__law_turned_s1 s10.1 s10.2.1 d11 kn) (ms.map mD) (iN i, iN j, ()) (fun s10 => c__law_turned_r2 s10.1 s10.2.1) = .ret (pD (turn ms i j))
  | [], _ => by
    rw [forS_is]
    show c__law_turned_r2 _ _ = _
    unfold c__law_turned_r2 turn look
    by_cases h : i ≤ j <;> simp [h]
  | m :: r, hm => by
    have ih := lawTurned_loop i j r fun m h => hm m (List.mem_cons_of_mem _ h)
    have hab := hm m List.mem_cons_self
    rw [forS_is] at ih ⊢
    rw [List.map_cons, forC]
    dsimp only
    rw [c__law_turned_s1, un4]
    rw [show (PyData.tuple [iN m.1, iN m.2.1]) = pD (m.1, m.2.1) from rfl, show (PyData.tuple [iN i, iN j]) = pD (i, j) from rfl, eqP, oMS, bdR]
    by_cases h1 : (m.1, m.2.1) = (i, j)
    · have e1 : m.1 = i := by injection h1
      have e2 : m.2.1 = j := by injection h1
      rw [if_pos (by simp [h1])]
      unfold turn
      rw [if_pos (by omega), look_cons, if_pos h1]
      rfl
    · rw [if_neg (by simpa using h1), show (PyData.tuple [iN m.2.1, iN m.1]) = pD (m.2.1, m.1) from rfl, eqP, oMS, bdR]
      by_cases h2 : (m.2.1, m.1) = (i, j)
      · have e1 : m.2.1 = i := by injection h2
        have e2 : m.1 = j := by injection h2
        have hlt : ¬ i ≤ j := fun z => h1 (by rw [← e1, ← e2]; exact Prod.ext (by simp; omega) (by simp; omega))
        rw [if_pos (by simp [h2])]
        unfold turn
        rw [if_neg hlt, look_cons, if_pos (by rw [← e1, ← e2])]
        rfl
      · rw [if_neg (by simpa using h2)]
        refine ih.trans ?_
        have h3 : ¬ (m.1, m.2.1) = (j, i) := fun z => h2 (by injection z with z1 z2; rw [z1, z2])
        unfold turn
        simp only [look_cons, h1, h3, if_false]
theorem lawTurned_ok {r : Rl} (w : Wf r) (i j : Nat) : c__law_turned r.d (iN i) (iN j) = .ret (pD (turn r.ms i j)) := by
  unfold c__law_turned
  rw [ixA_T, ixT2, oMS, bdR, seqT, oMS, bdR]
  exact lawTurned_loop i j r.ms fun m h => (w.ms m h).ab
end K06
set_option Elab.async false
set_option linter.all false
set_option maxRecDepth 100000
namespace K06
open PySem PySem.Spec PyProof.Rows L2 L3 L4
theorem crowdOf_ok {r : Rl} (hs : List Nat) (hn : r.n ≤ 1000) (h : ∀ x ∈ hs, x < r.n) : c_crowd_of r.d (.tuple (hs.map iN)) = .ret (.tuple (tabD r.n (cnt hs))) := by
  unfold c_crowd_of
  rw [ixA_T, ixT0, oMS, bdR, mulL_rep _ _ (by omega), oMS, bdR, zeros_tab, seqT, oMS, bdR]
  refine (forS_pre (e := iN) (F := fun pre => (tabD r.n (cnt pre), ())) hs ?_).trans ?_
  · intro p x t hpt kn
    have hx : x < r.n := h x (by rw [hpt]; simp)
    dsimp only
    unfold c_crowd_of_s1
    rw [tab_ixL hx, oMS, bdR, addI1, oMS, bdR, tab_put _ hx, oMS, bdR, cnt_snoc]
  · dsimp only
    unfold c_crowd_of_r2
    rw [tupL, oMS, bdR]
theorem handsMet_ok {r : Rl} (w : Wf r) (hl : r.ms.length ≤ 100000) {hs : List Nat} {i j : Nat} (hi : i < hs.length) (hj : j < hs.length) (hij : i ≠ j) :
    c_hands_met r.d (.tuple (hs.map iN)) (iN i) (iN j) = .ret (.tuple (((hs.set i (turn r.ms hs[i] hs[j]).1).set j (turn r.ms hs[i] hs[j]).2).map iN)) := by
  unfold c_hands_met
  have l1 : fList [.tuple (hs.map iN)] = some (hs.map iN) := id rfl
  have z1 : opLeA (.int 0) (iN i) = some true := by rw [leA]; simp
  have z2 : opLeA (.int 0) (iN j) = some true := by rw [leA]; simp
  have z3 : opLtA (iN i) (.int (hs.length : Int)) = some true := by rw [ltA, decide_eq_true (by omega)]
  have z4 : opLtA (iN j) (.int (hs.length : Int)) = some true := by rw [ltA, decide_eq_true (by omega)]
  rw [lenT, List.length_map, oMS, bdR, z1, oMS, bdR, if_pos rfl, z3, oMS, bdR, bdR, Bool.not_true, if_neg (by decide), z2, oMS, bdR, if_pos rfl, z4, oMS, bdR, bdR, Bool.not_true, if_neg (by decide), eqN, oMS, bdR, if_neg (by simpa using hij)]
  rw [l1, oMS, bdR, turns_ok w hl, bdR, ixA_T, ixN_T iN hs i hi, oMS, bdR, ixA_T, ixN_T iN hs j hj, oMS, bdR, turnedFrom_ok, bdR, ixA_T, ixT0, oMS, bdR, nats_put _ hi, oMS, bdR, ixA_T, ixT1, oMS, bdR, nats_put _ (by rw [List.length_set]; exact hj), oMS, bdR, tupL, oMS, bdR]
theorem seated_ok {r : Rl} (cs : List Nat) (h : ∀ c ∈ cs, c ≤ 1000) (hl : cs.length ≤ 10) : c_seated r.d (.tuple (cs.map iN)) = .ret (.tuple ((seatOf (r.st.zip cs)).map iN)) := by
  unfold c_seated
  rw [ixA_T, ixT1, oMS, bdR, fZip_tt, oMS, bdR, zipD_nat]
  refine (forS_pre (e := pD) (F := fun pre => ((seatOf pre).map iN, ())) (r.st.zip cs) ?_).trans ?_
  · intro p x t hpt kn
    have hx : x.2 ≤ 1000 := h _ (List.of_mem_zip (show x ∈ r.st.zip cs by rw [hpt]; simp)).2
    have hp : ∀ y ∈ p, y.2 ≤ 1000 := fun y hy => h _ (List.of_mem_zip (show y ∈ r.st.zip cs by rw [hpt]; simp [hy])).2
    have hpl : p.length ≤ 10 := by
      have e := congrArg List.length hpt
      rw [List.length_zip, List.length_append] at e
      omega
    have hsl : (seatOf p).length ≤ 10 * 1000 := by
      rw [seat_length]
      have : ∀ l : List (Nat × Nat), (∀ y ∈ l, y.2 ≤ 1000) → (l.map (·.2)).sum ≤ l.length * 1000 := by
        intro l
        induction l with
        | nil => intro _; simp
        | cons y l ih =>
          intro hh
          rw [List.map_cons, List.sum_cons, List.length_cons, Nat.succ_mul]
          have := ih fun z hz => hh z (List.mem_cons_of_mem _ hz)
          have := hh y List.mem_cons_self
          omega
      exact Nat.le_trans (this p hp) (Nat.mul_le_mul_right _ hpl)
    dsimp only
    unfold c_seated_s1
    rw [un2_pD, mulL_rep _ _ (by omega), oMS, bdR, ext_ok _ _ (by rw [List.length_map, List.length_replicate]; omega), oMS, bdR, seat_snoc, List.map_append, List.map_replicate]
  · dsimp only
    unfold c_seated_r2
    rw [tupL, oMS, bdR]
end K06
set_option Elab.async false
set_option linter.all false
set_option maxRecDepth 100000
namespace K06
open PySem PySem.Spec PyProof.Rows L2 L3 L4
theorem counts_ok {T : Nat} {f : List D} {sorts most : Nat} (hf : Fd T f) (hT : T ≤ 900000) (hs : 1 ≤ sorts) (hs2 : sorts ≤ 40) (hm : most ≤ 100000000) :
    ∃ (cs : List Nat) (f' : List D), c__law_counts f (iN sorts) (iN most) = .ret (.tuple (cs.map iN), f') ∧ cs.length = sorts ∧ (∀ c ∈ cs, c ≤ most ∨ c = 1) ∧ (∃ c ∈ cs, 1 ≤ c) ∧ Fd (T + 41) f' := by
  unfold c__law_counts
  rw [range1N sorts (by omega), oMS, bdR]
  obtain ⟨st, s1, c1, ⟨f1, hs1, hf1⟩, l1, r1⟩ := compE_ix (P := fun j (s : List D × D × D × Unit) => ∃ f, s = (f, iN sorts, iN most, ()) ∧ Fd (T + j) f) (e := iN) (R := fun x => x ≤ most)
    (step := fun s2 d3 => bd (oM (opAdd s2.2.2.1 (.int 1))) fun x4 => bd (c__law_next s2.1 x4) fun r5 => .ret (some r5.1, (r5.2, s2.2.1, s2.2.2.1, ()))) ((List.range sorts).map iN) (f, iN sorts, iN most, ())
    (by
      rintro j s d hd ⟨f, rfl, hf⟩
      obtain ⟨rfl, hj⟩ := range_at hd
      obtain ⟨x, f', e, hx, hf'⟩ := next_ok (m := most + 1) hf (by omega) (by omega) (by omega)
      dsimp only
      have ea : opAdd (iN most) (.int 1) = some (iN (most + 1)) := addN most 1
      rw [ea, oMS, bdR, e, bdR]
      exact ⟨x, _, rfl, ⟨f', rfl, hf'⟩, by omega⟩) ⟨f, rfl, hf⟩
  subst hs1
  rw [List.length_map, List.length_range] at hf1 l1
  rw [c1, bdR]; dsimp only
  have hne : st ≠ [] := by intro z; rw [z] at l1; simp at l1; omega
  rw [fitM_ok (by rw [List.length_map]; omega), bdR]
  have em : ∃ mx : Nat, fMaxA [.list (st.map iN)] = some (iN mx) ∧ (mx ∈ st) := by
    cases st with
    | nil => exact absurd rfl hne
    | cons a t =>
      have e1 : intsOf ((a :: t).map iN) = some ((a :: t).map fun (n : Nat) => (n : Int)) := by
        have := intsOf_map ((a :: t).map fun (n : Nat) => (n : Int))
        rw [List.map_map] at this
        exact this
      have e2 : fMaxA [.list ((a :: t).map iN)] = some (.int (maxL ((a :: t).map fun (n : Nat) => (n : Int)))) := by
        rw [show fMaxA [.list ((a :: t).map iN)] = fMax [.list ((a :: t).map iN)] from rfl]
        unfold fMax
        dsimp only
        rw [e1]
        rfl
      have hsp := maxL_spec (ns := (a :: t).map fun (n : Nat) => (n : Int)) (by simp)
      obtain ⟨x, hx, ex⟩ := List.mem_map.mp hsp.2
      exact ⟨x, by rw [e2, ← ex], hx⟩
  obtain ⟨mx, em, hmx⟩ := em
  rw [em, oMS, bdR, eqI, oMS, bdR]
  by_cases h0 : mx = 0
  · subst h0
    rw [if_pos (by rfl)]
    obtain ⟨x, f', e, hx, hf'⟩ := next_ok (m := sorts) hf1 (by omega) (by omega) (by omega)
    rw [e, bdR]; dsimp only
    have ep : putD (st.map iN) (iN x) (.int 1) = some ((st.set x 1).map iN) := nats_put 1 (by omega)
    rw [ep, oMS, bdR]
    unfold c__law_counts_j1
    rw [tupL, oMS, bdR]
    refine ⟨st.set x 1, f', rfl, by rw [List.length_set]; exact l1, fun c hc => ?_, ⟨1, ?_, Nat.le_refl _⟩, hf'.le (by omega)⟩
    · rcases List.mem_or_eq_of_mem_set hc with h | h
      · exact .inl (r1 c h)
      · exact .inr h
    · exact List.mem_set (by omega) 1
  · rw [if_neg (by
      intro z
      have : (mx : Int) = 0 := by simpa using z
      omega)]
    unfold c__law_counts_j1
    rw [tupL, oMS, bdR]
    exact ⟨st, f1, rfl, l1, fun c hc => .inl (r1 c hc), ⟨mx, hmx, by omega⟩, hf1.le (by omega)⟩
def none0 : D := .tuple [.str "none", .int 0]
def Two (hs : List Nat) (i j : Int) : Prop := 0 ≤ i ∧ i < hs.length ∧ 0 ≤ j ∧ j < hs.length ∧ i ≠ j
def mets (r : Rl) (hs : List Nat) (i j : Nat) : List Nat := (hs.set i (turn r.ms (hs.getD i 0) (hs.getD j 0)).1).set j (turn r.ms (hs.getD i 0) (hs.getD j 0)).2
open Classical in
noncomputable def ans (r : Rl) (hs : List Nat) (i j : Int) : D := if Two hs i j then .tuple ((mets r hs i.toNat j.toNat).map iN) else none0
theorem getD_get {hs : List Nat} {i : Nat} (h : i < hs.length) : hs.getD i 0 = hs[i] := by
  rw [List.getD_eq_getElem?_getD, List.getElem?_eq_getElem h]; rfl
section
variable {r : Rl} (w : Wf r) (hl : r.ms.length ≤ 10000) (hs : List Nat) (i j : Int)
include w hl
theorem told_ok : c__law_told r.d (.tuple (hs.map iN)) (.int i) (.int j) = .ret (ans r hs i j) := by
  unfold c__law_told ans
  by_cases h : Two hs i j
  · rw [if_pos h]
    obtain ⟨h1, h2, h3, h4, h5⟩ := h
    obtain ⟨a, rfl⟩ := Int.eq_ofNat_of_zero_le h1
    obtain ⟨b, rfl⟩ := Int.eq_ofNat_of_zero_le h3
    have ha : a < hs.length := by omega
    have hb : b < hs.length := by omega
    have := handsMet_ok w (by omega) (hs := hs) (i := a) (j := b) ha hb (by omega)
    have e : c_hands_met r.d (.tuple (hs.map iN)) (.int (a : Int)) (.int (b : Int)) = _ := this
    rw [e]
    unfold mets
    rw [Int.toNat_natCast, Int.toNat_natCast, getD_get ha, getD_get hb]
    rfl
  · rw [if_neg h]
    have e : c_hands_met r.d (.tuple (hs.map iN)) (.int i) (.int j) = .exc ⟨"NoMeeting", [("place", .int 0)]⟩ := by
      unfold c_hands_met
      rw [lenT, List.length_map, oMS, bdR, leA, oMS, bdR]
      by_cases a1 : 0 ≤ i
      · rw [if_pos (by simpa using a1), ltA, oMS, bdR, bdR]
        by_cases a2 : i < (hs.length : Int)
        · rw [if_neg (by simp [a2]), leA, oMS, bdR]
          by_cases a3 : 0 ≤ j
          · rw [if_pos (by simpa using a3), ltA, oMS, bdR, bdR]
            by_cases a4 : j < (hs.length : Int)
            · have a5 : i = j := Classical.byContradiction fun z => h ⟨a1, a2, a3, a4, z⟩
              subst a5
              rw [if_neg (by simp [a4]), eqI, oMS, bdR, if_pos (by simp)]
            · rw [if_pos (by simp [a4]), bdR, if_pos rfl]
          · rw [if_neg (by simpa using a3), bdR, bdR, if_pos (by simp), bdR, if_pos rfl]
        · rw [if_pos (by simp [a2]), bdR, if_pos rfl]
      · rw [if_neg (by simpa using a1), bdR, bdR, if_pos (by simp), bdR, if_pos rfl]
    rw [e]
    rfl
theorem due_ok : c__law_due r.d (.tuple (hs.map iN)) (.int i) (.int j) = .ret (ans r hs i j) := by
  unfold c__law_due ans
  have l1 : fList [.tuple (hs.map iN)] = some (hs.map iN) := id rfl
  have mn : fMin2 [.int i, .int j] = some (.int (if j < i then j else i)) := id rfl
  have mx : fMaxA [.int i, .int j] = some (.int (if j > i then j else i)) := id rfl
  rw [eqI, oMS, bdR]
  by_cases h : Two hs i j
  · rw [if_pos h]
    obtain ⟨h1, h2, h3, h4, h5⟩ := h
    obtain ⟨a, rfl⟩ := Int.eq_ofNat_of_zero_le h1
    obtain ⟨b, rfl⟩ := Int.eq_ofNat_of_zero_le h3
    have ha : a < hs.length := by omega
    have hb : b < hs.length := by omega
    rw [if_neg (by simp; omega), mn, oMS, bdR, ltA, oMS, bdR, if_neg (by simp; split <;> omega), mx, oMS, bdR, lenT, List.length_map, oMS, bdR, geI, oMS, bdR, if_neg (by simp; split <;> omega)]
    have i1 := ixN_T iN hs a ha
    have i2 := ixN_T iN hs b hb
    rw [l1, oMS, bdR, ixA_T, i1, oMS, bdR, ixA_T, i2, oMS, bdR, lawTurned_ok w, bdR, un2_pD, nats_put _ ha, oMS, bdR, nats_put _ (by rw [List.length_set]; exact hb), oMS, bdR, tupL, oMS, bdR]
    unfold mets
    rw [Int.toNat_natCast, Int.toNat_natCast, getD_get ha, getD_get hb]
  · rw [if_neg h]
    by_cases h5 : i = j
    · subst h5
      rw [if_pos (by simp), bdR, if_pos rfl]
      rfl
    · rw [if_neg (by simpa using h5), mn, oMS, bdR, ltA, oMS, bdR]
      by_cases h6 : (if j < i then j else i) < 0
      · rw [if_pos (by simpa using h6), bdR, if_pos rfl]
        rfl
      · rw [if_neg (by simpa using h6), mx, oMS, bdR, lenT, List.length_map, oMS, bdR, geI, oMS, bdR, if_pos]
        · rfl
        · simp only [decide_eq_true_eq]
          apply Classical.byContradiction
          intro z
          apply h
          refine ⟨?_, ?_, ?_, ?_, h5⟩ <;> split at h6 <;> split at z <;> omega
end
theorem mets_length (r : Rl) (hs : List Nat) (i j : Nat) : (mets r hs i j).length = hs.length := by
  unfold mets
  rw [List.length_set, List.length_set]
theorem mets_lt {r : Rl} (w : Wf r) {hs : List Nat} (h : ∀ x ∈ hs, x < r.n) {i j : Nat} (hi : i < hs.length) (hj : j < hs.length) : ∀ x ∈ mets r hs i j, x < r.n := by
  intro x hx
  have t := turn_lt w (getD_lt h hi) (getD_lt h hj)
  unfold mets at hx
  rcases List.mem_or_eq_of_mem_set hx with hx | rfl
  · rcases List.mem_or_eq_of_mem_set hx with hx | rfl
    · exact h x hx
    · exact t.1
  · exact t.2
end K06
set_option Elab.async false
set_option linter.all false
set_option maxRecDepth 100000
namespace K06
open PySem PySem.Spec PyProof.Rows L2 L3 L4
theorem none_ok : PyData.strOk (Str.ofString "none") = true := by decide +kernel
theorem ne_none (n : Nat) : opNe (iN n) (.str "none") = some true := by
  unfold opNe eqOk
  rw [if_pos]
  · simp [PyData.eqv]
  · simp [PyData.canLay0, PyData.depth, none_ok]
theorem count_ok (hs : List Nat) (k : Nat) : fCount (.tuple (hs.map iN)) [iN k] = some (iN (cnt hs k)) := by
  have lay : PyData.canLayAll0 (hs.map iN) = true := lay_all fun d hd => by
    obtain ⟨x, _, rfl⟩ := List.mem_map.mp hd
    simp [PyData.canLay0]
  have hi : inOk (iN k) (hs.map iN) = true := by
    unfold inOk
    simp [lay, PyData.canLay0, PyData.depth]
  show (if inOk (iN k) (hs.map iN) then some (PyData.int ((hs.map iN).countP fun z => PyData.eqv z (iN k) : Nat)) else none) = _
  rw [if_pos hi, List.countP_map]
  have : ((fun z => PyData.eqv z (iN k)) ∘ iN) = fun x : Nat => x == k := by
    funext x
    show PyData.eqv (.int x) (.int k) = _
    simp only [PyData.eqv, natEq]
    rw [Bool.eq_iff_iff]
    simp
  rw [this]
  rfl
theorem hands_repr {hs : List Nat} (h : ∀ x ∈ hs, x ≤ 1000) (hl : hs.length ≤ 1000) : fRepr [.tuple (hs.map iN)] = some (.str (PyData.tuple (hs.map iN)).shown) ∧ opNe (.str (PyData.tuple (hs.map iN)).shown) (.str (PyData.tuple (hs.map iN)).shown) = some false := by
  obtain ⟨c1, c2, c3⟩ := nats_repr (l := hs) (fun s hs => by have := h s hs; omega) (by omega)
  exact ⟨c1, c2⟩
section
variable {r : Rl} (w : Wf r) (hl : r.ms.length ≤ 10000) (hn : r.n ≤ 1000) {hs : List Nat} (hh : ∀ x ∈ hs, x < r.n) (hz : hs.length ≤ 1000) (h1 : 1 ≤ hs.length)
include w hl hn hh hz h1
theorem ans_ok (i j : Int) : fRepr [ans r hs i j] = some (.str (ans r hs i j).shown) ∧ opNe (.str (ans r hs i j).shown) (.str (ans r hs i j).shown) = some false ∧
    ∃ hs' : List Nat, (∀ x ∈ hs', x < r.n) ∧ hs'.length = hs.length ∧ ∀ S : Type, ∀ k : D → M S, (bd (bd (bd (oM (opIxA (ans r hs i j) (.int 0))) fun x65 => oM (opNe x65 (.str "none"))) fun b66 => if b66 = true then .ret (ans r hs i j) else .ret (.tuple (hs.map iN))) k) = k (.tuple (hs'.map iN)) := by
  unfold ans
  split
  · rename_i h
    obtain ⟨g1, g2, g3, g4, g5⟩ := h
    have lt := mets_lt w hh (i := i.toNat) (j := j.toNat) (by omega) (by omega)
    have le := mets_length r hs i.toNat j.toNat
    obtain ⟨c1, c2⟩ := hands_repr (hs := mets r hs i.toNat j.toNat) (fun x hx => by have := lt x hx; omega) (by omega)
    refine ⟨c1, c2, mets r hs i.toNat j.toNat, lt, le, fun S k => ?_⟩
    have i0 := ixN_T iN (mets r hs i.toNat j.toNat) 0 (by omega)
    have i0' : opIx (.tuple ((mets r hs i.toNat j.toNat).map iN)) (.int 0) = _ := i0
    rw [ixA_T, i0', oMS, bdR, ne_none, oMS, bdR, if_pos rfl, bdR]
  · have sm : Sm none0 := by
      unfold none0
      simp only [Sm, Sms]
      decide +kernel
    refine ⟨reprS sm (by decide +kernel) (by decide +kernel), neSelf sm, hs, hh, rfl, fun S k => ?_⟩
    have i0 : opIxA none0 (.int 0) = some (.str "none") := id rfl
    have ne : opNe (.str "none") (.str "none") = some false := by decide +kernel
    rw [i0, oMS, bdR, ne, oMS, bdR, if_neg (by decide), bdR]
theorem j8_ok {T : Nat} {f : List D} (hf : Fd T f) (hT : T ≤ 990000) (sc : D) (i j : Int) (kn5 : D × Unit → M D) (kn : D × List D × D × D × Unit → M D) :
    ∃ (f' : List D) (hs' : List Nat), c_law_j8 kn5 kn sc f r.d (.tuple (hs.map iN)) (.int i) (.int j) = kn (sc, f', r.d, .tuple (hs'.map iN), ()) ∧ Fd (T + 1) f' ∧ (∀ x ∈ hs', x < r.n) ∧ hs'.length = hs.length := by
  unfold c_law_j8
  obtain ⟨s, f1, e2, _, hf1⟩ := next_ok (m := 2) hf (by omega) (by omega) (by omega)
  have e2' : c__law_next f (.int 2) = .ret (iN s, f1) := e2
  rw [e2', bdR]; dsimp only
  rw [eqI, oMS, bdR]
  have un : ∀ (a b : D) (k : D → D → M D), un2 (.tuple [a, b]) k = k a b := fun a b k => id rfl
  split
  · obtain ⟨c1, c2, hs', g1, g2, g3⟩ := ans_ok w hl hn hh hz h1 i j
    rw [un, due_ok w hl, bdR, told_ok w hl, bdR, c1, oMS, bdR, bdR, c2, oMS, bdR, if_neg (by decide), g3]
    exact ⟨f1, hs', rfl, hf1, g1, g2⟩
  · obtain ⟨c1, c2, hs', g1, g2, g3⟩ := ans_ok w hl hn hh hz h1 j i
    rw [un, due_ok w hl, bdR, told_ok w hl, bdR, c1, oMS, bdR, bdR, c2, oMS, bdR, if_neg (by decide), g3]
    exact ⟨f1, hs', rfl, hf1, g1, g2⟩
theorem s6_ok {T : Nat} {f : List D} (hf : Fd T f) (hT : T ≤ 900000) (sc d : D) (kn5 : D × Unit → M D) (kn : D × List D × D × D × Unit → M D) :
    ∃ (f' : List D) (hs' : List Nat), c_law_s6 kn5 sc f r.d (.tuple (hs.map iN)) d kn = kn (sc, f', r.d, .tuple (hs'.map iN), ()) ∧ Fd (T + 5) f' ∧ (∀ x ∈ hs', x < r.n) ∧ hs'.length = hs.length := by
  unfold c_law_s6
  obtain ⟨i, f1, e1, _, hf1⟩ := next_ok (m := hs.length) hf (by omega) (by omega) (by omega)
  obtain ⟨j, f2, e2, _, hf2⟩ := next_ok (m := hs.length) hf1 (by omega) (by omega) (by omega)
  obtain ⟨q, f3, e3, _, hf3⟩ := next_ok (m := 6) hf2 (by omega) (by omega) (by omega)
  have e3' : c__law_next f2 (.int 6) = .ret (iN q, f3) := e3
  rw [lenT, List.length_map, oMS, bdR, e1, bdR]; dsimp only
  rw [bdR, e2, bdR]; dsimp only
  rw [e3', bdR]; dsimp only
  rw [eqI, oMS, bdR]
  split
  · have n1 : opNeg (.int 1) = some (.int (-1)) := id rfl
    have n2 : opNeg (.int (hs.length : Int)) = some (.int (-(hs.length : Int))) := id rfl
    have p30 : opPow (.int 10) (.int 30) = some (.int 1000000000000000000000000000000) := id rfl
    rw [n1, oMS, bdR, bdR, p30, oMS, bdR, bdR, n2, oMS, bdR, bdR, bdR]
    obtain ⟨x, f4, e4, hx, hf4⟩ := one_ok (m := [.int (-1), .int (hs.length : Int), .int 1000000000000000000000000000000, iN i, .int (-(hs.length : Int))]) (by simp) (by simp) hf3 (by omega)
    rw [e4, bdR]; dsimp only
    have : ∃ z : Int, x = .int z := by
      simp only [List.mem_cons, List.mem_nil_iff, or_false] at hx
      rcases hx with rfl | rfl | rfl | rfl | rfl <;> exact ⟨_, rfl⟩
    obtain ⟨z, rfl⟩ := this
    obtain ⟨f', hs', e, a, b, c⟩ := j8_ok w hl hn hh hz h1 hf4 (by omega) sc i z kn5 kn
    exact ⟨f', hs', e, a.le (by omega), b, c⟩
  · obtain ⟨f', hs', e, a, b, c⟩ := j8_ok w hl hn hh hz h1 hf3 (by omega) sc i j kn5 kn
    exact ⟨f', hs', e, a.le (by omega), b, c⟩
theorem r7_ok (f : List D) (sc : D) (kn5 : D × Unit → M D) : c_law_r7 kn5 sc f r.d (.tuple (hs.map iN)) = kn5 (sc, ()) := by
  unfold c_law_r7
  rw [ixA_T, ixT0, oMS, bdR, range1N _ (by omega), oMS, bdR]
  have cc := compC_map (e := iN) (g := fun k => iN (cnt hs k)) (step := fun d31 => bd (onT .tup (.tuple (hs.map iN)) (oM (fCount (.tuple (hs.map iN)) [d31]))) fun x32 => .ret (some x32)) (List.range r.n) (fun i _ => by
    show bd (oM (fCount (.tuple (hs.map iN)) [iN i])) _ = _
    rw [count_ok, oMS, bdR])
  rw [cc, bdR, fitM_big (by rw [List.length_map, List.length_range]; omega), bdR, bdR, tupL, oMS, bdR, crowdOf_ok hs hn hh, bdR]
  have e : (List.range r.n).map (fun k => iN (cnt hs k)) = tabD r.n (cnt hs) := by
    unfold tabD tab
    rw [List.map_map]
    rfl
  rw [e]
  obtain ⟨c1, c2⟩ := hands_repr (hs := tab r.n (cnt hs)) (fun x hx => by
    obtain ⟨q, _, rfl⟩ := tab_mem hx
    have : cnt hs q ≤ hs.length := List.count_le_length
    omega) (by rw [tab_length]; omega)
  rw [c1, oMS, bdR, bdR, c2, oMS, bdR, if_neg (by decide)]
theorem j5_ok {T : Nat} {f : List D} (hf : Fd T f) (hT : T ≤ 800000) (sc : D) (kn5 : D × Unit → M D) : c_law_j5 kn5 sc f r.d (.tuple (hs.map iN)) = kn5 (sc, ()) := by
  unfold c_law_j5
  have r12 : fRange1 [.int 12] = some ((List.range 12).map iN) := range1N 12 (by omega)
  rw [r12, oMS, bdR]
  refine forS_ex (R := fun m => m = kn5 (sc, ())) (P := fun j s => ∃ (f : List D) (hs' : List Nat), s = (sc, f, r.d, .tuple (hs'.map iN), ()) ∧ Fd (T + 5 * j) f ∧ (∀ x ∈ hs', x < r.n) ∧ hs'.length = hs.length) _ _ ?_ ⟨f, hs, rfl, hf, hh, rfl⟩ ?_
  · rintro j s d hd ⟨f, hs', rfl, hf, hlt', hl'⟩ kn hkn
    obtain ⟨_, hj⟩ := range_at hd
    obtain ⟨f', hs2, e, hf', g1, g2⟩ := s6_ok (T := T + 5 * j) w hl hn hlt' (by omega) (by omega) hf (by omega) sc d kn5 kn
    dsimp only
    rw [e]
    exact hkn _ ⟨f', hs2, rfl, hf'.le (by omega), g1, by omega⟩
  · rintro s ⟨f, hs', rfl, hf, hlt', hl'⟩
    exact r7_ok w hl hn hlt' (by omega) (by omega) f sc kn5
end
end K06
set_option Elab.async false
set_option linter.all false
set_option maxRecDepth 100000
namespace K06
open PySem PySem.Spec PyProof.Rows L2 L3 L4
theorem addLb (a b : List D) (h : a.length + b.length ≤ 100000) : opAdd (.list a) (.list b) = some (.list (a ++ b)) := if_pos (Nat.le_trans h (by decide))
theorem sum_le (b : Nat) : ∀ l : List Nat, (∀ c ∈ l, c ≤ b) → l.sum ≤ l.length * b
  | [], _ => by simp
  | y :: l, h => by
    rw [List.sum_cons, List.length_cons, Nat.succ_mul]
    have := sum_le b l fun z hz => h z (List.mem_cons_of_mem _ hz)
    have := h y List.mem_cons_self
    omega
theorem zip_take (a b : List Nat) (h : a.length = b.length) (k : Nat) (hk : k < a.length) : (a.zip b).take k ++ [(a.getD k 0, b.getD k 0)] = (a.zip b).take (k + 1) := by
  have hz : k < (a.zip b).length := by rw [List.length_zip]; omega
  rw [List.take_succ_eq_append_getElem hz]
  congr 2
  rw [List.getElem_zip]
  rw [getD_get (by omega), getD_get (by omega)]
theorem law_s1 (ns : List Int) (hn : ns.length ≤ 63) (k : Nat) (kn5 : D × Unit → M D) : c_law_s1 (.list (ns.map PyData.int)) (iN k) kn5 = kn5 (.list (ns.map PyData.int), ()) := by
  unfold c_law_s1
  obtain ⟨f, e1, hf⟩ := feed_ok ns k hn
  rw [e1, bdR]
  obtain ⟨s, f1, e2, hs, hf1⟩ := next_ok (m := 4) hf (by omega) (by omega) (by omega)
  have e2' : c__law_next f (.int 4) = .ret (iN s, f1) := e2
  rw [e2', bdR]; dsimp only
  rw [add1N, oMS, bdR]
  obtain ⟨r, f2, e3, w, rn, rs, rm, hf2⟩ := rule_ok (most := 6) (sorts := s + 1) hf1 (by omega) (by omega) (by omega) (by omega) (by omega)
  have e3' : c__law_rule f1 (.int 6) (iN (s + 1)) = .ret (r.d, f2) := e3
  rw [e3', bdR]; dsimp only
  obtain ⟨x, f3, e4, hx, hf3⟩ := one_ok (m := [.int 1, .int 3, .int 15]) (by simp) (by simp) hf2 (by omega)
  rw [e4, bdR]; dsimp only
  have hx' : ∃ most : Nat, x = iN most ∧ 1 ≤ most ∧ most ≤ 15 := by
    simp only [List.mem_cons, List.mem_nil_iff, or_false] at hx
    rcases hx with rfl | rfl | rfl
    · exact ⟨1, rfl, by omega, by omega⟩
    · exact ⟨3, rfl, by omega, by omega⟩
    · exact ⟨15, rfl, by omega, by omega⟩
  obtain ⟨most, rfl, m1, m8⟩ := hx'
  obtain ⟨cs, f4, e5, hcl, hcs, ⟨c0, hc0, hc1⟩, hf4⟩ := counts_ok (sorts := s + 1) (most := most) hf3 (by omega) (by omega) (by omega) (by omega)
  rw [e5, bdR]; dsimp only
  have hc15 : ∀ c ∈ cs, c ≤ 15 := fun c hc => by rcases hcs c hc with h | h <;> omega
  rw [seated_ok cs (fun c hc => by have := hc15 c hc; omega) (by omega), bdR, range1N _ (by omega), oMS, bdR]
  generalize hhs : seatOf (r.st.zip cs) = hs0
  have hlt : ∀ x ∈ hs0, x < r.n := by
    intro x hx
    rw [← hhs] at hx
    unfold seatOf at hx
    obtain ⟨p, hp, hx⟩ := List.mem_flatMap.mp hx
    rw [(List.mem_replicate.mp hx).2]
    exact w.st _ (List.of_mem_zip hp).1
  have hsum : hs0.length = cs.sum := by
    rw [← hhs, seat_length, List.map_snd_zip (by omega)]
  have hlen : hs0.length ≤ 1000 := by have := sum_le 15 cs hc15; omega
  have hpos : 1 ≤ hs0.length := by
    rw [hsum]
    have : ∀ l : List Nat, c0 ∈ l → c0 ≤ l.sum := by
      intro l
      induction l with
      | nil => intro h; cases h
      | cons y l ih =>
        intro h
        rw [List.sum_cons]
        rcases List.mem_cons.mp h with rfl | h
        · omega
        · have := ih h; omega
    have := this cs hc0
    omega
  have hseat : ∀ j, j ≤ s + 1 → (seatOf ((r.st.zip cs).take j)).length ≤ 1000 := fun j _ => by
    rw [seat_length]
    have h1 : ∀ c ∈ ((r.st.zip cs).take j).map (·.2), c ≤ 15 := fun c hc => by
      obtain ⟨p, hp, rfl⟩ := List.mem_map.mp hc
      exact hc15 _ (List.of_mem_zip (List.mem_of_mem_take hp)).2
    have h2 := sum_le 15 _ h1
    have h3 : (((r.st.zip cs).take j).map (·.2)).length ≤ s + 1 := by
      rw [List.length_map, List.length_take, List.length_zip]; omega
    have : (((r.st.zip cs).take j).map (·.2)).length * 15 ≤ (s + 1) * 15 := Nat.mul_le_mul_right _ h3
    omega
  refine forS_ex (R := fun m => m = kn5 (.list (ns.map PyData.int), ())) (P := fun j s' => s' = (PyData.list (ns.map PyData.int), f4, r.d, .tuple (cs.map iN), .tuple (hs0.map iN), .list ((seatOf ((r.st.zip cs).take j)).map iN), ()) ∧ j ≤ s + 1) _ _ ?_ ⟨rfl, by omega⟩ ?_
  · rintro j s' d hd ⟨rfl, hj'⟩ kn hkn
    obtain ⟨rfl, hj⟩ := range_at hd
    dsimp only
    unfold c_law_s3
    have i1 : opIx (.tuple (r.st.map iN)) (iN j) = some (iN (r.st.getD j 0)) := ixG_T iN r.st j 0 (by omega)
    have i2 : opIx (.tuple (cs.map iN)) (iN j) = some (iN (cs.getD j 0)) := ixG_T iN cs j 0 (by omega)
    have hcj : cs.getD j 0 ≤ 15 := by
      rw [getD_get (by omega)]
      exact hc15 _ (List.getElem_mem _)
    rw [ixA_T, ixT1, oMS, bdR, ixA_T, i1, oMS, bdR, bdR, ixA_T, i2, oMS, bdR, mulL_rep _ _ (by omega), oMS, bdR, bdR, addLb _ _ (by rw [List.length_map, List.length_replicate]; have := hseat j hj'; omega), oMS, bdR]
    have e : ((seatOf ((r.st.zip cs).take j)).map iN ++ List.replicate (cs.getD j 0) (iN (r.st.getD j 0))) = (seatOf ((r.st.zip cs).take (j + 1))).map iN := by
      rw [← zip_take r.st cs (by omega) j (by omega), seat_snoc, List.map_append, List.map_replicate]
    rw [e]
    exact hkn _ ⟨rfl, by omega⟩
  · rintro s' ⟨rfl, _⟩
    rw [List.length_map, List.length_range]
    dsimp only
    unfold c_law_r4
    have et : (r.st.zip cs).take (s + 1) = r.st.zip cs := List.take_of_length_le (by rw [List.length_zip]; omega)
    obtain ⟨c1, c2⟩ := hands_repr (hs := hs0) (fun x hx => by have := hlt x hx; omega) hlen
    rw [et, hhs, c1, oMS, bdR, tupL, oMS, bdR, c1, oMS, bdR, c2, oMS, bdR, if_neg (by decide)]
    obtain ⟨q, f5, e6, _, hf5⟩ := next_ok (m := 3) hf4 (by omega) (by omega) (by omega)
    have e6' : c__law_next f4 (.int 3) = .ret (iN q, f5) := e6
    rw [e6', bdR]; dsimp only
    rw [gtI, oMS, bdR]
    split
    · obtain ⟨y, f6, e7, hy, hf6⟩ := one_ok (m := [.int 1, .int 2, .int 7, .int 60]) (by simp) (by simp) hf5 (by omega)
      rw [e7, bdR]; dsimp only
      have hy' : ∃ m : Nat, y = iN m ∧ 1 ≤ m ∧ m ≤ 60 := by
        simp only [List.mem_cons, List.mem_nil_iff, or_false] at hy
        rcases hy with rfl | rfl | rfl | rfl
        · exact ⟨1, rfl, by omega, by omega⟩
        · exact ⟨2, rfl, by omega, by omega⟩
        · exact ⟨7, rfl, by omega, by omega⟩
        · exact ⟨60, rfl, by omega, by omega⟩
      obtain ⟨m, rfl, y1, y2⟩ := hy'
      rw [range1N _ (by omega), oMS, bdR]
      obtain ⟨hs, s1, cc, ⟨f7, hs1, hf7⟩, l1, r1⟩ := compE_ix (P := fun j (s : D × List D × D × D × Unit) => ∃ f, s = (.list (ns.map PyData.int), f, r.d, .tuple (hs0.map iN), ()) ∧ Fd (8000 + j) f) (e := iN) (R := fun x => x < r.n)
        (step := fun s22 d23 => bd (oM (opIxA s22.2.2.1 (.int 0))) fun x24 => bd (c__law_next s22.2.1 x24) fun r25 => .ret (some r25.1, (s22.1, r25.2, s22.2.2.1, s22.2.2.2.1, ()))) ((List.range m).map iN) (.list (ns.map PyData.int), f6, r.d, .tuple (hs0.map iN), ())
        (by
          rintro j s d hd ⟨f, rfl, hf⟩
          obtain ⟨rfl, hj⟩ := range_at hd
          obtain ⟨x, f', e, hx, hf'⟩ := next_ok (m := r.n) hf (by omega) w.n1 (by omega)
          dsimp only
          rw [ixA_T, ixT0, oMS, bdR, e, bdR]
          exact ⟨x, _, rfl, ⟨f', rfl, hf'⟩, hx⟩) ⟨f6, rfl, hf6.le (by omega)⟩
      subst hs1
      rw [List.length_map, List.length_range] at hf7 l1
      rw [cc, bdR]; dsimp only
      rw [fitM_ok (by rw [List.length_map]; omega), bdR, tupL, oMS, bdR]
      exact j5_ok w (by omega) (by omega) r1 (by omega) (by omega) hf7 (by omega) _ kn5
    · exact j5_ok w (by omega) (by omega) hlt hlen hpos hf5 (by omega) _ kn5
theorem main : ∀ ns : List Int, ns.length ≤ 63 → c_law (.list (ns.map PyData.int)) = .ret (.bool true) := by
  intro ns hn
  unfold c_law
  have e1 : fLen [.list (ns.map PyData.int)] = some (.int (ns.length : Int)) := by rw [L4.lenL, List.length_map]
  have e2 : fMin2 [.int 6, .int (ns.length : Int)] = some (iN (min 6 ns.length)) := min2 6 ns.length
  have e3 : opAdd (.int 2) (iN (min 6 ns.length)) = some (iN (2 + min 6 ns.length)) := addN 2 _
  rw [e1, oMS, bdR, e2, oMS, bdR, e3, oMS, bdR, range1N _ (by omega), oMS, bdR]
  refine (forS_pre (e := iN) (F := fun _ => (PyData.list (ns.map PyData.int), ())) (List.range (2 + min 6 ns.length)) ?_).trans rfl
  intro p k t hpt kn
  dsimp only
  exact law_s1 ns hn k kn
end K06
set_option Elab.async false
set_option linter.all false
set_option maxRecDepth 100000
set_option maxHeartbeats 8000000
namespace K06
open PySem PySem.Spec PyProof.Rows L2 L3 L4
theorem all_mk {l : PySem.W.OpenLaw} {w : World} {K : Fg} {h : Heap} {mg : Str → Option Value} {fa f0 f1 f2 f3 f4 f5 f6 f7 f8 f9 f10 f11 f12 f13 Cl_NoMeeting D_NoMeeting fi_NoMeeting : Addr} (X : K.In h) (G : h.Ns mainGlobals mg) (hfa : mg "law" = some (.ref fa))
    {oc0 kV0 dc0 pm0 cd0 ct0 : Value} {od0 an0 : Option Addr} {sl0 : Array (Option Value)}
    {oc1 kV1 dc1 pm1 cd1 ct1 : Value} {od1 an1 : Option Addr} {sl1 : Array (Option Value)}
    {oc2 kV2 dc2 pm2 cd2 ct2 : Value} {od2 an2 : Option Addr} {sl2 : Array (Option Value)}
    {oc3 kV3 dc3 pm3 cd3 ct3 : Value} {od3 an3 : Option Addr} {sl3 : Array (Option Value)}
    {oc4 kV4 dc4 pm4 cd4 ct4 : Value} {od4 an4 : Option Addr} {sl4 : Array (Option Value)}
    {oc5 kV5 dc5 pm5 cd5 ct5 : Value} {od5 an5 : Option Addr} {sl5 : Array (Option Value)}
    {oc6 kV6 dc6 pm6 cd6 ct6 : Value} {od6 an6 : Option Addr} {sl6 : Array (Option Value)}
    {oc7 kV7 dc7 pm7 cd7 ct7 : Value} {od7 an7 : Option Addr} {sl7 : Array (Option Value)}
    {oc8 kV8 dc8 pm8 cd8 ct8 : Value} {od8 an8 : Option Addr} {sl8 : Array (Option Value)}
    {oc9 kV9 dc9 pm9 cd9 ct9 : Value} {od9 an9 : Option Addr} {sl9 : Array (Option Value)}
    {oc10 kV10 dc10 pm10 cd10 ct10 : Value} {od10 an10 : Option Addr} {sl10 : Array (Option Value)}
    {oc11 kV11 dc11 pm11 cd11 ct11 : Value} {od11 an11 : Option Addr} {sl11 : Array (Option Value)}
    {oc12 kV12 dc12 pm12 cd12 ct12 : Value} {od12 an12 : Option Addr} {sl12 : Array (Option Value)}
    {oc13 kV13 dc13 pm13 cd13 ct13 : Value} {od13 an13 : Option Addr} {sl13 : Array (Option Value)}
    {oc_NoMeeting kV_NoMeeting dc_NoMeeting pm_NoMeeting cd_NoMeeting ct_NoMeeting : Value} {od_NoMeeting an_NoMeeting : Option Addr} {sl_NoMeeting : Array (Option Value)} {nm_NoMeeting qn_NoMeeting : Str} {N_NoMeeting : Addr} {bs_NoMeeting : List Value} {sn_NoMeeting : List Str} {sb_NoMeeting : List Value} {ab_NoMeeting : Bool} {co_NoMeeting : Option Bool} {dd_NoMeeting : Option Addr} {k0_NoMeeting k1_NoMeeting k2_NoMeeting k3_NoMeeting k5_NoMeeting : Option Value}
    (a0 : PySem.W.nsIn K mainGlobals "seated" = some (some (.ref f0))) (l0 : K.lookup f0 = some ⟨oc0, od0, .func (PySem.W.fnOf "seated" "seated" (defArgs s_seated) (defBody s_seated) (defScope s_seated) .none kV0 dc0 pm0 an0 cd0 ct0), sl0⟩) (c0 : PySem.W.codeIn K cd0 "seated" = true) (k0 : PySem.W.keepIn K (.ref f0) = true)
    (a1 : PySem.W.nsIn K mainGlobals "crowd_of" = some (some (.ref f1))) (l1 : K.lookup f1 = some ⟨oc1, od1, .func (PySem.W.fnOf "crowd_of" "crowd_of" (defArgs s_crowd_of) (defBody s_crowd_of) (defScope s_crowd_of) .none kV1 dc1 pm1 an1 cd1 ct1), sl1⟩) (c1 : PySem.W.codeIn K cd1 "crowd_of" = true) (k1 : PySem.W.keepIn K (.ref f1) = true)
    (a2 : PySem.W.nsIn K mainGlobals "turns_of" = some (some (.ref f2))) (l2 : K.lookup f2 = some ⟨oc2, od2, .func (PySem.W.fnOf "turns_of" "turns_of" (defArgs s_turns_of) (defBody s_turns_of) (defScope s_turns_of) .none kV2 dc2 pm2 an2 cd2 ct2), sl2⟩) (c2 : PySem.W.codeIn K cd2 "turns_of" = true) (k2 : PySem.W.keepIn K (.ref f2) = true)
    (a3 : PySem.W.nsIn K mainGlobals "turned_from" = some (some (.ref f3))) (l3 : K.lookup f3 = some ⟨oc3, od3, .func (PySem.W.fnOf "turned_from" "turned_from" (defArgs s_turned_from) (defBody s_turned_from) (defScope s_turned_from) .none kV3 dc3 pm3 an3 cd3 ct3), sl3⟩) (c3 : PySem.W.codeIn K cd3 "turned_from" = true) (k3 : PySem.W.keepIn K (.ref f3) = true)
    (a4 : PySem.W.nsIn K mainGlobals "hands_met" = some (some (.ref f4))) (l4 : K.lookup f4 = some ⟨oc4, od4, .func (PySem.W.fnOf "hands_met" "hands_met" (defArgs s_hands_met) (defBody s_hands_met) (defScope s_hands_met) .none kV4 dc4 pm4 an4 cd4 ct4), sl4⟩) (c4 : PySem.W.codeIn K cd4 "hands_met" = true) (k4 : PySem.W.keepIn K (.ref f4) = true)
    (a5 : PySem.W.nsIn K mainGlobals "_law_feed" = some (some (.ref f5))) (l5 : K.lookup f5 = some ⟨oc5, od5, .func (PySem.W.fnOf "_law_feed" "_law_feed" (defArgs s__law_feed) (defBody s__law_feed) (defScope s__law_feed) .none kV5 dc5 pm5 an5 cd5 ct5), sl5⟩) (c5 : PySem.W.codeIn K cd5 "_law_feed" = true) (k5 : PySem.W.keepIn K (.ref f5) = true)
    (a6 : PySem.W.nsIn K mainGlobals "_law_next" = some (some (.ref f6))) (l6 : K.lookup f6 = some ⟨oc6, od6, .func (PySem.W.fnOf "_law_next" "_law_next" (defArgs s__law_next) (defBody s__law_next) (defScope s__law_next) .none kV6 dc6 pm6 an6 cd6 ct6), sl6⟩) (c6 : PySem.W.codeIn K cd6 "_law_next" = true) (k6 : PySem.W.keepIn K (.ref f6) = true)
    (a7 : PySem.W.nsIn K mainGlobals "_law_one" = some (some (.ref f7))) (l7 : K.lookup f7 = some ⟨oc7, od7, .func (PySem.W.fnOf "_law_one" "_law_one" (defArgs s__law_one) (defBody s__law_one) (defScope s__law_one) .none kV7 dc7 pm7 an7 cd7 ct7), sl7⟩) (c7 : PySem.W.codeIn K cd7 "_law_one" = true) (k7 : PySem.W.keepIn K (.ref f7) = true)
    (a8 : PySem.W.nsIn K mainGlobals "_law_rule" = some (some (.ref f8))) (l8 : K.lookup f8 = some ⟨oc8, od8, .func (PySem.W.fnOf "_law_rule" "_law_rule" (defArgs s__law_rule) (defBody s__law_rule) (defScope s__law_rule) .none kV8 dc8 pm8 an8 cd8 ct8), sl8⟩) (c8 : PySem.W.codeIn K cd8 "_law_rule" = true) (k8 : PySem.W.keepIn K (.ref f8) = true)
    (a9 : PySem.W.nsIn K mainGlobals "_law_counts" = some (some (.ref f9))) (l9 : K.lookup f9 = some ⟨oc9, od9, .func (PySem.W.fnOf "_law_counts" "_law_counts" (defArgs s__law_counts) (defBody s__law_counts) (defScope s__law_counts) .none kV9 dc9 pm9 an9 cd9 ct9), sl9⟩) (c9 : PySem.W.codeIn K cd9 "_law_counts" = true) (k9 : PySem.W.keepIn K (.ref f9) = true)
    (a10 : PySem.W.nsIn K mainGlobals "_law_turned" = some (some (.ref f10))) (l10 : K.lookup f10 = some ⟨oc10, od10, .func (PySem.W.fnOf "_law_turned" "_law_turned" (defArgs s__law_turned) (defBody s__law_turned) (defScope s__law_turned) .none kV10 dc10 pm10 an10 cd10 ct10), sl10⟩) (c10 : PySem.W.codeIn K cd10 "_law_turned" = true) (k10 : PySem.W.keepIn K (.ref f10) = true)
    (a11 : PySem.W.nsIn K mainGlobals "_law_due" = some (some (.ref f11))) (l11 : K.lookup f11 = some ⟨oc11, od11, .func (PySem.W.fnOf "_law_due" "_law_due" (defArgs s__law_due) (defBody s__law_due) (defScope s__law_due) .none kV11 dc11 pm11 an11 cd11 ct11), sl11⟩) (c11 : PySem.W.codeIn K cd11 "_law_due" = true) (k11 : PySem.W.keepIn K (.ref f11) = true)
    (a12 : PySem.W.nsIn K mainGlobals "_law_told" = some (some (.ref f12))) (l12 : K.lookup f12 = some ⟨oc12, od12, .func (PySem.W.fnOf "_law_told" "_law_told" (defArgs s__law_told) (defBody s__law_told) (defScope s__law_told) .none kV12 dc12 pm12 an12 cd12 ct12), sl12⟩) (c12 : PySem.W.codeIn K cd12 "_law_told" = true) (k12 : PySem.W.keepIn K (.ref f12) = true)
    (a13 : PySem.W.nsIn K mainGlobals "law" = some (some (.ref f13))) (l13 : K.lookup f13 = some ⟨oc13, od13, .func (PySem.W.fnOf "law" "law" (defArgs s_law) (defBody s_law) (defScope s_law) .none kV13 dc13 pm13 an13 cd13 ct13), sl13⟩) (c13 : PySem.W.codeIn K cd13 "law" = true) (k13 : PySem.W.keepIn K (.ref f13) = true)
    (xa_NoMeeting : PySem.W.nsIn K mainGlobals "NoMeeting" = some (some (.ref Cl_NoMeeting))) (xb_NoMeeting : K.lookup Cl_NoMeeting = some (excClassObj nm_NoMeeting qn_NoMeeting Cl_NoMeeting N_NoMeeting bs_NoMeeting (.ref D_NoMeeting :: bmV) true sn_NoMeeting sb_NoMeeting ab_NoMeeting co_NoMeeting dd_NoMeeting k0_NoMeeting k1_NoMeeting k2_NoMeeting k3_NoMeeting k5_NoMeeting "ValueError.__new__")) (xc_NoMeeting : PySem.W.findIn K (.ref Cl_NoMeeting) "__init__" = some (some (.ref fi_NoMeeting))) (xd_NoMeeting : K.lookup fi_NoMeeting = some ⟨oc_NoMeeting, od_NoMeeting, .func (PySem.W.fnOf "__init__" "NoMeeting.__init__" (defArgs s_init_NoMeeting) (defBody s_init_NoMeeting) (defScope s_init_NoMeeting) .none kV_NoMeeting dc_NoMeeting pm_NoMeeting an_NoMeeting cd_NoMeeting ct_NoMeeting), sl_NoMeeting⟩) (xe_NoMeeting : PySem.W.codeIn K cd_NoMeeting "NoMeeting.__init__" = true) (xf_NoMeeting : PySem.W.keepIn K (.ref fi_NoMeeting) = true) (xg_NoMeeting : PySem.W.keepIn K (.ref Cl_NoMeeting) = true) (xh_NoMeeting : PySem.W.tailIn K bmV (.ref D_NoMeeting :: bmV) = true) (xi_NoMeeting : PySem.W.typeIn K (.ref fi_NoMeeting) = some (.type "function")) (xj_NoMeeting : PySem.W.findIn K (.ref Cl_NoMeeting) "__setattr__" = some (some (.builtin "object.__setattr__"))) (xk_NoMeeting : PySem.W.findIn K (.ref Cl_NoMeeting) "__getattribute__" = some (some (.builtin "BaseException.__getattribute__"))) (xl_NoMeeting : PySem.W.findIn K (.ref Cl_NoMeeting) "__getattr__" = some none) (xm_NoMeeting : PySem.W.exmOne K (.ref Cl_NoMeeting) (.ref Cl_NoMeeting) = some true) (xn0_NoMeeting : PySem.W.findIn K (.ref Cl_NoMeeting) "place" = some none)
    (z_range : PySem.W.nsIn K mainGlobals "range" = some none)
    (z_len : PySem.W.nsIn K mainGlobals "len" = some none)
    (z_tuple : PySem.W.nsIn K mainGlobals "tuple" = some none)
    (z_list : PySem.W.nsIn K mainGlobals "list" = some none)
    (z_max : PySem.W.nsIn K mainGlobals "max" = some none)
    (z_min : PySem.W.nsIn K mainGlobals "min" = some none)
    (z_sum : PySem.W.nsIn K mainGlobals "sum" = some none)
    (z_abs : PySem.W.nsIn K mainGlobals "abs" = some none)
    (z_repr : PySem.W.nsIn K mainGlobals "repr" = some none)
    (z_enumerate : PySem.W.nsIn K mainGlobals "enumerate" = some none)
    (z_isinstance : PySem.W.nsIn K mainGlobals "isinstance" = some none)
    (z_all : PySem.W.nsIn K mainGlobals "all" = some none)
    (z_any : PySem.W.nsIn K mainGlobals "any" = some none)
    (z_int : PySem.W.nsIn K mainGlobals "int" = some none)
    (z_str : PySem.W.nsIn K mainGlobals "str" = some none)
    (z_bool : PySem.W.nsIn K mainGlobals "bool" = some none)
    (z_zip : PySem.W.nsIn K mainGlobals "zip" = some none)
    (z_sorted : PySem.W.nsIn K mainGlobals "sorted" = some none)
    (z_set : PySem.W.nsIn K mainGlobals "set" = some none)
    (z_dict : PySem.W.nsIn K mainGlobals "dict" = some none)
    (z_reversed : PySem.W.nsIn K mainGlobals "reversed" = some none) :
    ∃ fd : FuncData, (∀ (s : Shared) (v : Value), BindsTo s fd ⟨[v], []⟩ [("_law_script", v)]) ∧ ∀ base : Heap, K.In base → base.Ns mainGlobals mg → FnOk l.prog w K mg base (CX1 l.prog w) 5 fa fd ["_law_script"] (spD K 1 mf_law) := by
  have e := hfa.symm.trans (PySem.W.mg_of X G a13)
  cases e
  have B : BN mg := ⟨PySem.W.mg_none_of X G z_range, PySem.W.mg_none_of X G z_len, PySem.W.mg_none_of X G z_tuple, PySem.W.mg_none_of X G z_list, PySem.W.mg_none_of X G z_max, PySem.W.mg_none_of X G z_min, PySem.W.mg_none_of X G z_sum, PySem.W.mg_none_of X G z_abs, PySem.W.mg_none_of X G z_repr, PySem.W.mg_none_of X G z_enumerate, PySem.W.mg_none_of X G z_isinstance, PySem.W.mg_none_of X G z_all, PySem.W.mg_none_of X G z_any, PySem.W.mg_none_of X G z_int, PySem.W.mg_none_of X G z_str, PySem.W.mg_none_of X G z_bool, PySem.W.mg_none_of X G z_zip, PySem.W.mg_none_of X G z_sorted, PySem.W.mg_none_of X G z_set, PySem.W.mg_none_of X G z_dict, PySem.W.mg_none_of X G z_reversed⟩
  have Kn : KN mg := ⟨trivial⟩
  have F0 := fun_mk (st := s_seated) l0 c0 k0
  have F1 := fun_mk (st := s_crowd_of) l1 c1 k1
  have F2 := fun_mk (st := s_turns_of) l2 c2 k2
  have F3 := fun_mk (st := s_turned_from) l3 c3 k3
  have F4 := fun_mk (st := s_hands_met) l4 c4 k4
  have F5 := fun_mk (st := s__law_feed) l5 c5 k5
  have F6 := fun_mk (st := s__law_next) l6 c6 k6
  have F7 := fun_mk (st := s__law_one) l7 c7 k7
  have F8 := fun_mk (st := s__law_rule) l8 c8 k8
  have F9 := fun_mk (st := s__law_counts) l9 c9 k9
  have F10 := fun_mk (st := s__law_turned) l10 c10 k10
  have F11 := fun_mk (st := s__law_due) l11 c11 k11
  have F12 := fun_mk (st := s__law_told) l12 c12 k12
  have F13 := fun_mk (st := s_law) l13 c13 k13
  refine ⟨PySem.W.fnOf "law" "law" (defArgs s_law) (defBody s_law) (defScope s_law) .none kV13 dc13 pm13 an13 cd13 ct13, fun s v => .of_eq rfl, fun base _ _ => ?_⟩
  have X_NoMeeting : CCl l.prog w K mg base "NoMeeting" 1 ["place"] := cl_NoMeeting (P := l.prog) (w := w) (base := base) (fun_mk (st := s_init_NoMeeting) xd_NoMeeting xe_NoMeeting xf_NoMeeting) ⟨⟨nm_NoMeeting, qn_NoMeeting, N_NoMeeting, bs_NoMeeting, sn_NoMeeting, sb_NoMeeting, ab_NoMeeting, co_NoMeeting, dd_NoMeeting, k0_NoMeeting, k1_NoMeeting, k2_NoMeeting, k3_NoMeeting, k5_NoMeeting, xb_NoMeeting⟩, xh_NoMeeting, xc_NoMeeting, xi_NoMeeting, xj_NoMeeting, xk_NoMeeting, xl_NoMeeting⟩ (PySem.W.mg_of X G xa_NoMeeting) xa_NoMeeting xg_NoMeeting (by intro f hf; simp only [List.mem_cons, List.mem_nil_iff, or_false] at hf; rcases hf with rfl; exact xn0_NoMeeting) xm_NoMeeting
  have C_seated := ok_seated (P := l.prog) (w := w) (base := base) F0 (PySem.W.mg_of X G a0) B Kn
  have C_crowd_of := ok_crowd_of (P := l.prog) (w := w) (base := base) F1 (PySem.W.mg_of X G a1) B Kn
  have C_turns_of := ok_turns_of (P := l.prog) (w := w) (base := base) F2 (PySem.W.mg_of X G a2) B Kn
  have C_turned_from := ok_turned_from (P := l.prog) (w := w) (base := base) F3 (PySem.W.mg_of X G a3) B Kn
  have C_hands_met := ok_hands_met (P := l.prog) (w := w) (base := base) F4 (PySem.W.mg_of X G a4) B Kn C_turned_from C_turns_of X_NoMeeting
  have C__law_feed := ok__law_feed (P := l.prog) (w := w) (base := base) F5 (PySem.W.mg_of X G a5) B Kn
  have C__law_next := ok__law_next (P := l.prog) (w := w) (base := base) F6 (PySem.W.mg_of X G a6) B Kn
  have C__law_one := ok__law_one (P := l.prog) (w := w) (base := base) F7 (PySem.W.mg_of X G a7) B Kn C__law_next
  have C__law_rule := ok__law_rule (P := l.prog) (w := w) (base := base) F8 (PySem.W.mg_of X G a8) B Kn C__law_next C__law_one
  have C__law_counts := ok__law_counts (P := l.prog) (w := w) (base := base) F9 (PySem.W.mg_of X G a9) B Kn C__law_next
  have C__law_turned := ok__law_turned (P := l.prog) (w := w) (base := base) F10 (PySem.W.mg_of X G a10) B Kn
  have C__law_due := ok__law_due (P := l.prog) (w := w) (base := base) F11 (PySem.W.mg_of X G a11) B Kn C__law_turned
  have C__law_told := ok__law_told (P := l.prog) (w := w) (base := base) F12 (PySem.W.mg_of X G a12) B Kn C_hands_met X_NoMeeting
  exact fn_law F13 B Kn C__law_feed C__law_rule C__law_counts C_seated C__law_next C__law_one C__law_due C_crowd_of C__law_told
theorem walk {l : PySem.W.OpenLaw} {q : Program} {loose : List Str} {XP : (Str → Option Value) → Heap → Prop} {YP : World → Heap → Prop} {d : DefRec} {K : Params → Fg} (main : ∀ ns : List Int, ns.length ≤ 63 → c_law (.list (ns.map PyData.int)) = .ret (.bool true)) (hn : l.most = some 63) (hdf : d.params.defaults = [])
    (hY : ∀ (w : World) (h : Heap), YP w h → (K w.params).In h)
    (F : ∀ (w : World) (mg : Str → Option Value) (fa : Addr) (h : Heap), (K w.params).In h → h.Ns mainGlobals mg → mg d.name = some (.ref fa) →
      ∃ fd : FuncData, (∀ (s : Shared) (u : Value), BindsTo s fd ⟨[u], []⟩ [("_law_script", u)]) ∧ ∀ base : Heap, (K w.params).In base → base.Ns mainGlobals mg → FnOk l.prog w (K w.params) mg base (CX1 l.prog w) 5 fa fd ["_law_script"] (spD (K w.params) 1 mf_law)) :
    PySem.W.WalkO q loose XP YP l.row.toRowW d [] (fun f vs => PySem.call f vs) :=
  L2.walk_of (n := 63) (k := 5) (x := "_law_script") (CX := fun w => CX1 l.prog w) (sp := fun w => spD (K w.params) 1 mf_law) hn (by decide) hdf ⟨rfl, by decide, by decide, rfl⟩ hY F (fun w H a ns hl _ hS => law_start hS (main ns hl)) fun _ _ _ _ _ ⟨_, _, _, _, _, _, _, _, _, _, z⟩ => z
end K06
open PySem PySem.W PyProof.Rows
set_option maxRecDepth 100000 in
set_option maxHeartbeats 0 in
theorem PySem.Challenge.cw_passersby_k06_hands_that_meet_holds : PySem.Challenge.rw_passersby_k06_hands_that_meet.Holds := by
  w_on; o_law; k_head; (case hw => w_witness2)
  k_fill
  refine K06.walk (l := PySem.Challenge.rw_passersby_k06_hands_that_meet) K06.main rfl rfl (fun w h Y => PySem.W.kIn_of Y) ?F
  case F =>
    intro w mg fa h KX G hmg
    refine' K06.all_mk KX G hmg ?a0 ?l0 ?c0 ?k0 ?a1 ?l1 ?c1 ?k1 ?a2 ?l2 ?c2 ?k2 ?a3 ?l3 ?c3 ?k3 ?a4 ?l4 ?c4 ?k4 ?a5 ?l5 ?c5 ?k5 ?a6 ?l6 ?c6 ?k6 ?a7 ?l7 ?c7 ?k7 ?a8 ?l8 ?c8 ?k8 ?a9 ?l9 ?c9 ?k9 ?a10 ?l10 ?c10 ?k10 ?a11 ?l11 ?c11 ?k11 ?a12 ?l12 ?c12 ?k12 ?a13 ?l13 ?c13 ?k13 ?xa_NoMeeting ?xb_NoMeeting ?xc_NoMeeting ?xd_NoMeeting ?xe_NoMeeting ?xf_NoMeeting ?xg_NoMeeting ?xh_NoMeeting ?xi_NoMeeting ?xj_NoMeeting ?xk_NoMeeting ?xl_NoMeeting ?xm_NoMeeting ?xn0_NoMeeting ?z_range ?z_len ?z_tuple ?z_list ?z_max ?z_min ?z_sum ?z_abs ?z_repr ?z_enumerate ?z_isinstance ?z_all ?z_any ?z_int ?z_str ?z_bool ?z_zip ?z_sorted ?z_set ?z_dict ?z_reversed
    (case a0 => k_is)
    (case l0 => k_is)
    (case c0 => k_is)
    (case k0 => k_is)
    (case a1 => k_is)
    (case l1 => k_is)
    (case c1 => k_is)
    (case k1 => k_is)
    (case a2 => k_is)
    (case l2 => k_is)
    (case c2 => k_is)
    (case k2 => k_is)
    (case a3 => k_is)
    (case l3 => k_is)
    (case c3 => k_is)
    (case k3 => k_is)
    (case a4 => k_is)
    (case l4 => k_is)
    (case c4 => k_is)
    (case k4 => k_is)
    (case a5 => k_is)
    (case l5 => k_is)
    (case c5 => k_is)
    (case k5 => k_is)
    (case a6 => k_is)
    (case l6 => k_is)
    (case c6 => k_is)
    (case k6 => k_is)
    (case a7 => k_is)
    (case l7 => k_is)
    (case c7 => k_is)
    (case k7 => k_is)
    (case a8 => k_is)
    (case l8 => k_is)
    (case c8 => k_is)
    (case k8 => k_is)
    (case a9 => k_is)
    (case l9 => k_is)
    (case c9 => k_is)
    (case k9 => k_is)
    (case a10 => k_is)
    (case l10 => k_is)
    (case c10 => k_is)
    (case k10 => k_is)
    (case a11 => k_is)
    (case l11 => k_is)
    (case c11 => k_is)
    (case k11 => k_is)
    (case a12 => k_is)
    (case l12 => k_is)
    (case c12 => k_is)
    (case k12 => k_is)
    (case a13 => k_is)
    (case l13 => k_is)
    (case c13 => k_is)
    (case k13 => k_is)
    (case xa_NoMeeting => k_is)
    (case xb_NoMeeting => k_is)
    (case xc_NoMeeting => k_is)
    (case xd_NoMeeting => k_is)
    (case xe_NoMeeting => k_is)
    (case xf_NoMeeting => k_is)
    (case xg_NoMeeting => k_is)
    (case xh_NoMeeting => kernel_rfl)
    (case xi_NoMeeting => k_is)
    (case xj_NoMeeting => k_is)
    (case xk_NoMeeting => k_is)
    (case xl_NoMeeting => k_is)
    (case xm_NoMeeting => kernel_rfl)
    (case xn0_NoMeeting => k_is)
    (case z_range => k_is)
    (case z_len => k_is)
    (case z_tuple => k_is)
    (case z_list => k_is)
    (case z_max => k_is)
    (case z_min => k_is)
    (case z_sum => k_is)
    (case z_abs => k_is)
    (case z_repr => k_is)
    (case z_enumerate => k_is)
    (case z_isinstance => k_is)
    (case z_all => k_is)
    (case z_any => k_is)
    (case z_int => k_is)
    (case z_str => k_is)
    (case z_bool => k_is)
    (case z_zip => k_is)
    (case z_sorted => k_is)
    (case z_set => k_is)
    (case z_dict => k_is)
    (case z_reversed => k_is)
