import PyProof.Rows.All
import Wide.All
import OpenK.AllK
import Wide.FinOn
import Lean
import PyProof.EqAt
import PyProof.EqKinds
import PyProof.TupleCall
import PySem.Challenge.RW_passersby_k18_refusals_apart
set_option Elab.async false
set_option linter.all false
set_option maxRecDepth 100000
namespace L2
open PySem PySem.Spec PyProof.Rows
abbrev Key := Sum Int Str
def keyIs : Key → Value → Bool
  | .inl k, v => Value.isInt k v
  | .inr x, v => Value.isStrOf x v
def keyH (w : World) : Key → Int
  | .inl k => hashInt k
  | .inr x => hashStr w x
theorem keyIs_shape : ∀ {k : Key} {v : Value}, keyIs k v = true → (∃ i t, k = Sum.inl i ∧ v = Value.int i t) ∨ (∃ x t, k = Sum.inr x ∧ v = Value.str x t)
  | .inl i, v, h => by
    obtain ⟨t, e⟩ := Value.isInt_shape (k := i) (v := v) h
    exact .inl ⟨i, t, rfl, e⟩
  | .inr x, v, h => by
    obtain ⟨t, e⟩ := Value.isStrOf_shape (x := x) (v := v) h
    exact .inr ⟨x, t, rfl, e⟩
theorem keyIs_int (i : Int) (t : Tok) : keyIs (.inl i) (.int i t) = true := by simp [keyIs, Value.isInt]
theorem keyIs_str (x : Str) (t : Tok) : keyIs (.inr x) (.str x t) = true := by simp [keyIs, Value.isStrOf]
theorem key_ll (a b : Int) : decide ((Sum.inl a : Key) = Sum.inl b) = (a == b) := by
  by_cases e : a = b
  · subst e; simp
  · have h : ¬ (Sum.inl a : Key) = Sum.inl b := fun q => e (Sum.inl.inj q)
    rw [decide_eq_false h]
    exact (beq_eq_false_iff_ne.mpr e).symm
theorem key_rr (a b : Str) : decide ((Sum.inr a : Key) = Sum.inr b) = decide (a = b) := by
  by_cases e : a = b
  · subst e; simp
  · have h : ¬ (Sum.inr a : Key) = Sum.inr b := fun q => e (Sum.inr.inj q)
    rw [decide_eq_false h, decide_eq_false e]
theorem key_lr (a : Int) (b : Str) : decide ((Sum.inl a : Key) = Sum.inr b) = false := decide_eq_false (fun q => nomatch q)
theorem key_rl (a : Str) (b : Int) : decide ((Sum.inr a : Key) = Sum.inl b) = false := decide_eq_false (fun q => nomatch q)
def mixKind (prog : Program) (w : World) : PySem.KeyKind prog w Key where
  is := keyIs
  hash := keyH w
  inj := fun v a b ha hb => by
    rcases keyIs_shape ha with ⟨i, t, rfl, rfl⟩ | ⟨x, t, rfl, rfl⟩
    · rcases keyIs_shape hb with ⟨j, u, rfl, e⟩ | ⟨y, u, rfl, e⟩
      · injection e with e1 _; rw [e1]
      · exact nomatch e
    · rcases keyIs_shape hb with ⟨j, u, rfl, e⟩ | ⟨y, u, rfl, e⟩
      · exact nomatch e
      · injection e with e1 _; rw [e1]
  byValue := fun k v h => by
    rcases keyIs_shape h with ⟨i, t, rfl, rfl⟩ | ⟨x, t, rfl, rfl⟩ <;> rfl
  pyHash := fun hv h => by
    rcases keyIs_shape hv with ⟨i, t, rfl, rfl⟩ | ⟨x, t, rfl, rfl⟩
    · exact wpAny_pyHash_int h
    · exact wpAny_pyHash_str h
  eqBool := fun hu hv h => by
    rcases keyIs_shape hu with ⟨i, t, rfl, rfl⟩ | ⟨x, t, rfl, rfl⟩
    · rcases keyIs_shape hv with ⟨j, u, rfl, rfl⟩ | ⟨y, u, rfl, rfl⟩
      · rw [key_ll] at h; exact wpAny_eqBool_int h
      · rw [key_lr] at h; exact SeqAt.EqAt.int_str i t y u _ _ _ _ h
    · rcases keyIs_shape hv with ⟨j, u, rfl, rfl⟩ | ⟨y, u, rfl, rfl⟩
      · rw [key_rl] at h; exact SeqAt.EqAt.str_int x t j u _ _ _ _ h
      · rw [key_rr] at h; exact wpAny_eqBool_str h
  «strs» := fun k x t v h => by
    rcases keyIs_shape h with ⟨i, u, rfl, e⟩ | ⟨y, u, rfl, e⟩
    · exact nomatch e
    · injection e with e1 _
      subst e1
      cases v <;> rfl
theorem mixKind_int (prog : Program) (w : World) (i : Int) (t : Tok) : (mixKind prog w).is (.inl i) (.int i t) = true := keyIs_int i t
theorem mixKind_str (prog : Program) (w : World) (x : Str) (t : Tok) : (mixKind prog w).is (.inr x) (.str x t) = true := keyIs_str x t
end L2
namespace L2
open PySem PySem.Spec PyProof.Rows
inductive V where
  | non | bl (b : Bool) | int (i : Int) | str (x : Str) | byt (b : Array UInt8) | flt (b : UInt64) | ref (a : Addr) | ty (n : String)
  deriving DecidableEq
def RelV : V → Value → Prop
  | .non, u => u = Value.none
  | .bl b, u => u = Value.bool b
  | .int i, u => ∃ t, u = Value.int i t
  | .str x, u => ∃ t, u = Value.str x t
  | .byt b, u => ∃ t, u = Value.bytes b t
  | .flt b, u => ∃ t, u = Value.float b t
  | .ref a, u => u = Value.ref a
  | .ty n, u => u = Value.type n
abbrev Vals : List V → List Value → Prop := Paired RelV
theorem Vals.length {xs : List V} {us : List Value} (r : Vals xs us) : xs.length = us.length := Paired.length r
theorem Vals.get : ∀ {xs : List V} {us : List Value} {i : Nat} {x : V}, Vals xs us → xs[i]? = some x → ∃ u, us[i]? = some u ∧ RelV x u
  | _, _, _, _, .nil, e => by simp at e
  | _, _, 0, _, .cons r _, e => by simp at e; subst e; exact ⟨_, rfl, r⟩
  | _, _, i + 1, x, .cons _ t, e => by
    obtain ⟨u, h1, h2⟩ := Vals.get (i := i) (x := x) t (by simpa using e)
    exact ⟨u, by simpa using h1, h2⟩
theorem Vals.set {x : V} {u : Value} (r : RelV x u) : ∀ {xs : List V} {us : List Value} (i : Nat), Vals xs us → Vals (xs.set i x) (us.set i u)
  | _, _, _, .nil => .nil
  | _, _, 0, .cons _ t => .cons r t
  | _, _, i + 1, .cons q t => .cons q (Vals.set r i t)
theorem Vals.append : ∀ {xs ys : List V} {us ws : List Value}, Vals xs us → Vals ys ws → Vals (xs ++ ys) (us ++ ws)
  | _, _, _, _, .nil, s => s
  | _, _, _, _, .cons r t, s => .cons r (Vals.append t s)
def RelO : Option V → Option Value → Prop
  | some v, some u => RelV v u
  | none, none => True
  | _, _ => False
def KV {κ : Type} : List (κ × V) → List (κ × Value) → Prop := Paired fun (p : κ × V) (q : κ × Value) => p.1 = q.1 ∧ RelV p.2 q.2
def kV : Key → V
  | .inl i => .int i
  | .inr x => .str x
inductive HO where
  | lst (xs : List V)
  | tup (xs : List V)
  | dK (kvs : List (Key × V)) | dT (kvs : List (List Key × V))
  | set (S : Int → Bool) (n : Nat)
  | ins (C dx : Addr) (fs : List (Str × V))
  | own (x : Addr)
  | xd (fs : List (Str × V))
  | met (f x : Addr)
  | rng (lo hi : Int)
  | frz (o : Obj) (u : HO)
  | tbl (ps : Array Value)
  | ext (φ : Heap → Prop)
abbrev Hp := Addr → Option HO
def upd (H : Hp) (a : Addr) (o : HO) : Hp := fun b => if b = a then some o else H b
theorem upd_same {H : Hp} {a : Addr} {o : HO} : upd H a o a = some o := by unfold upd; rw [if_pos rfl]
theorem upd_ne {H : Hp} {a b : Addr} {o : HO} (h : b ≠ a) : upd H a o b = H b := by unfold upd; rw [if_neg h]
theorem ne_of_none {H : Hp} {a b : Addr} {o : HO} (h : H a = some o) (h' : H b = none) : a ≠ b := by
  intro e; subst e; rw [h] at h'; cases h'
section
variable (P : Program) (w : World)
def _root_.L2.TupN (h : Heap) (a : Addr) : Prop := ∃ o, h.get? a = some o ∧ o.dict = none
theorem _root_.L2.TupN.new (h : Heap) (items : Array Value) : TupN (h.push { cls := .type "tuple", data := .seq items }) h.objs.size := ⟨_, Heap.get?_push_size _ rfl, rfl⟩
def ObjOk (H : Hp) (h : Heap) (a : Addr) : HO → Prop
  | .lst xs => xs.length ≤ sizeLine ∧ ∃ (its : List Value) (n : Nat), Vals xs its ∧ h.get? a = some { cls := .type "list", data := .seq its.toArray n }
  | .tup xs => xs.length ≤ sizeLine ∧ ∃ its : List Value, Vals xs its ∧ IsTup h a its.toArray ∧ TupN h a
  | .dK kvs => kvs.length ≤ sizeLine ∧ (a == sysModules) = false ∧ ∃ vs, KV kvs vs ∧ h.DictOf (mixKind P w) a vs
  | .dT kvs => kvs.length ≤ sizeLine ∧ (a == sysModules) = false ∧ ∃ xs : List (List Key × Addr × Value),
      Paired (fun (p : List Key × V) (q : List Key × Addr × Value) => p.1 = q.1 ∧ H q.2.1 = some (.tup (p.1.map kV)) ∧ RelV p.2 q.2.2) kvs xs ∧
      ∃ o es ep, h.get? a = some o ∧ o.ExactDict ∧ o.data = .dict es ep ∧ es.toList = xs.map (entryOfKey (tupleKind (mixKind P w))) ∧ (xs.map (·.1)).Nodup
  | .set S n => h.SetOf (intKind P w) a S n
  | .ins C dx fs => H dx = some (.own a) ∧ fs.length ≤ 1000 ∧ dx ≠ a ∧ h.get? a = some (PySem.W.instObj C dx) ∧
      ∃ mA, h.Ns1 dx mA ∧ (∀ f, RelO (fs.lookup f) (mA f)) ∧ PySem.Within mA (fs.map (·.1))
  | .own _ => ∃ o, h.get? a = some o
  | .xd fs => ∃ mA, h.Ns1 a mA ∧ ∀ f, RelO (fs.lookup f) (mA f)
  | .rng lo hi => ∃ t u v, h.get? a = some { cls := .type "range", data := .fields #[.int lo t, .int hi u, .int 1 v] }
  | .frz o u => h.get? a = some o ∧ ObjOk H h a u
  | .tbl ps => h.get? a = some { cls := .none, data := .fields ps }
  | .met f x => h.get? a = some (PySem.W.methodObj (.ref f) (.ref x))
  | .ext φ => φ h ∧ (∃ o, h.get? a = some o) ∧ ∀ h1 h2 : Heap, φ h1 → (∀ o, h1.get? a = some o → h2.get? a = some o) → φ h2
def HOk (H : Hp) (h : Heap) : Prop := ∀ a o, H a = some o → ObjOk P w H h a o
end
section
variable {P : Program} {w : World} {H H' : Hp} {h h' : Heap} {a : Addr} {o : HO}
theorem ObjOk.lt (x : ObjOk P w H h a o) : a < h.objs.size := by
  cases o with
  | lst xs => obtain ⟨_, _, _, _, e⟩ := x; exact Heap.lt_size e
  | tup xs => obtain ⟨_, _, _, p⟩ := x; exact p.1.lt
  | dK kvs => obtain ⟨_, _, _, _, o, _, _, e, _⟩ := x; exact Heap.lt_size e
  | dT kvs => obtain ⟨_, _, _, _, o, _, _, e, _⟩ := x; exact Heap.lt_size e
  | set S n => obtain ⟨o, _, _, _, e, _⟩ := x; exact Heap.lt_size e
  | ins C dx fs => obtain ⟨_, _, _, e, _⟩ := x; exact Heap.lt_size e
  | own y => obtain ⟨_, e⟩ := x; exact Heap.lt_size e
  | xd fs => obtain ⟨_, ⟨_, _, _, e, _⟩, _⟩ := x; exact Heap.lt_size e
  | rng lo hi => obtain ⟨_, _, _, e⟩ := x; exact Heap.lt_size e
  | frz ob u => obtain ⟨e, _⟩ := x; exact Heap.lt_size e
  | tbl ps => exact Heap.lt_size (show h.get? a = some _ from x)
  | met f y => exact Heap.lt_size (show h.get? a = some _ from x)
  | ext φ => obtain ⟨_, ⟨_, e⟩, _⟩ := x; exact Heap.lt_size e
theorem Paired.mapP {α β : Type} {F G : α → β → Prop} : ∀ {l₁ : List α} {l₂ : List β}, Paired F l₁ l₂ → (∀ a b, F a b → G a b) → Paired G l₁ l₂
  | _, _, .nil, _ => .nil
  | _, _, .cons r t, f => .cons (f _ _ r) (Paired.mapP t f)
theorem ObjOk.stay (x : ObjOk P w H h a o) (k : ∀ b u, (b = a ∨ H b = some (.own a)) → h.get? b = some u → h'.get? b = some u)
    (ho : ∀ b, H b = some (.own a) → H' b = some (.own a)) (ht : ∀ b xs, H b = some (.tup xs) → H' b = some (.tup xs)) : ObjOk P w H' h' a o := by
  induction o with
  | lst xs => obtain ⟨z, its, n, r, e⟩ := x; exact ⟨z, its, n, r, k _ _ (.inl rfl) e⟩
  | tup xs => obtain ⟨z, its, r, ⟨ob, e, c⟩, ob2, e2, c2⟩ := x; exact ⟨z, its, r, ⟨ob, k _ _ (.inl rfl) e, c⟩, ob2, k _ _ (.inl rfl) e2, c2⟩
  | dK kvs => obtain ⟨z, y, vs, r, ob, es, ep, e, c⟩ := x; exact ⟨z, y, vs, r, ob, es, ep, k _ _ (.inl rfl) e, c⟩
  | dT kvs =>
    obtain ⟨z, y, xs, r, ob, es, ep, e, c⟩ := x
    exact ⟨z, y, xs, Paired.mapP r fun p q z => ⟨z.1, ht _ _ z.2.1, z.2.2⟩, ob, es, ep, k _ _ (.inl rfl) e, c⟩
  | set S n => obtain ⟨ob, es, ep, t, e, c⟩ := x; exact ⟨ob, es, ep, t, k _ _ (.inl rfl) e, c⟩
  | ins C dx fs =>
    obtain ⟨d, z, ne, e, mA, ⟨od, es, ep, e2, c⟩, r⟩ := x
    exact ⟨ho _ d, z, ne, k _ _ (.inl rfl) e, mA, ⟨od, es, ep, k _ _ (.inr d) e2, c⟩, r⟩
  | own y => obtain ⟨ob, e⟩ := x; exact ⟨ob, k _ _ (.inl rfl) e⟩
  | xd fs => obtain ⟨mA, ⟨od, es, ep, e, c⟩, r⟩ := x; exact ⟨mA, ⟨od, es, ep, k _ _ (.inl rfl) e, c⟩, r⟩
  | rng lo hi => obtain ⟨t, u, v, e⟩ := x; exact ⟨t, u, v, k _ _ (.inl rfl) e⟩
  | frz ob u ih => obtain ⟨e, q⟩ := x; exact ⟨k _ _ (.inl rfl) e, ih q⟩
  | tbl ps =>
    have e : h.get? a = some { cls := .none, data := .fields ps } := x
    show h'.get? a = some { cls := .none, data := .fields ps }
    exact k a _ (.inl rfl) e
  | met f y =>
    have e : h.get? a = some (PySem.W.methodObj (.ref f) (.ref y)) := x
    show h'.get? a = some (PySem.W.methodObj (.ref f) (.ref y))
    exact k a _ (.inl rfl) e
  | ext φ => obtain ⟨p, ⟨o, e⟩, st⟩ := x; exact ⟨st _ _ p fun o q => k _ _ (.inl rfl) q, ⟨o, k _ _ (.inl rfl) e⟩, st⟩
theorem HOk.lt (x : HOk P w H h) (e : H a = some o) : a < h.objs.size := (x a o e).lt
theorem HOk.fresh (x : HOk P w H h) (e : h.objs.size ≤ a) : H a = none := by
  cases q : H a with
  | none => rfl
  | some u => exact absurd (Nat.lt_of_lt_of_le (x.lt q) e) (Nat.lt_irrefl _)
theorem HOk.kept (x : HOk P w H h) (k : ∀ b u, h.get? b = some u → h'.get? b = some u) : HOk P w H h' := fun a o e =>
  (x a o e).stay (fun b u _ q => k b u q) (fun _ q => q) fun _ _ q => q
theorem HOk.laid (x : HOk P w H h) (k : ∀ b u, h.get? b = some u → h'.get? b = some u) (hp : h.objs.size ≤ a) (new : ObjOk P w (upd H a o) h' a o) : HOk P w (upd H a o) h' := fun b u e => by
  have hn := x.fresh hp
  by_cases hb : b = a
  · subst hb; rw [upd_same] at e; cases e; exact new
  · rw [upd_ne hb] at e
    exact (x b u e).stay (fun c v _ q => k c v q) (fun c q => by rw [upd_ne (ne_of_none q hn)]; exact q) fun c xs q => by rw [upd_ne (ne_of_none q hn)]; exact q
end
def Rd (H : Hp) (a : Addr) (u : HO) : Prop := H a = some u ∨ ∃ o, H a = some (.frz o u)
theorem Rd.ok {P : Program} {w : World} {H : Hp} {h : Heap} {a : Addr} {u : HO} (r : Rd H a u) (x : HOk P w H h) : ObjOk P w H h a u := by
  rcases r with r | ⟨o, r⟩
  · exact x a u r
  · obtain ⟨_, q⟩ := x a _ r
    exact q
def Mut : Option HO → Prop
  | some (.lst _) => True
  | some (.dK _) => True
  | some (.dT _) => True
  | some (.set _ _) => True
  | some (.ins _ _ _) => True
  | some (.ext _) => True
  | _ => False
section
variable {P : Program} {w : World} {H : Hp} {h h' : Heap} {x e : Addr} {o' : HO}
theorem HOk.write (ok : HOk P w H h) (mu : Mut (H x)) (he : e = x ∨ H e = some (.own x)) (k : ∀ b u, b ≠ e → h.get? b = some u → h'.get? b = some u) (heo : ∃ u, h'.get? e = some u)
    (new : ObjOk P w (upd H x o') h' x o') : HOk P w (upd H x o') h' := fun b u q => by
  have nown : ∀ c y, H c = some (.own y) → c ≠ x := fun c y r z => by subst z; rw [r] at mu; exact mu
  have ntup : ∀ c xs, H c = some (.tup xs) → c ≠ x := fun c xs r z => by subst z; rw [r] at mu; exact mu
  by_cases hb : b = x
  · subst hb; rw [upd_same] at q; cases q; exact new
  · rw [upd_ne hb] at q
    by_cases hbe : b = e
    · have q' : H b = some (.own x) := by
        rcases he with z | z
        · exact absurd (hbe.trans z) hb
        · rw [hbe]; exact z
      rw [q] at q'; cases q'
      obtain ⟨v, hv⟩ := heo
      exact ⟨v, by rw [hbe]; exact hv⟩
    · refine (ok b u q).stay (fun c v hc r => k c v ?_ r) (fun c r => by rw [upd_ne (nown c b r)]; exact r) fun c xs r => by rw [upd_ne (ntup c xs r)]; exact r
      rcases hc with rfl | hc
      · exact hbe
      · rintro rfl
        rcases he with z | z
        · exact nown c b hc z
        · rw [hc] at z; cases z; exact hb rfl
end
structure Un (fs ex : List Addr) (H H' : Hp) (h h' : Heap) : Prop where
  keep : ∀ b o, h.get? b = some o → H b = none → b ∉ fs → b ∉ ex → h'.get? b = some o
  slot : ∀ b o, h.get? b = some o → H b = none → b ∈ fs → b ∉ ex → ∃ sl, h'.get? b = some { o with slots := sl }
  free : ∀ b o, h.get? b = some o → H b = none → b ∉ ex → H' b = none
  there : ∀ b o, h.get? b = some o → b ∉ ex → ∃ o', h'.get? b = some o'
  tups : ∀ b xs, H b = some (.tup xs) → H' b = some (.tup xs)
  frzs : ∀ b o u, H b = some (.frz o u) → H' b = some (.frz o u)
  tbls : ∀ b ps, H b = some (.tbl ps) → ∃ more, H' b = some (.tbl (ps ++ more))
section
variable {fs fs' ex ex' : List Addr} {H H1 H2 : Hp} {h h1 h2 h' : Heap} {a x e : Addr} {o : HO}
theorem Un.any (u : Un fs ex H H1 h h1) {b : Addr} {ob : Obj} (q : h.get? b = some ob) (n : H b = none) (hx : b ∉ ex) : ∃ sl, h1.get? b = some { ob with slots := sl } := by
  by_cases hb : b ∈ fs
  · exact u.slot b ob q n hb hx
  · exact ⟨ob.slots, u.keep b ob q n hb hx⟩
theorem Un.kept (k : ∀ b u, h.get? b = some u → h'.get? b = some u) : Un fs ex H H h h' :=
  ⟨fun b ob q _ _ _ => k b ob q, fun b ob q _ _ _ => ⟨ob.slots, k b ob q⟩, fun _ _ _ n _ => n, fun b ob q _ => ⟨ob, k b ob q⟩, fun _ _ q => q, fun _ _ _ q => q, fun _ ps q => ⟨#[], by rw [q]; simp⟩⟩
theorem Un.refl : Un fs ex H H h h := Un.kept fun _ _ q => q
theorem Un.laid (k : ∀ b u, h.get? b = some u → h'.get? b = some u) (hp : h.objs.size ≤ a) (hn : H a = none) : Un fs ex H (upd H a o) h h' where
  keep := fun b u q _ _ _ => k b u q
  slot := fun b u q _ _ _ => ⟨u.slots, k b u q⟩
  free := fun b u q n _ => by rw [upd_ne (Nat.ne_of_lt (Nat.lt_of_lt_of_le (Heap.lt_size q) hp))]; exact n
  there := fun b u q _ => ⟨u, k b u q⟩
  tups := fun b xs q => by rw [upd_ne (ne_of_none q hn)]; exact q
  frzs := fun b u xs q => by rw [upd_ne (ne_of_none q hn)]; exact q
  tbls := fun b ps q => ⟨#[], by rw [upd_ne (ne_of_none q hn), q]; simp⟩
theorem Un.write (mu : Mut (H x)) (he : e = x ∨ H e = some (.own x)) (k : ∀ b u, b ≠ e → h.get? b = some u → h'.get? b = some u) (heo : ∃ u, h'.get? e = some u) : Un fs ex H (upd H x o) h h' := by
  have hx : ∀ b, H b = none → b ≠ x := fun b n z => by subst z; rw [n] at mu; exact mu
  have hb : ∀ b, H b = none → b ≠ e := fun b n z => by
    subst z
    rcases he with r | r
    · exact hx b n r
    · rw [n] at r; cases r
  have hm : ∀ b u, H b = some u → ¬ Mut (some u) → b ≠ x := fun b u q nm z => by subst z; rw [q] at mu; exact nm mu
  refine ⟨fun b u q n _ _ => k b u (hb b n) q, fun b u q n _ _ => ⟨u.slots, k b u (hb b n) q⟩, fun b u q n _ => by rw [upd_ne (hx b n)]; exact n, fun b u q _ => ?_,
    fun b xs q => by rw [upd_ne (hm b _ q fun z => z)]; exact q, fun b u xs q => by rw [upd_ne (hm b _ q fun z => z)]; exact q, fun b ps q => ⟨#[], by rw [upd_ne (hm b _ q fun z => z), q]; simp⟩⟩
  by_cases hbe : b = e
  · subst hbe; exact heo
  · exact ⟨u, k b u hbe q⟩
end
def trk (h : Heap) (H : Hp) : List Addr := (List.range h.objs.size).filter fun a => (H a).isSome
def hidT (h : Heap) (H : Hp) : Heap := PySem.W.hideAll h (trk h H)
theorem hidT_size (h : Heap) (H : Hp) : (hidT h H).objs.size = h.objs.size := PySem.W.hideAll_size _ _
theorem hidT_get {h : Heap} {H : Hp} {b : Addr} {o : Obj} (e : h.get? b = some o) (n : H b = none) : (hidT h H).get? b = some o :=
  PySem.W.hideAll_get _ e fun hm => by
    have q : (H b).isSome = true := (List.mem_filter.mp hm).2
    rw [n] at q; simp at q
theorem of_hidT {h : Heap} {H : Hp} {b : Addr} {o : Obj} (e : (hidT h H).get? b = some o) : h.get? b = some o ∧ H b = none := by
  have e' : h.get? b = some o := PySem.W.of_hideAll (trk h H) e
  refine ⟨e', ?_⟩
  cases q : H b with
  | none => rfl
  | some x =>
    have hm : b ∈ trk h H := List.mem_filter.mpr ⟨List.mem_range.mpr (Heap.lt_size e'), by simp [q]⟩
    have z : (hidT h H).get? b = none := PySem.W.hideAll_none (trk h H) hm
    rw [z] at e; cases e
end L2
namespace L2
open PySem PySem.Spec PyProof.Rows
structure Mod (K : PySem.W.Frag) (mg : Str → Option Value) (base : Heap) : Prop where
  kin : K.In base
  glob : base.Ns mainGlobals mg
  blt : ∃ mb, base.Ns builtinsNs mb ∧ ∀ x : Str, x ≠ "__name__" → mb x = bootBuiltins x
  nolimit : base.NoLimit
structure Cx where
  prog : Program
  w : World
  K : PySem.W.Frag
  mg : Str → Option Value
  base : Heap
  A : Around
  N : List Str
  s₀ : Shared
  H₀ : Hp
  env : Env
  outer : List Env
  stack : List Env
  ex : List Addr
  fn : Str → Bool
  calm : Bool
  pn : List (Addr × Obj)
  xe : Value → Shared → Prop
def frs (l : List Env) : List Addr := l.filterMap (·.frame)
abbrev Cx.fs (X : Cx) : List Addr := frs X.outer
def Vis (sc : Scope) (x : Str) : Prop := sc.names.lookup x = some .local ∨ sc.names.lookup x = some .cell ∨ sc.names.lookup x = some .free
def Loc (sc : Scope) (x : Str) : Prop := sc.names.lookup x = some .local ∨ sc.names.lookup x = some .cell
def Look (env : Env) (h : Heap) (m : Str → Option Value) (x : Str) (u : Value) : Prop :=
  (env.kindOf x = some .local ∧ m x = some u) ∨ ((env.kindOf x = some .cell ∨ env.kindOf x = some .free) ∧ ∃ c, env.cells.lookup x = some c ∧ h.IsCell c (some u))
structure Cx.Ok (X : Cx) : Prop where
  mod : Mod X.K X.mg X.base
  kind : X.env.scope.kind = .function
  glob : X.env.globals = mainGlobals
  blt : X.env.builtins = builtinsNs
  above : X.s₀.heap.objs.size ≤ X.env.locals
  inj : ∀ x y c, X.env.cells.lookup x = some c → X.env.cells.lookup y = some c → x = y
  has : ∀ x, (X.env.kindOf x = some .cell ∨ X.env.kindOf x = some .free) → ∃ c, X.env.cells.lookup x = some c
  cab : ∀ x c, X.fn x = true → X.env.cells.lookup x = some c → X.s₀.heap.objs.size ≤ c
  hd : X.calm = true → X.A.handled = none
  frames : X.A.frames = some X.stack
  stk : X.stack = X.outer ∨ (X.stack = X.env :: X.outer ∧ X.env.frame = some X.env.locals)
  exf : ∀ b ∈ X.ex, b ≠ X.env.locals ∧ ∀ x c, X.env.cells.lookup x = some c → c ≠ b
  bs : ∀ b o, X.base.get? b = some o → X.s₀.heap.get? b = some o ∧ X.H₀ b = none
  bsz : X.base.objs.size ≤ X.s₀.heap.objs.size
  noex : ∀ b o, X.base.get? b = some o → b ∉ X.ex
  exfs : ∀ b ∈ X.ex, b ∉ X.fs
  funs : X.s₀.heap.FunFrames X.base X.outer
  frf : ∀ b ∈ X.fs, X.H₀ b = none
structure Inv (X : Cx) (pins : List (Addr × Obj)) (σ : List (Option V)) (H : Hp) (s : Shared) : Prop where
  ok : X.Ok
  os : s.os = X.s₀.os
  bare : AllBare s.gens
  base : Un X.fs X.ex X.H₀ H X.s₀.heap s.heap
  loc : ∃ m, s.heap.Ns X.env.locals m ∧ ∀ (i : Nat) (x : Str) (v : V), X.N[i]? = some x → σ[i]? = some (some v) → Vis X.env.scope x → ∃ u, RelV v u ∧ Look X.env s.heap m x u
  cell : ∀ x c, X.env.cells.lookup x = some c → ∃ v, s.heap.IsCell c v
  free : H X.env.locals = none
  freeC : ∀ x c, X.env.cells.lookup x = some c → H c = none
  pin : ∀ p ∈ X.pn ++ pins, s.heap.get? p.1 = some p.2 ∧ H p.1 = none ∧ p.1 ≠ X.env.locals ∧ p.1 ∉ X.fs ∧ ∀ v, p.2.data ≠ .cell v
  hok : HOk X.prog X.w H s.heap
  len : σ.length = X.N.length
section
variable {X : Cx} {pins : List (Addr × Obj)} {σ : List (Option V)} {H H' : Hp} {s : Shared} {h' : Heap}
theorem Cx.Ok.nofr (ok : X.Ok) {b : Addr} {o : Obj} (e : X.base.get? b = some o) : b ∉ X.fs := fun hb => by
  have := (ok.funs.mem hb).1
  rw [e] at this; cases this
theorem Inv.bs (I : Inv X pins σ H s) : ∀ b o, X.base.get? b = some o → s.heap.get? b = some o ∧ H b = none := fun b o e =>
  ⟨I.base.keep b o (I.ok.bs b o e).1 (I.ok.bs b o e).2 (I.ok.nofr e) (I.ok.noex b o e), I.base.free b o (I.ok.bs b o e).1 (I.ok.bs b o e).2 (I.ok.noex b o e)⟩
theorem Inv.bk (I : Inv X pins σ H s) : ∀ b o, X.base.get? b = some o → s.heap.get? b = some o := fun b o e => (I.bs b o e).1
theorem Inv.mod (I : Inv X pins σ H s) : Mod X.K X.mg X.base := I.ok.mod
theorem Inv.kIn (I : Inv X pins σ H s) : X.K.In s.heap := I.ok.mod.kin.keeps I.bk
theorem Inv.lt (I : Inv X pins σ H s) : X.env.locals < s.heap.objs.size := let ⟨_, hn, _⟩ := I.loc; hn.lt
theorem Inv.sz (I : Inv X pins σ H s) : X.s₀.heap.objs.size ≤ s.heap.objs.size := Nat.le_trans I.ok.above (Nat.le_of_lt I.lt)
theorem Inv.nofs (I : Inv X pins σ H s) {a : Addr} (h : s.heap.objs.size ≤ a) : a ∉ X.fs := fun hb => by
  obtain ⟨_, o, ho, _⟩ := I.ok.funs.mem hb
  exact absurd (Nat.lt_of_lt_of_le (Heap.lt_size ho) (Nat.le_trans I.sz h)) (Nat.lt_irrefl _)
theorem Inv.cne (I : Inv X pins σ H s) : ∀ x c, X.env.cells.lookup x = some c → c ≠ X.env.locals := fun x c e z => by
  obtain ⟨v, o, ho, hd⟩ := I.cell x c e
  obtain ⟨m, ⟨o', es, ep, ho', hd', _⟩, _⟩ := I.loc
  rw [z, ho'] at ho; cases ho; rw [hd'] at hd; cases hd
theorem Inv.funs (I : Inv X pins σ H s) : s.heap.FunFrames X.base X.outer := by
  have all : ∀ (l : List Env), (∀ b ∈ frs l, b ∈ X.fs) → X.s₀.heap.FunFrames X.base l → s.heap.FunFrames X.base l := by
    intro l
    induction l with
    | nil => intro _ _; trivial
    | cons env r ih =>
      intro hs hl
      obtain ⟨hk, ⟨L, o, hf, hn, ho, hd⟩, hr⟩ := hl
      have hL : L ∈ X.fs := hs L (by unfold frs; rw [List.filterMap_cons, hf]; exact List.mem_cons_self)
      obtain ⟨sl, e⟩ := I.base.slot L o ho (I.ok.frf L hL) hL fun z => I.ok.exfs L z hL
      exact ⟨hk, ⟨L, _, hf, hn, e, hd⟩, ih (fun b hb => hs b (by unfold frs; rw [List.filterMap_cons, hf]; exact List.mem_cons_of_mem _ hb)) hr⟩
  exact all X.outer (fun _ hb => hb) I.ok.funs
theorem Inv.stack (I : Inv X pins σ H s) : s.heap.FunFrames X.base X.stack := by
  rcases I.ok.stk with e | ⟨e, hf⟩
  · rw [e]; exact I.funs
  · rw [e]
    obtain ⟨m, hn, _⟩ := I.loc
    refine .cons (by rw [I.ok.kind]; decide) hf hn ?_ I.funs
    exact Heap.get?_none_of_le (Nat.le_trans I.ok.bsz I.ok.above)
theorem Inv.stkSub (I : Inv X pins σ H s) : ∀ b ∈ frs X.stack, b ∈ X.env.locals :: X.fs := fun b hb => by
  rcases I.ok.stk with e | ⟨e, hf⟩
  · rw [e] at hb; exact List.mem_cons_of_mem _ hb
  · rw [e] at hb
    unfold frs at hb
    rw [List.filterMap_cons, hf] at hb
    exact hb
theorem Inv.stkFree (I : Inv X pins σ H s) : ∀ b ∈ frs X.stack, H b = none := fun b hb => by
  rcases List.mem_cons.mp (I.stkSub b hb) with e | hb
  · rw [e]; exact I.free
  · obtain ⟨_, o, ho, _⟩ := I.ok.funs.mem hb
    exact I.base.free b o ho (I.ok.frf b hb) fun z => I.ok.exfs b z hb
theorem Inv.step {g' : Array GenState} {t' : Nat} {d' : Drawn} {ch : List Addr} (I : Inv X pins σ H s)
    (hch : ∀ b ∈ ch, (b ∈ X.ex ∨ X.s₀.heap.objs.size ≤ b) ∧ b ≠ X.env.locals ∧ (∀ x c, X.env.cells.lookup x = some c → c ≠ b) ∧ ∀ p ∈ X.pn ++ pins, p.1 ≠ b)
    (keep : ∀ b o, b ≠ X.env.locals → b ∉ X.fs → b ∉ ch → s.heap.get? b = some o → H b = none → h'.get? b = some o)
    (slot : ∀ b o, b ≠ X.env.locals → b ∈ X.fs → b ∉ ch → s.heap.get? b = some o → H b = none → ∃ sl, h'.get? b = some { o with slots := sl }) (free : ∀ b o, b ∉ ch → s.heap.get? b = some o → H b = none → H' b = none)
    (there : ∀ b o, b ∉ ch → s.heap.get? b = some o → ∃ o', h'.get? b = some o')
    (tups : ∀ b xs, H b = some (.tup xs) → H' b = some (.tup xs)) (frzs : ∀ b o u, H b = some (.frz o u) → H' b = some (.frz o u)) (tbls : ∀ b ps, H b = some (.tbl ps) → ∃ more, H' b = some (.tbl (ps ++ more)))
    (ns : ∀ m, s.heap.Ns X.env.locals m → h'.Ns X.env.locals m) (hok : HOk X.prog X.w H' h') (hg : AllBare g') :
    Inv X pins σ H' { s with heap := h', gens := g', drawn := d', toks := t' } := by
  have neL : ∀ b o, X.s₀.heap.get? b = some o → b ≠ X.env.locals := fun b o e => Nat.ne_of_lt (Nat.lt_of_lt_of_le (Heap.lt_size e) I.ok.above)
  have neC : ∀ b o, X.s₀.heap.get? b = some o → b ∉ X.ex → b ∉ ch := fun b o e hx hb => by
    rcases (hch b hb).1 with z | z
    · exact hx z
    · exact absurd (Nat.lt_of_lt_of_le (Heap.lt_size e) z) (Nat.lt_irrefl _)
  have cellK : ∀ x c, X.env.cells.lookup x = some c → ∀ v, s.heap.IsCell c v → h'.IsCell c v := fun x c e v ⟨o, ho, hd⟩ => by
    have nch : c ∉ ch := fun z => (hch c z).2.2.1 x c e rfl
    by_cases hc : c ∈ X.fs
    · obtain ⟨sl, q⟩ := slot c o (I.cne x c e) hc nch ho (I.freeC x c e)
      exact ⟨_, q, hd⟩
    · exact ⟨o, keep c o (I.cne x c e) hc nch ho (I.freeC x c e), hd⟩
  refine ⟨I.ok, I.os, hg, ⟨fun b o e n hb hx => ?_, fun b o e n hb hx => ?_, fun b o e n hx => ?_, fun b o e hx => ?_, fun b xs e => tups b xs (I.base.tups b xs e), fun b o xs e => frzs b o xs (I.base.frzs b o xs e), fun b ps e => ?_⟩, ?_, fun x c e => ?_, ?_, fun x c e => ?_, fun p hp => ?_, hok, I.len⟩
  · exact keep b o (neL b o e) hb (neC b o e hx) (I.base.keep b o e n hb hx) (I.base.free b o e n hx)
  · obtain ⟨sl, e1⟩ := I.base.slot b o e n hb hx
    obtain ⟨sl', e2⟩ := slot b _ (neL b o e) hb (neC b o e hx) e1 (I.base.free b o e n hx)
    exact ⟨sl', e2⟩
  · obtain ⟨o', e1⟩ := I.base.there b o e hx
    exact free b o' (neC b o e hx) e1 (I.base.free b o e n hx)
  · obtain ⟨o', e1⟩ := I.base.there b o e hx
    exact there b o' (neC b o e hx) e1
  · obtain ⟨m1, e1⟩ := I.base.tbls b ps e
    obtain ⟨m2, e2⟩ := tbls b _ e1
    exact ⟨m1 ++ m2, by rw [e2, Array.append_assoc]⟩
  · obtain ⟨m, hn, hl⟩ := I.loc
    refine ⟨m, ns m hn, fun i x v e1 e2 e3 => ?_⟩
    obtain ⟨u, r, l⟩ := hl i x v e1 e2 e3
    refine ⟨u, r, ?_⟩
    rcases l with l | ⟨k, c, e, z⟩
    · exact .inl l
    · exact .inr ⟨k, c, e, cellK x c e _ z⟩
  · obtain ⟨v, z⟩ := I.cell x c e
    exact ⟨v, cellK x c e v z⟩
  · obtain ⟨m, ⟨o, _, _, ho, _⟩, _⟩ := I.loc
    exact free _ o (fun z => (hch _ z).2.1 rfl) ho I.free
  · obtain ⟨v, o, ho, hd⟩ := I.cell x c e
    exact free c o (fun z => (hch c z).2.2.1 x c e rfl) ho (I.freeC x c e)
  · obtain ⟨e, n, ne, nf, d⟩ := I.pin p hp
    have nch : p.1 ∉ ch := fun z => (hch p.1 z).2.2.2 p hp rfl
    exact ⟨keep p.1 p.2 ne nf nch e n, free p.1 p.2 nch e n, ne, nf, d⟩
theorem Inv.un {t' : Nat} (I : Inv X pins σ H s) (u : Un X.fs [] H H' s.heap h') (hok : HOk X.prog X.w H' h') : Inv X pins σ H' { s with heap := h', toks := t' } := by
  obtain ⟨m, ⟨o, es, ep, ho, r⟩, _⟩ := id I.loc
  obtain ⟨sl, hL⟩ := u.any ho I.free (by simp)
  exact I.step (g' := s.gens) (d' := s.drawn) (ch := []) (fun _ z => nomatch z) (fun b o _ hb _ e n => u.keep b o e n hb (by simp)) (fun b o _ hb _ e n => u.slot b o e n hb (by simp)) (fun b o _ e n => u.free b o e n (by simp)) (fun b o _ e => u.there b o e (by simp)) u.tups u.frzs u.tbls (fun m' hm => by
    obtain ⟨o', es', ep', ho', r'⟩ := hm
    rw [ho] at ho'; cases ho'
    exact ⟨_, es', ep', hL, r'⟩) hok I.bare
theorem Inv.call {g' : Array GenState} {t' : Nat} {d' : Drawn} {ch : List Addr} (I : Inv X pins σ H s) (u : Un (frs X.stack) ch H H' s.heap h') (hok : HOk X.prog X.w H' h') (hg : AllBare g')
    (hch : ∀ b ∈ ch, (b ∈ X.ex ∨ X.s₀.heap.objs.size ≤ b) ∧ b ≠ X.env.locals ∧ (∀ x c, X.env.cells.lookup x = some c → c ≠ b) ∧ ∀ p ∈ X.pn ++ pins, p.1 ≠ b) :
    Inv X pins σ H' { s with heap := h', gens := g', drawn := d', toks := t' } := by
  obtain ⟨m, ⟨o, es, ep, ho, r⟩, _⟩ := id I.loc
  obtain ⟨sl, hL⟩ := u.any ho I.free fun z => (hch _ z).2.1 rfl
  exact I.step (ch := ch) hch (fun b o hL hb hc e n => u.keep b o e n (fun z => (List.mem_cons.mp (I.stkSub b z)).elim hL hb) hc) (fun b o _ _ hc e n => u.any e n hc) (fun b o hc e n => u.free b o e n hc) (fun b o hc e => u.there b o e hc) u.tups u.frzs u.tbls (fun m' hm => by
    obtain ⟨o', es', ep', ho', r'⟩ := hm
    rw [ho] at ho'; cases ho'
    exact ⟨_, es', ep', hL, r'⟩) hok hg
theorem Inv.turned {t' : Nat} {it : Addr} (I : Inv X pins σ H s) (k : ∀ b o, b ≠ it → s.heap.get? b = some o → h'.get? b = some o) (hn : H it = none) (hL : it ≠ X.env.locals)
    (h1 : it ∈ X.ex ∨ X.s₀.heap.objs.size ≤ it) (h2 : ∀ x c, X.env.cells.lookup x = some c → c ≠ it) (h3 : ∀ p ∈ X.pn ++ pins, p.1 ≠ it) : Inv X pins σ H { s with heap := h', toks := t' } := by
  have nit : ∀ b u, H b = some u → b ≠ it := fun b u e z => by rw [z, hn] at e; cases e
  refine I.step (g' := s.gens) (d' := s.drawn) (ch := [it]) (fun b hb => ?_) (fun b o _ _ hc e _ => k b o (fun z => hc (by simp [z])) e) (fun b o _ _ hc e _ => ⟨o.slots, k b o (fun z => hc (by simp [z])) e⟩) (fun _ _ _ _ n => n)
    (fun b o hc e => ⟨o, k b o (fun z => hc (by simp [z])) e⟩) (fun _ _ e => e) (fun _ _ _ e => e) (fun b ps e => ⟨#[], by rw [e]; simp⟩) (fun m hm => ?_) (fun b u e => ?_) I.bare
  · have e : b = it := by simpa using hb
    subst e
    exact ⟨h1, hL, h2, h3⟩
  · obtain ⟨o, es, ep, ho, r⟩ := hm
    exact ⟨o, es, ep, k _ o (Ne.symm hL) ho, r⟩
  · refine (I.hok b u e).stay (fun c v hc q => k c v ?_ q) (fun _ q => q) fun _ _ q => q
    rcases hc with z | z
    · rw [z]; exact nit b u e
    · exact nit c _ z
theorem Inv.tok (I : Inv X pins σ H s) (t : Nat) : Inv X pins σ H { s with toks := t } := I.un (h' := s.heap) (t' := t) Un.refl I.hok
theorem Inv.kept {t' : Nat} (I : Inv X pins σ H s) (k : ∀ b u, s.heap.get? b = some u → h'.get? b = some u) : Inv X pins σ H { s with heap := h', toks := t' } := I.un (Un.kept k) (I.hok.kept k)
theorem Inv.laid {a : Addr} {o : HO} {t' : Nat} (I : Inv X pins σ H s) (k : ∀ b u, s.heap.get? b = some u → h'.get? b = some u) (hp : s.heap.objs.size ≤ a) (new : ObjOk X.prog X.w (upd H a o) h' a o) :
    Inv X pins σ (upd H a o) { s with heap := h', toks := t' } := I.un (Un.laid k hp (I.hok.fresh hp)) (I.hok.laid k hp new)
theorem Inv.write {x e : Addr} {o : HO} {t' : Nat} (I : Inv X pins σ H s) (mu : Mut (H x)) (he : e = x ∨ H e = some (.own x)) (k : ∀ b u, b ≠ e → s.heap.get? b = some u → h'.get? b = some u) (heo : ∃ u, h'.get? e = some u)
    (new : ObjOk X.prog X.w (upd H x o) h' x o) : Inv X pins σ (upd H x o) { s with heap := h', toks := t' } := I.un (Un.write mu he k heo) (I.hok.write mu he k heo new)
theorem Inv.pins_of {pins' : List (Addr × Obj)} (I : Inv X pins σ H s) (h : ∀ p ∈ pins', s.heap.get? p.1 = some p.2 ∧ H p.1 = none ∧ p.1 ≠ X.env.locals ∧ p.1 ∉ X.fs ∧ ∀ v, p.2.data ≠ .cell v) : Inv X pins' σ H s :=
  ⟨I.ok, I.os, I.bare, I.base, I.loc, I.cell, I.free, I.freeC, fun p hp => (List.mem_append.mp hp).elim (fun z => I.pin p (List.mem_append_left _ z)) (h p), I.hok, I.len⟩
theorem nodup_ix {N : List Str} (hN : N.Nodup) {i j : Nat} {x : Str} (a : N[i]? = some x) (b : N[j]? = some x) : i = j := by
  obtain ⟨h1, e1⟩ := List.getElem?_eq_some_iff.mp a
  obtain ⟨h2, e2⟩ := List.getElem?_eq_some_iff.mp b
  exact (List.getElem_inj hN).mp (e1.trans e2.symm)
theorem store_ok2 {M : Model} {A : Around} {E : Value → Shared → Prop} {i : Nat} {x : Str} {v : V} {u : Value} {Q : Unit → Shared → Prop} (I : Inv X pins σ H s) (hN : X.N.Nodup) (hi : X.N[i]? = some x) (hx : Loc X.env.scope x) (r : RelV v u)
    (h : ∀ s', Inv X pins (σ.set i (some v)) H s' → (∃ a, Heap.SameBut a s.heap s'.heap ∧ (a = X.env.locals ∨ X.env.cells.lookup x = some a)) → Q () s') (hf : X.fn x = true ∨ X.env.scope.names.lookup x = some .local := by first | exact .inl rfl | exact .inr rfl | assumption) : wpAny M A (storeName X.env x u) Q E s := by
  obtain ⟨m, hn, hl⟩ := id I.loc
  have hcls : (X.env.scope.kind == .class || (X.env.scope.kind == .module && X.env.locals != X.env.globals)) = false := by rw [I.ok.kind]; rfl
  have hiσ : i < σ.length := by rw [I.len]; exact (List.getElem?_eq_some_iff.mp hi).1
  have cne := I.cne
  have tracked : ∀ {a : Addr} {h' : Heap}, (∃ o, s.heap.get? a = some o ∧ H a = none) → Heap.SameBut a s.heap h' → HOk X.prog X.w H h' := fun {a h'} ha hs b ob e => by
    obtain ⟨_, _, hfree⟩ := ha
    refine (I.hok b ob e).stay (fun c w' hc q => (hs.2 c ?_).trans q) (fun _ q => q) fun _ _ q => q
    rintro rfl
    rcases hc with rfl | hc
    · rw [hfree] at e; cases e
    · rw [hfree] at hc; cases hc
  rcases hx with hk | hk
  · refine wpAny_storeName_local hk hn (fun h' hn' hs => ?_) hcls
    obtain ⟨oL, _, _, hoL, _⟩ := id hn
    refine h _ ⟨I.ok, I.os, I.bare, ⟨fun b o e n hb hx => ?_, fun b o e n hb hx => ?_, I.base.free, fun b o e hx => ?_, I.base.tups, I.base.frzs, I.base.tbls⟩, ⟨_, hn', fun j y v' e1 e2 e3 => ?_⟩, fun y c e => ?_, I.free, I.freeC, fun p hp => ?_, tracked ⟨oL, hoL, I.free⟩ hs, by simpa using I.len⟩ ⟨_, hs, .inl rfl⟩
    · exact (hs.2 b (Nat.ne_of_lt (Nat.lt_of_lt_of_le (Heap.lt_size e) I.ok.above))).trans (I.base.keep b o e n hb hx)
    · obtain ⟨sl, e1⟩ := I.base.slot b o e n hb hx
      exact ⟨sl, (hs.2 b (Nat.ne_of_lt (Nat.lt_of_lt_of_le (Heap.lt_size e) I.ok.above))).trans e1⟩
    · obtain ⟨o', e1⟩ := I.base.there b o e hx
      exact ⟨o', (hs.2 b (Nat.ne_of_lt (Nat.lt_of_lt_of_le (Heap.lt_size e) I.ok.above))).trans e1⟩
    · by_cases hj : j = i
      · subst hj
        rw [hi] at e1; cases e1
        rw [List.getElem?_set_self hiσ] at e2
        cases e2
        exact ⟨u, r, .inl ⟨hk, by simp⟩⟩
      · rw [List.getElem?_set_ne (Ne.symm hj)] at e2
        obtain ⟨u', r', q⟩ := hl j y v' e1 e2 e3
        refine ⟨u', r', ?_⟩
        rcases q with ⟨k, e⟩ | ⟨k, c, e, z⟩
        · refine .inl ⟨k, ?_⟩
          have : y ≠ x := fun e => hj (nodup_ix hN e1 (e ▸ hi))
          simp [this, e]
        · exact .inr ⟨k, c, e, z.sameBut hs (cne y c e)⟩
    · obtain ⟨w', z⟩ := I.cell y c e
      exact ⟨w', z.sameBut hs (cne y c e)⟩
    · obtain ⟨e, n, ne, nf, d⟩ := I.pin p hp
      exact ⟨(hs.2 p.1 ne).trans e, n, ne, nf, d⟩
  · have hfn : X.fn x = true := by
      rcases hf with z | z
      · exact z
      · rw [z] at hk; cases hk
    obtain ⟨c, hc⟩ := I.ok.has x (.inl hk)
    obtain ⟨w', z⟩ := I.cell x c hc
    refine wpAny_storeName_cell I.ok.kind hk hc z (fun h' hc' hs => ?_)
    obtain ⟨oc, hoc, hocd⟩ := id z
    refine h { s with heap := h' } ⟨I.ok, I.os, I.bare, ⟨fun b o e n hb hx => ?_, fun b o e n hb hx => ?_, I.base.free, fun b o e hx => ?_, I.base.tups, I.base.frzs, I.base.tbls⟩, ⟨m, hn.sameBut hs (Ne.symm (cne x c hc)), fun j y v' e1 e2 e3 => ?_⟩, fun y c' e => ?_, I.free, I.freeC, fun p hp => ?_, tracked ⟨oc, hoc, I.freeC x c hc⟩ hs, by simpa using I.len⟩ ⟨c, hs, .inr hc⟩
    · exact (hs.2 b (Nat.ne_of_lt (Nat.lt_of_lt_of_le (Heap.lt_size e) (I.ok.cab x c hfn hc)))).trans (I.base.keep b o e n hb hx)
    · obtain ⟨sl, e1⟩ := I.base.slot b o e n hb hx
      exact ⟨sl, (hs.2 b (Nat.ne_of_lt (Nat.lt_of_lt_of_le (Heap.lt_size e) (I.ok.cab x c hfn hc)))).trans e1⟩
    · obtain ⟨o', e1⟩ := I.base.there b o e hx
      exact ⟨o', (hs.2 b (Nat.ne_of_lt (Nat.lt_of_lt_of_le (Heap.lt_size e) (I.ok.cab x c hfn hc)))).trans e1⟩
    · by_cases hj : j = i
      · subst hj
        rw [hi] at e1; cases e1
        rw [List.getElem?_set_self hiσ] at e2
        cases e2
        exact ⟨u, r, .inr ⟨.inl hk, c, hc, hc'⟩⟩
      · rw [List.getElem?_set_ne (Ne.symm hj)] at e2
        obtain ⟨u', r', q⟩ := hl j y v' e1 e2 e3
        refine ⟨u', r', ?_⟩
        rcases q with q | ⟨k, c', e, z'⟩
        · exact .inl q
        · refine .inr ⟨k, c', e, z'.sameBut hs ?_⟩
          rintro rfl
          exact hj (nodup_ix hN e1 (I.ok.inj _ _ _ e hc ▸ hi))
    · by_cases hcc : c' = c
      · subst hcc; exact ⟨_, hc'⟩
      · obtain ⟨w2, z2⟩ := I.cell y c' e
        exact ⟨w2, z2.sameBut hs hcc⟩
    · obtain ⟨e, n, ne, nf, d⟩ := I.pin p hp
      refine ⟨(hs.2 p.1 ?_).trans e, n, ne, nf, d⟩
      intro q
      rw [q, hoc] at e
      have q' : oc = p.2 := Option.some.inj e
      exact d w' (by rw [← q']; exact hocd)
theorem store_ok {M : Model} {A : Around} {E : Value → Shared → Prop} {i : Nat} {x : Str} {v : V} {u : Value} {Q : Unit → Shared → Prop} (I : Inv X pins σ H s) (hN : X.N.Nodup) (hi : X.N[i]? = some x) (hx : Loc X.env.scope x) (r : RelV v u)
    (h : ∀ s', Inv X pins (σ.set i (some v)) H s' → Q () s') (hf : X.fn x = true ∨ X.env.scope.names.lookup x = some .local := by first | exact .inl rfl | exact .inr rfl | assumption) : wpAny M A (storeName X.env x u) Q E s :=
  store_ok2 I hN hi hx r (fun s' I' _ => h s' I') hf
theorem Inv.call' {s' : Shared} {ch : List Addr} (I : Inv X pins σ H s) (ho : s'.os = s.os) (u : Un (frs X.stack) ch H H' s.heap s'.heap) (hok : HOk X.prog X.w H' s'.heap) (hg : AllBare s'.gens)
    (hch : ∀ b ∈ ch, (b ∈ X.ex ∨ X.s₀.heap.objs.size ≤ b) ∧ b ≠ X.env.locals ∧ (∀ x c, X.env.cells.lookup x = some c → c ≠ b) ∧ ∀ p ∈ X.pn ++ pins, p.1 ≠ b) : Inv X pins σ H' s' := by
  obtain ⟨h', g', d', t', o'⟩ := s'
  have e : o' = s.os := ho
  subst e
  exact I.call (g' := g') (t' := t') (d' := d') u hok hg hch
end
abbrev XK := Value → Option Addr → Hp → Prop
abbrev St := List (Option V)
abbrev VK := V → Hp → Prop
abbrev TE := St → Hp → VK → Prop
abbrev TT := St → Hp → (Bool → Hp → Prop) → Prop
abbrev TA := St → Hp → (List V → Hp → Prop) → Prop
structure Ends where
  nx : St → Hp → Prop
  rt : VK
  bk : St → Hp → Prop := fun _ _ => False
  ct : St → Hp → Prop := fun _ _ => False
abbrev TS := Ends → St → Hp → Prop
def EP (X : Cx) (pins : List (Addr × Obj)) (σ : St) (Q : VK) (u : Value) (s' : Shared) : Prop := ∃ v H', Inv X pins σ H' s' ∧ RelV v u ∧ Q v H'
def TP (X : Cx) (pins : List (Addr × Obj)) (σ : St) (Q : Bool → Hp → Prop) (b : Bool) (s' : Shared) : Prop := ∃ H', Inv X pins σ H' s' ∧ Q b H'
def AP (X : Cx) (pins : List (Addr × Obj)) (σ : St) (Q : List V → Hp → Prop) (us : List Value) (s' : Shared) : Prop := ∃ vs H', Inv X pins σ H' s' ∧ Vals vs us ∧ Q vs H'
def SP (X : Cx) (pins : List (Addr × Obj)) (D : Ends) (f : Flow) (s' : Shared) : Prop :=
  match f with
  | .next => ∃ σ' H', Inv X pins σ' H' s' ∧ D.nx σ' H'
  | .brk => ∃ σ' H', Inv X pins σ' H' s' ∧ D.bk σ' H'
  | .cont => ∃ σ' H', Inv X pins σ' H' s' ∧ D.ct σ' H'
  | .ret u => ∃ v σ' H', Inv X pins σ' H' s' ∧ RelV v u ∧ D.rt v H'
def PE (X : Cx) (e : Expr) (t : TE) : Prop :=
  ∀ (pins : List (Addr × Obj)) (s : Shared) (σ : St) (H : Hp) (Q : VK), Inv X pins σ H s → t σ H Q → wpAny (model X.prog X.w) X.A (eval e X.env) (EP X pins σ Q) X.xe s
def PT (X : Cx) (e : Expr) (t : TT) : Prop :=
  ∀ (pins : List (Addr × Obj)) (s : Shared) (σ : St) (H : Hp) (Q : Bool → Hp → Prop), Inv X pins σ H s → t σ H Q → wpAny (model X.prog X.w) X.A (isTrue e X.env (eval e X.env)) (TP X pins σ Q) X.xe s
def PW (X : Cx) (e : Expr) (t : TT) : Prop :=
  ∀ (whole : Sem Value) (pins : List (Addr × Obj)) (s : Shared) (σ : St) (H : Hp) (Q : Bool → Hp → Prop), Inv X pins σ H s → t σ H Q → wpAny (model X.prog X.w) X.A (isTrue e X.env whole) (TP X pins σ Q) X.xe s
def PA (X : Cx) (es : List Expr) (t : TA) : Prop :=
  ∀ (pos : Pos) (pins : List (Addr × Obj)) (s : Shared) (σ : St) (H : Hp) (Q : List V → Hp → Prop), Inv X pins σ H s → t σ H Q → wpAny (model X.prog X.w) X.A (spliced (backTo pos (starEach es X.env))) (AP X pins σ Q) X.xe s
def PS (X : Cx) (st : Stmt) (t : TS) : Prop :=
  ∀ (pins : List (Addr × Obj)) (s : Shared) (σ : St) (H : Hp) (D : Ends), Inv X pins σ H s → t D σ H → wpAny (model X.prog X.w) X.A (exec st X.env) (SP X pins D) X.xe s
def PSs (X : Cx) (st : List Stmt) (t : TS) : Prop :=
  ∀ (pins : List (Addr × Obj)) (s : Shared) (σ : St) (H : Hp) (D : Ends), Inv X pins σ H s → t D σ H → wpAny (model X.prog X.w) X.A (execs st X.env) (SP X pins D) X.xe s
theorem thn {α : Type} {t : Sem α} {Q Q' : α → Shared → Prop} {M : Model} {A : Around} {E : Value → Shared → Prop} {s : Shared} (h : wpAny M A t Q E s) (hQ : ∀ a s, Q a s → Q' a s) : wpAny M A t Q' E s := wpAny_mono h hQ fun _ _ x => x
end L2
namespace L2
open PySem PySem.Spec PyProof.Rows
section
variable {X : Cx}
theorem bin {a b : Expr} {ta tb : TE} (ha : PE X a ta) (hb : PE X b tb) {pins : List (Addr × Obj)} {s : Shared} {σ : St} {H : Hp} {R : V → V → Hp → Prop} (I : Inv X pins σ H s) (h : ta σ H fun x H1 => tb σ H1 fun y H2 => R x y H2)
    {α : Type} {Q : α → Shared → Prop} {f : Value → Value → Sem α}
    (hf : ∀ v u s2 x y H2, Inv X pins σ H2 s2 → RelV x v → RelV y u → R x y H2 → wpAny (model X.prog X.w) X.A (f v u) Q X.xe s2) :
    wpAny (model X.prog X.w) X.A (eval a X.env) (fun v s₁ => wpAny (model X.prog X.w) X.A (eval b X.env) (fun u s₂ => wpAny (model X.prog X.w) X.A (f v u) Q X.xe s₂) X.xe s₁) X.xe s := by
  refine thn (ha pins s σ H _ I h) fun v s1 ⟨x, H1, I1, r1, q1⟩ => ?_
  refine thn (hb pins s1 σ H1 _ I1 q1) fun u s2 ⟨y, H2, I2, r2, q2⟩ => ?_
  exact hf v u s2 x y H2 I2 r1 r2 q2
def tVar (i : Nat) : TE := fun σ H Q => ∃ v, σ[i]? = some (some v) ∧ Q v H
def tC (v : V) : TE := fun _ H Q => Q v H
theorem pe_var {i : Nat} {x : Str} {pos : Pos} (hN : X.N[i]? = some x) (hv : Vis X.env.scope x) (hd : (x == ("__debug__" : Str)) = false := by decide) (hcd : (x == ("__classdict__" : Str)) = false := by decide) : PE X (.Name x pos) (tVar i) := by
  intro pins s σ H Q I h
  obtain ⟨v, e, h⟩ := h
  obtain ⟨m, hn, hl⟩ := I.loc
  obtain ⟨u, r, l⟩ := hl i x v hN e hv
  have fin : EP X pins σ Q u s := ⟨v, H, I, r, h⟩
  rcases l with ⟨hk, hm⟩ | ⟨hk, c, hc, hcell⟩
  · exact wpAny_Name (wpAny_loadName_local I.ok.kind hk hn hm fin) hd
  · rcases hk with hk | hk
    · exact wpAny_Name (wpAny_loadName_cell I.ok.kind hk hc hcell fin) hd
    · exact wpAny_Name (wpAny_loadName_free I.ok.kind hk hc hcell fin hcd) hd
theorem pe_int {i j pos} : PE X (.Constant (.int i) j pos) (tC (.int i)) := fun _ _ _ H _ I h => wpAny_Constant_int ⟨.int i, H, I.tok _, ⟨_, rfl⟩, h⟩
theorem pe_bl {b j pos} : PE X (.Constant (.bool b) j pos) (tC (.bl b)) := fun _ _ _ H _ I h => Constant_bool ⟨.bl b, H, I, rfl, h⟩
theorem pe_non {j pos} : PE X (.Constant .none j pos) (tC .non) := fun _ _ _ H _ I h => Constant_none ⟨.non, H, I, rfl, h⟩
theorem pe_str {x j pos} : PE X (.Constant (.str x) j pos) (tC (.str x)) := fun _ _ _ H _ I h => Calls.Constant_str ⟨.str x, H, I.tok _, ⟨_, rfl⟩, h⟩
def Gl (X : Cx) (x : Str) : Prop := X.env.kindOf x = some .globalImplicit
theorem ld_glob {E : Value → Shared → Prop} {pins : List (Addr × Obj)} {s : Shared} {σ : St} {H : Hp} {x : Str} {u : Value} {pos : Pos} {Q : Value → Shared → Prop} (I : Inv X pins σ H s) (hg : Gl X x) (hm : X.mg x = some u) (h : Q u s)
    (hd : (x == ("__debug__" : Str)) = false := by decide) : wpAny (model X.prog X.w) X.A (eval (.Name x pos) X.env) Q E s :=
  Calls.Name_function_global I.ok.kind hg (Calls.loadGlobal_global (by rw [I.ok.glob]; exact I.mod.glob.keeps I.bk) hm h) hd
theorem ld_blt {E : Value → Shared → Prop} {pins : List (Addr × Obj)} {s : Shared} {σ : St} {H : Hp} {x : Str} {u : Value} {pos : Pos} {Q : Value → Shared → Prop} (I : Inv X pins σ H s) (hg : Gl X x) (hm : X.mg x = none) (hv : bootBuiltins x = some u) (h : Q u s)
    (hn : x ≠ "__name__" := by decide) (hd : (x == ("__debug__" : Str)) = false := by decide) : wpAny (model X.prog X.w) X.A (eval (.Name x pos) X.env) Q E s := by
  obtain ⟨mb, h1, h2⟩ := I.mod.blt
  exact Calls.Name_function_global I.ok.kind hg (Calls.loadGlobal_builtin (by rw [I.ok.glob]; exact I.mod.glob.keeps I.bk) hm (by rw [I.ok.blt]; exact h1.keeps I.bk) ((h2 x hn).trans hv) h) hd
theorem pe_glob {x : Str} {v : V} {u : Value} {pos : Pos} (hg : Gl X x) (hm : X.mg x = some u) (r : RelV v u) (hd : (x == ("__debug__" : Str)) = false := by decide) : PE X (.Name x pos) (tC v) :=
  fun _ _ _ H _ I h => ld_glob I hg hm ⟨v, H, I, r, h⟩ hd
theorem pe_bltn {x : Str} {v : V} {u : Value} {pos : Pos} (hg : Gl X x) (hm : X.mg x = none) (hv : bootBuiltins x = some u) (r : RelV v u) (hn : x ≠ "__name__" := by decide) (hd : (x == ("__debug__" : Str)) = false := by decide) : PE X (.Name x pos) (tC v) :=
  fun _ _ _ H _ I h => ld_blt I hg hm hv ⟨v, H, I, r, h⟩ hn hd
variable {a b : Expr} {ta tb : TE} {pos : Pos}
variable {tA tB' : TT} {rest : List Expr}
def tOr (t u : TT) : TT := fun σ H Q => t σ H fun c H1 => if c = true then Q true H1 else u σ H1 Q
def tNot (t : TT) : TT := fun σ H Q => t σ H fun c H1 => Q (!c) H1
theorem pw_or1 (ha : PT X a tA) : PW X (.BoolOp .Or [a] pos) tA := by
  intro wh pins s σ H Q I h
  refine isTrue_or (thn (ha pins s σ H Q I h) fun c s1 e => ?_)
  cases c with
  | false => exact isTrue_or_nil e
  | true => exact e
theorem pw_or (ha : PT X a tA) (hb : PW X (.BoolOp .Or (b :: rest) pos) tB') : PW X (.BoolOp .Or (a :: b :: rest) pos) (tOr tA tB') := by
  intro wh pins s σ H Q I h
  refine isTrue_or (thn (ha pins s σ H _ I h) fun c s1 ⟨H1, I1, q1⟩ => ?_)
  cases c with
  | true => exact ⟨H1, I1, q1⟩
  | false => exact hb wh pins s1 σ H1 Q I1 q1
theorem pt_not (ha : PT X a tA) : PT X (.UnaryOp .Not a pos) (tNot tA) := by
  intro pins s σ H Q I h
  exact isTrue_not (ha pins s σ H (fun c H1 => Q (!c) H1) I h)
def tIf (t : TT) (ta tb : TE) : TE := fun σ H Q => t σ H fun c H1 => if c = true then ta σ H1 Q else tb σ H1 Q
theorem pe_ifExp {c : Expr} (hc : PT X c tA) (ha : PE X a ta) (hb : PE X b tb) : PE X (.IfExp c a b pos) (tIf tA ta tb) := by
  intro pins s σ H Q I h
  refine wpAny_IfExp (thn (hc pins s σ H _ I h) fun d s1 ⟨H1, I1, q1⟩ => ?_)
  cases d with
  | true => exact ha pins s1 σ H1 Q I1 q1
  | false => exact hb pins s1 σ H1 Q I1 q1
end
end L2
namespace L2
open PySem PySem.Spec PyProof.Rows
def SqL (K : PySem.W.Frag) (H : Hp) (a : Addr) (xs : List V) : Prop :=
  Rd H a (.lst xs) ∨
    ∃ (o : Obj) (its : Array Value) (n : Nat), K.lookup a = some o ∧ o.cls = .type "list" ∧ o.dict = none ∧ o.data = .seq its n ∧ its.size ≤ sizeLine ∧ Vals xs its.toList
def SqT (K : PySem.W.Frag) (H : Hp) (a : Addr) (xs : List V) : Prop :=
  Rd H a (.tup xs) ∨
    ∃ (o : Obj) (its : Array Value) (n : Nat), K.lookup a = some o ∧ o.cls = .type "tuple" ∧ o.data = .seq its n ∧ its.size ≤ sizeLine ∧ Vals xs its.toList
section
variable {X : Cx} {pins : List (Addr × Obj)} {σ : St} {H : Hp} {s : Shared} {a : Addr} {xs ys : List V}
theorem SqT.of {K : PySem.W.Frag} (h : H a = some (.tup xs)) : SqT K H a xs := .inl (.inl h)
theorem Inv.list (I : Inv X pins σ H s) (h : SqL X.K H a xs) : ∃ its : List Value, Vals xs its ∧ PlainL s.heap a its.toArray ∧ xs.length ≤ sizeLine := by
  rcases h with h | ⟨o, its, n, hk, hc, hd, hs, hz, r⟩
  · obtain ⟨z, its, n, r, e⟩ := h.ok I.hok
    exact ⟨its, r, ⟨_, n, e, rfl, rfl, rfl⟩, z⟩
  · refine ⟨its.toList, r, ⟨o, n, I.kIn a o hk, hc, hd, by simpa using hs⟩, ?_⟩
    have e := r.length
    simp only [Array.length_toList] at e
    omega
theorem Inv.tuple (I : Inv X pins σ H s) (h : SqT X.K H a xs) : ∃ its : List Value, Vals xs its ∧ IsTup s.heap a its.toArray ∧ xs.length ≤ sizeLine := by
  rcases h with h | ⟨o, its, n, hk, hc, hs, hz, r⟩
  · obtain ⟨z, its, r, p⟩ := h.ok I.hok
    exact ⟨its, r, p.1, z⟩
  · refine ⟨its.toList, r, ⟨o, I.kIn a o hk, hc, n, by simpa using hs⟩, ?_⟩
    have e := r.length
    simp only [Array.length_toList] at e
    omega
end
section
variable {X : Cx} {st : Stmt} {rest : List Stmt} {t u : TS} {e : Expr} {te : TE} {pos : Pos}
def tNext : TS := fun D σ H => D.nx σ H
def tSeq (t u : TS) : TS := fun D σ H => t { D with nx := u D } σ H
theorem pss_nil : PSs X [] tNext := fun _ _ σ H _ I h => wpAny_execs_nil ⟨σ, H, I, h⟩
theorem pss_cons (h1 : PS X st t) (h2 : PSs X rest u) : PSs X (st :: rest) (tSeq t u) := by
  intro pins s σ H D I h
  refine wpAny_execs_cons (thn (h1 pins s σ H { D with nx := u D } I h) fun f s1 q => ?_)
  cases f with
  | next =>
    obtain ⟨σ', H', I', q⟩ := q
    exact h2 pins s1 σ' H' D I' q
  | ret v => exact q
  | brk => exact q
  | cont => exact q
theorem pss_one (h1 : PS X st t) : PSs X [st] t := by
  intro pins s σ H D I h
  refine wpAny_execs_cons (thn (h1 pins s σ H D I h) fun f s1 q => ?_)
  cases f with
  | next => exact wpAny_execs_nil q
  | ret v => exact q
  | brk => exact q
  | cont => exact q
theorem ps_pass : PS X (.Pass pos) tNext := fun _ _ σ H _ I h => wpAny_Pass ⟨σ, H, I, h⟩
def tRet (te : TE) : TS := fun D σ H => te σ H D.rt
theorem ps_ret (he : PE X e te) : PS X (.Return (some e) pos) (tRet te) := by
  intro pins s σ H D I h
  exact wpAny_Return_some (thn (he pins s σ H _ I h) fun v s1 ⟨x, H1, I1, r1, q1⟩ => ⟨x, σ, H1, I1, r1, q1⟩)
def tIfS (c : TT) (t u : TS) : TS := fun D σ H => c σ H fun b H1 => if b = true then t D σ H1 else u D σ H1
theorem ps_if {c : Expr} {a b : List Stmt} {tc : TT} (hc : PT X c tc) (ha : PSs X a t) (hb : PSs X b u) : PS X (.If c a b pos) (tIfS tc t u) := by
  intro pins s σ H D I h
  refine wpAny_If (thn (hc pins s σ H _ I h) fun d s1 ⟨H1, I1, q1⟩ => ?_)
  cases d with
  | true => exact ha pins s1 σ H1 D I1 q1
  | false => exact hb pins s1 σ H1 D I1 q1
end
abbrev TG := V → St → Hp → (St → Hp → Prop) → Prop
def PG (X : Cx) (target : Expr) (t : TG) : Prop :=
  ∀ (pins : List (Addr × Obj)) (s : Shared) (σ : St) (H : Hp) (v : V) (u : Value) (Q : St → Hp → Prop), Inv X pins σ H s → RelV v u → t v σ H Q →
    wpAny (model X.prog X.w) X.A (assign target X.env u) (fun _ s' => ∃ σ' H', Inv X pins σ' H' s' ∧ Q σ' H') X.xe s
abbrev TSet := V → V → V → Hp → (Hp → Prop) → Prop
def PSet (X : Cx) (t : TSet) : Prop :=
  ∀ (pins : List (Addr × Obj)) (s : Shared) (σ : St) (H : Hp) (o i v : V) (ov iv u : Value) (Q : Hp → Prop), Inv X pins σ H s → RelV o ov → RelV i iv → RelV v u → t o i v H Q →
    wpAny (model X.prog X.w) X.A (setItem ov iv u) (fun _ s' => ∃ H', Inv X pins σ H' s' ∧ Q H') X.xe s
section
variable {X : Cx} {pos : Pos}
def gName (i : Nat) : TG := fun v σ H Q => Q (σ.set i (some v)) H
theorem pg_name {i : Nat} {x : Str} (hN : X.N.Nodup) (hi : X.N[i]? = some x) (hx : Loc X.env.scope x) (hf : X.fn x = true ∨ X.env.scope.names.lookup x = some .local := by first | exact .inl rfl | exact .inr rfl | assumption) : PG X (.Name x pos) (gName i) := by
  intro pins s σ H v u Q I r h
  exact wpAny_assign_Name (store_ok I hN hi hx r (fun s' I' => ⟨_, H, I', h⟩) hf)
def gSub (to ti : TE) (t : TSet) : TG := fun v σ H Q => to σ H fun o H1 => ti σ H1 fun i H2 => t o i v H2 fun H3 => Q σ H3
theorem pg_sub {o i : Expr} {to ti : TE} {t : TSet} (ho : PE X o to) (hi : PE X i ti) (hs : PSet X t)
    (ha : ∀ v, assign (.Subscript o i pos) X.env v = (do
      let ov ← holding [v] (eval o X.env)
      let iv ← holding [v, ov] (eval i X.env)
      standAt pos
      holding [v, ov, iv] (setItem ov iv v)
      release [v, ov, iv] []) := by intro _; rfl) : PG X (.Subscript o i pos) (gSub to ti t) := by
  intro pins s σ H v u Q I r h
  rw [ha]
  refine wpAny_bind (wpAny_holding (thn (ho pins s σ H _ I h) fun ov s1 ⟨x, H1, I1, r1, q1⟩ => ?_))
  refine wpAny_bind (wpAny_holding (thn (hi pins s1 σ H1 _ I1 q1) fun iv s2 ⟨y, H2, I2, r2, q2⟩ => ?_))
  refine wpAny_bind (wpAny_standAt (wpAny_bind (wpAny_holding (thn (hs pins s2 σ H2 x y v ov iv u _ I2 r1 r2 r q2) fun _ s3 ⟨H3, I3, q3⟩ => ?_))))
  exact wpAny_release ⟨σ, H3, I3, q3⟩
def tAsg (te : TE) (g : TG) : TS := fun D σ H => te σ H fun x H1 => g x σ H1 D.nx
theorem ps_asg {tg e : Expr} {te : TE} {g : TG} (he : PE X e te) (hg : PG X tg g) (hs : swapsWithSole [tg] e pos.line X.env = pure false := by rfl) (hw : swappedStores [tg] e X.env = pure none := by rfl)
    (h1 : (assignEach [tg] X.env).map (·.2) = [assign tg X.env] := by rfl) : PS X (.Assign [tg] e pos) (tAsg te g) := by
  intro pins s σ H D I h
  refine wpAny_Assign_stores (thn (he pins s σ H _ I h) fun v s1 ⟨x, H1, I1, r1, q1⟩ => ?_) hs hw
  rw [h1]
  exact thn (hg pins s1 σ H1 x v _ I1 r1 q1) fun _ s2 q => q
theorem ps_set {i : Nat} {x : Str} {e : Expr} {te : TE} {pos' : Pos} (hN : X.N.Nodup) (hi : X.N[i]? = some x) (hx : Loc X.env.scope x) (he : PE X e te) (hs : swapsWith e (some (.Name x pos')) pos.line X.env = pure false := by rfl) (hf : X.fn x = true ∨ X.env.scope.names.lookup x = some .local := by first | exact .inl rfl | exact .inr rfl | assumption) :
    PS X (.Assign [.Name x pos'] e pos) (tAsg te (gName i)) := by
  intro pins s σ H D I h
  refine wpAny_Assign_Name (thn (he pins s σ H _ I h) fun v s1 ⟨y, H1, I1, r1, q1⟩ => ?_) hs
  exact store_ok I1 hN hi hx r1 (fun s2 I2 => ⟨_, H1, I2, q1⟩) hf
def tPar (i j : Nat) (ta : TA) : TS := fun D σ H => ta σ H fun vs H1 => ∃ v w, vs = [v, w] ∧ D.nx ((σ.set i (some v)).set j (some w)) H1
theorem ps_par {i j : Nat} {x y : Str} {a b : Expr} {ta : TA} {px py pt : Pos} {kt k2 pt2} (hc : X.calm = true) (hN : X.N.Nodup) (hi : X.N[i]? = some x) (hj : X.N[j]? = some y) (hij : i ≠ j)
    (hx : X.env.scope.names.lookup x = some .local) (hy : X.env.scope.names.lookup y = some .local) (ha : PA X [a, b] ta)
    (hw : swappedStores [.Tuple [.Name x px, .Name y py] kt pt] (.Tuple [a, b] k2 pt2) X.env = pure (some [x, y]))
    (hs : swapsWithSole [.Tuple [.Name x px, .Name y py] kt pt] (.Tuple [a, b] k2 pt2) pos.line X.env = pure false := by rfl) :
    PS X (.Assign [.Tuple [.Name x px, .Name y py] kt pt] (.Tuple [a, b] k2 pt2) pos) (tPar i j ta) := by
  intro pins s σ H D I h
  rw [exec_Assign_arm]
  refine wpAny_bind (wpAny_standAt ?_)
  rw [hs]
  refine wpAny_bind (wpAny_pure ?_)
  rw [if_neg (by decide)]
  refine wpAny_bind (Tuple_ (thn (ha _ pins s σ H _ I h) fun us s1 ⟨vs, H1, I1, r1, q1⟩ => ?_))
  obtain ⟨v, w, e1, q1⟩ := q1
  subst e1
  obtain ⟨u1, u2, rfl, rv, rw'⟩ : ∃ u1 u2, us = [u1, u2] ∧ RelV v u1 ∧ RelV w u2 := by
    cases r1 with
    | cons p q =>
      cases q with
      | cons p' q' =>
        cases q'
        exact ⟨_, _, rfl, p, p'⟩
  refine wpAny_newObj_type ?_ (by show 2 ≤ sizeLine; decide)
  have I2 : Inv X pins σ H1 { s1 with heap := s1.heap.push { cls := .type "tuple", data := .seq [u1, u2].toArray } } := I1.kept (t' := s1.toks) fun b o e => Heap.get?_push_of_some _ e
  rw [hw]
  refine wpAny_bind (wpAny_pure ?_)
  show wpAny (model X.prog X.w) X.A (do rule "assign.swapped-stores"; let items ← unpackItems (.ref s1.heap.objs.size) 2 none; assignInOrder [fun v => bindName X.env y v, fun v => bindName X.env x v] items.reverse; pure Flow.next) _ _ _
  refine wpAny_bind (wpAny_rule (wpAny_bind (unpackItems_tuple (items := #[u1, u2]) (I.ok.hd hc) (IsTup.new s1.heap _) fun h' hx' => ?_)))
  have I3 := I2.kept (h' := h') (t' := s1.toks) fun b o e => hx' b o (Nat.ne_of_lt (Heap.lt_size e)) e
  show wpAny _ _ (assignInOrder [fun v => bindName X.env y v, fun v => bindName X.env x v] [u2, u1] >>= fun _ => pure Flow.next) _ _ _
  refine wpAny_bind (assignInOrder_cons (wpAny_bindName (store_ok I3 hN hj (.inl hy) rw' (fun s2 I4 => ?_) (.inr hy))))
  refine assignInOrder_cons (wpAny_bindName (store_ok I4 hN hi (.inl hx) rv (fun s3 I5 => assignInOrder_nil (wpAny_pure ?_)) (.inr hx)))
  rw [List.set_comm _ _ (Ne.symm hij)] at I5
  exact ⟨_, H1, I5, q1⟩
end
structure It where
  go : Nat → Hp → Prop
  yld : Nat → Hp → V → Hp → Prop
  stop : Nat → Hp → Prop
def FpOk (X : Cx) (pins : List (Addr × Obj)) (H : Hp) (b : Addr) : Prop :=
  H b = none ∧ b ≠ X.env.locals ∧ b ∉ X.fs ∧ (b ∈ X.ex ∨ X.s₀.heap.objs.size ≤ b) ∧ (∀ x c, X.env.cells.lookup x = some c → c ≠ b) ∧ ∀ p ∈ X.pn ++ pins, p.1 ≠ b
theorem Inv.fpOk {X : Cx} {pins : List (Addr × Obj)} {σ : St} {H H' : Hp} {s : Shared} {b : Addr} (I : Inv X pins σ H s) (hb : s.heap.objs.size ≤ b) (hn : H' b = none) : FpOk X pins H' b := by
  refine ⟨hn, Nat.ne_of_gt (Nat.lt_of_lt_of_le I.lt hb), I.nofs hb, .inr (Nat.le_trans I.sz hb), fun x c e z => ?_, fun p hp z => ?_⟩
  · obtain ⟨v, q⟩ := I.cell x c e
    exact absurd (Nat.lt_of_lt_of_le q.lt (by rw [z]; exact hb)) (Nat.lt_irrefl _)
  · exact absurd (Nat.lt_of_lt_of_le (Heap.lt_size (I.pin p hp).1) (by rw [z]; exact hb)) (Nat.lt_irrefl _)
structure Turn (P : Program) (w : World) (K : PySem.W.Frag) (tg : Expr) (J : It) (fp : List Addr) (it : Addr) (tn : Nat → Heap → Prop) : Prop where
  mem : it ∈ fp
  obj : ∀ i h, tn i h → ∀ b ∈ fp, ∃ o, h.get? b = some o ∧ ∀ v, o.data ≠ .cell v
  keep : ∀ i h h', tn i h → (∀ b ∈ fp, ∀ o, h.get? b = some o → h'.get? b = some o) → tn i h'
  item : ∀ (X : Cx), X.prog = P → X.w = w → X.K = K → X.calm = true → ∀ (i : Nat) (pins : List (Addr × Obj)) (s : Shared) (σ : St) (H : Hp) (E : Value → Shared → Prop), Inv X pins σ H s → (∀ b ∈ fp, FpOk X pins H b) → tn i s.heap → J.go i H →
    wpAny (model P w) X.A (pyNext (.ref it)) (fun r s1 => ∃ u, r = some u ∧
      wpAny (model P w) X.A (letOwnedTupleGo tg (.ref it) u) (fun _ s2 => ∃ x H', Inv X pins σ H' s2 ∧ RelV x u ∧ J.yld i H x H' ∧ tn (i + 1) s2.heap ∧ ∀ b ∈ fp, H' b = none) E s1) E s
  done : ∀ (X : Cx), X.prog = P → X.w = w → X.K = K → X.calm = true → ∀ (i : Nat) (pins : List (Addr × Obj)) (s : Shared) (σ : St) (H : Hp) (E : Value → Shared → Prop), Inv X pins σ H s → (∀ b ∈ fp, FpOk X pins H b) → tn i s.heap → J.stop i H →
    wpAny (model P w) X.A (pyNext (.ref it)) (fun r s1 => r = none ∧ Inv X pins σ H s1) E s
  self : ∀ (A : Around) (i : Nat) (s : Shared) (Q : Value → Shared → Prop) (E : Value → Shared → Prop), tn i s.heap → Q (.ref it) s → wpAny (model P w) A (pyIter (.ref it)) Q E s
abbrev TI := St → Hp → (It → Hp → Prop) → Prop
def PIE (X : Cx) (pins : List (Addr × Obj)) (σ : St) (tg : Expr) (R : It → Hp → Prop) (itv : Value) (s2 : Shared) : Prop :=
  ∃ (it : Addr) (fp : List Addr) (tn : Nat → Heap → Prop) (J : It) (H' : Hp), itv = .ref it ∧ Inv X pins σ H' s2 ∧ Turn X.prog X.w X.K tg J fp it tn ∧ tn 0 s2.heap ∧ (∀ b ∈ fp, FpOk X pins H' b) ∧ R J H'
def PI (X : Cx) (tg iter : Expr) (wi : TI) : Prop :=
  ∀ (pins : List (Addr × Obj)) (s : Shared) (σ : St) (H : Hp) (R : It → Hp → Prop), Inv X pins σ H s → wi σ H R →
    wpAny (model X.prog X.w) X.A (eval iter X.env) (fun v s1 => wpAny (model X.prog X.w) X.A (pyIter v) (PIE X pins σ tg R) X.xe s1) X.xe s
theorem go_of {M : Model} {A : Around} {E : Value → Shared → Prop} {s : Shared} {tg : Expr} {it : Addr} {u : Value} {o : Obj} {n : String} {vs : Array Value} {Q : Unit → Shared → Prop} (ho : s.heap.get? it = some o) (hc : o.cls = .type n) (hd : o.data = .fields vs)
    (hn : ["enumerate", "zip", "dict_itemiterator", "dict_reverseitemiterator", "odict_iterator", "itertools.zip_longest", "itertools.pairwise"].contains n = false) (hQ : Q () s) : wpAny M A (letOwnedTupleGo tg (.ref it) u) Q E s := by
  unfold letOwnedTupleGo
  cases tg <;> first
    | exact wpAny_pure hQ
    | (cases u <;> first
        | exact wpAny_pure hQ
        | (refine wpAny_bind (wpAny_load ho ?_)
           rw [hc, hd]
           show wpAny M A (if (["enumerate", "zip", "dict_itemiterator", "dict_reverseitemiterator", "odict_iterator", "itertools.zip_longest", "itertools.pairwise"].contains n && vs[0]? == some (rawInt _)) = true then _ else _) Q E s
           rw [if_neg (by intro h; rw [hn, Bool.false_and] at h; cases h)]
           exact wpAny_pure hQ))
def Itr (lo : Int) (n : Nat) : It := ⟨fun i _ => i < n, fun i H x H' => H' = H ∧ x = .int (lo + i), fun i _ => n ≤ i⟩
theorem turn_range {P : Program} {w : World} {K : PySem.W.Frag} {tg : Expr} (it : Addr) (lo : Int) (n : Nat) : Turn P w K tg (Itr lo n) [it] it (fun i h => IsRangeIter h it (lo + (i : Nat) * 1) ((n : Int) - (i : Nat)) 1) where
  mem := by simp
  obj := fun i h st b hb => by
    have e : b = it := by simpa using hb
    subst e
    exact ⟨_, st, fun v z => by
      have z' : Data.fields _ = Data.cell v := z
      cases z'⟩
  keep := fun i h h' st k => k it (by simp) _ st
  item := by
    intro X hP hw hK hc i pins s σ H E I hf st hg
    subst hP hw hK
    obtain ⟨f0, f1, f2, f3, f4, f5⟩ := hf it (by simp)
    have W := Walks.range (prog := X.prog) (w := X.w) (I.ok.hd hc) it lo 1 n
    refine W.item i s _ _ hg st fun v h' tk hv st' kk => ?_
    obtain ⟨t, rfl⟩ := hv
    have I1 : Inv X pins σ H { s with heap := h', toks := tk } := I.turned (fun b o hb e => kk b o (by simpa using hb) e) f0 f1 f3 f4 f5
    refine ⟨_, rfl, go_of (s := { s with heap := h', toks := tk }) (n := "range_iterator") st' rfl rfl (by decide) ⟨.int (lo + i), H, I1, ⟨t, ?_⟩, ⟨rfl, rfl⟩, st', fun b hb => (hf b hb).1⟩⟩
    rw [Int.mul_one]
  done := by
    intro X hP hw hK hc i pins s σ H E I hf st hg
    subst hP hw hK
    obtain ⟨f0, f1, f2, f3, f4, f5⟩ := hf it (by simp)
    exact wpAny_pyNext_range_end (I.ok.hd hc) st (by have : n ≤ i := hg; omega) fun h' eb => ⟨rfl, I.turned (t' := s.toks) (fun b o hb e => eb b o hb e) f0 f1 f3 f4 f5⟩
  self := fun _ _ _ _ _ st h => wpAny_pyIter_rangeiter st h
end L2
namespace L2
open PySem PySem.Spec PyProof.Rows
section
variable {X : Cx} {tg : Expr}
theorem range_it {pins : List (Addr × Obj)} {σ : St} {H : Hp} {s : Shared} {R : It → Hp → Prop} {E : Value → Shared → Prop} {lo hi : Int} {t u v : Tok} {tk : Nat} (I : Inv X pins σ H s) (h1 : -(2 ^ 62) ≤ lo) (h2 : lo < 2 ^ 62) (h3 : -(2 ^ 62) ≤ hi) (h4 : hi < 2 ^ 62)
    (q : R (Itr lo (hi - lo).toNat) H) : wpAny (model X.prog X.w) X.A (pyIter (.ref s.heap.objs.size)) (PIE X pins σ tg R) E { s with heap := s.heap.push { cls := .type "range", data := .fields #[.int lo t, .int hi u, .int 1 v] }, toks := tk } := by
  refine wpAny_pyIter_range (IsRange.new ..) (small_one h1 h2 h3 h4) ?_
  have I1 : Inv X pins σ H { s with heap := s.heap.push { cls := .type "range", data := .fields #[.int lo t, .int hi u, .int 1 v] }, toks := tk } := I.kept fun b o e => Heap.get?_push_of_some _ e
  refine ⟨(s.heap.push { cls := .type "range", data := .fields #[.int lo t, .int hi u, .int 1 v] }).objs.size, [(s.heap.push { cls := .type "range", data := .fields #[.int lo t, .int hi u, .int 1 v] }).objs.size], _, _, H, rfl,
    I1.kept (t' := tk) fun b o e => Heap.get?_push_of_some _ e, turn_range _ lo (hi - lo).toNat, ?_, fun b hb => ?_, q⟩
  · have e1 : lo + ((0 : Nat) : Int) * 1 = lo := by simp
    have e2 : (((hi - lo).toNat : Nat) : Int) - ((0 : Nat) : Int) = Builtin.Range.rangeSize lo hi 1 := by rw [rangeSize_one]; split <;> omega
    show IsRangeIter _ _ (lo + ((0 : Nat) : Int) * 1) ((((hi - lo).toNat : Nat) : Int) - ((0 : Nat) : Int)) 1
    rw [e1, e2]
    exact Heap.get?_push_size _ rfl
  · have e : b = (s.heap.push { cls := .type "range", data := .fields #[.int lo t, .int hi u, .int 1 v] }).objs.size := by simpa using hb
    subst e
    exact I1.fpOk (Nat.le_refl _) (I1.hok.fresh (Nat.le_refl _))
def iRng1 (ta : TA) : TI := fun σ H R => ta σ H fun vs H1 => ∃ j : Int, vs = [.int j] ∧ -(2 ^ 62) ≤ j ∧ j < 2 ^ 62 ∧ R (Itr 0 j.toNat) H1
theorem pi_range1 {a : Expr} {ta : TA} {p pos : Pos} (hg : Gl X "range") (hm : X.mg "range" = none) (ha : PA X [a] ta) (hs : starEach [a] X.env = [(false, eval a X.env)] := by rfl) : PI X tg (.Call (.Name "range" p) [a] [] pos) (iRng1 ta) := by
  intro pins s σ H R I h
  refine Call_ (ld_blt I hg hm boot_range (PyProof.Rows.callWith_type1 (thn (ha pos pins s σ H _ I h) fun us s1 ⟨vs, H1, I1, r1, q1⟩ => ?_) hs rfl))
  obtain ⟨j, e, q1, q2, q⟩ := q1
  subst e
  cases r1 with
  | cons r rr =>
    cases rr
    obtain ⟨t, rfl⟩ := r
    exact call_range_1 (range_it I1 (by omega) (by omega) q1 q2 (by simpa using q))
def tFor (wi : TI) (g : TG) (tb : TS) : TS := fun D σ H => wi σ H fun J H1 => ∃ W : Nat → Nat → St → Hp → Prop, (∃ m, W 0 m σ H1) ∧ ∀ i m σ H, W i m σ H →
  (J.stop i H ∧ D.nx σ H) ∨ (J.go i H ∧ ∃ N : St → Hp → Prop, (∀ σ' H', N σ' H' → ∃ m', m' < m ∧ W (i + 1) m' σ' H') ∧ ∀ x H', J.yld i H x H' → g x σ H' fun σ2 H2 => tb { D with nx := N, ct := N, bk := D.nx } σ2 H2)
def pinsAt (fp : List Addr) (h : Heap) : List (Addr × Obj) := fp.filterMap fun b => (h.get? b).map fun o => (b, o)
theorem mem_pinsAt {fp : List Addr} {h : Heap} {b : Addr} {o : Obj} (hb : b ∈ fp) (e : h.get? b = some o) : (b, o) ∈ pinsAt fp h := List.mem_filterMap.mpr ⟨b, hb, by rw [e]; rfl⟩
theorem of_pinsAt {fp : List Addr} {h : Heap} {p : Addr × Obj} (hp : p ∈ pinsAt fp h) : p.1 ∈ fp ∧ h.get? p.1 = some p.2 := by
  obtain ⟨b, hb, e⟩ := List.mem_filterMap.mp hp
  cases q : h.get? b with
  | none => rw [q] at e; cases e
  | some o =>
    rw [q] at e
    have e' : (b, o) = p := Option.some.inj e
    subst e'
    exact ⟨hb, q⟩
theorem Inv.pinned {pins : List (Addr × Obj)} {σ : St} {H : Hp} {s : Shared} {fp : List Addr} (I : Inv X pins σ H s) (hf : ∀ b ∈ fp, FpOk X pins H b) (ho : ∀ b ∈ fp, ∃ o, s.heap.get? b = some o ∧ ∀ v, o.data ≠ .cell v) : Inv X (pins ++ pinsAt fp s.heap) σ H s :=
  I.pins_of fun p hp => (List.mem_append.mp hp).elim (fun z => I.pin p (List.mem_append_right _ z)) fun z => by
    obtain ⟨hb, e⟩ := of_pinsAt z
    obtain ⟨f0, f1, f2, _⟩ := hf p.1 hb
    obtain ⟨o, e', d⟩ := ho p.1 hb
    rw [e] at e'; cases e'
    exact ⟨e, f0, f1, f2, d⟩
theorem Inv.unpinned {pins pl : List (Addr × Obj)} {σ : St} {H : Hp} {s : Shared} (I : Inv X (pins ++ pl) σ H s) : Inv X pins σ H s := I.pins_of fun p hp => I.pin p (List.mem_append_right _ (List.mem_append_left _ hp))
theorem ps_for {iter : Expr} {body : List Stmt} {wi : TI} {g : TG} {tb : TS} {pos : Pos} (hp : PassesOwn (model X.prog X.w) X.A X.env X.xe) (hc : X.calm = true) (hi : PI X tg iter wi) (hg : PG X tg g) (hb : PSs X body tb)
    (hs : ∀ x, foldedSetIterable iter X.env x = pure x := by intro _; rfl) : PS X (.For tg iter body [] pos) (tFor wi g tb) := by
  intro pins s σ H D I h
  refine wpAny_For (thn (hi pins s σ H _ I h) fun v s1 h1 => thn h1 fun itv s2 h2 => ?_) hs
  obtain ⟨it, fp, tn, J, H2, e, I2, T, st2, f2, W, ⟨m0, w0⟩, turn⟩ := h2
  subst e
  have stat : ∀ {H' : Hp}, (∀ b ∈ fp, H' b = none) → ∀ b ∈ fp, FpOk X pins H' b := fun hn b hb => ⟨hn b hb, (f2 b hb).2⟩
  refine codeAny_forLoop_any (fun n s' => ∃ i σ' H', Inv X pins σ' H' s' ∧ tn i s'.heap ∧ (∀ b ∈ fp, H' b = none) ∧ W i n σ' H') ?_ m0 ⟨0, σ, H2, I2, st2, fun b hb => (f2 b hb).1, w0⟩
  rintro n s3 ⟨i, σ3, H3, I3, st3, fr3, w3⟩
  rcases turn i n σ3 H3 w3 with ⟨stop, qn⟩ | ⟨go, N, hN, step⟩
  · refine wpAny_passesOwn hp (thn (T.done X rfl rfl rfl hc i pins s3 σ3 H3 X.xe I3 (stat fr3) st3 stop) fun r s4 ⟨hr, I4⟩ => ?_)
    subst hr
    exact wpAny_execs_nil ⟨σ3, H3, I4, qn⟩
  · refine wpAny_passesOwn hp (thn (T.item X rfl rfl rfl hc i pins s3 σ3 H3 X.xe I3 (stat fr3) st3 go) fun r s4 ⟨u, hr, h4⟩ => ?_)
    subst hr
    refine wpAny_passesOwn hp (thn h4 fun _ s5 ⟨x, H5, I5, r5, y5, st5, fr5⟩ => ?_)
    have I5' := I5.pinned (stat fr5) (T.obj _ _ st5)
    refine wpAny_passesOwn hp (thn (hg _ s5 σ3 H5 x u _ I5' r5 (step x H5 y5)) fun _ s6 ⟨σ6, H6, I6, q6⟩ => ?_)
    refine wpAny_passesOwn hp (thn (hb _ s6 σ6 H6 _ I6 q6) fun f s7 q7 => ?_)
    have again : ∀ {σ7 : St} {H7 : Hp}, Inv X (pins ++ pinsAt fp s5.heap) σ7 H7 s7 → N σ7 H7 → ∃ m, m < n ∧ ∃ i σ' H', Inv X pins σ' H' s7 ∧ tn i s7.heap ∧ (∀ b ∈ fp, H' b = none) ∧ W i m σ' H' := fun {σ7 H7} I7 n7 => by
      obtain ⟨m', hm, w7⟩ := hN σ7 H7 n7
      refine ⟨m', hm, i + 1, σ7, H7, I7.unpinned, T.keep _ _ _ st5 fun b hb o e => (I7.pin (b, o) (List.mem_append_right _ (List.mem_append_right _ (mem_pinsAt hb e)))).1, fun b hb => ?_, w7⟩
      obtain ⟨o, e, d⟩ := T.obj _ _ st5 b hb
      exact (I7.pin (b, o) (List.mem_append_right _ (List.mem_append_right _ (mem_pinsAt hb e)))).2.1
    cases f with
    | next => obtain ⟨σ7, H7, I7, n7⟩ := q7; exact again I7 n7
    | cont => obtain ⟨σ7, H7, I7, n7⟩ := q7; exact again I7 n7
    | brk => obtain ⟨σ7, H7, I7, q7⟩ := q7; exact ⟨σ7, H7, I7.unpinned, q7⟩
    | ret v => obtain ⟨x7, σ7, H7, I7, r7, q7⟩ := q7; exact ⟨x7, σ7, H7, I7.unpinned, r7, q7⟩
end
end L2
namespace L2
open PySem PySem.Spec PyProof.Rows
abbrev R2 := V → V → Hp → VK → Prop
def OpR (X : Cx) (f : Value → Value → Sem Value) (r : R2) : Prop :=
  ∀ (pins : List (Addr × Obj)) (s : Shared) (σ : St) (H : Hp) (x y : V) (v u : Value) (Q : VK), Inv X pins σ H s → RelV x v → RelV y u → r x y H Q →
    wpAny (model X.prog X.w) X.A (f v u) (EP X pins σ Q) X.xe s
def CallR (X : Cx) (f : Value) (r : List V → Hp → VK → Prop) : Prop :=
  ∀ (pins : List (Addr × Obj)) (s : Shared) (σ : St) (H : Hp) (xs : List V) (us : List Value) (Q : VK), Inv X pins σ H s → Vals xs us → r xs H Q →
    wpAny (model X.prog X.w) X.A (call f us) (EP X pins σ Q) X.xe s
def TruR (X : Cx) (r : V → Hp → (Bool → Hp → Prop) → Prop) : Prop :=
  ∀ (pins : List (Addr × Obj)) (s : Shared) (σ : St) (H : Hp) (x : V) (v : Value) (Q : Bool → Hp → Prop), Inv X pins σ H s → RelV x v → r x H Q →
    wpAny (model X.prog X.w) X.A (truthy v) (TP X pins σ Q) X.xe s
def tOp (r : R2) (ta tb : TE) : TE := fun σ H Q => ta σ H fun x H1 => tb σ H1 fun y H2 => r x y H2 Q
def rI (C : Int → Int → Prop) (g : Int → Int → V) : R2 := fun x y H Q => ∃ i j, x = .int i ∧ y = .int j ∧ C i j ∧ Q (g i j) H
def rI0 (g : Int → Int → V) : R2 := fun x y H Q => ∃ i j, x = .int i ∧ y = .int j ∧ Q (g i j) H
section
variable {X : Cx} {a b c : Expr} {ta tb tc : TE} {pos : Pos}
theorem binT (ha : PE X a ta) (hb : PE X b tb) {pins : List (Addr × Obj)} {s : Shared} {σ : St} {H : Hp} {R : V → V → Hp → Prop} (I : Inv X pins σ H s)
    (h : ta σ H fun x H1 => tb σ H1 fun y H2 => R x y H2) {Q : Value → Shared → Prop} {f : Value → Value → Sem Value}
    (hf : ∀ v u s2 x y H2, Inv X pins σ H2 s2 → RelV x v → RelV y u → R x y H2 → wpAny (model X.prog X.w) X.A (f v u) Q X.xe s2) :
    wpAny (model X.prog X.w) X.A (eval a X.env) (fun v s₁ => wpAny (model X.prog X.w) X.A (eval b X.env) (fun u s₂ => wpAny (model X.prog X.w) X.A (f v u) Q X.xe s₂) X.xe s₁) X.xe s := by
  refine thn (ha pins s σ H _ I h) fun v s1 ⟨x, H1, I1, r1, q1⟩ => ?_
  refine thn (hb pins s1 σ H1 _ I1 q1) fun u s2 ⟨y, H2, I2, r2, q2⟩ => ?_
  exact hf v u s2 x y H2 I2 r1 r2 q2
theorem pe_op {op : Operator} {r : R2} (ho : OpR X (binaryOp op) r) (ha : PE X a ta) (hb : PE X b tb) : PE X (.BinOp a op b pos) (tOp r ta tb) := by
  intro pins s σ H Q I h
  exact wpAny_BinOp (binT ha hb I h fun v u s2 x y H2 I2 rx ry q => ho pins s2 σ H2 x y v u Q I2 rx ry q)
theorem opI {f : Value → Value → Sem Value} {C : Int → Int → Prop} {g : Int → Int → Int}
    (rule : ∀ (i j : Int) (t u : Tok) (s : Shared) (Q : Value → Shared → Prop) (E : Value → Shared → Prop), C i j → Q (.int (g i j) s.toks) { s with toks := s.toks + 1 } → wpAny (model X.prog X.w) X.A (f (.int i t) (.int j u)) Q E s) :
    OpR X f (rI C fun i j => .int (g i j)) := by
  intro pins s σ H x y v u Q I rx ry h
  obtain ⟨i, j, rfl, rfl, hc, q⟩ := h
  obtain ⟨t, rfl⟩ := rx
  obtain ⟨t', rfl⟩ := ry
  exact rule i j t t' s _ _ hc ⟨.int (g i j), H, I.tok _, ⟨_, rfl⟩, q⟩
theorem opI0 {f : Value → Value → Sem Value} {g : Int → Int → Int}
    (rule : ∀ (i j : Int) (t u : Tok) (s : Shared) (Q : Value → Shared → Prop) (E : Value → Shared → Prop), Q (.int (g i j) s.toks) { s with toks := s.toks + 1 } → wpAny (model X.prog X.w) X.A (f (.int i t) (.int j u)) Q E s) :
    OpR X f (rI0 fun i j => .int (g i j)) := by
  intro pins s σ H x y v u Q I rx ry h
  obtain ⟨i, j, rfl, rfl, q⟩ := h
  obtain ⟨t, rfl⟩ := rx
  obtain ⟨t', rfl⟩ := ry
  exact rule i j t t' s _ _ ⟨.int (g i j), H, I.tok _, ⟨_, rfl⟩, q⟩
theorem opB0 {f : Value → Value → Sem Value} {g : Int → Int → Bool}
    (rule : ∀ (i j : Int) (t u : Tok) (s : Shared) (Q : Value → Shared → Prop) (E : Value → Shared → Prop), Q (.bool (g i j)) s → wpAny (model X.prog X.w) X.A (f (.int i t) (.int j u)) Q E s) :
    OpR X f (rI0 fun i j => .bl (g i j)) := by
  intro pins s σ H x y v u Q I rx ry h
  obtain ⟨i, j, rfl, rfl, q⟩ := h
  obtain ⟨t, rfl⟩ := rx
  obtain ⟨t', rfl⟩ := ry
  exact rule i j t t' s _ _ ⟨.bl (g i j), H, I, rfl, q⟩
def CDiv (i j : Int) : Prop := 0 < j ∧ j < 1073741824
def CPow (i j : Int) : Prop := 0 ≤ j ∧ j ≤ 1000000 ∧ i.natAbs < 2 ^ 64
def CMul (i j : Int) : Prop := (-(2 ^ 64) < i ∧ i < 2 ^ 64) ∨ (-(2 ^ 64) < j ∧ j < 2 ^ 64)
theorem CMul.ok {i j : Int} (h : CMul i j) : IntMulOk i j := by
  rcases h with ⟨h1, h2⟩ | ⟨h1, h2⟩
  · exact .of_left (intBits_le_64 h1 h2)
  · exact .of_right (intBits_le_64 h1 h2)
theorem op_add : OpR X (binaryOp .Add) (rI0 fun i j => .int (i + j)) := opI0 fun _ _ _ _ _ _ _ q => add_int q
theorem op_mul : OpR X (binaryOp .Mult) (rI CMul fun i j => .int (i * j)) := opI fun _ _ _ _ _ _ _ hc q => mul_int q hc.ok
theorem op_fdiv : OpR X (binaryOp .FloorDiv) (rI CDiv fun i j => .int (i / j)) := opI fun i j _ _ _ _ _ hc q => by
  have h1 : (0 : Int) < j := hc.1
  have h2 : j < 1073741824 := hc.2
  exact floordiv_int (by omega) (by rw [Int.fdiv_eq_ediv_of_nonneg i (by omega)]; exact q) (.inl (PyProof.noPylong_small (by omega)))
theorem op_mod : OpR X (binaryOp .Mod) (rI (fun _ j => 0 < j) fun i j => .int (i % j)) := opI fun i j _ _ _ _ _ hc q => by
  have h1 : (0 : Int) < j := hc
  exact mod_int' (by omega) (by rw [Int.fmod_eq_emod_of_nonneg i (by omega)]; exact q)
theorem op_pow : OpR X (binaryOp .Pow) (rI CPow fun i j => .int (i ^ j.toNat)) := opI fun _ _ _ _ _ _ _ hc q => pow_int_small hc.1 hc.2.1 hc.2.2 q
end
section
variable {X : Cx} {a b c : Expr} {ta tb tc : TE} {pos : Pos}
theorem op_gt : OpR X (compareOp .Gt) (rI0 fun i j => .bl (decide (j < i))) := opB0 fun _ _ _ _ _ _ _ q => gt_int q
theorem op_ge : OpR X (compareOp .GtE) (rI0 fun i j => .bl (decide (j ≤ i))) := opB0 fun _ _ _ _ _ _ _ q => ge_int q
theorem OpR.or {f : Value → Value → Sem Value} {r r' : R2} (h : OpR X f r) (h' : OpR X f r') : OpR X f (fun x y H Q => r x y H Q ∨ r' x y H Q) := by
  intro pins s σ H x y v u Q I rx ry q
  rcases q with q | q
  · exact h pins s σ H x y v u Q I rx ry q
  · exact h' pins s σ H x y v u Q I rx ry q
theorem pe_cmpR {op : CmpOp} {r : R2} (ho : OpR X (compareOp op) r) (ha : PE X a ta) (hb : PE X b tb) (hm : behindInMarks op b = false) : PE X (.Compare a [op] [b] pos) (tOp r ta tb) := by
  intro pins s σ H Q I h
  exact wpAny_Compare1 (binT ha hb I h fun v u s2 x y H2 I2 rx ry q => ho pins s2 σ H2 x y v u Q I2 rx ry q) hm
def tTest (t : TE) : TT := fun σ H Q => t σ H fun x H' => ∃ k, x = .bl k ∧ Q k H'
theorem pt_cmpR {op : CmpOp} {r : R2} (ho : OpR X (compareOp op) r) (ha : PE X a ta) (hb : PE X b tb) (hm : behindInMarks op b = false) : PT X (.Compare a [op] [b] pos) (tTest (tOp r ta tb)) := by
  intro pins s σ H Q I h
  refine wpAny_isTrue_Compare1 (thn (ha pins s σ H _ I h) fun v s1 ⟨x, H1, I1, r1, q1⟩ => thn (hb pins s1 σ H1 _ I1 q1) fun u s2 ⟨y, H2, I2, r2, q2⟩ =>
    thn (ho pins s2 σ H2 x y v u _ I2 r1 r2 q2) fun c s3 ⟨z, H3, I3, r3, k, e, q3⟩ => ?_) hm
  subst e
  cases r3
  exact wpAny_truthy_bool ⟨H3, I3, q3⟩
def TruV (K : PySem.W.Frag) (x : V) (H : Hp) (k : Bool) : Prop :=
  match x with
  | .non => k = false
  | .bl b => k = b
  | .int i => k = (i != 0)
  | .str y => y.length ≤ sizeLine ∧ k = ((y.length : Int) != 0)
  | .byt y => y.size ≤ sizeLine ∧ k = ((y.size : Int) != 0)
  | .ref p => (∃ xs, SqL K H p xs ∧ k = !xs.isEmpty) ∨ (∃ xs, SqT K H p xs ∧ k = !xs.isEmpty) ∨ ∃ kvs, H p = some (.dK kvs) ∧ k = !kvs.isEmpty
  | _ => False
theorem isEmpty_kv {κ : Type} {kvs : List (κ × V)} {vs : List (κ × Value)} (r : KV kvs vs) : (!vs.isEmpty) = !kvs.isEmpty := by
  cases r <;> rfl
theorem isEmpty_of {xs : List V} {its : List Value} (r : Vals xs its) : (!its.toArray.isEmpty) = !xs.isEmpty := by
  cases r <;> simp
theorem line63 : (sizeLine : Nat) < 2 ^ 63 := by rw [sizeLine_eq]; decide
theorem tru_ok : TruR X (fun x H Q => ∃ k, TruV X.K x H k ∧ Q k H) := by
  intro pins s σ H x v Q I rx h
  obtain ⟨k, e, q⟩ := h
  have hl := line63
  have hs : sizeLine = 16777216 := sizeLine_eq
  cases x with
  | non =>
    cases rx
    have e' : k = false := e
    subst e'
    exact truthy_none ⟨H, I, q⟩
  | bl b =>
    cases rx
    have e' : k = b := e
    subst e'
    exact wpAny_truthy_bool ⟨H, I, q⟩
  | int i =>
    obtain ⟨t, rfl⟩ := rx
    have e' : k = (i != 0) := e
    subst e'
    exact PySem.P.truthy_int ⟨H, I, q⟩
  | str y =>
    obtain ⟨t, rfl⟩ := rx
    obtain ⟨hy, e'⟩ : y.length ≤ sizeLine ∧ k = ((y.length : Int) != 0) := e
    subst e'
    exact PySem.P.truthy_str (by omega) ⟨H, I.tok _, q⟩
  | byt y =>
    obtain ⟨t, rfl⟩ := rx
    obtain ⟨hy, e'⟩ : y.size ≤ sizeLine ∧ k = ((y.size : Int) != 0) := e
    subst e'
    exact PySem.W.truthy_bytes (by omega) ⟨H, I.tok _, q⟩
  | ref p =>
    cases rx
    have e' : (∃ xs, SqL X.K H p xs ∧ k = !xs.isEmpty) ∨ (∃ xs, SqT X.K H p xs ∧ k = !xs.isEmpty) ∨ ∃ kvs, H p = some (.dK kvs) ∧ k = !kvs.isEmpty := e
    rcases e' with ⟨xs, hx, e'⟩ | ⟨xs, hx, e'⟩ | ⟨kvs, hx, e'⟩
    · subst e'
      obtain ⟨its, r, pl, hz⟩ := I.list hx
      have hlen := r.length
      exact wpAny_truthy_list pl.isList (by simp only [List.size_toArray]; omega) ⟨H, I.tok _, by rw [isEmpty_of r]; exact q⟩
    · subst e'
      obtain ⟨its, r, pl, hz⟩ := I.tuple hx
      have hlen := r.length
      exact truthy_tuple pl (by simp only [List.size_toArray]; omega) ⟨H, I.tok _, by rw [isEmpty_of r]; exact q⟩
    · subst e'
      obtain ⟨hz, hS, vs, r, m⟩ : kvs.length ≤ sizeLine ∧ (p == sysModules) = false ∧ ∃ vs, KV kvs vs ∧ s.heap.DictOf (mixKind X.prog X.w) p vs := I.hok p _ hx
      have hlen : kvs.length = vs.length := Paired.length r
      exact wpAny_truthy_dict hS m (by omega) ⟨H, I.tok _, by rw [isEmpty_kv r]; exact q⟩
  | _ => exact (show False from e).elim
theorem pt_truth (ha : PE X a ta) (he : ∀ whole, isTrue a X.env whole = (do let v ← whole; standAt a.pos; holding [v] (truthy v))) :
    PT X a (fun σ H Q => ta σ H fun x H' => ∃ k, TruV X.K x H' k ∧ Q k H') := by
  intro pins s σ H Q I h
  exact isTrue_plain (thn (ha pins s σ H _ I h) fun v s1 ⟨x, H1, I1, r1, q1⟩ => tru_ok pins s1 σ H1 x v Q I1 r1 q1) (he _)
theorem op_add_str : OpR X (binaryOp .Add) (fun x y H Q => ∃ i j, x = .str i ∧ y = .str j ∧ i.length + j.length ≤ sizeLine ∧ Q (.str (i ++ j)) H) := by
  intro pins s σ H x y v u Q I rx ry h
  obtain ⟨i, j, rfl, rfl, hz, q⟩ := h
  obtain ⟨t, rfl⟩ := rx
  obtain ⟨t', rfl⟩ := ry
  exact add_str (fun t' tk => ⟨.str (i ++ j), H, I.tok _, ⟨_, rfl⟩, q⟩) hz
theorem vals1 {x : V} {us : List Value} (r : Vals [x] us) : ∃ u, us = [u] ∧ RelV x u := by
  cases r with
  | cons r1 r2 => cases r2; exact ⟨_, rfl, r1⟩
theorem vals2 {x y : V} {us : List Value} (r : Vals [x, y] us) : ∃ u w', us = [u, w'] ∧ RelV x u ∧ RelV y w' := by
  cases r with
  | cons r1 r2 =>
    cases r2 with
    | cons r3 r4 => cases r4; exact ⟨_, _, rfl, r1, r3⟩
theorem call_abs : CallR X (.builtin "abs") (fun xs H Q => ∃ i, xs = [.int i] ∧ Q (.int (if i < 0 then -i else i)) H) := by
  intro pins s σ H xs us Q I r h
  obtain ⟨i, rfl, q⟩ := h
  obtain ⟨u, rfl, t, rfl⟩ := vals1 r
  exact call_abs_int fun u tk => ⟨.int (if i < 0 then -i else i), H, I.tok _, ⟨_, rfl⟩, q⟩
end
end L2
namespace L2
open PySem PySem.Spec PyProof.Rows
theorem lookIn_ns {h : Heap} {dx : Addr} {mA : Str → Option Value} (n : h.Ns1 dx mA) : ∃ od, h.get? dx = some od ∧ ∀ name, PySem.W.lookIn name od = some (mA name) := by
  obtain ⟨o, es, ep, ho, hd, hk, _, hm⟩ := n
  refine ⟨o, ho, fun name => ?_⟩
  have e := hm name
  unfold nsFind findBy at e
  rw [← Array.find?_toList] at e
  unfold PySem.W.lookIn
  rw [hd]
  dsimp only
  split
  · rename_i y q
    rw [q] at e
    exact congrArg some e
  · rename_i q
    rw [q] at e
    have a : es.toList.any (·.refKey) = false := by
      rw [List.any_eq_false]
      intro y hy
      obtain ⟨z, t, hkey⟩ := hk y (Array.mem_toList_iff.mp hy)
      simp [DictEntry.refKey, hkey]
    have a' : ¬ es.toList.any (·.refKey) = true := by rw [a]; exact Bool.false_ne_true
    rw [if_neg a']
    exact congrArg some e
def putF (f : Str) (v : V) : List (Str × V) → List (Str × V)
  | [] => [(f, v)]
  | (g, x) :: r => if g = f then (g, v) :: r else (g, x) :: putF f v r
theorem lookup_putF (f g : Str) (v : V) : ∀ fs : List (Str × V), (putF f v fs).lookup g = if g = f then some v else fs.lookup g
  | [] => by
    show List.lookup g [(f, v)] = _
    by_cases h : g = f
    · have hb : (g == f) = true := beq_iff_eq.mpr h
      simp only [List.lookup, hb, if_pos h]
    · have hb : (g == f) = false := beq_eq_false_iff_ne.mpr h
      simp only [List.lookup, hb, if_neg h]
  | (k, x) :: r => by
    have ih := lookup_putF f g v r
    rw [show putF f v ((k, x) :: r) = (if k = f then (k, v) :: r else (k, x) :: putF f v r) from rfl]
    by_cases hk : k = f
    · rw [if_pos hk]
      by_cases h : g = k
      · have hb : (g == k) = true := beq_iff_eq.mpr h
        simp only [List.lookup, hb, if_pos (h.trans hk)]
      · have hb : (g == k) = false := beq_eq_false_iff_ne.mpr h
        simp only [List.lookup, hb, if_neg (fun e : g = f => h (e.trans hk.symm))]
    · rw [if_neg hk]
      by_cases h : g = k
      · have hb : (g == k) = true := beq_iff_eq.mpr h
        simp only [List.lookup, hb, if_neg (fun e : g = f => hk (h.symm.trans e))]
      · have hb : (g == k) = false := beq_eq_false_iff_ne.mpr h
        simp only [List.lookup, hb]
        exact ih
theorem keys_putF (f : Str) (v : V) : ∀ fs : List (Str × V), f ∈ (putF f v fs).map (·.1) ∧ ∀ g, g ∈ fs.map (·.1) → g ∈ (putF f v fs).map (·.1)
  | [] => ⟨by simp [putF], fun g h => by simp at h⟩
  | (k, x) :: r => by
    obtain ⟨i1, i2⟩ := keys_putF f v r
    rw [show putF f v ((k, x) :: r) = (if k = f then (k, v) :: r else (k, x) :: putF f v r) from rfl]
    by_cases hk : k = f
    · rw [if_pos hk]
      subst hk
      exact ⟨by simp, fun g h => by simpa using h⟩
    · rw [if_neg hk]
      refine ⟨?_, fun g h => ?_⟩
      · rw [List.map_cons]
        exact List.mem_cons_of_mem _ i1
      · rw [List.map_cons] at h ⊢
        rcases List.mem_cons.mp h with e | e
        · exact List.mem_cons.mpr (.inl e)
        · exact List.mem_cons_of_mem _ (i2 g e)
theorem RelO.some_of {v : V} {o : Option Value} (r : RelO (some v) o) : ∃ u, o = some u ∧ RelV v u := by
  cases o with
  | none => exact (show False from r).elim
  | some u => exact ⟨u, rfl, r⟩
theorem handed_of {v : V} {u : Value} (r : RelV v u) : PySem.W.handedIn u = true := by
  cases v with
  | non => cases (show u = Value.none from r); rfl
  | bl b => cases (show u = Value.bool b from r); rfl
  | int i => obtain ⟨t, e⟩ := (show ∃ t, u = Value.int i t from r); cases e; rfl
  | str x => obtain ⟨t, e⟩ := (show ∃ t, u = Value.str x t from r); cases e; rfl
  | byt b => obtain ⟨t, e⟩ := (show ∃ t, u = Value.bytes b t from r); cases e; rfl
  | flt b => obtain ⟨t, e⟩ := (show ∃ t, u = Value.float b t from r); cases e; rfl
  | ref a => cases (show u = Value.ref a from r); rfl
  | ty n => cases (show u = Value.type n from r); rfl
def NoAttr (K : PySem.W.Frag) (C : Addr) (f : Str) : Prop := PySem.W.findIn K (.ref C) f = some none
section
variable {X : Cx} {pins : List (Addr × Obj)} {σ : St} {H : Hp} {s : Shared} {a C dx : Addr} {fs : List (Str × V)} {f : Str} {v : V} {A : Around} {E : Value → Shared → Prop}
theorem attr_of {prog : Program} {w : World} {env : Env} {e : Expr} {f : Str} {pos : Pos} {s : Shared} {Q : Value → Shared → Prop} (hb : attributeBase e f env (eval e env) = eval e env)
    (h : wpAny (model prog w) A (eval e env) (fun o s₁ => wpAny (model prog w) A (getAttr o f true) Q E s₁) E s) : wpAny (model prog w) A (eval (.Attribute e f pos) env) Q E s :=
  Attribute_any_ h (by rw [arm_eval_Attribute, hb])
end
end L2
namespace L2
open PySem PySem.Spec PyProof.Rows
structure Room (k : Nat) (A : Around) : Prop where
  hd : A.handled = none
  dp : A.depth + 3 * k + 5 < recursionLimit
  un : A.units + 16 * k + 1200 < cLine
  gd : A.guards = some []
theorem Room.mono {j k : Nat} {A : Around} (r : Room k A) (h : j ≤ k) : Room j A := ⟨r.hd, by have := r.dp; omega, by have := r.un; omega, r.gd⟩
theorem Room.deeper {k : Nat} {A : Around} (r : Room (k + 1) A) (env : Env) : Room k (A.deeper env) :=
  ⟨r.hd, by have := r.dp; show A.depth + 1 + 3 * k + 5 < _; omega, by have := r.un; show A.units + 3 + 16 * k + 1200 < _; omega, r.gd⟩
theorem make_depth {A : Around} {C : Addr} {us : List Value} {kw : List (Str × Value)} : (A.under (.builtin "type.__call__" ⟨.ref C :: us, kw⟩)).depth = A.depth + 1 := by
  first | rfl | simp [Around.under, Code.weight, Code.isCreation, Code.isGuard, Code.isCaller, Code.frames, Code.isFrame, guardIds]
theorem make_units {A : Around} {C : Addr} {us : List Value} {kw : List (Str × Value)} : (A.under (.builtin "type.__call__" ⟨.ref C :: us, kw⟩)).units = A.units + 1 := by
  first | rfl | simp [Around.under, Code.cUnits, Code.frames, Code.isFrame]
theorem Room.make {k : Nat} {A : Around} (r : Room (k + 1) A) (C : Addr) (us : List Value) (kw : List (Str × Value)) : Room k (A.under (.builtin "type.__call__" ⟨.ref C :: us, kw⟩)) :=
  ⟨r.hd, by have := r.dp; rw [make_depth]; omega, by have := r.un; rw [make_units]; omega, by first | exact r.gd | simpa [Around.under, Code.isGuard, guardIds] using r.gd⟩
theorem Room.depth {k : Nat} {A : Around} (r : Room k A) : A.depth < recursionLimit := by have := r.dp; omega
def tNil : TA := fun _ H Q => Q [] H
def tCons (ta : TE) (tr : TA) : TA := fun σ H Q => ta σ H fun x H1 => tr σ H1 fun xs H2 => Q (x :: xs) H2
section
variable {X : Cx} {e : Expr} {es : List Expr} {te : TE} {t : TA} {pos : Pos}
theorem pa_nil : PA X [] tNil := fun _ _ _ _ H Q I h => Calls.spliced_nil ⟨[], H, I, .nil, h⟩
theorem pa_cons (ha : PE X e te) (hr : PA X es t) (hs : starEach (e :: es) X.env = (false, eval e X.env) :: starEach es X.env := by rfl) : PA X (e :: es) (tCons te t) := by
  intro pos pins s σ H Q I h
  rw [hs]
  show wpAny _ _ (spliced ((false, eval e X.env) :: backTo pos (starEach es X.env))) _ _ s
  refine Calls.spliced_cons (thn (ha pins s σ H _ I h) fun u s1 ⟨x, H1, I1, r1, q1⟩ => ?_)
  exact thn (hr pos pins s1 σ H1 _ I1 q1) fun us s2 ⟨xs, H2, I2, r2, q2⟩ => ⟨x :: xs, H2, I2, .cons r1 r2, q2⟩
def tTup (t : TA) : TE := fun σ H Q => t σ H fun xs H1 => xs.length ≤ sizeLine ∧ ∀ p, H1 p = none → Q (.ref p) (upd H1 p (.tup xs))
def tLst (t : TA) : TE := fun σ H Q => t σ H fun xs H1 => xs.length ≤ sizeLine ∧ ∀ p, H1 p = none → Q (.ref p) (upd H1 p (.lst xs))
theorem pe_tup {x1} (h : PA X es t) : PE X (.Tuple es x1 pos) (tTup t) := by
  intro pins s σ H Q I hq
  refine wpAny_Tuple_spliced (thn (h pos pins s σ H _ I hq) fun us s1 ⟨xs, H1, I1, r, z, q⟩ => ⟨by rw [← r.length]; exact z, ?_⟩)
  have hf : H1 s1.heap.objs.size = none := I1.hok.fresh (Nat.le_refl _)
  refine ⟨.ref s1.heap.objs.size, upd H1 s1.heap.objs.size (.tup xs), I1.laid (t' := s1.toks) (fun b u e => Heap.get?_push_of_some _ e) (Nat.le_refl _) ?_, rfl, q _ hf⟩
  exact ⟨z, us, r, ⟨_, Heap.get?_push_size _ rfl, rfl, _, rfl⟩, ⟨_, Heap.get?_push_size _ rfl, rfl⟩⟩
theorem pe_lst (h : PA X es t) : PE X (.List es pos) (tLst t) := by
  intro pins s σ H Q I hq
  refine wpAny_List_spliced (thn (h pos pins s σ H _ I hq) fun us s1 ⟨xs, H1, I1, r, z, q⟩ => ⟨by rw [← r.length]; exact z, ?_⟩)
  have hf : H1 s1.heap.objs.size = none := I1.hok.fresh (Nat.le_refl _)
  refine ⟨.ref s1.heap.objs.size, upd H1 s1.heap.objs.size (.lst xs), I1.laid (t' := s1.toks) (fun b u e => Heap.get?_push_of_some _ e) (Nat.le_refl _) ?_, rfl, q _ hf⟩
  exact ⟨z, us, 0, r, Heap.get?_push_size _ rfl⟩
end
abbrev Sp := List V → Hp → VK → XK → Prop
abbrev CXT := List Env → Hp → Shared → XK → Value → Shared → Prop
structure Env0 (P : Program) (w : World) (K : PySem.W.Frag) (mg : Str → Option Value) (base : Heap) (A : Around) (outer : List Env) (s : Shared) (H : Hp) : Prop where
  frames : A.frames = some outer
  mod : Mod K mg base
  bs : ∀ b o, base.get? b = some o → s.heap.get? b = some o ∧ H b = none
  bsz : base.objs.size ≤ s.heap.objs.size
  funs : s.heap.FunFrames base outer
  frf : ∀ b ∈ frs outer, H b = none
  hok : HOk P w H s.heap
  bare : AllBare s.gens
def CE (outer : List Env) (P : Program) (w : World) (H : Hp) (s : Shared) (Q : VK) (u : Value) (s' : Shared) : Prop :=
  ∃ v H', s'.os = s.os ∧ AllBare s'.gens ∧ Un (frs outer) [] H H' s.heap s'.heap ∧ HOk P w H' s'.heap ∧ RelV v u ∧ Q v H'
def CR (CX : CXT) (outer : List Env) (P : Program) (w : World) (H : Hp) (s : Shared) (Q : VK) (E : XK) (r : Result) (s' : Shared) : Prop :=
  match r with
  | .ok (.ret u) => CE outer P w H s Q u s'
  | .ok _ => False
  | .error e => CX outer H s E e s'
structure FnOk (P : Program) (w : World) (K : PySem.W.Frag) (mg : Str → Option Value) (base : Heap) (CX : CXT) (k : Nat) (f : Addr) (fd : FuncData) (ps : List Str) (sp : Sp) : Prop where
  len : ∀ vs H Q E, sp vs H Q E → vs.length = ps.length
  run : ∀ (A : Around) (outer : List Env) (s : Shared) (H : Hp) (args : Args) (us : List Value) (vs : List V) (Q : VK) (E : XK), Room k A → Env0 P w K mg base A outer s H → BindsTo s fd args (ps.zip us) → Vals vs us → sp vs H Q E →
    codeAny (model P w) A (.call (.ref f) args) (CR CX outer P w H s Q E) s
theorem Env0.make {P : Program} {w : World} {K : PySem.W.Frag} {mg : Str → Option Value} {base : Heap} {A : Around} {outer : List Env} {s : Shared} {H : Hp} (e : Env0 P w K mg base A outer s H) (C : Addr) (us : List Value) (kw : List (Str × Value)) :
    Env0 P w K mg base (A.under (.builtin "type.__call__" ⟨.ref C :: us, kw⟩)) outer s H := ⟨by first | exact e.frames | (simpa [Around.under, Code.envs, Code.isFrame, pushEnvs] using e.frames), e.mod, e.bs, e.bsz, e.funs, e.frf, e.hok, e.bare⟩
section
variable {X : Cx} {pins : List (Addr × Obj)} {σ : St} {H : Hp} {s s' : Shared}
theorem Inv.env0 (I : Inv X pins σ H s) : Env0 X.prog X.w X.K X.mg X.base X.A X.stack s H :=
  ⟨I.ok.frames, I.ok.mod, I.bs, Nat.le_trans I.ok.bsz I.sz, I.stack, I.stkFree, I.hok, I.bare⟩
theorem Inv.after {Q : VK} {u : Value} (I : Inv X pins σ H s) (h : CE X.stack X.prog X.w H s Q u s') : EP X pins σ Q u s' := by
  obtain ⟨v, H', os, bare, un, hok, r, q⟩ := h
  obtain ⟨hh, g, d, t, os'⟩ := s'
  obtain rfl : os' = s.os := os
  exact ⟨v, H', I.call (h' := hh) (g' := g) (d' := d) (t' := t) (ch := []) un hok bare (fun b z => absurd z (by simp)), r, q⟩
end
def Binds (K : PySem.W.Frag) (fd : FuncData) (ps : List Str) (ds : List Value) : Prop :=
  ∀ (s : Shared) (us : List Value), K.In s.heap → (us ++ ds).length = ps.length → BindsTo s fd ⟨us, []⟩ (ps.zip (us ++ ds))
theorem Binds.all {K : PySem.W.Frag} {fd : FuncData} {ps : List Str} (h : ∀ us : List Value, us.length = ps.length → bindArgs fd ⟨us, []⟩ = pure (ps.zip us)) : Binds K fd ps [] := fun s us _ hl => by
  rw [List.append_nil] at hl ⊢
  exact .of_eq (h us hl)
structure FnScope (N P : List Str) (sc : Scope) : Prop where
  kind : sc.kind = .function
  co : sc.isCoroutine = false
  gen : sc.isGenerator = false
  nd : N.Nodup
  pre : N.take P.length = P
  par : ∀ x ∈ P, sc.names.lookup x = some .local ∨ sc.names.lookup x = some .cell
  nofree : ∀ y ∈ sc.names, y.2 ≠ .free
theorem bindL_out {kindOf : Str → Option NameKind} {x : Str} : ∀ {binds : List (Str × Value)} {m : Str → Option Value}, (∀ v, (x, v) ∉ binds) → bindL kindOf binds m x = m x
  | [], _, _ => rfl
  | (n, v) :: r, m, h => by
    unfold bindL
    rw [bindL_out fun w hw => h w (List.mem_cons_of_mem _ hw)]
    split
    · have : x ≠ n := by rintro rfl; exact h v List.mem_cons_self
      simp [this]
    · rfl
theorem bindC_out {kindOf : Str → Option NameKind} {x : Str} : ∀ {binds : List (Str × Value)} {m : Str → Option Value}, (∀ v, (x, v) ∉ binds) → bindC kindOf binds m x = m x
  | [], _, _ => rfl
  | (n, v) :: r, m, h => by
    unfold bindC
    rw [bindC_out fun w hw => h w (List.mem_cons_of_mem _ hw)]
    split
    · rfl
    · have : x ≠ n := by rintro rfl; exact h v List.mem_cons_self
      simp [this]
theorem bindL_get {kindOf : Str → Option NameKind} {x : Str} {v : Value} : ∀ {P : List Str} {vs : List Value} {i : Nat} {m : Str → Option Value}, P.Nodup → P[i]? = some x → vs[i]? = some v → kindOf x = some .local →
    bindL kindOf (P.zip vs) m x = some v
  | [], _, _, _, _, h, _, _ => by simp at h
  | _ :: _, [], _, _, _, _, h, _ => by simp at h
  | p :: P, w :: vs, 0, m, nd, h1, h2, hk => by
    simp at h1 h2; subst h1; subst h2
    show bindL kindOf ((p, w) :: P.zip vs) m p = _
    unfold bindL
    rw [bindL_out fun v hv => (List.nodup_cons.mp nd).1 (List.of_mem_zip hv).1, if_pos hk]
    simp
  | p :: P, w :: vs, i + 1, m, nd, h1, h2, hk => by
    show bindL kindOf ((p, w) :: P.zip vs) m x = _
    unfold bindL
    exact bindL_get (i := i) (List.nodup_cons.mp nd).2 (by simpa using h1) (by simpa using h2) hk
theorem bindC_get {kindOf : Str → Option NameKind} {x : Str} {v : Value} : ∀ {P : List Str} {vs : List Value} {i : Nat} {m : Str → Option Value}, P.Nodup → P[i]? = some x → vs[i]? = some v → kindOf x ≠ some .local →
    bindC kindOf (P.zip vs) m x = some v
  | [], _, _, _, _, h, _, _ => by simp at h
  | _ :: _, [], _, _, _, _, h, _ => by simp at h
  | p :: P, w :: vs, 0, m, nd, h1, h2, hk => by
    simp at h1 h2; subst h1; subst h2
    show bindC kindOf ((p, w) :: P.zip vs) m p = _
    unfold bindC
    rw [bindC_out fun v hv => (List.nodup_cons.mp nd).1 (List.of_mem_zip hv).1, if_neg hk]
    simp
  | p :: P, w :: vs, i + 1, m, nd, h1, h2, hk => by
    show bindC kindOf ((p, w) :: P.zip vs) m x = _
    unfold bindC
    exact bindC_get (i := i) (List.nodup_cons.mp nd).2 (by simpa using h1) (by simpa using h2) hk
def start (N : List Str) (vs : List V) : St := vs.map some ++ List.replicate (N.length - vs.length) none
def cxOf (CX : CXT) (P : Program) (w : World) (K : PySem.W.Frag) (mg : Str → Option Value) (base : Heap) (N : List Str) (qual : Str) (scope : Scope) (f : Addr) (cd : Value) (A : Around) (outer : List Env) (s : Shared) (H : Hp) (E : XK) : Cx where
  prog := P
  w := w
  K := K
  mg := mg
  base := base
  A := A.deeper (envOfC qual scope s.heap.objs.size f cd)
  N := N
  s₀ := s
  H₀ := H
  env := envOfC qual scope s.heap.objs.size f cd
  outer := outer
  stack := envOfC qual scope s.heap.objs.size f cd :: outer
  ex := []
  calm := true
  fn := fun _ => true
  pn := []
  xe := fun e s' => wpAny (model P w) (A.deeper (envOfC qual scope s.heap.objs.size f cd)) (leaving (envOfC qual scope s.heap.objs.size f cd) e) (fun _ s'' => CX outer H s E e s'') (fun e' s'' => CX outer H s E e' s'') s'
theorem cell_has {sc : Scope} {n : Nat} {x : Str} (h : sc.names.lookup x = some .cell) : ∃ c, (cellsFrom n sc.names []).lookup x = some c := by
  have q := PySem.W.cellsFrom_some sc.names n [] (.inl h)
  exact Option.isSome_iff_exists.mp q
theorem inv_start {CX : CXT} {P : Program} {w : World} {K : PySem.W.Frag} {mg : Str → Option Value} {base : Heap} {N ps : List Str} {qual : Str} {scope : Scope} {f : Addr} {cd : Value} {A : Around} {outer : List Env} {s s1 : Shared} {H : Hp} {E : XK} {us : List Value} {vs : List V}
    (S : FnScope N ps scope) (hd : A.handled = none) (e0 : Env0 P w K mg base A outer s H) (hl : vs.length = ps.length) (r : Vals vs us)
    (x : InCallC s s.heap.objs.size (bindL (envOfC qual scope s.heap.objs.size f cd).kindOf (ps.zip us) fun _ => none) (cellsFrom (s.heap.objs.size + 1) scope.names []) (bindC (envOfC qual scope s.heap.objs.size f cd).kindOf (ps.zip us) fun _ => none) s1) :
    Inv (cxOf CX P w K mg base N qual scope f cd A outer s H E) [] (start N vs) H s1 := by
  have hpl : ps.length ≤ N.length := by have := congrArg List.length S.pre; rw [List.length_take] at this; omega
  obtain ⟨h1, tk, rfl, hk⟩ := x.done
  have noA : ∀ b : Addr, b ∉ (cxOf CX P w K mg base N qual scope f cd A outer s H E).ex := fun b z => absurd (show b ∈ ([] : List Addr) from z) (by simp)
  refine ⟨⟨e0.mod, S.kind, rfl, rfl, Nat.le_refl _, fun y z c h1 h2 => ?_, fun y hy => ?_, fun y c _ h => ?_, fun _ => hd, Around.frames_deeper e0.frames, .inr ⟨rfl, rfl⟩, fun b z => absurd z (noA b), e0.bs, e0.bsz, fun b _ _ => noA b, fun b z => absurd z (noA b), e0.funs, e0.frf⟩,
    rfl, e0.bare, Un.kept hk, ⟨_, x.toInCall.ns, fun i y v h1 h2 h3 => ?_⟩, fun y c h => ⟨_, x.cell y c h⟩, e0.hok.fresh (Nat.le_refl _), fun y c h => ?_, fun p hp => absurd (show p ∈ ([] : List (Addr × Obj)) from hp) (by simp), e0.hok.kept hk, ?_⟩
  · exact name_of_addr x.apart (PySem.mem_of_lookup h1) (PySem.mem_of_lookup h2)
  · have hy : scope.names.lookup y = some .cell ∨ scope.names.lookup y = some .free := hy
    rcases hy with hy | hy
    · exact cell_has hy
    · exact absurd rfl (S.nofree _ (PySem.mem_of_lookup hy))
  · exact Nat.le_of_lt (x.above y c (PySem.mem_of_lookup h))
  · have hi : i < vs.length := by
      unfold start at h2
      by_cases hi : i < vs.length
      · exact hi
      · rw [List.getElem?_append_right (by simpa using hi)] at h2
        rw [List.getElem?_replicate] at h2
        split at h2 <;> cases h2
    have ha : vs[i]? = some v := by
      unfold start at h2
      rw [List.getElem?_append_left (by simpa using hi), List.getElem?_map] at h2
      cases e : vs[i]? with
      | none => rw [e] at h2; cases h2
      | some a => rw [e] at h2; cases h2; rfl
    obtain ⟨u, hu, rv⟩ := r.get ha
    have hp : ps[i]? = some y := by
      rw [← S.pre, List.getElem?_take_of_lt (by omega)]; exact h1
    have ndP : ps.Nodup := by rw [← S.pre]; exact S.nd.sublist (List.take_sublist _ _)
    refine ⟨u, rv, ?_⟩
    rcases S.par y (List.mem_of_getElem? hp) with k | k
    · exact .inl ⟨k, bindL_get ndP hp hu k⟩
    · obtain ⟨c, e⟩ := cell_has (n := s.heap.objs.size + 1) k
      refine .inr ⟨.inl k, c, e, ?_⟩
      have q := x.cell y c e
      rw [bindC_get ndP hp hu (by show scope.names.lookup y ≠ _; rw [k]; decide)] at q
      exact q
  · exact e0.hok.fresh (Nat.le_of_lt (x.above y c (PySem.mem_of_lookup h)))
  · unfold start
    show _ = N.length
    rw [List.length_append, List.length_map, List.length_replicate]
    omega
theorem fn_of {CX : CXT} {P : Program} {w : World} {K : PySem.W.Frag} {mg : Str → Option Value} {base : Heap} {k : Nat} {f : Addr} {name qual : Str} {params : Arguments} {body : List Stmt} {scope : Scope} {dV kV doc pm cdv ct oc : Value} {an od : Option Addr}
    {osl : Array (Option Value)} {N ps : List Str} {sp : Sp} (lk : K.lookup f = some ⟨oc, od, .func (PySem.W.fnOf name qual params body scope dV kV doc pm an cdv ct), osl⟩) (hcd : PySem.W.codeIn K cdv qual = true) (S : FnScope N ps scope)
    (len : ∀ vs H Q E, sp vs H Q E → vs.length = ps.length)
    (hbody : ∀ (A : Around) (outer : List Env) (s : Shared) (H : Hp) (vs : List V) (Q : VK) (E : XK), Room k (A.deeper (envOfC qual scope s.heap.objs.size f cdv)) → sp vs H Q E →
      ∃ t, PSs (cxOf CX P w K mg base N qual scope f cdv A outer s H E) body t ∧ t { nx := fun _ H' => Q .non H', rt := Q } (start N vs) H) :
    FnOk P w K mg base CX (k + 1) f (PySem.W.fnOf name qual params body scope dV kV doc pm an cdv ct) ps sp := by
  refine ⟨len, fun A outer s H args us vs Q E hr e0 hb r hsp => ?_⟩
  have hl := len _ _ _ _ hsp
  have KX : K.In s.heap := e0.mod.kin.keeps fun b o e => (e0.bs b o e).1
  have lim : s.heap.NoLimit := e0.mod.nolimit.keeps fun b o e => (e0.bs b o e).1
  have hkind : ∀ y ∈ ps.zip us, scope.names.lookup y.1 = some .local ∨ (scope.names.lookup y.1 = some .cell ∧ ((cellsFrom (s.heap.objs.size + 1) scope.names []).lookup y.1).isSome = true) := fun ⟨n, v⟩ hy => by
    rcases S.par n (List.of_mem_zip hy).1 with q | q
    · exact .inl q
    · exact .inr ⟨q, PySem.W.cellsFrom_some _ _ _ (.inl q)⟩
  refine codeAny_call_function hr.depth (KX _ _ lk) rfl S.co S.gen rfl (PySem.W.codeRec_of KX hcd) (hb _ _ _ _ ?_)
  refine wpAny_newFunctionEnv_cells S.kind hkind fun env he s1 x => ?_
  subst he
  refine ⟨lim.keeps x.toInCall.keep, codeAny_func ?_⟩
  obtain ⟨t, ht, hq⟩ := hbody A outer s H vs Q E (hr.deeper _) hsp
  have I : Inv (cxOf CX P w K mg base N qual scope f cdv A outer s H E) [] (start N vs) H s1 := inv_start S hr.hd e0 hl r x
  refine wpAny_mono (ht [] s1 (start N vs) H _ I hq) (fun fl s' hs => ?_) fun e s' hs => hs
  have fin : ∀ {σ' : St} {H' : Hp} {v : V} {u : Value}, Inv (cxOf CX P w K mg base N qual scope f cdv A outer s H E) [] σ' H' s' → RelV v u → Q v H' → CE outer P w H s Q u s' :=
    fun {σ' H' v u} J rv q => ⟨v, H', J.os, J.bare, J.base, J.hok, rv, q⟩
  cases fl with
  | ret u =>
    obtain ⟨v, σ', H', J, rv, q⟩ := hs
    exact fin J rv q
  | next =>
    obtain ⟨σ', H', J, q⟩ := hs
    exact fin (v := V.non) (u := Value.none) J rfl q
  | brk =>
    obtain ⟨_, _, _, q⟩ := hs
    exact False.elim q
  | cont =>
    obtain ⟨_, _, _, q⟩ := hs
    exact False.elim q
end L2
namespace L2
open PySem PySem.Spec PyProof.Rows
section
variable {X : Cx} {x : Str} {p pos : Pos} {e : Expr} {es : List Expr} {t : TA} {id T : String} {r : List V → Hp → VK → Prop}
def tCB (r : List V → Hp → VK → Prop) (t : TA) : TE := fun σ H Q => t σ H fun vs H1 => r vs H1 Q
theorem pe_callB (hc : CallR X (.builtin id) r) (hg : Gl X x) (hm : X.mg x = none) (hv : bootBuiltins x = some (.builtin id)) (ha : PA X (e :: es) t) (hn : x ≠ "__name__" := by decide) (hdb : (x == ("__debug__" : Str)) = false := by decide)
    (he : starEach (e :: es) X.env = (false, eval e X.env) :: starEach es X.env := by rfl) (hpl : (backTo pos (starEach es X.env)).any (·.1) = false := by rfl) : PE X (.Call (.Name x p) (e :: es) [] pos) (tCB r t) := by
  intro pins s σ H Q I h
  refine wpAny_Call_Name_kw (ld_blt I hg hm hv ?_ hn hdb)
  exact PyProof.Rows.callWith_builtin1 (thn (ha pos pins s σ H _ I h) fun us s1 ⟨vs, H1, I1, r1, q1⟩ => hc pins s1 σ H1 vs us Q I1 r1 q1) he hpl
end
end L2
namespace HT
open PySem PyProof.Rows
section
variable {prog : Program} {w : World} {A : Around} {E : Value → Shared → Prop} {s : Shared}
theorem cat_tup {t b : Addr} {vs ws : List Value} {Q : Value → Shared → Prop} (ht : IsTup s.heap t vs.toArray) (hb : IsTup s.heap b ws.toArray) (hv : vs ≠ [])
    (h1 : ws = [] → Q (.ref t) s) (h2 : ws ≠ [] → Q (.ref s.heap.objs.size) { s with heap := s.heap.push { cls := .type "tuple", data := .seq (vs ++ ws).toArray } })
    (hsz : vs.length + ws.length ≤ sizeLine) : wpAny (model prog w) A (binaryOp .Add (.ref t) (.ref b)) Q E s := by
  obtain ⟨⟨cls, dd, data, sl⟩, ho, hc, n, hd⟩ := id ht
  obtain ⟨⟨cls2, dd2, data2, sl2⟩, ho2, hc2, n2, hd2⟩ := id hb
  simp only at hc hd hc2 hd2
  subst hc hd hc2 hd2
  have e : vs.toArray ++ ws.toArray = (vs ++ ws).toArray := by simp
  by_cases hw : ws = []
  · exact concat_meets ⟨_, ho, rfl⟩ ⟨_, ho2, rfl⟩ noFill_tuple_add seq_tuple_add PySem.F.slot_tuple_add PySem.F.entry_tuple_add (PySem.F.args_tuple_add_2 _ _)
      (tuple_addW1 t b vs.toArray ws.toArray n n2 dd dd2 sl sl2 (by simpa using hv) (by simp [hw])) ⟨ho, ho2, h1 hw⟩
  · refine concat_meets ⟨_, ho, rfl⟩ ⟨_, ho2, rfl⟩ noFill_tuple_add seq_tuple_add PySem.F.slot_tuple_add PySem.F.entry_tuple_add (PySem.F.args_tuple_add_2 _ _)
      (tuple_addW2 t b vs.toArray ws.toArray n n2 dd dd2 sl sl2 (by simpa using hv) (by simpa using hw) (by rw [List.size_toArray, List.size_toArray]; exact hsz)) ⟨ho, ho2, ?_⟩
    rw [e]
    exact h2 hw
end
end HT
namespace L2
open PySem PySem.Spec PyProof.Rows
section
variable {X : Cx} {e : Expr} {te : TE} {lo hi : Option Expr} {tl th : TO} {pos p2 : Pos}
def rCatT (K : PySem.W.Frag) : R2 := fun x y H Q => ∃ a b xs ys, x = .ref a ∧ y = .ref b ∧ SqT K H a xs ∧ SqT K H b ys ∧ xs ≠ [] ∧ xs.length + ys.length ≤ sizeLine ∧
  (ys = [] → Q (.ref a) H) ∧ (ys ≠ [] → ∀ p, H p = none → Q (.ref p) (upd H p (.tup (xs ++ ys))))
theorem Vals.nil_iff {xs : List V} {us : List Value} (r : Vals xs us) : us = [] ↔ xs = [] := by
  cases r with
  | nil => simp
  | cons _ _ => simp
theorem op_catT : OpR X (binaryOp .Add) (rCatT X.K) := by
  intro pins s σ H x y v u Q I rx ry h
  obtain ⟨a, b, xs, ys, rfl, rfl, ha, hb, hx, hz, q1, q2⟩ := h
  cases rx
  cases ry
  obtain ⟨its, r1, p1, _⟩ := I.tuple ha
  obtain ⟨its2, r2, p2, _⟩ := I.tuple hb
  refine HT.cat_tup p1 p2 (fun z => hx (r1.nil_iff.mp z)) (fun z => ⟨.ref a, H, I, rfl, q1 (r2.nil_iff.mp z)⟩) (fun z => ?_) (by rw [← r1.length, ← r2.length]; exact hz)
  refine ⟨.ref s.heap.objs.size, _, I.laid (t' := s.toks) (o := .tup (xs ++ ys)) (fun b ob q => Heap.get?_push_of_some _ q) (Nat.le_refl _) ?_, rfl, q2 (fun w => z (r2.nil_iff.mpr w)) _ (I.hok.fresh (Nat.le_refl _))⟩
  exact ⟨by rw [List.length_append]; exact hz, _, r1.append r2, IsTup.new _ _, TupN.new _ _⟩
end
end L2
namespace L2
open PySem PySem.Spec PyProof.Rows
def ixN (n : Nat) (i : Int) : Option Nat := if 0 ≤ i then (if i < n then some i.toNat else none) else if -(n : Int) ≤ i then some (i + n).toNat else none
def atI {α : Type} (xs : List α) (i : Int) : Option α := (ixN xs.length i).bind fun j => xs[j]?
theorem ixN_seq {n : Nat} {i : Int} {j : Nat} (h : ixN n i = some j) : seqIndex? i n = some j ∧ j < n ∧ -(n : Int) ≤ i ∧ i < n := by
  unfold ixN at h
  by_cases h0 : 0 ≤ i
  · rw [if_pos h0] at h
    by_cases h1 : i < n
    · rw [if_pos h1] at h
      have e : i.toNat = j := Option.some.inj h
      exact ⟨by rw [seqIndex_of h0 h1, e], by omega, by omega, h1⟩
    · rw [if_neg h1] at h; cases h
  · rw [if_neg h0] at h
    by_cases h1 : -(n : Int) ≤ i
    · rw [if_pos h1] at h
      have e : (i + n).toNat = j := Option.some.inj h
      exact ⟨by rw [seqIndex_neg (by omega) h1, e], by omega, h1, by omega⟩
    · rw [if_neg h1] at h; cases h
theorem atI_get {α : Type} {xs : List α} {i : Int} {v : α} (h : atI xs i = some v) : ∃ j, seqIndex? i xs.length = some j ∧ xs[j]? = some v ∧ j < xs.length ∧ -(xs.length : Int) ≤ i ∧ i < xs.length := by
  unfold atI at h
  cases e : ixN xs.length i with
  | none => rw [e] at h; cases h
  | some j =>
    rw [e] at h
    obtain ⟨h1, h2, h3, h4⟩ := ixN_seq e
    exact ⟨j, h1, h, h2, h3, h4⟩
def PlainIx (b : Expr) : Prop := ∀ o i, subscripted b false o i = operate [o, i] (getItem o i)
def IxR (X : Cx) (r : R2) : Prop :=
  ∀ (value slice : Expr) (pins : List (Addr × Obj)) (s : Shared) (σ : St) (H : Hp) (x y : V) (v u : Value) (Q : VK), Inv X pins σ H s → RelV x v → RelV y u → r x y H Q →
    subscripted slice false v u = operate [v, u] (getItem v u) → wpAny (model X.prog X.w) X.A (subscriptTail value slice v u) (EP X pins σ Q) X.xe s
section
variable {X : Cx} {a b : Expr} {ta tb : TE} {pos : Pos}
theorem IxR.or {r r' : R2} (h : IxR X r) (h' : IxR X r') : IxR X (fun x y H Q => r x y H Q ∨ r' x y H Q) := by
  intro value slice pins s σ H x y v u Q I rx ry q hs
  rcases q with q | q
  · exact h value slice pins s σ H x y v u Q I rx ry q hs
  · exact h' value slice pins s σ H x y v u Q I rx ry q hs
theorem pe_ix {r : R2} (hr : IxR X r) (ha : PE X a ta) (hb : PE X b tb) (hs : PlainIx b) : PE X (.Subscript a b pos) (tOp r ta tb) := by
  intro pins s σ H Q I h
  exact Subscript_ (binT ha hb I h fun v u s2 x y H2 I2 rx ry q => hr a b pins s2 σ H2 x y v u Q I2 rx ry q (hs _ _))
def rIxL (K : PySem.W.Frag) : R2 := fun x y H Q => ∃ p xs i v, x = .ref p ∧ y = .int i ∧ SqL K H p xs ∧ atI xs i = some v ∧ Q v H
def rIxT (K : PySem.W.Frag) : R2 := fun x y H Q => ∃ p xs i v, x = .ref p ∧ y = .int i ∧ SqT K H p xs ∧ atI xs i = some v ∧ Q v H
def rIxS : R2 := fun x y H Q => ∃ z i c, x = .str z ∧ y = .int i ∧ z.length ≤ sizeLine ∧ atI z.cps.toList i = some c ∧ Q (.str ⟨#[c]⟩) H
theorem ix_list : IxR X (rIxL X.K) := by
  intro value slice pins s σ H x y v u Q I rx ry h hs
  obtain ⟨p, xs, i, z, rfl, rfl, hq, he, q⟩ := h
  cases rx
  obtain ⟨t, rfl⟩ := ry
  obtain ⟨its, r, pl, hz⟩ := I.list hq
  obtain ⟨j, h1, h2, h3, h4, h5⟩ := atI_get he
  obtain ⟨w, ew, rw'⟩ := r.get h2
  have hl := r.length
  have hn := line63
  have fin : EP X pins σ Q w s := ⟨z, H, I, rw', q⟩
  by_cases h0 : 0 ≤ i
  · have hj : i.toNat = j := by
      rw [seqIndex_of h0 h5] at h1
      exact Option.some.inj h1
    exact item_listR pl.isList h0 (by omega) (by rw [hj]; simpa using ew) fin hs
  · have hj : (i + (its.toArray.size : Int)).toNat = j := by
      rw [seqIndex_neg (by omega) h4] at h1
      rw [List.size_toArray, ← hl]
      exact Option.some.inj h1
    exact subscriptTail_builtinR (x := w) pl.isList.typeIs slot_list_getitem.lookup
      (wpAny_getItem_list_neg (Q := fun r s' => r = w ∧ EP X pins σ Q r s') pl.isList (by omega) (by rw [List.size_toArray] <;> omega) (by omega) (by rw [hj]; simpa using ew) ⟨rfl, fin⟩) hs
theorem ix_tup : IxR X (rIxT X.K) := by
  intro value slice pins s σ H x y v u Q I rx ry h hs
  obtain ⟨p, xs, i, z, rfl, rfl, hq, he, q⟩ := h
  cases rx
  obtain ⟨t, rfl⟩ := ry
  obtain ⟨its, r, pl, hz⟩ := I.tuple hq
  obtain ⟨j, h1, h2, h3, h4, h5⟩ := atI_get he
  obtain ⟨w, ew, rw'⟩ := r.get h2
  have hl := r.length
  have hn := line63
  have fin : EP X pins σ Q w s := ⟨z, H, I, rw', q⟩
  exact subscriptTail_builtinR (x := w) pl.typeIs slot_tuple_getitem.lookup
    (getItem_tuple (j := j) (Q := fun r s' => r = w ∧ EP X pins σ Q r s') pl (by omega) (by omega) (by rw [List.size_toArray, ← hl]; exact h1) (by simpa using ew) ⟨rfl, fin⟩) hs
theorem ix_str : IxR X rIxS := by
  intro value slice pins s σ H x y v u Q I rx ry h hs
  obtain ⟨z, i, c, rfl, rfl, hz, he, q⟩ := h
  obtain ⟨t, rfl⟩ := rx
  obtain ⟨t', rfl⟩ := ry
  obtain ⟨j, h1, h2, h3, h4, h5⟩ := atI_get he
  have hl : z.cps.toList.length = z.length := by simp [Str.length]
  rw [hl] at h1 h4 h5
  have hn := line63
  exact tail_any (typeIs_str s z t) slot_str_getitem.lookup (getItem_str (c := c) (by
    have e1 : decide (i < -(2 ^ 63 : Int)) = false := decide_eq_false (by omega)
    have e2 : decide (i ≥ 2 ^ 63) = false := decide_eq_false (by omega)
    rw [e1, e2, Bool.or_false]) (by rw [h1]; simpa using h2) ⟨.str ⟨#[c]⟩, H, I.tok _, ⟨_, rfl⟩, q⟩) hs
def rIx (K : PySem.W.Frag) : R2 := fun x y H Q => rIxL K x y H Q ∨ rIxT K x y H Q ∨ rIxS x y H Q
theorem ix_seq : IxR X (rIx X.K) := ix_list.or (ix_tup.or ix_str)
theorem mapSeq_set (its : List Value) (n j : Nat) (u : Value) : Obj.mapSeq (·.setIfInBounds j u) { cls := .type "list", data := .seq its.toArray n } = { cls := .type "list", data := .seq (its.set j u).toArray n } := by
  simp [Obj.mapSeq]
theorem Inv.lst {pins : List (Addr × Obj)} {σ : St} {H : Hp} {s : Shared} {p : Addr} {xs : List V} (I : Inv X pins σ H s) (h : H p = some (.lst xs)) :
    ∃ (its : List Value) (n : Nat), Vals xs its ∧ s.heap.get? p = some { cls := .type "list", data := .seq its.toArray n } ∧ xs.length ≤ sizeLine := by
  obtain ⟨z, its, n, r, e⟩ := I.hok p _ h
  exact ⟨its, n, r, e, z⟩
theorem Inv.lstUpd {pins : List (Addr × Obj)} {σ : St} {H : Hp} {s : Shared} {p : Addr} {xs ys : List V} {its its' : List Value} {n n' : Nat} {f : Obj → Obj} (I : Inv X pins σ H s) (h : H p = some (.lst xs))
    (ho : s.heap.get? p = some { cls := .type "list", data := .seq its.toArray n }) (hf : f { cls := .type "list", data := .seq its.toArray n } = { cls := .type "list", data := .seq its'.toArray n' }) (r : Vals ys its') (hz : ys.length ≤ sizeLine) (t : Nat) :
    Inv X pins σ (upd H p (.lst ys)) { s with heap := s.heap.update p f, toks := t } := by
  have e : (s.heap.update p f).get? p = some { cls := .type "list", data := .seq its'.toArray n' } := by
    rw [Heap.get?_update_self f ho (by rw [hf] <;> rfl), hf]
  refine I.write (x := p) (e := p) (by rw [h]; trivial) (.inl rfl) (fun b u hb q => (Heap.get?_update_other _ _ (Ne.symm hb)).trans q) ⟨_, e⟩ ?_
  exact ⟨hz, its', n', r, e⟩
def rSetL : V → V → V → Hp → (Hp → Prop) → Prop := fun o i v H Q => ∃ p xs k j, o = .ref p ∧ i = .int k ∧ H p = some (.lst xs) ∧ ixN xs.length k = some j ∧ Q (upd H p (.lst (xs.set j v)))
theorem set_list : PSet X rSetL := by
  intro pins s σ H o i v ov iv u Q I ro ri rv h
  obtain ⟨p, xs, k, j, rfl, rfl, hp, hj, q⟩ := h
  cases ro
  obtain ⟨t, rfl⟩ := ri
  obtain ⟨its, n, r, ho, hz⟩ := I.lst hp
  obtain ⟨h1, h2, h3, h4⟩ := ixN_seq hj
  have hl := r.length
  have hn := line63
  have I' : Inv X pins σ (upd H p (.lst (xs.set j v))) { s with heap := s.heap.update p (Obj.mapSeq (·.setIfInBounds j u)) } :=
    I.lstUpd hp ho (mapSeq_set its n j u) (r.set rv j) (by rw [List.length_set]; exact hz) s.toks
  by_cases h0 : 0 ≤ k
  · have hk : k.toNat = j := by
      rw [seqIndex_of h0 h4] at h1
      exact Option.some.inj h1
    exact PySem.W.ki_setAt ho h0 (by omega) (by rw [List.size_toArray, ← hl]; exact h4) (by rw [hk]; exact ⟨_, I', q⟩)
  · have hk : (k + (its.toArray.size : Int)).toNat = j := by
      rw [seqIndex_neg (by omega) h3] at h1
      rw [List.size_toArray, ← hl]
      exact Option.some.inj h1
    exact PySem.W.ki_setBack ho (by omega) (by rw [List.size_toArray, ← hl]; exact h3) (by omega) (by rw [hk]; exact ⟨_, I', q⟩)
theorem call_len_seq : CallR X (.builtin "len") (fun xs H Q => ∃ p ys, xs = [.ref p] ∧ (SqL X.K H p ys ∨ SqT X.K H p ys) ∧ Q (.int ys.length) H) := by
  intro pins s σ H xs us Q I r h
  obtain ⟨p, ys, rfl, hq, q⟩ := h
  obtain ⟨u, rfl, rx⟩ := vals1 r
  cases rx
  have hn := line63
  rcases hq with hq | hq
  · obtain ⟨its, r', pl, hz⟩ := I.list hq
    have hlen := r'.length
    exact Calls.call_len_list pl.isList (by simp only [List.size_toArray] <;> omega) ⟨.int ys.length, H, I.tok _, ⟨s.toks + 1, by rw [List.size_toArray, hlen]⟩, q⟩
  · obtain ⟨its, r', pl, hz⟩ := I.tuple hq
    have hlen := r'.length
    exact len_tuple pl (by simp only [List.size_toArray] <;> omega) ⟨.int ys.length, H, I.tok _, ⟨s.toks + 1, by rw [List.size_toArray, hlen]⟩, q⟩
theorem call_len_str : CallR X (.builtin "len") (fun xs H Q => ∃ z, xs = [.str z] ∧ z.length ≤ sizeLine ∧ Q (.int z.length) H) := by
  intro pins s σ H xs us Q I r h
  obtain ⟨z, rfl, hz, q⟩ := h
  obtain ⟨u, rfl, t, rfl⟩ := vals1 r
  have hn := line63
  exact len_str (by omega) ⟨.int z.length, H, I.tok _, ⟨_, rfl⟩, q⟩
theorem CallR.or {f : Value} {r r' : List V → Hp → VK → Prop} (h : CallR X f r) (h' : CallR X f r') : CallR X f (fun xs H Q => r xs H Q ∨ r' xs H Q) := by
  intro pins s σ H xs us Q I rs q
  rcases q with q | q
  · exact h pins s σ H xs us Q I rs q
  · exact h' pins s σ H xs us Q I rs q
variable {o e : Expr} {es : List Expr} {to : TE} {t : TA} {name : Str} {apos cpos : Pos} {T id : String} {r : V → List V → Hp → VK → Prop}
/- xs.append(e), list.index on a module's tuple .. are MtR facts of 06m -/
end
end L2
namespace L2
open PySem PySem.Spec PyProof.Rows
end L2
namespace Att
open PySem PySem.W PySem.Calls PyProof.Rows
theorem ints_of_wellAll {P : Params} {h : Heap} : ∀ (ns : List Int) (vs : List Value), WellAll P h vs (ns.map WData.int) → IntsAre vs ns := by
  intro ns
  induction ns with
  | nil =>
    intro vs w
    rw [List.map_nil] at w
    cases w
    exact .nil
  | cons n ns ih =>
    intro vs w
    rw [List.map_cons] at w
    cases w with
    | cons a b =>
      cases a
      exact .cons _ _ (ih _ b)
theorem script_of {l : OpenLaw} {n : Nat} (hn : l.most = some n) {P : Params} {h : Heap} {args : List WData} {vals : List Value}
    (hpre : l.row.toRowW.claim.pre args = true) (hwl : WellAll P h vals args) :
    ∃ a vs ns, vals = [Value.ref a] ∧ args = [WData.list (ns.map WData.int)] ∧ h.get? a = some { cls := .type "list", data := .seq vs.toArray } ∧ IntsAre vs ns ∧ ns.length ≤ n := by
  have hsh : WShape.hasAll [] args [.list .int] = true := (pre_splitW hpre).1
  have hc : l.pre.holds [] { args := args } = true := (pre_splitW hpre).2
  obtain ⟨d, r, rfl, h1, h2⟩ := hasAllW_cons hsh
  obtain rfl := hasAllW_nil h2
  obtain ⟨xs, rfl, h3⟩ := hasW_list h1
  obtain ⟨ns, rfl⟩ := items_int h3
  have hlen : ns.length ≤ n := by
    unfold OpenLaw.pre at hc
    have h4 : (WTm.not (.lt (.lit (.int (n : Int))) (.len (.arg 0)))).holds [] { args := [.list (ns.map .int)] } = true := by
      have h4 := (holds_andW hc).1
      rw [hn] at h4
      exact h4
    have h5 := condW_of h4 (w_not (w_lt w_lit (w_len_list (w_arg rfl))))
    rw [List.length_map] at h5
    refine Nat.le_of_not_lt fun q => ?_
    have q' : (n : Int) < ((ns.length : Nat) : Int) := by omega
    first
      | (rw [decide_eq_true q'] at h5; exact absurd h5 (by decide))
      | (simp at h5; omega)
  cases hwl with
  | cons w1 w2 =>
    cases w2
    cases w1 with
    | list ho hall => exact ⟨_, _, ns, rfl, rfl, ho, ints_of_wellAll ns _ hall, hlen⟩
theorem post_true (l : OpenLaw) (args : List WData) : l.row.toRowW.claim.post args (.bool true) args = true :=
  postW_of (r := l.row.toRowW) (X := (true == true))
    (show WShape.has [] (.bool true) .bool = true by first | rfl | decide | simp [WShape.has, WShape.arms, WShape.armsAll])
    (show (WTm.eq .res (.lit (.bool true))).value [] { args := args, res := some (.bool true), after := args } = some (.bool (true == true)) from w_eq_bool (w_res rfl) w_lit) rfl
theorem attach_call {l : OpenLaw} {n : Nat} {q : Program} {loose : List Str} {XP : (Str → Option Value) → Heap → Prop} {YP : World → Heap → Prop} {d : DefRec}
    (hn : l.most = some n) (hdf : d.params.defaults = [])
    (call : ∀ (w : World) (s₀ s₁ : Shared) (mg mb : Str → Option Value) (fa : Addr) (o : Obj) (pm cd doc : Value) (a : Addr) (vs : List Value) (ns : List Int),
      Ground q loose [] XP w s₀ mg mb s₁.heap → YP w s₁.heap →
      s₁.heap.get? fa = some o → o.data = .func (docDef d.name d.params d.body d.scope pm cd doc) → s₁.heap.CodeRec cd d.name → mg d.name = some (.ref fa) →
      s₁.heap.get? a = some { cls := .type "list", data := .seq vs.toArray } → IntsAre vs ns → ns.length ≤ n → s₁.gens = #[] →
      codeAny (model l.prog w) callerA (.call (.ref fa) ⟨[.ref a], []⟩) (fun r s' => r = .ok (.ret (.bool true)) ∧ OldK s₁.heap s'.heap ∧ s'.os = s₁.os ∧ AllBare s'.gens) s₁) :
    WalkO q loose XP YP l.row.toRowW d [] (fun f vs => PySem.call f vs) := by
  intro w s₀ s₁ mg mb G Y fa o pm cd doc dV kV ho hd hcd hD hmg hg args vals as hpre hlay hrd hwl hlo
  obtain rfl : dV = .none := Dflts.none hD hdf
  obtain rfl : kV = .none := Dflts.noKw hD
  obtain ⟨a, vs, ns, rfl, rfl, hobj, hints, hlen⟩ := script_of hn hpre hwl
  refine enter_call (codeAny_mono (call w s₀ s₁ mg mb fa o pm cd doc a vs ns G Y ho (fd_plain hd) hcd hmg hobj hints hlen hg) fun r s' hq => ?_)
  obtain ⟨rfl, h2, h3, h4⟩ := hq
  exact ⟨.inl ⟨.bool true, .bool true, [], rfl, fun _ => rfl, .bool true, post_true l _, fun _ => ⟨List.Pairwise.nil, fun _ hm => (nomatch hm)⟩⟩, h2, h3, h4⟩
end Att
namespace L2
open PySem PySem.Spec PyProof.Rows
theorem vals_ints : ∀ {vs : List Value} {ns : List Int}, IntsAre vs ns → Vals (ns.map V.int) vs
  | _, _, .nil => .nil
  | _, _, .cons n t h => .cons ⟨t, rfl⟩ (vals_ints h)
def Only (H : Hp) : Prop := ∀ b, H b = none ∨ ∃ o xs, H b = some (.frz o (.lst xs))
theorem law_call {P : Program} {w : World} {K : PySem.W.Frag} {mg mb : Str → Option Value} {CX : CXT} {k : Nat} {fa a : Addr} {fd : FuncData} {x : Str} {sp : Sp} {s₁ : Shared} {vs : List Value} {ns : List Int}
    (KX : K.In s₁.heap) (hns : s₁.heap.Ns mainGlobals mg) (hb : s₁.heap.Ns builtinsNs mb) (hbb : ∀ x : Str, x ≠ "__name__" → mb x = bootBuiltins x) (hlim : s₁.heap.NoLimit) (hg : s₁.gens = #[])
    (ha : s₁.heap.get? a = some { cls := .type "list", data := .seq vs.toArray }) (hi : IntsAre vs ns) (hl : ns.length ≤ sizeLine) (hr : Room k callerA)
    (F : ∀ base : Heap, K.In base → base.Ns mainGlobals mg → FnOk P w K mg base CX k fa fd [x] sp) (hbind : ∀ (s : Shared) (u : Value), BindsTo s fd ⟨[u], []⟩ [(x, u)])
    (hsp : ∀ H : Hp, Only H → SqL K H a (ns.map V.int) → sp [.ref a] H (fun v _ => v = .bl true) fun _ _ _ => False)
    (hCX : ∀ H e s', CX [] H s₁ (fun _ _ _ => False) e s' → False) :
    codeAny (model P w) callerA (.call (.ref fa) ⟨[.ref a], []⟩) (fun r s' => r = .ok (.ret (.bool true)) ∧ OldK s₁.heap s'.heap ∧ s'.os = s₁.os ∧ AllBare s'.gens) s₁ := by
  have rv := vals_ints hi
  have lenV := hi.length
  have core : ∀ H : Hp, Only H → SqL K H a (ns.map V.int) → HOk P w H s₁.heap → (∀ b, H b ≠ none → b = a) → (H a ≠ none → K.lookup a = none) →
      codeAny (model P w) callerA (.call (.ref fa) ⟨[.ref a], []⟩) (fun r s' => r = .ok (.ret (.bool true)) ∧ OldK s₁.heap s'.heap ∧ s'.os = s₁.os ∧ AllBare s'.gens) s₁ := by
    intro H hO hS hok hA hK
    have base_of : ∀ {b : Addr} {o : Obj}, s₁.heap.get? b = some o → H b = none → (hidT s₁.heap H).get? b = some o := fun e n => hidT_get e n
    have noA : ∀ {b : Addr} {o : Obj} {es : Array DictEntry} {ep : Nat}, s₁.heap.get? b = some o → o.data = .dict es ep → H b = none := fun {b o es ep} e d => by
      cases q : H b with
      | none => rfl
      | some u =>
        have e' : b = a := hA b (by rw [q]; simp)
        subst e'
        rw [ha] at e; cases e
        have d' : Data.seq vs.toArray _ = Data.dict es ep := d
        cases d'
    have nsK : ∀ {b : Addr} {m : Str → Option Value}, s₁.heap.Ns b m → (hidT s₁.heap H).Ns b m := fun {b m} ⟨o, es, ep, e, d, r⟩ => ⟨o, es, ep, base_of e (noA e d), d, r⟩
    have hKb : K.In (hidT s₁.heap H) := fun b o e => base_of (KX b o e) (by
      cases q : H b with
      | none => rfl
      | some u =>
        have e' : b = a := hA b (by rw [q]; simp)
        subst e'
        rw [hK (by rw [q]; simp)] at e; cases e)
    have hM : Mod K mg (hidT s₁.heap H) := ⟨hKb, nsK hns, ⟨mb, nsK hb, hbb⟩, let ⟨mc, h1, h2⟩ := hlim; ⟨mc, nsK h1, h2⟩⟩
    have e0 : Env0 P w K mg (hidT s₁.heap H) callerA [] s₁ H := ⟨rfl, hM, fun b o e => of_hidT e, Nat.le_of_eq (hidT_size _ _), trivial, fun b hb => absurd (show b ∈ ([] : List Addr) from hb) (by simp), hok, .of_eq hg⟩
    refine codeAny_mono ((F _ hKb (nsK hns)).run callerA [] s₁ H ⟨[.ref a], []⟩ [.ref a] [.ref a] _ _ hr e0 (hbind s₁ (.ref a)) (.cons rfl .nil) (hsp H hO hS)) fun r s' h => ?_
    cases r with
    | error e => exact (hCX H e s' h).elim
    | ok fl =>
      cases fl with
      | next => exact False.elim h
      | brk => exact False.elim h
      | cont => exact False.elim h
      | ret u =>
        obtain ⟨v, H', os, bare, un, hok', r', q⟩ := h
        have q' : v = .bl true := q
        subst q'
        obtain rfl : u = Value.bool true := r'
        refine ⟨rfl, OldK.of_keep fun b o e => ?_, os, bare⟩
        cases q : H b with
        | none => exact un.keep b o e q (by intro z; exact absurd (show b ∈ ([] : List Addr) from z) (by simp)) (by simp)
        | some u =>
          rcases hO b with z | ⟨ob, xs, z⟩
          · rw [q] at z; cases z
          · have z2 := un.frzs b ob _ z
            obtain ⟨e1, _⟩ := hok b _ z
            obtain ⟨e2, _⟩ := hok' b _ z2
            rw [e] at e1; cases e1
            exact e2
  cases hk : K.lookup a with
  | some o =>
    have e := KX a o hk
    rw [ha] at e
    cases e
    refine core (fun _ => none) (fun _ => .inl rfl) (.inr ⟨_, vs.toArray, _, hk, rfl, rfl, rfl, by rw [List.size_toArray, lenV]; exact hl, by simpa using rv⟩) (fun b u z => by have z' : (none : Option HO) = some u := z; cases z') (fun b z => absurd rfl z) fun z => absurd rfl z
  | none =>
    refine core (fun b => if b = a then some (.frz { cls := .type "list", data := .seq vs.toArray } (.lst (ns.map V.int))) else none) (fun b => ?_) (.inl (.inr ⟨{ cls := .type "list", data := .seq vs.toArray }, if_pos rfl⟩)) (fun b u z => ?_) (fun b z => ?_) fun _ => hk
    · by_cases hb : b = a
      · exact .inr ⟨_, _, if_pos hb⟩
      · exact .inl (if_neg hb)
    · by_cases hb : b = a
      · have z' := (if_pos hb).symm.trans z
        cases z'
        subst hb
        exact ⟨ha, by rw [List.length_map]; exact hl, vs, _, rv, ha⟩
      · have z' := (if_neg hb).symm.trans z
        cases z'
    · by_cases hb : b = a
      · exact hb
      · exact absurd (if_neg hb) z
end L2
namespace L2
open PySem PySem.Spec PyProof.Rows
theorem walk_of {l : PySem.W.OpenLaw} {n k : Nat} {q : Program} {loose : List Str} {XP : (Str → Option Value) → Heap → Prop} {YP : World → Heap → Prop} {d : DefRec} {K : Params → PySem.W.Frag} {CX : World → CXT} {sp : World → Sp} {x : Str}
    (hn : l.most = some n) (hn2 : n ≤ sizeLine) (hdf : d.params.defaults = []) (hr : Room k callerA)
    (hY : ∀ (w : World) (h : Heap), YP w h → (K w.params).In h)
    (F : ∀ (w : World) (mg : Str → Option Value) (fa : Addr) (h : Heap), (K w.params).In h → h.Ns mainGlobals mg → mg d.name = some (.ref fa) →
      ∃ fd : FuncData, (∀ (s : Shared) (u : Value), BindsTo s fd ⟨[u], []⟩ [(x, u)]) ∧
        ∀ base : Heap, (K w.params).In base → base.Ns mainGlobals mg → FnOk l.prog w (K w.params) mg base (CX w) k fa fd [x] (sp w))
    (hsp : ∀ (w : World) (H : Hp) (a : Addr) (ns : List Int), ns.length ≤ n → Only H → SqL (K w.params) H a (ns.map V.int) → sp w [.ref a] H (fun v _ => v = .bl true) fun _ _ _ => False)
    (hCX : ∀ (w : World) (H : Hp) (s : Shared) (e : Value) (s' : Shared), CX w [] H s (fun _ _ _ => False) e s' → False) :
    PySem.W.WalkO q loose XP YP l.row.toRowW d [] (fun f vs => PySem.call f vs) := by
  refine Att.attach_call hn hdf fun w s₀ s₁ mg mb fa o pm cd doc a vs ns G Y ho hd hcd hmg hobj hints hlen hg => ?_
  have KX := hY w _ Y
  obtain ⟨fd, hb, hF⟩ := F w mg fa _ KX G.T.g hmg
  exact law_call KX G.T.g G.T.b G.T.builtins G.T.nolimit hg hobj hints (Nat.le_trans hlen hn2) hr hF hb (fun H hO hS => hsp w H a ns hlen hO hS) fun H e s' => hCX w H s₁ e s'
end L2
/- THE LAST THEOREM (shape; LID, My.* are yours):
   My.Adr: a structure of the addresses that your layer names (classes, functions); My.Txt K t: a structure (Prop) of the equations over K;
   My.txt_mk : {K} {implicit addresses ..} (e1 : nsIn K mainGlobals "law" = some (some (.ref f))) (e2 : K.lookup f = some ⟨oc, od, .func (fnOf "law" "law" params body scope dV kV doc pm an cdv ct), sl⟩) (e3 : codeIn K cdv "law" = true) .. : ∃ t, My.Txt K t
set_option maxRecDepth 100000 in
set_option maxHeartbeats 0 in
theorem PySem.Challenge.cw_LID_holds : PySem.Challenge.rw_LID.Holds := by
  w_on; o_law; k_head; (case hw => w_witness2)
  k_fill
  refine L2.walk_of (l := PySem.Challenge.rw_LID) (n := 63) (k := 40) (x := "script") (CX := fun w => ..) (sp := fun _ => My.sp_law) rfl (by decide) rfl ⟨rfl, by decide, by decide⟩ (fun w h Y => PySem.W.kIn_of Y) ?F ?S ?C
  case F =>
    intro w mg fa h KX G hmg
    have T : ∃ t, My.Txt (L2.KOf KX) t := by
      dsimp only [L2.KOf]                          -- K must stand as «<heap const> w.params» for k_is
      refine' My.txt_mk ?e1 ?e2 ?e3 ..
      (case e1 => PySem.W.k_is)                    -- in the order: a name -> its address -> its object -> its parts
      (case e2 => PySem.W.k_is)
      ..
    obtain ⟨t, T⟩ := T
    have e0 := hmg.symm.trans (PySem.W.mg_of KX G T.law)
    cases e0                                       -- fa is the law's own address
    exact ⟨_, fun s u => .of_eq rfl, fun base kb nb => My.law_fn T kb nb⟩     -- if «.of_eq rfl» comes too early: refine' ⟨_, ?b, fun base kb nb => My.law_fn T kb nb⟩; exact fun s u => .of_eq rfl
  case S => exact fun w H a ns hl hO hS => ..
  case C => exact ..
(the tactic k_is has no namespace: write k_is) -/
namespace L2
open PySem PySem.Spec PyProof.Rows
def defArgs (s : Stmt) : Arguments := match s with
  | .FunctionDef _ a _ _ _ _ _ _ _ _ => a
  | _ => { posonlyargs := [], args := [], vararg := none, kwonlyargs := [], kw_defaults := [], kwarg := none, defaults := [] }
def defBody (s : Stmt) : List Stmt := match s with
  | .FunctionDef _ _ b _ _ _ _ _ _ _ => b
  | _ => []
def defScope (s : Stmt) : Scope := match s with
  | .FunctionDef _ _ _ _ _ _ sc _ _ _ => sc
  | _ => { kind := .function, names := [], isGenerator := false, isCoroutine := false }
structure Fun (K : PySem.W.Frag) (x qual : Str) (st : Stmt) (f : Addr) (fd : FuncData) : Prop where
  ex : ∃ (oc : Value) (od : Option Addr) (kV doc pm : Value) (an : Option Addr) (cdv ct : Value) (osl : Array (Option Value)),
    fd = PySem.W.fnOf x qual (defArgs st) (defBody st) (defScope st) .none kV doc pm an cdv ct ∧ K.lookup f = some ⟨oc, od, .func fd, osl⟩ ∧ PySem.W.codeIn K cdv qual = true
  kp : PySem.W.keepIn K (.ref f) = true
section
variable {P : Program} {w : World} {K : PySem.W.Frag} {mg : Str → Option Value} {base : Heap}
theorem Fun.binds {x qual : Str} {st : Stmt} {f : Addr} {fd : FuncData} {ps : List Str} (F : Fun K x qual st f fd)
    (h : ∀ (kV doc pm : Value) (an : Option Addr) (cdv ct : Value) (us : List Value), us.length = ps.length → bindArgs (PySem.W.fnOf x qual (defArgs st) (defBody st) (defScope st) .none kV doc pm an cdv ct) ⟨us, []⟩ = pure (ps.zip us)) : Binds K fd ps [] := by
  obtain ⟨oc, od, kV, doc, pm, an, cdv, ct, osl, rfl, lk, hcd⟩ := F.ex
  exact .all (h kV doc pm an cdv ct)
theorem fun_mk {x qual : Str} {st : Stmt} {f : Addr} {oc : Value} {od an : Option Addr} {osl : Array (Option Value)} {kV doc pm cdv ct : Value} (l : K.lookup f = some ⟨oc, od, .func (PySem.W.fnOf x qual (defArgs st) (defBody st) (defScope st) .none kV doc pm an cdv ct), osl⟩)
    (c : PySem.W.codeIn K cdv qual = true) (k : PySem.W.keepIn K (.ref f) = true) : Fun K x qual st f (PySem.W.fnOf x qual (defArgs st) (defBody st) (defScope st) .none kV doc pm an cdv ct) := ⟨⟨oc, od, kV, doc, pm, an, cdv, ct, osl, rfl, l, c⟩, k⟩
end
theorem iteF {A B : Prop} (h : B) : if false = true then A else B := by
  rw [if_neg Bool.false_ne_true]
  exact h
theorem iteT {A B : Prop} (h : A) : if true = true then A else B := by
  rw [if_pos rfl]
  exact h
def Same (H H' : Hp) : Prop := ∀ b o, H b = some o → H' b = some o
theorem Same.refl (H : Hp) : Same H H := fun _ _ h => h
theorem Same.trans {H H1 H2 : Hp} (a : Same H H1) (b : Same H1 H2) : Same H H2 := fun c o h => b c o (a c o h)
theorem Same.free {H H' : Hp} (e : Same H H') {l : Addr} (h : H' l = Option.none) : H l = Option.none := by
  cases q : H l with
  | none => rfl
  | some o =>
    rw [e l o q] at h
    cases h
theorem Same.seq {K : PySem.W.Frag} {H H' : Hp} {a : Addr} {xs : List V} (e : Same H H') (h : SqL K H a xs) : SqL K H' a xs := by
  rcases h with (h | ⟨o, h⟩) | h
  · exact .inl (.inl (e _ _ h))
  · exact .inl (.inr ⟨o, e _ _ h⟩)
  · exact .inr h
end L2
set_option Elab.async false
set_option linter.all false
set_option maxRecDepth 100000
namespace L2
open PySem PySem.Spec PyProof.Rows
def compCx (X : Cx) (N' : List Str) (scope : Scope) (cl : List (Str × Addr)) (s₂ : Shared) (H₂ : Hp) (fp : List Addr) (C : Addr) : Cx :=
  { X with N := N', s₀ := s₂, H₀ := H₂, env := compEnvC scope cl C X.env, outer := X.stack, ex := fp, fn := fun _ => false, pn := [], xe := fun _ _ => False }
def lobj (ys : List Value) (k : Nat) : Obj := { cls := .type "list", data := .seq ys.toArray k }
section
variable {prog : Program} {w : World} {A : Around} {R : Result → Shared → Prop} {s : Shared}
theorem codeAny_compLoop_own {elt target iter : Expr} {ifs : List Expr} {scope : Scope} {pos : Pos} {it acc : Value} {env : Env} (I : Nat → Shared → Prop)
    (turn : ∀ n s, I n s → wpAny (model prog w) A (pyNext it) (fun r s₁ => match r with
      | none => R (.ok .next) s₁
      | some v => wpAny (model prog w) A (letOwnedTupleGo target it v) (fun _ s₁' => wpAny (model prog w) A (assign target env v) (fun _ s₂ =>
          wpAny (model prog w) A (forIn ifs true fun c r => if r = true then do let ok ← isTrue c env (eval c env); pure (ForInStep.yield ok) else pure (ForInStep.yield r)) (fun ok s₃ =>
            if ok = true then wpAny (model prog w) A (eval elt env) (fun x s₄ =>
              wpAny (model prog w) A (call (.builtin "list.append") [acc, x]) (fun _ s₅ => ∃ m, m < n ∧ I m s₅) (fun _ _ => False) s₄) (fun _ _ => False) s₃
            else ∃ m, m < n ∧ I m s₃) (fun _ _ => False) s₂) (fun _ _ => False) s₁') (fun _ _ => False) s₁) (fun _ _ => False) s)
    (n : Nat) (h : I n s) :
    codeAny (model prog w) A (.compLoop (.ListComp elt [⟨target, iter, ifs, 0⟩] scope pos) 0 it acc env) R s := by
  refine codeAny_loop rfl I (fun n s hI => ?_) n h
  show wpAny _ A ((compTurn (.ListComp elt [⟨target, iter, ifs, 0⟩] scope pos) 0 it acc env).onRaise (fun x => do noteFrame x env; theTreesLotGoes x)) _ _ s
  refine wpAny_noted ?_
  rw [compTurn_list]
  refine wpAny_bind (wpAny_standAt (wpAny_bind (wpAny_mono (turn n s hI) (fun r s₁ h₁ => ?_) fun _ _ h' => h'.elim)))
  cases r with
  | none => exact wpAny_pure h₁
  | some v =>
    refine wpAny_bind (wpAny_mono h₁ (fun _ s₁' h₁' => ?_) fun _ _ h' => h'.elim)
    refine wpAny_bind (wpAny_mono h₁' (fun _ s₂ h₂ => wpAny_bind (wpAny_mono h₂ (fun ok s₃ h₃ => ?_) fun _ _ h' => h'.elim)) fun _ _ h' => h'.elim)
    cases ok with
    | false => exact wpAny_pure ⟨rfl, h₃⟩
    | true =>
      exact wpAny_bind (wpAny_bind (wpAny_mono h₃ (fun x s₄ h₄ => wpAny_bind (wpAny_mono h₄ (fun _ s₅ h₅ => wpAny_pure (wpAny_pure ⟨rfl, h₅⟩)) fun _ _ h' => h'.elim)) fun _ _ h' => h'.elim))
end
def PTs (X : Cx) (ifs : List Expr) (t : TT) : Prop :=
  ∀ (pins : List (Addr × Obj)) (s : Shared) (σ : St) (H : Hp) (Q : Bool → Hp → Prop), Inv X pins σ H s → t σ H Q →
    wpAny (model X.prog X.w) X.A (forIn ifs true fun c r => if r = true then do let ok ← isTrue c X.env (eval c X.env); pure (ForInStep.yield ok) else pure (ForInStep.yield r)) (TP X pins σ Q) X.xe s
theorem pts_nil {X : Cx} : PTs X [] (fun _ H Q => Q true H) := fun _ _ _ H _ I h => wpAny_tests_nil ⟨H, I, h⟩
theorem lookup_relabel {env : Env} : ∀ {names : List (Str × NameKind)} {x : Str},
    (names.map fun (n, k) => if (k == NameKind.free && env.scope.kind == .function && env.kindOf n == some .cell) then (n, NameKind.cell) else (n, k)).lookup x
      = (names.lookup x).map fun k => if (k == NameKind.free && env.scope.kind == .function && env.kindOf x == some .cell) then NameKind.cell else k
  | [], _ => rfl
  | (n, k) :: r, x => by
    have ih := @lookup_relabel env r x
    show List.lookup x ((if (k == NameKind.free && env.scope.kind == .function && env.kindOf n == some .cell) = true then (n, NameKind.cell) else (n, k)) :: _) = _
    cases hx : x == n with
    | true =>
      have e : x = n := by simpa using hx
      subst e
      by_cases hc : (k == NameKind.free && env.scope.kind == .function && env.kindOf x == some .cell) = true
      · rw [if_pos hc]; simp only [List.lookup_cons, hx, Option.map_some, if_pos hc]
      · rw [if_neg hc]; simp only [List.lookup_cons, hx, Option.map_some, if_neg hc]
    | false =>
      by_cases hc : (k == NameKind.free && env.scope.kind == .function && env.kindOf n == some .cell) = true
      · rw [if_pos hc]; simp only [List.lookup_cons, hx]; exact ih
      · rw [if_neg hc]; simp only [List.lookup_cons, hx]; exact ih
theorem closure_of {env : Env} : ∀ (names : List (Str × NameKind)) (acc : List (Str × Addr)), (∀ x ∈ names, x.2 = .free → ∃ c, env.cells.lookup x.1 = some c) →
    (∀ x c, acc.lookup x = some c → env.cells.lookup x = some c) →
    ∃ cl, (forIn names acc fun (x : Str × NameKind) (cs : List (Str × Addr)) => (if (x.2 == NameKind.free) = true then (do let c ← cellOf env x.1; pure (ForInStep.yield ((x.1, c) :: cs))) else pure (ForInStep.yield cs) : Sem (ForInStep (List (Str × Addr))))) = pure cl ∧
      (∀ x c, cl.lookup x = some c → env.cells.lookup x = some c) ∧ (∀ x, (acc.lookup x).isSome → (cl.lookup x).isSome) ∧ ∀ x ∈ names, x.2 = .free → (cl.lookup x.1).isSome
  | [], acc, _, ha => ⟨acc, rfl, ha, fun _ h => h, fun _ h => nomatch h⟩
  | (n, k) :: r, acc, hn, ha => by
    cases hk : (k == NameKind.free) with
    | true =>
      obtain ⟨c, hc⟩ := hn (n, k) List.mem_cons_self (by simpa using hk)
      have ha' : ∀ x d, ((n, c) :: acc).lookup x = some d → env.cells.lookup x = some d := fun x d e => by
        rw [List.lookup_cons] at e
        cases q : x == n with
        | true =>
          rw [q] at e
          have : x = n := by simpa using q
          subst this
          exact hc.trans e
        | false => rw [q] at e; exact ha x d e
      obtain ⟨cl, e, h1, h2, h3⟩ := closure_of r ((n, c) :: acc) (fun x hx => hn x (List.mem_cons_of_mem _ hx)) ha'
      have grow : ∀ x, (acc.lookup x).isSome → (((n, c) :: acc).lookup x).isSome := fun x hx => by
        rw [List.lookup_cons]
        cases q : x == n with
        | true => rfl
        | false => exact hx
      refine ⟨cl, ?_, h1, fun x hx => h2 x (grow x hx), fun x hx hf => ?_⟩
      · rw [List.forIn_cons]
        have q : cellOf env n = pure c := by
          unfold cellOf
          rw [hc]
        simp only [hk, if_true, q]
        exact e
      · rcases List.mem_cons.mp hx with rfl | hx
        · exact h2 _ (by simp [List.lookup_cons])
        · exact h3 x hx hf
    | false =>
      obtain ⟨cl, e, h1, h2, h3⟩ := closure_of r acc (fun x hx => hn x (List.mem_cons_of_mem _ hx)) ha
      refine ⟨cl, ?_, h1, h2, fun x hx hf => ?_⟩
      · rw [List.forIn_cons]
        simp only [hk, Bool.false_eq_true, if_false]
        exact e
      · rcases List.mem_cons.mp hx with rfl | hx
        · exfalso; have : k = .free := hf; subst this; simp at hk
        · exact h3 x hx hf
theorem closure_ex {env : Env} {scope : Scope} (h : ∀ x ∈ scope.names, x.2 = .free → ∃ c, env.cells.lookup x.1 = some c) :
    ∃ cl, closureFor scope env = pure cl ∧ (∀ x c, cl.lookup x = some c → env.cells.lookup x = some c) ∧ ∀ x ∈ scope.names, x.2 = .free → (cl.lookup x.1).isSome := by
  obtain ⟨cl, e, h1, _, h3⟩ := closure_of (env := env) scope.names [] h (fun x c e => by simp at e)
  refine ⟨cl, ?_, h1, h3⟩
  unfold closureFor
  have q : (forIn scope.names [] fun (x : Str × NameKind) (cs : List (Str × Addr)) => (match x with | (name, kind) => if (kind == NameKind.free) = true then (do let c ← cellOf env name; pure (ForInStep.yield ((name, c) :: cs))) else pure (ForInStep.yield cs) : Sem (ForInStep (List (Str × Addr))))) = pure cl := e
  first
    | (simp only [] ; rw [q]; rfl)
    | (show (do let cs ← _; pure cs) = _; rw [q]; rfl)
    | (rw [show (forIn scope.names [] _) = pure cl from q]; rfl)
structure CompOk (X : Cx) (N' : List Str) (k : Nat) (scope : Scope) : Prop where
  kind : scope.kind = .function
  len : N'.length = X.N.length + k
  nocell : ∀ y ∈ scope.names, y.2 ≠ .cell
  names : ∀ y ∈ scope.names, y.2 = .local → scope.names.lookup y.1 = some .local
  outer : ∀ (i : Nat) x, i < X.N.length → N'[i]? = some x → (scope.names.lookup x).isSome → (scope.names.lookup x = some .free ∨ scope.names.lookup x = some .local ∨ scope.names.lookup x = some .cell) → X.N[i]? = some x ∧ scope.names.lookup x = some .free
  free : ∀ y ∈ scope.names, y.2 = .free → X.env.kindOf y.1 = some .cell ∨ X.env.kindOf y.1 = some .free
end L2
set_option Elab.async false
set_option linter.all false
set_option maxRecDepth 100000
namespace L2
open PySem PySem.Spec PyProof.Rows
def tComp (wi : TI) (k : Nat) (g : TG) (tc : TT) (te : TE) : TE := fun σ H Q => wi σ H fun J H1 => ∃ W : Nat → Nat → List V → St → Hp → Prop, (∃ m, W 0 m [] (σ ++ List.replicate k none) H1) ∧
  ∀ i m vs σ' H', W i m vs σ' H' → vs.length ≤ sizeLine ∧
    ((J.stop i H' ∧ ∀ p, H' p = none → Q (.ref p) (upd H' p (.lst vs))) ∨
     (J.go i H' ∧ ∀ x H2, J.yld i H' x H2 → g x σ' H2 fun σ3 H3 => tc σ3 H3 fun b H4 => if b = true then te σ3 H4 fun y H5 => ∃ m', m' < m ∧ W (i + 1) m' (vs ++ [y]) σ3 H5 else ∃ m', m' < m ∧ W (i + 1) m' vs σ3 H4))
section
variable {X : Cx} {pins : List (Addr × Obj)} {σ : St} {H2 : Hp} {s2 : Shared}
theorem HOk.track {P : Program} {w : World} {H : Hp} {h : Heap} {D : Addr} {vs : List V} {ys : List Value} {k : Nat} (x : HOk P w H h) (hn : H D = none) (hl : vs.length ≤ sizeLine) (r : Vals vs ys) (e : h.get? D = some (lobj ys k)) :
    HOk P w (upd H D (.lst vs)) h := fun b u q => by
  by_cases hb : b = D
  · subst hb
    rw [upd_same] at q
    cases q
    exact ⟨hl, ys, k, r, e⟩
  · rw [upd_ne hb] at q
    exact (x b u q).stay (fun _ _ _ z => z) (fun c z => by rw [upd_ne (ne_of_none z hn)]; exact z) fun c xs z => by rw [upd_ne (ne_of_none z hn)]; exact z
theorem comp_core {elt tg iter : Expr} {ifs : List Expr} {scope : Scope} {pos : Pos} {N' : List Str} {k : Nat} {cl : List (Str × Addr)} {J : It} {fp : List Addr} {it : Addr} {tn : Nat → Heap → Prop} {g : TG} {tc : TT} {te : TE} {E : Value → Shared → Prop}
    {RR : Value → Addr → Result → Shared → Prop} {Q : VK}
    (hc : X.calm = true) (S : CompOk X N' k scope) (hcl : ∀ x c, cl.lookup x = some c → X.env.cells.lookup x = some c) (hcf : ∀ x ∈ scope.names, x.2 = .free → (cl.lookup x.1).isSome)
    (I : Inv X pins σ H2 s2) (T : Turn X.prog X.w X.K tg J fp it tn) (st : tn 0 s2.heap) (ff : ∀ b ∈ fp, FpOk X pins H2 b)
    (hg : ∀ C, PG (compCx X N' scope cl s2 H2 fp C) tg g) (ht : ∀ C, PTs (compCx X N' scope cl s2 H2 fp C) ifs tc) (he : ∀ C, PE (compCx X N' scope cl s2 H2 fp C) elt te)
    (rd : ∃ W : Nat → Nat → List V → St → Hp → Prop, (∃ m, W 0 m [] (σ ++ List.replicate k none) H2) ∧
      ∀ i m vs σ' H', W i m vs σ' H' → vs.length ≤ sizeLine ∧
        ((J.stop i H' ∧ ∀ p, H' p = none → Q (.ref p) (upd H' p (.lst vs))) ∨
         (J.go i H' ∧ ∀ x H2, J.yld i H' x H2 → g x σ' H2 fun σ3 H3 => tc σ3 H3 fun b H4 => if b = true then te σ3 H4 fun y H5 => ∃ m', m' < m ∧ W (i + 1) m' (vs ++ [y]) σ3 H5 else ∃ m', m' < m ∧ W (i + 1) m' vs σ3 H4)))
    (hRR : ∀ D C s' H', Inv X pins σ H' s' → (∃ m, s'.heap.Ns C m) → FpOk X pins H' C → Q (.ref D) H' → RR (.ref D) C (.ok .next) s') :
    wpAny (model X.prog X.w) X.A (newList []) (fun acc s₃ => wpAny (model X.prog X.w) X.A (newFunctionEnv scope X.env.globals cl [] X.env.qual none .none (some X.env)) (fun cenv s₄ =>
      codeAny (model X.prog X.w) X.A (.compStart (.ListComp elt [⟨tg, iter, ifs, 0⟩] scope pos) 0 (.ref it) acc { cenv with scope := relabel scope X.env }) (RR acc cenv.locals) s₄) E s₃) E s2 := by
  obtain ⟨W, ⟨m0, w0⟩, turn⟩ := rd
  refine wpAny_newObj_type (wpAny_newFunctionEnv S.nocell (by intro y hy; simp at hy) (fun h₁ hns₁ hsb₁ => ?_) S.kind)
  dsimp only at hns₁ hsb₁ ⊢
  generalize hH2 : s2.heap.push { cls := .type "list", dict := none, data := .seq ([] : List Value).toArray } = G2 at hns₁ hsb₁ ⊢
  have hCs : G2.objs.size = s2.heap.objs.size + 1 := by rw [← hH2, Heap.size_push]
  have hDC : s2.heap.objs.size ≠ G2.objs.size := by rw [hCs]; exact Nat.ne_of_lt (Nat.lt_succ_self _)
  have hCle : s2.heap.objs.size ≤ G2.objs.size := by rw [hCs]; exact Nat.le_succ _
  have below : ∀ b, b < s2.heap.objs.size → b ≠ G2.objs.size ∧ b ≠ s2.heap.objs.size := fun b hb => ⟨by rw [hCs]; exact Nat.ne_of_lt (Nat.lt_succ_of_lt hb), Nat.ne_of_lt hb⟩
  have old : ∀ b o, s2.heap.get? b = some o → h₁.get? b = some o := fun b o e => hsb₁.extBut b o (below b (Heap.lt_size e)).1 (Heap.get?_push_of_some _ (hH2 ▸ Heap.get?_push_of_some _ e))
  have hacc : h₁.get? s2.heap.objs.size = some (lobj [] 0) := hsb₁.extBut _ _ hDC (Heap.get?_push_of_some _ (hH2 ▸ Heap.get?_push_size _ rfl))
  generalize hDe : s2.heap.objs.size = D at *
  generalize hCe : G2.objs.size = C at *
  have fpD : FpOk X pins H2 D := I.fpOk (by rw [hDe]; exact Nat.le_refl _) (I.hok.fresh (by rw [hDe]; exact Nat.le_refl _))
  have fpC : ∀ H', H' C = none → FpOk X pins H' C := fun H' hn => I.fpOk (by rw [hDe]; exact hCle) hn
  have hfpD : ∀ b ∈ fp, b < D := fun b hb => by
    obtain ⟨o, e, _⟩ := T.obj _ _ st b hb
    rw [← hDe]; exact Heap.lt_size e
  have nofr : ∀ b, D ≤ b → b ∉ frs X.stack := fun b hb hm => by
    rcases List.mem_cons.mp (I.stkSub b hm) with e | hm
    · have := I.lt; rw [hDe] at this; rw [e] at hb; exact absurd (Nat.lt_of_lt_of_le this hb) (Nat.lt_irrefl _)
    · exact I.nofs (by rw [hDe]; exact hb) hm
  let X' := compCx X N' scope cl s2 H2 fp C
  have cellLt : ∀ x c, cl.lookup x = some c → c < D := fun x c e => by
    obtain ⟨v, z⟩ := I.cell x c (hcl x c e)
    rw [← hDe]; exact z.lt
  have ok' : X'.Ok := by
    refine ⟨I.ok.mod, S.kind, I.ok.glob, I.ok.blt, ?_, fun x y c e1 e2 => I.ok.inj x y c (hcl _ _ e1) (hcl _ _ e2), fun x hx => ?_, fun x c hf _ => (nomatch hf), I.ok.hd, I.ok.frames, .inl rfl, fun b hb => ⟨?_, fun x c e z => ?_⟩, I.bs, ?_, fun b o e hb => ?_, fun b hb hm => ?_, I.stack, I.stkFree⟩
    · show s2.heap.objs.size ≤ C
      rw [hDe]; exact hCle
    · have hx' : (relabel scope X.env).names.lookup x = some .cell ∨ (relabel scope X.env).names.lookup x = some .free := hx
      have e := lookup_relabel (env := X.env) (names := scope.names) (x := x)
      have e' : (relabel scope X.env).names.lookup x = (scope.names.lookup x).map fun k => if (k == NameKind.free && X.env.scope.kind == .function && X.env.kindOf x == some .cell) then NameKind.cell else k := e
      rw [e'] at hx'
      cases q : scope.names.lookup x with
      | none => rw [q] at hx'; rcases hx' with z | z <;> cases z
      | some kd =>
        have hmem := PySem.mem_of_lookup q
        rw [q] at hx'
        have hkd : kd = .free := by
          by_cases hz : kd = .free
          · exact hz
          · exfalso
            have hb : (kd == NameKind.free) = false := by simpa using hz
            simp only [hb, Bool.false_and, Bool.false_eq_true, if_false, Option.map_some] at hx'
            rcases hx' with z | z
            · exact S.nocell _ hmem (Option.some.inj z)
            · exact hz (Option.some.inj z)
        exact Option.isSome_iff_exists.mp (hcf _ hmem hkd)
    · exact Nat.ne_of_lt (Nat.lt_of_lt_of_le (hfpD b hb) hCle)
    · exact (ff b hb).2.2.2.2.1 x c (hcl x c e) z
    · exact Nat.le_trans I.ok.bsz I.sz
    · obtain ⟨_, _, _, hx, _⟩ := ff b hb
      rcases hx with hx | hx
      · exact I.ok.noex b o e hx
      · exact absurd (Nat.lt_of_lt_of_le (Heap.lt_size (I.ok.bs b o e).1) hx) (Nat.lt_irrefl _)
    · obtain ⟨_, hl, hfs, _⟩ := ff b hb
      rcases List.mem_cons.mp (I.stkSub b hm) with e | hm
      · exact hl e
      · exact hfs hm
  have lenσ : (σ ++ List.replicate k none).length = N'.length := by rw [List.length_append, List.length_replicate, I.len, S.len]
  have I0 : Inv X' [(D, lobj [] 0)] (σ ++ List.replicate k none) H2 { s2 with heap := h₁, toks := s2.toks + ([] : List (Str × Value)).length } := by
    refine ⟨ok', rfl, I.bare, Un.kept old, ⟨_, hns₁, fun i x v e1 e2 e3 => ?_⟩, fun x c e => ?_, I.hok.fresh (by rw [hDe]; exact hCle), fun x c e => I.freeC x c (hcl x c e), fun p hp => ?_, I.hok.kept old, lenσ⟩
    · have hi : i < σ.length := by
        by_cases hi : i < σ.length
        · exact hi
        · rw [List.getElem?_append_right (Nat.not_lt.mp hi), List.getElem?_replicate] at e2
          split at e2 <;> cases e2
      rw [List.getElem?_append_left hi] at e2
      have e' : (relabel scope X.env).names.lookup x = (scope.names.lookup x).map fun k => if (k == NameKind.free && X.env.scope.kind == .function && X.env.kindOf x == some .cell) then NameKind.cell else k := lookup_relabel (env := X.env) (names := scope.names) (x := x)
      have hsome : ∃ kd, scope.names.lookup x = some kd ∧ (kd = .free ∨ kd = .local ∨ kd = .cell) := by
        have e3' : (relabel scope X.env).names.lookup x = some .local ∨ (relabel scope X.env).names.lookup x = some .cell ∨ (relabel scope X.env).names.lookup x = some .free := e3
        rw [e'] at e3'
        cases q : scope.names.lookup x with
        | none => rw [q] at e3'; rcases e3' with z | z | z <;> cases z
        | some kd =>
          refine ⟨kd, rfl, ?_⟩
          rw [q] at e3'
          by_cases hz : kd = .free
          · exact .inl hz
          · have hb : (kd == NameKind.free) = false := by simpa using hz
            simp only [hb, Bool.false_and, Bool.false_eq_true, if_false, Option.map_some, Option.some.injEq] at e3'
            rcases e3' with z | z | z
            · exact .inr (.inl z)
            · exact .inr (.inr z)
            · exact .inl z
      obtain ⟨kd, hk1, hk2⟩ := hsome
      obtain ⟨hN, hfree⟩ := S.outer i x (by rw [← I.len]; exact hi) e1 (by rw [hk1]; rfl) (by rcases hk2 with z | z | z <;> subst z <;> simp [hk1])
      have hmem := PySem.mem_of_lookup hfree
      have hko := S.free _ hmem rfl
      have hkx : X.env.kindOf x = some .cell ∨ X.env.kindOf x = some .free := hko
      obtain ⟨m, hn, hl⟩ := I.loc
      obtain ⟨u, r, lk⟩ := hl i x v hN e2 (by rcases hkx with z | z; exact .inr (.inl z); exact .inr (.inr z))
      refine ⟨u, r, .inr ⟨?_, ?_⟩⟩
      · show (relabel scope X.env).names.lookup x = some .cell ∨ (relabel scope X.env).names.lookup x = some .free
        rw [e', hfree, Option.map_some]
        split
        · exact .inl rfl
        · exact .inr rfl
      · rcases lk with ⟨kl, _⟩ | ⟨_, c, ec, hcell⟩
        · rcases hkx with z | z <;> (rw [z] at kl; cases kl)
        · obtain ⟨c', ec'⟩ := Option.isSome_iff_exists.mp (hcf _ hmem rfl)
          have q := hcl _ _ ec'
          rw [ec] at q
          cases q
          exact ⟨c, ec', hcell.keeps old⟩
    · obtain ⟨v, z⟩ := I.cell x c (hcl x c e)
      exact ⟨v, z.keeps old⟩
    · have hp' : p ∈ ([] : List (Addr × Obj)) ++ [(D, lobj [] 0)] := hp
      have ep : p = (D, lobj [] 0) := by simpa using hp'
      subst ep
      exact ⟨hacc, fpD.1, hDC, nofr D (Nat.le_refl _), fun v z => nomatch z⟩
  have stat : ∀ {H' : Hp} {o : Obj}, (∀ b ∈ fp, H' b = none) → ∀ b ∈ fp, FpOk X' [(D, o)] H' b := fun {H' o} hn b hb => by
    refine ⟨hn b hb, Nat.ne_of_lt (Nat.lt_of_lt_of_le (hfpD b hb) hCle), ok'.exfs b hb, .inl hb, fun x c e z => (ff b hb).2.2.2.2.1 x c (hcl x c e) z, fun p hp => ?_⟩
    have hp' : p ∈ ([] : List (Addr × Obj)) ++ [(D, o)] := hp
    have ep : p = (D, o) := by simpa using hp'
    subst ep
    exact Nat.ne_of_gt (hfpD b hb)
  have loop : ∀ s₃ : Shared, s₃ = { s2 with heap := h₁, toks := s2.toks + ([] : List (Str × Value)).length } →
      codeAny (model X.prog X.w) X.A (.compLoop (.ListComp elt [⟨tg, iter, ifs, 0⟩] scope pos) 0 (.ref it) (.ref D) (compEnvC scope cl C X.env)) (RR (.ref D) C) s₃ := by
    rintro s₃ rfl
    refine codeAny_compLoop_own (fun n s' => ∃ i vs ys kk σ' H', Inv X' [(D, lobj ys kk)] σ' H' s' ∧ tn i s'.heap ∧ (∀ b ∈ fp, H' b = none) ∧ Vals vs ys ∧ W i n vs σ' H') ?_ m0
      ⟨0, [], [], 0, _, H2, I0, T.keep _ _ _ st fun b _ o e => old b o e, fun b hb => (ff b hb).1, .nil, w0⟩
    rintro n s3 ⟨i, vs, ys, kk, σ3, H3, I3, st3, fr3, rv, w3⟩
    obtain ⟨hvl, hcase⟩ := turn i n vs σ3 H3 w3
    have pinD : ∀ {o : Obj} {σ' H' s'}, Inv X' [(D, o)] σ' H' s' → s'.heap.get? D = some o ∧ H' D = none := fun J => ⟨(J.pin _ (List.mem_append_right _ List.mem_cons_self)).1, (J.pin _ (List.mem_append_right _ List.mem_cons_self)).2.1⟩
    rcases hcase with ⟨stop, qn⟩ | ⟨go, step⟩
    · refine thn (T.done X' rfl rfl rfl hc i _ s3 σ3 H3 (fun _ _ => False) I3 (stat fr3) st3 stop) fun r s4 ⟨hr, I4⟩ => ?_
      subst hr
      obtain ⟨gD, nD⟩ := pinD I4
      obtain ⟨m', hm', _⟩ := I4.loc
      have hC4 : H3 C = none := I4.free
      have u0 : Un (frs X.stack) fp H2 H3 s2.heap s4.heap := I4.base
      have neD : ∀ b o, s2.heap.get? b = some o → b ≠ D := fun b o e => by rw [← hDe]; exact Nat.ne_of_lt (Heap.lt_size e)
      have u1 : Un (frs X.stack) fp H2 (upd H3 D (.lst vs)) s2.heap s4.heap :=
        ⟨u0.keep, u0.slot, fun b o e n hx => by rw [upd_ne (neD b o e)]; exact u0.free b o e n hx, u0.there,
          fun b xs e => by have q := u0.tups b xs e; rw [upd_ne (ne_of_none q nD)]; exact q,
          fun b o u e => by have q := u0.frzs b o u e; rw [upd_ne (ne_of_none q nD)]; exact q,
          fun b ps e => by obtain ⟨more, q⟩ := u0.tbls b ps e; exact ⟨more, by rw [upd_ne (ne_of_none q nD)]; exact q⟩⟩
      have I5 : Inv X pins σ (upd H3 D (.lst vs)) s4 := I.call' I4.os u1 (I4.hok.track nD hvl rv gD) I4.bare fun b hb => ⟨(ff b hb).2.2.2.1, (ff b hb).2.1, (ff b hb).2.2.2.2.1, (ff b hb).2.2.2.2.2⟩
      exact hRR D C s4 _ I5 ⟨m', hm'⟩ (fpC _ (by rw [upd_ne (Ne.symm hDC)]; exact hC4)) (qn D nD)
    · refine thn (T.item X' rfl rfl rfl hc i _ s3 σ3 H3 (fun _ _ => False) I3 (stat fr3) st3 go) fun r s4 ⟨u, hr, h4⟩ => ?_
      subst hr
      refine thn h4 fun _ s5 ⟨x, H5, I5, r5, y5, st5, fr5⟩ => ?_
      have I5' := I5.pinned (stat fr5) (T.obj _ _ st5)
      refine thn (hg C _ s5 σ3 H5 x u _ I5' r5 (step x H5 y5)) fun _ s6 ⟨σ6, H6, I6, q6⟩ => ?_
      refine thn (ht C _ s6 σ6 H6 _ I6 q6) fun ok s7 ⟨H7, I7, q7⟩ => ?_
      have unpin : ∀ {σ' H' s'}, Inv X' ([(D, lobj ys kk)] ++ pinsAt fp s5.heap) σ' H' s' → Inv X' [(D, lobj ys kk)] σ' H' s' ∧ tn (i + 1) s'.heap ∧ ∀ b ∈ fp, H' b = none := fun {σ' H' s'} J =>
        ⟨J.unpinned, T.keep _ _ _ st5 fun b hb o e => (J.pin (b, o) (List.mem_append_right _ (List.mem_append_right _ (mem_pinsAt hb e)))).1, fun b hb => by
          obtain ⟨o, e, d⟩ := T.obj _ _ st5 b hb
          exact (J.pin (b, o) (List.mem_append_right _ (List.mem_append_right _ (mem_pinsAt hb e)))).2.1⟩
      cases ok with
      | false =>
        rw [if_neg Bool.false_ne_true]
        rw [if_neg Bool.false_ne_true] at q7
        obtain ⟨m', hm', w7⟩ := q7
        obtain ⟨J1, J2, J3⟩ := unpin I7
        exact ⟨m', hm', i + 1, vs, ys, kk, σ6, H7, J1, J2, J3, rv, w7⟩
      | true =>
        rw [if_pos rfl]
        rw [if_pos rfl] at q7
        refine thn (he C _ s7 σ6 H7 _ I7 q7) fun uy s8 ⟨y, H8, I8, r8, m', hm', w8⟩ => ?_
        obtain ⟨J1, J2, J3⟩ := unpin I8
        obtain ⟨gD, nD⟩ := pinD J1
        refine append_at (hsz := by show ys.toArray.size ≤ sizeLine; rw [List.size_toArray, ← rv.length]; exact hvl) gD fun h9 hs9 hD9 => ?_
        have J1' : Inv X' [] σ6 H8 s8 := J1.pins_of fun p hp => nomatch hp
        have J9 : Inv X' [] σ6 H8 { s8 with heap := h9 } := J1'.turned (t' := s8.toks) (it := D) (fun b o hb e => hs9.extBut b o hb e) nD hDC (.inr (by show s2.heap.objs.size ≤ D; rw [hDe]; exact Nat.le_refl _)) (fun x c e => Nat.ne_of_lt (cellLt x c e)) fun p hp => nomatch hp
        have eo : ({ cls := .type "list", data := .seq (ys.toArray.push uy) (kk + 1) } : Obj) = lobj (ys ++ [uy]) (kk + 1) := by
          unfold lobj
          rw [List.push_toArray]
        refine ⟨m', hm', i + 1, vs ++ [y], ys ++ [uy], kk + 1, σ6, H8, J9.pins_of fun p hp => ?_, T.keep _ _ _ J2 fun b hb o e => hs9.extBut b o (Nat.ne_of_lt (hfpD b hb)) e, J3, rv.append (.cons r8 .nil), w8⟩
        have ep : p = (D, lobj (ys ++ [uy]) (kk + 1)) := by simpa using hp
        subst ep
        exact ⟨by show h9.get? D = _; rw [hD9, eo], nD, hDC, nofr D (Nat.le_refl _), fun v z => nomatch z⟩
  exact codeAny_compStart_list (loop _ rfl) (T.self _ 0 _ _ _ (T.keep _ _ _ st fun b _ o e => old b o e) (loop _ rfl))
end
section
variable {X : Cx}
theorem pe_comp {elt tg iter : Expr} {ifs : List Expr} {scope : Scope} {pos : Pos} {N' : List Str} {k : Nat} {wi : TI} {g : TG} {tc : TT} {te : TE}
    (hc : X.calm = true) (S : CompOk X N' k scope) (hcells : ∀ x ∈ scope.names, x.2 = .free → ∃ c, X.env.cells.lookup x.1 = some c) (hi : PI X tg iter wi)
    (hg : ∀ cl s H fp C, PG (compCx X N' scope cl s H fp C) tg g) (ht : ∀ cl s H fp C, PTs (compCx X N' scope cl s H fp C) ifs tc) (he : ∀ cl s H fp C, PE (compCx X N' scope cl s H fp C) elt te)
    (hs : ∀ x, foldedSetIterable iter X.env x = pure x := by intro _; rfl) :
    PE X (.ListComp elt [⟨tg, iter, ifs, 0⟩] scope pos) (tComp wi k g tc te) := by
  intro pins s σ H Q I h
  obtain ⟨cl, hclos, h1, h2⟩ := closure_ex (env := X.env) (scope := scope) hcells
  rw [eval_ListComp]
  refine wpAny_comprehension_free (use := none) rfl hs hclos S.kind S.names (thn (hi pins s σ H _ I h) fun xv s1 h1' => thn h1' fun itv s2 h2' => ?_)
  obtain ⟨it, fp, tn, J, H2, e, I2, T, st2, f2, rd⟩ := h2'
  subst e
  refine comp_core hc S h1 h2 I2 T st2 f2 (fun C => hg _ _ _ _ C) (fun C => ht _ _ _ _ C) (fun C => he _ _ _ _ C) rd fun D C s' H' I' ⟨m, hm⟩ fC q => ?_
  refine ⟨m, hm, fun h' hs' => ⟨.ref D, H', ?_, rfl, q⟩⟩
  exact I'.turned (t' := s'.toks) (it := C) (fun b o hb e => hs'.extBut b o hb e) fC.1 fC.2.1 fC.2.2.2.1 fC.2.2.2.2.1 fC.2.2.2.2.2
end
end L2
set_option Elab.async false
set_option linter.all false
set_option maxRecDepth 100000
namespace L2
open PySem PySem.Spec PyProof.Rows
section
variable {κ : Type} [DecidableEq κ]
def valV (kvs : List (κ × V)) (k : κ) : Option V := (kvs.find? fun kv => decide (kv.1 = k)).map (·.2)
theorem valV_pos {p : κ × V} {r : List (κ × V)} {k : κ} (e : p.1 = k) : valV (p :: r) k = some p.2 := by simp [valV, List.find?_cons, e]
theorem valV_neg {p : κ × V} {r : List (κ × V)} {k : κ} (e : ¬ p.1 = k) : valV (p :: r) k = valV r k := by simp [valV, List.find?_cons, e]
theorem RelO.getD {o : Option V} {u : Option Value} {d : V} {d' : Value} (r : RelO o u) (rd : RelV d d') : RelV (o.getD d) (u.getD d') := by
  cases o with
  | none => cases u with
    | none => exact rd
    | some _ => exact (show False from r).elim
  | some _ => cases u with
    | none => exact (show False from r).elim
    | some _ => exact r
theorem KV.val {kvs : List (κ × V)} {vs : List (κ × Value)} (r : KV kvs vs) (k : κ) : RelO (valV kvs k) (valueAt vs k) := by
  unfold KV at r
  induction r with
  | nil => exact True.intro
  | @cons p q ps qs h t ih =>
    obtain ⟨h1, h2⟩ := h
    by_cases e : p.1 = k
    · have e' : q.1 = k := h1.symm.trans e
      have b : valueAt (q :: qs) k = some q.2 := by simp [valueAt, List.find?_cons, e']
      rw [valV_pos e, b]; exact h2
    · have e' : ¬ q.1 = k := fun z => e (h1.trans z)
      have b : valueAt (q :: qs) k = valueAt qs k := by simp [valueAt, List.find?_cons, e']
      rw [valV_neg e, b]; exact ih
end
theorem kV_is {P : Program} {w : World} {k : Key} {u : Value} (r : RelV (kV k) u) : (mixKind P w).is k u = true := by
  cases k with
  | inl i => obtain ⟨t, e⟩ := (show ∃ t, u = Value.int i t from r); subst e; exact mixKind_int P w i t
  | inr x => obtain ⟨t, e⟩ := (show ∃ t, u = Value.str x t from r); subst e; exact mixKind_str P w x t
theorem items_are {P : Program} {w : World} : ∀ {ks : List Key} {us : List Value}, Vals (ks.map kV) us → ItemsAre (mixKind P w) ks us
  | [], _, r => by rw [List.map_nil] at r; cases r; exact .nil
  | k :: ks, _, r => by
    rw [List.map_cons] at r
    cases r with
    | cons h t => exact .cons (kV_is h) (items_are t)
abbrev KT (H : Hp) : List (List Key × V) → List (List Key × Addr × Value) → Prop := Paired fun p q => p.1 = q.1 ∧ H q.2.1 = some (.tup (p.1.map kV)) ∧ RelV p.2 q.2.2
theorem KT.val {H : Hp} {kvs : List (List Key × V)} {xs : List (List Key × Addr × Value)} (r : KT H kvs xs) (k : List Key) : RelO (valV kvs k) ((atKey xs k).map (·.2)) := by
  induction r with
  | nil => exact True.intro
  | @cons p q ps qs h t ih =>
    obtain ⟨h1, _, h2⟩ := h
    by_cases e : p.1 = k
    · have e' : q.1 = k := h1.symm.trans e
      have b : atKey (q :: qs) k = some q.2 := by simp [atKey, List.find?_cons, e']
      rw [valV_pos e, b]; exact h2
    · have e' : ¬ q.1 = k := fun z => e (h1.trans z)
      have b : atKey (q :: qs) k = atKey qs k := by simp [atKey, List.find?_cons, e']
      rw [valV_neg e, b]; exact ih
section
variable {P : Program} {w : World} {H : Hp} {h : Heap} {a : Addr}
theorem rd_of {u : HO} (ok : HOk P w H h) (e : Rd H a u) : ObjOk P w H h a u := e.ok ok
theorem dk_rd {kvs : List (Key × V)} (ok : HOk P w H h) (e : Rd H a (.dK kvs)) : kvs.length ≤ sizeLine ∧ (a == sysModules) = false ∧ ∃ vs, KV kvs vs ∧ h.DictOf (mixKind P w) a vs :=
  show ObjOk P w H h a (.dK kvs) from rd_of ok e
theorem dk_of {kvs : List (Key × V)} (ok : HOk P w H h) (e : H a = some (.dK kvs)) : kvs.length ≤ sizeLine ∧ (a == sysModules) = false ∧ ∃ vs, KV kvs vs ∧ h.DictOf (mixKind P w) a vs := dk_rd ok (.inl e)
theorem key_of {ks : List Key} (ok : HOk P w H h) (e : H a = some (.tup (ks.map kV))) : (tupleKind (mixKind P w)).is h ks a := by
  obtain ⟨_, its, r, ⟨o, h1, h2, n, h3⟩, _⟩ := (show ObjOk P w H h a (.tup (ks.map kV)) from ok a _ e)
  exact ⟨o, its.toArray, n, h1, h2, h3, by simpa using items_are r⟩
theorem dt_rd {kvs : List (List Key × V)} (ok : HOk P w H h) (e : Rd H a (.dT kvs)) : kvs.length ≤ sizeLine ∧ (a == sysModules) = false ∧
    ∃ xs, KT H kvs xs ∧ h.DictOfH (tupleKind (mixKind P w)) a xs := by
  obtain ⟨z, y, xs, r, o, es, ep, h1, h2, h3, h4, h5⟩ := (show ObjOk P w H h a (.dT kvs) from rd_of ok e)
  refine ⟨z, y, xs, r, o, es, ep, h1, h2, h3, h4, fun x hx => ?_, h5⟩
  have all : ∀ {l : List (List Key × V)} {m : List (List Key × Addr × Value)}, KT H l m → ∀ x ∈ m, (tupleKind (mixKind P w)).is h x.1 x.2.1 := by
    intro l m q
    induction q with
    | nil => intro x hx; exact nomatch hx
    | @cons p q ps qs hq t ih =>
      intro x hx
      rcases List.mem_cons.mp hx with e | hx
      · subst e
        exact key_of ok (by rw [← hq.1]; exact hq.2.1)
      · exact ih x hx
  exact all r x hx
theorem dt_of {kvs : List (List Key × V)} (ok : HOk P w H h) (e : H a = some (.dT kvs)) : kvs.length ≤ sizeLine ∧ (a == sysModules) = false ∧
    ∃ xs, KT H kvs xs ∧ h.DictOfH (tupleKind (mixKind P w)) a xs := dt_rd ok (.inl e)
end
def DGet (H : Hp) (a : Addr) (y : V) (r : Option V) : Prop :=
  (∃ kvs k, Rd H a (.dK kvs) ∧ y = kV k ∧ r = valV kvs k) ∨ ∃ kvs k b, Rd H a (.dT kvs) ∧ y = .ref b ∧ H b = some (.tup (k.map kV)) ∧ r = valV kvs k
theorem DGet.k {H : Hp} {a : Addr} {kvs : List (Key × V)} {k : Key} (e : H a = some (.dK kvs)) : DGet H a (kV k) (valV kvs k) := .inl ⟨kvs, k, .inl e, rfl, rfl⟩
theorem DGet.t {H : Hp} {a b : Addr} {kvs : List (List Key × V)} {k : List Key} (e : H a = some (.dT kvs)) (eb : H b = some (.tup (k.map kV))) : DGet H a (.ref b) (valV kvs k) := .inr ⟨kvs, k, b, .inl e, rfl, eb, rfl⟩
section
variable {X : Cx} {pins : List (Addr × Obj)} {σ : St} {H : Hp} {s : Shared} {a : Addr} {y v : V} {u r : Value} {o : Option V} {A : Around} {E : Value → Shared → Prop}
theorem d_getItem {Q : Value → Shared → Prop} (hu : A.units + 1 < cLine) (I : Inv X pins σ H s) (g : DGet H a y (some v)) (ry : RelV y u) (h : ∀ w' s', Inv X pins σ H s' → RelV v w' → Q w' s') :
    wpAny (model X.prog X.w) A (getItem (.ref a) u) Q E s := by
  rcases g with ⟨kvs, k, e, ey, l⟩ | ⟨kvs, k, b, e, ey, eb, l⟩
  · subst ey
    obtain ⟨z, hd, vs, rel, dd⟩ := dk_rd I.hok e
    obtain ⟨w', hw, rw'⟩ := RelO.some_of (v := v) (o := valueAt vs k) (by rw [l]; exact rel.val k)
    exact wpAny_getItem_of (kV_is ry) dd.mapOf hw (h w' _ (I.tok _) rw')
  · subst ey
    cases (show u = Value.ref b from ry)
    obtain ⟨z, hd, xs, rel, dd⟩ := dt_rd I.hok e
    obtain ⟨w', hw, rw'⟩ := RelO.some_of (v := v) (o := (atKey xs k).map (·.2)) (by rw [l]; exact rel.val k)
    obtain ⟨p, hp, hp2⟩ := Option.map_eq_some_iff.mp hw
    refine wpAny_getItem_heap (tupleKind_room_in1 hu) (key_of I.hok eb) dd hp ?_
    rw [hp2]
    exact h w' _ (I.tok _) rw'
end
theorem dict_typeIs {X : Cx} {pins : List (Addr × Obj)} {σ : St} {H : Hp} {s : Shared} {a : Addr} {y : V} {o : Option V} (I : Inv X pins σ H s) (g : DGet H a y o) : s.TypeIs (.ref a) "dict" := by
  rcases g with ⟨kvs, k, e, _, _⟩ | ⟨kvs, k, b, e, _, _, _⟩
  · obtain ⟨_, _, vs, _, dd⟩ := dk_rd I.hok e
    exact dd.typeIs
  · obtain ⟨_, _, xs, _, dd⟩ := dt_rd I.hok e
    exact dd.typeIs
structure M2 (X : Cx) (o : Expr) (m : Str) (apos : Pos) (e f : Expr) (cpos : Pos) : Prop where
  base : attributeBase o m X.env (eval o X.env) = eval o X.env
  few : ((backTo cpos (starEach [e, f] X.env)).all (fun x => !x.1) && (backToKw cpos (keywordEach [] X.env)).all (fun x => x.1.isSome)
    && decide (([e, f] : List Expr).length + ([] : List Keyword).length + (if ([] : List Keyword).isEmpty then 0 else 1) < 30)) = true
  line : (apos.endLine == cpos.line) = true
  trees : backTo cpos (starEach [e, f] X.env) = [(false, eval e X.env), (false, eval f X.env)]
def IsD (H : Hp) (a : Addr) : Prop := (∃ kvs, Rd H a (.dK kvs)) ∨ ∃ kvs, Rd H a (.dT kvs)
theorem isD_at {X : Cx} {pins : List (Addr × Obj)} {σ : St} {H : Hp} {s : Shared} {a : Addr} (I : Inv X pins σ H s) (d : IsD H a) :
    s.TypeIs (.ref a) "dict" ∧ (∀ b, Value.ref a = .ref b → ∃ ob, s.heap.get? b = some ob ∧ ob.dict = none) ∧ (a == sysModules) = false := by
  rcases d with ⟨kvs, e⟩ | ⟨kvs, e⟩
  · obtain ⟨_, hd, vs, _, dd⟩ := dk_rd I.hok e
    refine ⟨dd.typeIs, fun b q => ?_, hd⟩
    cases q
    obtain ⟨ob, _, _, h1, h2, _⟩ := dd
    exact ⟨ob, h1, h2.2.1⟩
  · obtain ⟨_, hd, xs, _, dd⟩ := dt_rd I.hok e
    refine ⟨dd.typeIs, fun b q => ?_, hd⟩
    cases q
    obtain ⟨ob, _, _, h1, h2, _⟩ := dd
    exact ⟨ob, h1, h2.2.1⟩
section
variable {X : Cx} {pins : List (Addr × Obj)} {σ : St} {H : Hp} {s : Shared} {a : Addr} {y d : V} {u r : Value} {o : Option V} {A : Around} {E : Value → Shared → Prop}
theorem d_get2 {Q : Value → Shared → Prop} (hu : A.units + 1 < cLine) (I : Inv X pins σ H s) (g : DGet H a y o) (ry : RelV y u) (rd : RelV d r) (h : ∀ w' s', Inv X pins σ H s' → RelV (o.getD d) w' → Q w' s') :
    wpAny (model X.prog X.w) A (call (.builtin "dict.get") [.ref a, u, r]) Q E s := by
  rcases g with ⟨kvs, k, e, ey, l⟩ | ⟨kvs, k, b, e, ey, eb, l⟩
  · subst ey
    obtain ⟨z, hd, vs, rel, dd⟩ := dk_rd I.hok e
    refine call_meetsIn PySem.F.slot_dict_get dd.typeIs PySem.F.entry_dict_get (PySem.F.args_dict_get_3 _ _ _) (meets_dict_get_default (mixKind X.prog X.w) a (kV_is ry) hd r) ⟨_, dd.mapOf, h _ _ (I.tok _) ?_⟩
    rw [l]
    exact (rel.val k).getD rd
  · subst ey
    cases (show u = Value.ref b from ry)
    obtain ⟨z, hd, xs, rel, dd⟩ := dt_rd I.hok e
    refine call_meetsIn PySem.F.slot_dict_get dd.typeIs PySem.F.entry_dict_get (PySem.F.args_dict_get_3 _ _ _) (meetsH_dict_get_default (tupleKind (mixKind X.prog X.w)) a b hd r) ⟨tupleKind_room_in1 hu, k, xs, key_of I.hok eb, dd, h _ _ (I.tok _) ?_⟩
    rw [l]
    exact (rel.val k).getD rd
end
end L2
set_option Elab.async false
set_option linter.all false
set_option maxRecDepth 100000
namespace L4
open PySem PySem.Spec PyProof.Rows L2 PySem.W
def XO (e C : Addr) (dd : Option Addr) : Heap → Prop := fun h => ∃ oe, h.get? e = some oe ∧ oe.cls = .ref C ∧ oe.dict = dd ∧ PySem.W.notCls oe = true
def XD (dx : Addr) (fs : List (Str × V)) : Heap → Prop := fun h => ∃ mA, h.Ns1 dx mA ∧ PySem.Within mA (fs.map (·.1)) ∧ ∀ f, RelO (fs.lookup f) (mA f)
abbrev bmV : List Value := [.type "ValueError", .type "Exception", .type "BaseException", .type "object"]
structure XC (K : Frag) (C D fI : Addr) : Prop where
  obj : ∃ nm q N bs sn sub ab col dd k0 k1 k2 k3 k5, K.lookup C = some (excClassObj nm q C N bs (.ref D :: bmV) true sn sub ab col dd k0 k1 k2 k3 k5 "ValueError.__new__")
  tl : tailIn K bmV (.ref D :: bmV) = true
  ini : findIn K (.ref C) "__init__" = some (some (.ref fI))
  fn : typeIn K (.ref fI) = some (.type "function")
  sa : findIn K (.ref C) "__setattr__" = some (some (.builtin "object.__setattr__"))
  ga : findIn K (.ref C) "__getattribute__" = some (some (.builtin "BaseException.__getattribute__"))
  gr : findIn K (.ref C) "__getattr__" = some none
structure KC (K : Frag) (C : Addr) : Prop where
  ha : findIn K (.ref C) "__class__" = some (some (.builtin "object.__class__"))
  hn : specialIn K (.builtin "object.__class__") "__get__" = some (some (.builtin "getset_descriptor.__get__"))
  htk : takesIn K (.builtin "object.__class__") = some true
def tyOk (T : String) : Bool := T == "bool" || T == "int" || T == "str" || T == "list" || T == "tuple" || T == "dict"
structure XQ (K : Frag) (C : Addr) (x : Str) : Prop where
  ns : nsIn K mainGlobals x = some (some (.ref C))
  xc : ∃ D fI, XC K C D fI
  kc : KC K C
  no : ∀ T, tyOk T = true → kitOne K (.ref C) (.type T) = some false
def FX (F : Hp) (dd : Option Addr) (fv : List (Str × V)) : Prop := (dd = none ∧ fv = []) ∨ ∃ dx, dd = some dx ∧ F dx = some (.ext (XD dx fv))
theorem FX.mono {F F' : Hp} {dd : Option Addr} {fv : List (Str × V)} (e : Same F F') (h : FX F dd fv) : FX F' dd fv := h.imp id fun ⟨dx, h1, h2⟩ => ⟨dx, h1, e _ _ h2⟩
end L4
set_option Elab.async false
set_option linter.all false
set_option maxRecDepth 100000
namespace L3
open PySem PySem.Spec PyProof.Rows L2
abbrev D := PyData
abbrev Fg := PySem.W.Frag
def keyD : Key → D
  | .inl i => .int i
  | .inr x => .str x
def keyT (k : List Key) : D := .tuple (k.map keyD)
mutual
inductive Rep (K : Fg) (F : Hp) : V → D → Prop
  | non : Rep K F .non .none
  | bl (b) : Rep K F (.bl b) (.bool b)
  | int (i) : Rep K F (.int i) (.int i)
  | str (x) : Rep K F (.str x) (.str x)
  | tup {a vs ds} : F a = some (.tup vs) → RepL K F vs ds → Rep K F (.ref a) (.tuple ds)
  | lst {a vs ds} : SqL K F a vs → RepL K F vs ds → Rep K F (.ref a) (.list ds)
  | dct {a kvs es} : F a = some (.dT kvs) → es.map (·.1) = kvs.map (fun p => keyT p.1) → RepL K F (kvs.map (·.2)) (es.map (·.2)) → Rep K F (.ref a) (.dict es)
  | dck {a kvs es} : F a = some (.dK kvs) → es.map (·.1) = kvs.map (fun p => keyD p.1) → RepL K F (kvs.map (·.2)) (es.map (·.2)) → Rep K F (.ref a) (.dict es)
  | exc {a C dd cl fv es} : F a = some (.ext (L4.XO a C dd)) → L4.XQ K C cl → L4.FX F dd fv → es.map (·.1) = fv.map (fun p => .str p.1) → RepL K F (fv.map (·.2)) (es.map (·.2)) → Rep K F (.ref a) (.dict ((.none, .str cl) :: es))
inductive RepL (K : Fg) (F : Hp) : List V → List D → Prop
  | nil : RepL K F [] []
  | cons {v d vs ds} : Rep K F v d → RepL K F vs ds → RepL K F (v :: vs) (d :: ds)
end
mutual
theorem Rep.mono {K : Fg} {F F' : Hp} (e : Same F F') : ∀ {v d}, Rep K F v d → Rep K F' v d
  | _, _, .non => .non
  | _, _, .bl b => .bl b
  | _, _, .int b => .int b
  | _, _, .str b => .str b
  | _, _, .tup h r => .tup (e _ _ h) (RepL.mono e r)
  | _, _, .lst h r => .lst (e.seq h) (RepL.mono e r)
  | _, _, .dct h k r => .dct (e _ _ h) k (RepL.mono e r)
  | _, _, .dck h k r => .dck (e _ _ h) k (RepL.mono e r)
  | _, _, .exc h q f k r => .exc (e _ _ h) q (f.mono e) k (RepL.mono e r)
theorem RepL.mono {K : Fg} {F F' : Hp} (e : Same F F') : ∀ {vs ds}, RepL K F vs ds → RepL K F' vs ds
  | _, _, .nil => .nil
  | _, _, .cons h r => .cons (Rep.mono e h) (RepL.mono e r)
end
theorem RepL.length {K : Fg} {F : Hp} : ∀ {vs ds}, RepL K F vs ds → vs.length = ds.length
  | _, _, .nil => rfl
  | _, _, .cons _ r => by simp [RepL.length r]
theorem RepL.get {K : Fg} {F : Hp} : ∀ {vs ds} {i : Nat} {d : D}, RepL K F vs ds → ds[i]? = some d → ∃ v, vs[i]? = some v ∧ Rep K F v d
  | _, _, _, _, .nil, e => by simp at e
  | _, _, 0, _, .cons h _, e => by simp at e; subst e; exact ⟨_, rfl, h⟩
  | _, _, i + 1, d, .cons _ r, e => by
    obtain ⟨v, h1, h2⟩ := RepL.get (i := i) (d := d) r (by simpa using e)
    exact ⟨v, by simpa using h1, h2⟩
theorem RepL.append {K : Fg} {F : Hp} : ∀ {vs ds us es}, RepL K F vs ds → RepL K F us es → RepL K F (vs ++ us) (ds ++ es)
  | _, _, _, _, .nil, s => s
  | _, _, _, _, .cons h r, s => .cons h (RepL.append r s)
theorem RepL.set {K : Fg} {F : Hp} {v : V} {d : D} (h : Rep K F v d) : ∀ {vs ds} (i : Nat), RepL K F vs ds → RepL K F (vs.set i v) (ds.set i d)
  | _, _, _, .nil => .nil
  | _, _, 0, .cons _ r => .cons h r
  | _, _, i + 1, .cons q r => .cons q (RepL.set h i r)
theorem RepL.ints {K : Fg} {F : Hp} : ∀ (ns : List Int), RepL K F (ns.map V.int) (ns.map PyData.int)
  | [] => .nil
  | n :: r => .cons (.int n) (RepL.ints r)
section
variable {X : Cx} {pins : List (Addr × Obj)} {σ : L2.St} {H : Hp} {s : Shared}
mutual
theorem reads1 (I : Inv X pins σ H s) : ∀ {v d}, Rep X.K H v d → d.canLay0 = true → ∀ {u}, RelV v u → ∃ as, Reads s.heap u d as
  | _, _, .non, _, _, r => by cases r; exact ⟨_, .none⟩
  | _, _, .bl b, _, _, r => by cases r; exact ⟨_, .bool b⟩
  | _, _, .int i, _, _, r => by obtain ⟨t, rfl⟩ := r; exact ⟨_, .int i t⟩
  | _, _, .str x, _, _, r => by obtain ⟨t, rfl⟩ := r; exact ⟨_, .str x t⟩
  | _, _, .tup hq rl, c, _, r => by
    cases r
    obtain ⟨its, rv, ⟨o, e1, e2, n', e3⟩, hz⟩ := I.tuple (SqT.of hq)
    obtain ⟨as, ra⟩ := readsL I rl (by simpa [PyData.canLay0] using c) rv
    exact ⟨_, .tuple e1 e2 e3 (by simpa using ra)⟩
  | _, _, .lst hq rl, c, _, r => by
    cases r
    obtain ⟨its, rv, ⟨o, n', e1, e2, e3, e4⟩, hz⟩ := I.list hq
    obtain ⟨as, ra⟩ := readsL I rl (by simpa [PyData.canLay0] using c) rv
    exact ⟨_, .list e1 e2 e4 (by simpa using ra)⟩
  | _, _, .dct hq hk rl, c, _, r => by simp [PyData.canLay0] at c
  | _, _, .dck hq hk rl, c, _, r => by simp [PyData.canLay0] at c
  | _, _, .exc _ _ _ _ _, c, _, r => by simp [PyData.canLay0] at c
theorem readsL (I : Inv X pins σ H s) : ∀ {vs ds}, RepL X.K H vs ds → PyData.canLayAll0 ds = true → ∀ {us}, Vals vs us → ∃ as, ReadsAll s.heap us ds as
  | _, _, .nil, _, _, r => by cases r; exact ⟨_, .nil⟩
  | _, _, .cons h t, c, _, r => by
    simp only [PyData.canLayAll0, Bool.and_eq_true] at c
    cases r with
    | cons r rr =>
      obtain ⟨as, ra⟩ := reads1 I h c.1 r
      obtain ⟨bs, rb⟩ := readsL I t c.2 rr
      exact ⟨_, .cons ra rb⟩
end
end
theorem reads_of {X : Cx} {pins : List (Addr × Obj)} {σ : L2.St} {H : Hp} {s : Shared} (I : Inv X pins σ H s) :
    (∀ {v d}, Rep X.K H v d → d.canLay0 = true → ∀ {u}, RelV v u → ∃ as, Reads s.heap u d as) ∧ (∀ {vs ds}, RepL X.K H vs ds → PyData.canLayAll0 ds = true → ∀ {us}, Vals vs us → ∃ as, ReadsAll s.heap us ds as) :=
  ⟨fun {v d} h c {u} r => reads1 I h c r, fun {vs ds} h c {us} r => readsL I h c r⟩
def isXe : List (D × D) → Bool
  | (.none, _) :: _ => true
  | _ => false
inductive OC where
  | l (ds : List D)
  | t (es : List (D × D))
  | k (es : List (D × D))
inductive AV where
  | fz (d : D)
  | ol (c : OC)
  | op (c : OC)
abbrev En := List (Option AV)
inductive RV where
  | fz (d : D)
  | fr (c : OC)
  | bor (i : Nat)
def NoTE : HO → Prop
  | .tup _ => False
  | .ext _ => False
  | _ => True
structure Gh where
  P : Nat → Option Addr
  O : Hp
  B : Hp
def Held (K : Fg) (F H : Hp) (a : Addr) : OC → Prop
  | .l ds => ∃ vs, H a = some (.lst vs) ∧ RepL K F vs ds
  | .t es => ∃ kvs, H a = some (.dT kvs) ∧ es.map (·.1) = kvs.map (fun p => keyT p.1) ∧ RepL K F (kvs.map (·.2)) (es.map (·.2))
  | .k es => ∃ kvs, H a = some (.dK kvs) ∧ es.map (·.1) = kvs.map (fun p => keyD p.1) ∧ RepL K F (kvs.map (·.2)) (es.map (·.2))
structure OwnAt (K : Fg) (G : Gh) (F H : Hp) (a : Addr) (c : OC) : Prop where
  nf : F a = none
  no : G.O a = none
  he : Held K F H a c
def own (ρ : En) (i : Nat) (c : OC) : Prop := ρ[i]? = some (some (.ol c)) ∨ ρ[i]? = some (some (.op c))
structure StOk (K : Fg) (G : Gh) (F : Hp) (σ : L2.St) (H : Hp) (ρ : En) : Prop where
  fh : Same F H
  oh : Same G.O H
  fo : ∀ b o, G.O b = some o → F b = none ∧ NoTE o
  ln : σ.length = ρ.length
  fz : ∀ (i : Nat) (d : D), ρ[i]? = some (some (AV.fz d)) → ∃ v, σ[i]? = some (some v) ∧ Rep K F v d
  ow : ∀ (i : Nat) (c : OC), own ρ i c → ∃ a : Addr, σ[i]? = some (some (V.ref a)) ∧ OwnAt K G F H a c
  dj : ∀ (i j : Nat) (c e : OC) (a : Addr), own ρ i c → own ρ j e → σ[i]? = some (some (V.ref a)) → σ[j]? = some (some (V.ref a)) → i = j
  pp : ∀ (i : Nat) (a : Addr), G.P i = some a → σ[i]? = some (some (V.ref a)) ∧ ∃ c, ρ[i]? = some (some (AV.op c))
  pq : ∀ (i : Nat) (c : OC), ρ[i]? = some (some (AV.op c)) → ∃ a, G.P i = some a
  fb : Same G.B F
def RVR (K : Fg) (G : Gh) (F : Hp) (σ : L2.St) (H : Hp) (ρ : En) (v : V) : RV → Prop
  | .fz d => Rep K F v d
  | .fr c => ∃ a, v = .ref a ∧ OwnAt K G F H a c ∧ ∀ (i : Nat) (e : OC), own ρ i e → σ[i]? ≠ some (some (V.ref a))
  | .bor i => ∃ c, own ρ i c ∧ σ[i]? = some (some v)
theorem Held.mono {K : Fg} {F F' H : Hp} {a : Addr} {c : OC} (e : Same F F') (h : Held K F H a c) : Held K F' H a c := by
  cases c with
  | l ds => obtain ⟨vs, h1, h2⟩ := h; exact ⟨vs, h1, h2.mono e⟩
  | t es => obtain ⟨vs, h1, h2, h3⟩ := h; exact ⟨vs, h1, h2, h3.mono e⟩
  | k es => obtain ⟨vs, h1, h2, h3⟩ := h; exact ⟨vs, h1, h2, h3.mono e⟩
theorem Held.some {K : Fg} {F H : Hp} {a : Addr} {c : OC} (h : Held K F H a c) : ∃ o, H a = some o := by
  cases c with
  | l ds => obtain ⟨vs, h1, h2⟩ := h; exact ⟨_, h1⟩
  | t es => obtain ⟨vs, h1, h2⟩ := h; exact ⟨_, h1⟩
  | k es => obtain ⟨vs, h1, h2⟩ := h; exact ⟨_, h1⟩
theorem Held.at {K : Fg} {F H H' : Hp} {a : Addr} {c : OC} (h : Held K F H a c) (e : H' a = H a) : Held K F H' a c := by
  cases c with
  | l ds => obtain ⟨vs, h1, h2⟩ := h; exact ⟨vs, e.trans h1, h2⟩
  | t es => obtain ⟨vs, h1, h2⟩ := h; exact ⟨vs, e.trans h1, h2⟩
  | k es => obtain ⟨vs, h1, h2⟩ := h; exact ⟨vs, e.trans h1, h2⟩
theorem same_upd {F : Hp} {p : Addr} {o : HO} (h : F p = none) : Same F (upd F p o) := fun b u e => by
  rw [upd_ne (ne_of_none e h)]
  exact e
theorem same_upd2 {F H : Hp} {p : Addr} {o : HO} (s : Same F H) (h : F p = none) : Same F (upd H p o) := fun b u e => by
  rw [upd_ne (ne_of_none e h)]
  exact s b u e
section
variable {K : Fg} {G : Gh} {F H : Hp} {σ : L2.St} {ρ : En}
theorem StOk.lay (S : StOk K G F σ H ρ) {p : Addr} {o : HO} (hp : H p = none) : StOk K G F σ (upd H p o) ρ := by
  have fp : F p = none := S.fh.free hp
  have op : G.O p = none := S.oh.free hp
  refine ⟨same_upd2 S.fh fp, same_upd2 S.oh op, S.fo, S.ln, S.fz, fun i c h => ?_, S.dj, S.pp, S.pq, S.fb⟩
  obtain ⟨a, e, oa⟩ := S.ow i c h
  refine ⟨a, e, oa.nf, oa.no, oa.he.at ?_⟩
  obtain ⟨u, hu⟩ := oa.he.some
  exact upd_ne (ne_of_none hu hp)
theorem StOk.fresh_ne (S : StOk K G F σ H ρ) {p : Addr} (hp : H p = none) : ∀ (i : Nat) (e : OC), own ρ i e → σ[i]? ≠ some (some (V.ref p)) := fun i e h q => by
  obtain ⟨a, e1, oa⟩ := S.ow i e h
  rw [e1] at q
  injection q with q; injection q with q; injection q with q
  subst q
  obtain ⟨u, hu⟩ := oa.he.some
  rw [hp] at hu; cases hu
theorem StOk.freeze (S : StOk K G F σ H ρ) {a : Addr} {o : HO} (ha : H a = some o) (fa : F a = none) (oa : G.O a = none) (ne : ∀ (i : Nat) (e : OC), own ρ i e → σ[i]? ≠ some (some (V.ref a))) : StOk K G (upd F a o) σ H ρ := by
  have sm : Same F (upd F a o) := same_upd fa
  refine ⟨fun b u e => ?_, S.oh, fun b u e => ?_, S.ln, fun i d h => ?_, fun i c h => ?_, S.dj, S.pp, S.pq, S.fb.trans sm⟩
  · by_cases hb : b = a
    · subst hb; rw [upd_same] at e; cases e; exact ha
    · rw [upd_ne hb] at e; exact S.fh b u e
  · rw [upd_ne (ne_of_none e oa)]; exact S.fo b u e
  · obtain ⟨v, e, r⟩ := S.fz i d h; exact ⟨v, e, r.mono sm⟩
  · obtain ⟨b, e, ob⟩ := S.ow i c h
    refine ⟨b, e, ?_, ob.no, ob.he.mono sm⟩
    rw [upd_ne (fun z => ne i c h (by rw [e, z]))]
    exact ob.nf
theorem StOk.newTup (S : StOk K G F σ H ρ) {p : Addr} {vs : List V} {ds : List D} (hp : H p = none) (r : RepL K F vs ds) :
    Same F (upd F p (.tup vs)) ∧ StOk K G (upd F p (.tup vs)) σ (upd H p (.tup vs)) ρ ∧ Rep K (upd F p (.tup vs)) (.ref p) (.tuple ds) := by
  have fp : F p = none := S.fh.free hp
  refine ⟨same_upd fp, (S.lay hp).freeze upd_same fp (S.oh.free hp) (S.fresh_ne hp), ?_⟩
  exact .tup upd_same (r.mono (same_upd fp))
theorem StOk.newLst (S : StOk K G F σ H ρ) {p : Addr} {vs : List V} {ds : List D} (hp : H p = none) (r : RepL K F vs ds) :
    StOk K G F σ (upd H p (.lst vs)) ρ ∧ RVR K G F σ (upd H p (.lst vs)) ρ (.ref p) (.fr (.l ds)) :=
  ⟨S.lay hp, p, rfl, ⟨S.fh.free hp, S.oh.free hp, vs, upd_same, r⟩, S.fresh_ne hp⟩
theorem StOk.settle (S : StOk K G F σ H ρ) {v : V} {ds : List D} (r : RVR K G F σ H ρ v (.fr (.l ds))) :
    ∃ F', Same F F' ∧ StOk K G F' σ H ρ ∧ Rep K F' v (.list ds) := by
  obtain ⟨a, rfl, oa, ne⟩ := r
  obtain ⟨vs, h1, h2⟩ := oa.he
  exact ⟨upd F a (.lst vs), same_upd oa.nf, S.freeze h1 oa.nf oa.no ne, .lst (.inl (.inl upd_same)) (h2.mono (same_upd oa.nf))⟩
def OC.d : OC → D
  | .l ds => .list ds
  | .t es => .dict es
  | .k es => .dict es
theorem heldRep {a : Addr} {c : OC} (h : Held K F H a c) : ∃ o, H a = some o ∧ ∀ F', Same F F' → F' a = some o → Rep K F' (.ref a) c.d := by
  cases c with
  | l ds => obtain ⟨vs, h1, h2⟩ := h; exact ⟨_, h1, fun F' s e => .lst (.inl (.inl e)) (h2.mono s)⟩
  | t es => obtain ⟨vs, h1, h2, h3⟩ := h; exact ⟨_, h1, fun F' s e => .dct e h2 (h3.mono s)⟩
  | k es => obtain ⟨vs, h1, h2, h3⟩ := h; exact ⟨_, h1, fun F' s e => .dck e h2 (h3.mono s)⟩
theorem StOk.store (S : StOk K G F σ H ρ) {j : Nat} {v : V} {av : AV} (hj : ∀ c, ρ[j]? ≠ some (some (.op c))) (hl : j < ρ.length)
    (h : (∃ d, av = .fz d ∧ Rep K F v d) ∨ ∃ c, av = .ol c ∧ RVR K G F σ H ρ v (.fr c)) : StOk K G F (σ.set j (some v)) H (ρ.set j (some av)) := by
  have hls : j < σ.length := by rw [S.ln]; exact hl
  have ne : ∀ i, i ≠ j → (ρ.set j (some av))[i]? = ρ[i]? := fun i hi => List.getElem?_set_ne (Ne.symm hi)
  have nes : ∀ i, i ≠ j → (σ.set j (some v))[i]? = σ[i]? := fun i hi => List.getElem?_set_ne (Ne.symm hi)
  have atj : (ρ.set j (some av))[j]? = some (some av) := List.getElem?_set_self hl
  have atjs : (σ.set j (some v))[j]? = some (some v) := List.getElem?_set_self hls
  have owni : ∀ i c, i ≠ j → own (ρ.set j (some av)) i c → own ρ i c := fun i c hi h => by
    unfold own at h ⊢
    rw [ne i hi] at h
    exact h
  refine ⟨S.fh, S.oh, S.fo, by simpa using S.ln, fun i d q => ?_, fun i c q => ?_, fun i k c e a q1 q2 e1 e2 => ?_, fun i a q => ?_, fun i c q => ?_, S.fb⟩
  · by_cases hi : i = j
    · subst hi
      rw [atj] at q
      rcases h with ⟨d', rfl, r⟩ | ⟨c, rfl, _⟩
      · cases q; exact ⟨v, atjs, r⟩
      · cases q
    · rw [ne i hi] at q
      obtain ⟨w, e, r⟩ := S.fz i d q
      exact ⟨w, by rw [nes i hi]; exact e, r⟩
  · by_cases hi : i = j
    · subst hi
      rcases h with ⟨d', rfl, r⟩ | ⟨c', rfl, a, rfl, oa, _⟩
      · rcases q with q | q <;> (rw [atj] at q; cases q)
      · rcases q with q | q
        · rw [atj] at q; cases q; exact ⟨a, atjs, oa⟩
        · rw [atj] at q; cases q
    · obtain ⟨a, e, oa⟩ := S.ow i c (owni i c hi q)
      exact ⟨a, by rw [nes i hi]; exact e, oa⟩
  · by_cases hi : i = j
    · by_cases hk : k = j
      · rw [hi, hk]
      · exfalso
        subst hi
        rw [nes k hk] at e2
        rw [atjs] at e1
        injection e1 with e1; injection e1 with e1
        subst e1
        rcases h with ⟨d', rfl, r⟩ | ⟨c', rfl, a', e, oa, nn⟩
        · rcases q1 with q | q <;> (rw [atj] at q; cases q)
        · injection e with e; subst e
          exact nn k _ (owni k _ hk q2) e2
    · by_cases hk : k = j
      · exfalso
        subst hk
        rw [nes i hi] at e1
        rw [atjs] at e2
        injection e2 with e2; injection e2 with e2
        subst e2
        rcases h with ⟨d', rfl, r⟩ | ⟨c', rfl, a', e, oa, nn⟩
        · rcases q2 with q | q <;> (rw [atj] at q; cases q)
        · injection e with e; subst e
          exact nn i _ (owni i _ hi q1) e1
      · rw [nes i hi] at e1
        rw [nes k hk] at e2
        exact S.dj i k _ _ a (owni i _ hi q1) (owni k _ hk q2) e1 e2
  · obtain ⟨q1, c, q2⟩ := S.pp i a q
    have hi : i ≠ j := by rintro rfl; exact hj c q2
    exact ⟨by rw [nes i hi]; exact q1, c, by rw [ne i hi]; exact q2⟩
  · have hi : i ≠ j := by
      rintro rfl
      rw [atj] at q
      rcases h with ⟨d', rfl, r⟩ | ⟨c', rfl, _⟩ <;> cases q
    rw [ne i hi] at q
    exact S.pq i c q
theorem StOk.change (S : StOk K G F σ H ρ) {j : Nat} {a : Addr} {c c' : OC} {o : HO} (hj : own ρ j c) (ha : σ[j]? = some (some (.ref a))) (hh : Held K F (upd H a o) a c') :
    StOk K G F σ (upd H a o) (ρ.set j ((ρ[j]?.join).map fun | .op _ => .op c' | _ => .ol c')) := by
  obtain ⟨b, e, ob⟩ := S.ow j c hj
  rw [ha] at e
  injection e with e; injection e with e; injection e with e
  subst e
  have hl : j < ρ.length := by rcases hj with h | h <;> exact (List.getElem?_eq_some_iff.mp h).1
  generalize hav : ((ρ[j]?.join).map fun (x : AV) => match x with | .op _ => AV.op c' | _ => AV.ol c') = av
  have ne : ∀ i, i ≠ j → (ρ.set j av)[i]? = ρ[i]? := fun i hi => List.getElem?_set_ne (Ne.symm hi)
  have atj : (ρ.set j av)[j]? = some av := List.getElem?_set_self hl
  have owni : ∀ i e, i ≠ j → own (ρ.set j av) i e → own ρ i e := fun i c hi h => by
    unfold own at h ⊢
    rw [ne i hi] at h
    exact h
  have kind : (ρ[j]? = some (some (.ol c)) ∧ av = some (.ol c')) ∨ (ρ[j]? = some (some (.op c)) ∧ av = some (.op c')) := by
    rcases hj with h | h
    · exact .inl ⟨h, by rw [← hav, h]; rfl⟩
    · exact .inr ⟨h, by rw [← hav, h]; rfl⟩
  have ownj : ∀ e, own (ρ.set j av) j e → e = c' := fun e h => by
    unfold own at h
    rw [atj] at h
    rcases kind with ⟨_, k⟩ | ⟨_, k⟩ <;> rw [k] at h <;> rcases h with h | h <;> cases h <;> rfl
  refine ⟨same_upd2 S.fh ob.nf, same_upd2 S.oh ob.no, S.fo, by simpa using S.ln, fun i d q => ?_, fun i e q => ?_, fun i k c1 e1 b q1 q2 => ?_, fun i b q => ?_, fun i e q => ?_, S.fb⟩
  · by_cases hi : i = j
    · subst hi
      rw [atj] at q
      rcases kind with ⟨_, k⟩ | ⟨_, k⟩ <;> rw [k] at q <;> cases q
    · rw [ne i hi] at q; exact S.fz i d q
  · by_cases hi : i = j
    · subst hi
      have := ownj e q
      subst this
      exact ⟨a, ha, ob.nf, ob.no, hh⟩
    · have q' := owni i e hi q
      obtain ⟨b', e', ob'⟩ := S.ow i e q'
      refine ⟨b', e', ob'.nf, ob'.no, ob'.he.at (upd_ne fun z => hi (S.dj i j _ _ a q' hj (by rw [e', z]) ha))⟩
  · have o1 : ∃ e, own ρ i e := by
      by_cases hi : i = j
      · exact ⟨c, hi ▸ hj⟩
      · exact ⟨_, owni i _ hi q1⟩
    have o2 : ∃ e, own ρ k e := by
      by_cases hk : k = j
      · exact ⟨c, hk ▸ hj⟩
      · exact ⟨_, owni k _ hk q2⟩
    exact S.dj i k _ _ b o1.choose_spec o2.choose_spec
  · obtain ⟨q1, e, q2⟩ := S.pp i b q
    refine ⟨q1, ?_⟩
    by_cases hi : i = j
    · subst hi
      rcases kind with ⟨k1, k⟩ | ⟨k1, k⟩
      · rw [k1] at q2; cases q2
      · exact ⟨c', by rw [atj, k]⟩
    · exact ⟨e, by rw [ne i hi]; exact q2⟩
  · by_cases hi : i = j
    · subst hi
      rcases kind with ⟨k1, k⟩ | ⟨k1, k⟩
      · rw [atj, k] at q; cases q
      · exact S.pq i c k1
    · rw [ne i hi] at q; exact S.pq i e q
end
end L3
set_option Elab.async false
set_option linter.all false
set_option maxRecDepth 100000
namespace L4
open PySem PySem.Spec PyProof.Rows L2 L3
def TbOf (h : Heap) (e b : Addr) : Prop := ∃ oe vs, h.get? e = some oe ∧ oe.data = .fields vs ∧ vs[1]? = some (.ref b)
structure Ent (fs : List Addr) (h h' : Heap) (e T : Addr) (oe : Obj) (ts : Array Value) : Prop where
  keep : ∀ b o, h.get? b = some o → b ∉ fs → b ≠ e → h'.get? b = some o
  slot : ∀ b o, h.get? b = some o → b ≠ e → ∃ sl, h'.get? b = some { o with slots := sl }
  new : h.objs.size ≤ T
  exc : h'.get? e = some (oe.mapFields (·.setIfInBounds 1 (.ref T)))
  way : ∃ oT, h'.get? T = some oT ∧ oT.data = .fields ts
section
variable {M : Model} {A : Around} {E : Value → Shared → Prop} {s : Shared} {base : Heap} {env : Env} {outer : List Env} {L e : Addr} {oe : Obj} {vs : Array Value}
theorem entry_made {top : Value} {nx : Bool} {Q : Unit → Shared → Prop} (hA : A.frames = some (env :: outer)) (hF : s.heap.FunFrames base (env :: outer)) (hL : env.frame = some L)
    (he : s.heap.get? e = some oe) (hd : oe.data = .fields vs) (hz : 1 < vs.size)
    (k : ∀ h' T ts, Ent (frs (env :: outer)) s.heap h' e T oe ts → 3 < ts.size → ts[3]? = some (rawInt L) → Q () { s with heap := h' }) :
    wpAny M A (do let a ← frameOf env; let pl ← entryPlaceOf L nx; let b ← EntryCells.newEntry top a .none (rawInt L) .none pl; setField (.ref e) 1 b) Q E s := by
  have ne : e ∉ frs (env :: outer) := fun z => by
    obtain ⟨_, o, q, r⟩ := hF.mem z
    rw [he] at q; cases q
    exact r vs hd
  refine wpAny_bind (wpAny_frameOf_fun hA hF hL fun h1 so => wpAny_bind (wpAny_entryPlaceOf fun pl ip => ?_))
  simp only [EntryCells.newEntry, newFields]
  refine wpAny_bind (wpAny_newObj_type ?_ (ip.sizeOk5 _ _ _ _ _))
  generalize hts : ([top, .ref L, .none, rawInt L, .none] ++ (if pl.isEmpty then List.replicate 6 Value.none else pl)).toArray = ts
  have z3 : 3 < ts.size := by
    rw [← hts, List.size_toArray, List.length_append]
    simp only [List.length_cons, List.length_nil]
    omega
  have g3 : ts[3]? = some (rawInt L) := by rw [← hts]; simp
  generalize htb : ({ cls := .type "traceback", dict := none, data := .fields ts } : Obj) = tb
  have fr : tb.isFreed = false := by rw [← htb]; rfl
  have e1 : h1.get? e = some oe := by rw [so.2.1 e ne]; exact he
  have lt : e < h1.objs.size := Heap.lt_size e1
  refine wpAny_setField (Heap.get?_push_of_some tb e1) hd hz ?_
  have hd' := Obj.data_mapFields hd (·.setIfInBounds 1 (Value.ref h1.objs.size))
  have up : ∀ b, b ≠ e → ((h1.push tb).update e (Obj.mapFields (·.setIfInBounds 1 (.ref h1.objs.size)))).get? b = (h1.push tb).get? b := fun b hb => Heap.get?_update_other _ _ (Ne.symm hb)
  refine k _ h1.objs.size ts ⟨fun b o q nf nb => ?_, fun b o q nb => ?_, by rw [so.1]; exact Nat.le_refl _, ?_, ⟨tb, ?_, ?_⟩⟩ z3 g3
  · exact (up b nb).trans (Heap.get?_push_of_some _ ((so.2.1 b nf).trans q))
  · obtain ⟨sl, q'⟩ := so.2.2 b o q
    exact ⟨sl, (up b nb).trans (Heap.get?_push_of_some _ q')⟩
  · exact Heap.get?_update_self _ (Heap.get?_push_of_some tb e1) (Obj.isFreed_of_fields hd')
  · exact (up _ (Nat.ne_of_gt lt)).trans (Heap.get?_push_size h1 fr)
  · rw [← htb]
end
structure XS (H : Hp) (h : Heap) (lo : Nat) (e C : Addr) (dd : Option Addr) : Prop where
  yg : lo ≤ e
  trk : H e = some (.ext (XO e C dd))
  obj : ∃ oe vs, h.get? e = some oe ∧ oe.cls = .ref C ∧ oe.dict = dd ∧ oe.data = .fields vs ∧ 1 < vs.size ∧
    (vs[1]? = some .none ∨ ∃ T oT ts, vs[1]? = some (.ref T) ∧ T ≠ e ∧ lo ≤ T ∧ H T = none ∧ h.get? T = some oT ∧ oT.data = .fields ts ∧ ts[3]? = some .none)
structure Mv (fs : List Addr) (h h' : Heap) (e : Addr) : Prop where
  keep : ∀ b o, h.get? b = some o → b ∉ fs → b ≠ e → ¬ TbOf h e b → h'.get? b = some o
  slot : ∀ b o, h.get? b = some o → b ≠ e → ¬ TbOf h e b → ∃ sl, h'.get? b = some { o with slots := sl }
  there : ∀ b o, h.get? b = some o → ∃ o', h'.get? b = some o'
theorem dict_mf (f : Array Value → Array Value) (o : Obj) : (o.mapFields f).dict = o.dict := by
  obtain ⟨c, d, dt, sl⟩ := o
  cases dt <;> rfl
theorem noNot {L : Addr} : ¬ ((Value.none == rawInt L) = true) := by simp [rawInt]
section
variable {M : Model} {A : Around} {E : Value → Shared → Prop} {s : Shared} {base : Heap} {env : Env} {outer : List Env} {L e C : Addr} {dd : Option Addr} {H : Hp} {lo : Nat} {P : Program} {w : World}
theorem flight_off {oe : Obj} {vs : Array Value} {h0 : Heap} {T : Addr} {ts : Array Value} {Q : Unit → Shared → Prop} (en : Ent (frs (env :: outer)) h0 s.heap e T oe ts) (hd : oe.data = .fields vs) (hz : 1 < vs.size) (z3 : 3 < ts.size) (hh : e < h0.objs.size)
    (k : ∀ h', (∀ b, b ≠ T → h'.get? b = s.heap.get? b) → (∃ oT tz, h'.get? T = some oT ∧ oT.data = .fields tz ∧ tz[3]? = some .none) → Q () { s with heap := h' }) : wpAny M A (setFlight (.ref e) none) Q E s := by
  obtain ⟨oT, q1, q2⟩ := en.way
  have d' := Obj.data_mapFields hd (·.setIfInBounds 1 (Value.ref T))
  simp only [setFlight]
  refine wpAny_bind (wpAny_field en.exc d' (x := .ref T) (by simp [hz]) ?_)
  rw [if_pos (by simp)]
  refine wpAny_setField q1 q2 z3 (k _ (fun b hb => Heap.get?_update_other _ _ (Ne.symm hb)) ⟨_, _, Heap.get?_update_self _ q1 (Obj.isFreed_of_fields (Obj.data_mapFields q2 _)), Obj.data_mapFields q2 _, by simp [z3]⟩)
theorem noted_ok {Q : Unit → Shared → Prop} (hA : A.frames = some (env :: outer)) (hF : s.heap.FunFrames base (env :: outer)) (hL : env.frame = some L) (hk : HOk P w H s.heap) (xs : XS H s.heap lo e C dd)
    (k : ∀ h', Mv (frs (env :: outer)) s.heap h' e → XS H h' lo e C dd → (∀ b, TbOf h' e b → s.heap.objs.size ≤ b) → Q () { s with heap := h' }) :
    wpAny M A (noteFrame (.ref e) env) (fun _ s2 => wpAny M A (setFlight (.ref e) none) Q E s2) E s := by
  obtain ⟨oe, vs, he, hc, hdd, hd, hz, tb⟩ := xs.obj
  have elt : e < s.heap.objs.size := Heap.lt_size he
  have hlo : lo ≤ s.heap.objs.size := Nat.le_trans xs.yg (Nat.le_of_lt elt)
  simp only [noteFrame, hL]
  rcases tb with tb | ⟨T, oT, ts, tb, hTe, hTl, hTn, hT, hTd, t3⟩
  · refine wpAny_bind (wpAny_field he hd tb ?_)
    rw [if_neg (by decide)]
    refine entry_made hA hF hL he hd hz fun h1 T1 t1 en z3 g3 => ?_
    refine flight_off (s := { s with heap := h1 }) en hd hz z3 elt fun h2 same way => ?_
    have nT : ∀ b o, s.heap.get? b = some o → b ≠ T1 := fun b o q => Nat.ne_of_lt (Nat.lt_of_lt_of_le (Heap.lt_size q) en.new)
    have d1 := Obj.data_mapFields hd (·.setIfInBounds 1 (Value.ref T1))
    refine k h2 ⟨fun b o q nf nb _ => ?_, fun b o q nb _ => ?_, fun b o q => ?_⟩ ⟨xs.yg, xs.trk, _, _, ?_, ?_, ?_, d1, by simpa using hz, .inr ?_⟩ ?_
    · rw [same b (nT b o q)]; exact en.keep b o q nf nb
    · obtain ⟨sl, z⟩ := en.slot b o q nb
      exact ⟨sl, by rw [same b (nT b o q)]; exact z⟩
    · by_cases nb : b = e
      · subst nb; exact ⟨_, by rw [same _ (nT _ o q)]; exact en.exc⟩
      · obtain ⟨sl, z⟩ := en.slot b o q nb
        exact ⟨_, by rw [same b (nT b o q)]; exact z⟩
    · rw [same e (nT e _ he)]; exact en.exc
    · rw [Obj.cls_mapFields]; exact hc
    · rw [dict_mf]; exact hdd
    · obtain ⟨o1, tz, w1, w2, w3⟩ := way
      exact ⟨T1, o1, tz, by simp [hz], fun z => nT e _ he z.symm, Nat.le_trans hlo en.new, hk.fresh en.new, w1, w2, w3⟩
    · intro b ⟨oe', vs', g1, g2, g3⟩
      rw [same e (nT e _ he), en.exc] at g1
      cases g1
      rw [d1] at g2
      cases g2
      have : Value.ref T1 = Value.ref b := by simpa [hz] using g3
      injection this with this
      rw [← this]
      exact en.new
  · refine wpAny_bind (wpAny_field he hd tb ?_)
    rw [if_pos (by simp)]
    refine wpAny_bind (wpAny_field hT hTd t3 ?_)
    rw [if_neg noNot]
    have z3' : 3 < ts.size := (Array.getElem?_eq_some_iff.mp t3).1
    refine wpAny_bind (wpAny_setField hT hTd z3' ?_)
    have off : ∀ b, b ≠ T → (s.heap.update T (Obj.mapFields (·.setIfInBounds 3 Value.none))).get? b = s.heap.get? b := fun b hb => Heap.get?_update_other _ _ (Ne.symm hb)
    have hF' : (s.heap.update T (Obj.mapFields (·.setIfInBounds 3 Value.none))).FunFrames base (env :: outer) := hF.of_keeps fun b o q r => ⟨o, (off b fun z => by subst z; rw [hT] at q; cases q; exact r ts hTd).trans q, rfl⟩
    have he' : (s.heap.update T (Obj.mapFields (·.setIfInBounds 3 Value.none))).get? e = some oe := (off e (Ne.symm hTe)).trans he
    have zz : (s.heap.update T (Obj.mapFields (·.setIfInBounds 3 Value.none))).objs.size = s.heap.objs.size := Heap.size_update ..
    refine entry_made (s := { s with heap := s.heap.update T (Obj.mapFields (·.setIfInBounds 3 Value.none)) }) hA hF' hL he' hd hz fun h1 T1 t1 en z3 g3 => ?_
    refine flight_off (s := { s with heap := h1 }) en hd hz z3 (by rw [zz]; exact elt) fun h2 same way => ?_
    have nw : s.heap.objs.size ≤ T1 := by have := en.new; rw [zz] at this; exact this
    have nT : ∀ b o, s.heap.get? b = some o → b ≠ T1 := fun b o q => Nat.ne_of_lt (Nat.lt_of_lt_of_le (Heap.lt_size q) nw)
    have isT : TbOf s.heap e T := ⟨oe, vs, he, hd, tb⟩
    have nTT : ∀ b, ¬ TbOf s.heap e b → b ≠ T := fun b z q => z (q ▸ isT)
    have d1 := Obj.data_mapFields hd (·.setIfInBounds 1 (Value.ref T1))
    have T0 : (s.heap.update T (Obj.mapFields (·.setIfInBounds 3 Value.none))).get? T = some (oT.mapFields (·.setIfInBounds 3 Value.none)) := Heap.get?_update_self _ hT (Obj.isFreed_of_fields (Obj.data_mapFields hTd _))
    refine k h2 ⟨fun b o q nf nb nt => ?_, fun b o q nb nt => ?_, fun b o q => ?_⟩ ⟨xs.yg, xs.trk, _, _, ?_, ?_, ?_, d1, by simpa using hz, .inr ?_⟩ ?_
    · rw [same b (nT b o q)]; exact en.keep b o ((off b (nTT b nt)).trans q) nf nb
    · obtain ⟨sl, z⟩ := en.slot b o ((off b (nTT b nt)).trans q) nb
      exact ⟨sl, by rw [same b (nT b o q)]; exact z⟩
    · by_cases nb : b = e
      · subst nb; exact ⟨_, by rw [same _ (nT _ o q)]; exact en.exc⟩
      · by_cases nt : b = T
        · subst nt
          obtain ⟨sl, z⟩ := en.slot b _ T0 nb
          exact ⟨_, by rw [same b (nT b o q)]; exact z⟩
        · obtain ⟨sl, z⟩ := en.slot b o ((off b nt).trans q) nb
          exact ⟨_, by rw [same b (nT b o q)]; exact z⟩
    · rw [same e (nT e _ he)]; exact en.exc
    · rw [Obj.cls_mapFields]; exact hc
    · rw [dict_mf]; exact hdd
    · obtain ⟨o1, tz, w1, w2, w3⟩ := way
      exact ⟨T1, o1, tz, by simp [hz], fun z => nT e _ he z.symm, Nat.le_trans hlo nw, hk.fresh nw, w1, w2, w3⟩
    · intro b ⟨oe', vs', g1, g2, g3⟩
      rw [same e (nT e _ he), en.exc] at g1
      cases g1
      rw [d1] at g2
      cases g2
      have : Value.ref T1 = Value.ref b := by simpa [hz] using g3
      injection this with this
      rw [← this]
      exact nw
theorem leaving_ok {Q : Unit → Shared → Prop} (hA : A.frames = some (env :: outer)) (hF : s.heap.FunFrames base (env :: outer)) (hL : env.frame = some L) (hk : HOk P w H s.heap) (xs : XS H s.heap lo e C dd)
    (k : ∀ h', Mv (frs (env :: outer)) s.heap h' e → XS H h' lo e C dd → Q () { s with heap := h' }) : wpAny M A (leaving env (.ref e)) Q E s := by
  unfold leaving
  exact wpAny_bind (noted_ok hA hF hL hk xs fun h' m x _ => k h' m x)
end
end L4
set_option Elab.async false
set_option linter.all false
set_option maxRecDepth 100000
namespace L4
open PySem PySem.Spec PyProof.Rows L2 L3
section
variable {fs : List Addr} {h h' : Heap} {e C : Addr} {dd : Option Addr} {H : Hp} {lo : Nat} {P : Program} {w : World}
theorem XO.ok {H' : Hp} (x : XO e C dd h) : ObjOk P w H' h e (.ext (XO e C dd)) := by
  obtain ⟨oe, q, r⟩ := x
  exact ⟨⟨oe, q, r⟩, ⟨oe, q⟩, fun h1 h2 ⟨o, z, r⟩ k => ⟨o, k o z, r⟩⟩
theorem XS.xo (xs : XS H h lo e C dd) : XO e C dd h := by
  obtain ⟨oe, vs, q, c, d, z, _⟩ := xs.obj
  exact ⟨oe, q, c, d, by unfold PySem.W.notCls; rw [z]⟩
theorem XS.tb (xs : XS H h lo e C dd) {b : Addr} (t : TbOf h e b) : H b = none ∧ lo ≤ b ∧ b ≠ e ∧ ∃ oT ts, h.get? b = some oT ∧ oT.data = .fields ts := by
  obtain ⟨oe, vs, q, c, d, z, _, k⟩ := xs.obj
  obtain ⟨oe', vs', q', z', k'⟩ := t
  rw [q] at q'; cases q'
  rw [z] at z'; cases z'
  rcases k with k | ⟨T, oT, ts, k, ne, l, n, g, gd, _⟩
  · rw [k] at k'; cases k'
  · rw [k] at k'
    cases k'
    exact ⟨n, l, ne, oT, ts, g, gd⟩
theorem XS.tb_list (xs : XS H h lo e C dd) : ∃ ch : List Addr, ∀ b, b ∈ ch ↔ TbOf h e b := by
  obtain ⟨oe, vs, q, c, d, z, _, k⟩ := xs.obj
  rcases k with k | ⟨T, oT, ts, k, _⟩
  · exact ⟨[], fun b => ⟨fun z => (nomatch z), fun ⟨oe', vs', q', z', k'⟩ => by rw [q] at q'; cases q'; rw [z] at z'; cases z'; rw [k] at k'; cases k'⟩⟩
  · refine ⟨[T], fun b => ⟨fun y => ?_, fun ⟨oe', vs', q', z', k'⟩ => ?_⟩⟩
    · rw [List.mem_singleton.mp y]; exact ⟨oe, vs, q, z, k⟩
    · rw [q] at q'; cases q'
      rw [z] at z'; cases z'
      rw [k] at k'; cases k'
      exact List.mem_singleton.mpr rfl
theorem Mv.hok (m : Mv fs h h' e) (ok : HOk P w H h) (xs : XS H h lo e C dd) (xs' : XS H h' lo e C dd) (hf : ∀ b ∈ fs, H b = none) : HOk P w H h' := fun a o q => by
  by_cases ae : a = e
  · subst ae
    rw [xs.trk] at q; cases q
    exact xs'.xo.ok
  · refine (ok a o q).stay (fun b u hb z => ?_) (fun _ z => z) fun _ _ z => z
    have hbH : ∃ v, H b = some v := by
      rcases hb with rfl | hb
      · exact ⟨o, q⟩
      · exact ⟨_, hb⟩
    obtain ⟨v, hv⟩ := hbH
    refine m.keep b u z (fun y => by rw [hf b y] at hv; cases hv) (fun y => ?_) fun y => by rw [(xs.tb y).1] at hv; cases hv
    subst y
    rcases hb with rfl | hb
    · exact ae rfl
    · rw [xs.trk] at hb; cases hb
theorem Mv.un {ch : List Addr} (m : Mv fs h h' e) (xs : XS H h lo e C dd) (hc : ∀ b, b ∈ ch ↔ TbOf h e b) : Un fs ch H H h h' where
  keep := fun b o q n hb hx => m.keep b o q hb (fun z => by subst z; rw [xs.trk] at n; cases n) fun z => hx ((hc b).mpr z)
  slot := fun b o q n hb hx => m.slot b o q (fun z => by subst z; rw [xs.trk] at n; cases n) fun z => hx ((hc b).mpr z)
  free := fun _ _ _ n _ => n
  there := fun b o q _ => m.there b o q
  tups := fun _ _ z => z
  frzs := fun _ _ _ z => z
  tbls := fun b ps z => ⟨#[], by rw [z]; simp⟩
end
section
variable {X : Cx} {pins : List (Addr × Obj)} {σ : L2.St} {H : Hp} {s : Shared} {h' : Heap} {e C : Addr} {dd : Option Addr} {lo : Nat}
theorem Inv.mv (I : Inv X pins σ H s) (m : Mv (frs X.stack) s.heap h' e) (xs : XS H s.heap lo e C dd) (xs' : XS H h' lo e C dd) (hlo : X.s₀.heap.objs.size ≤ lo) (hp : ∀ p ∈ X.pn ++ pins, ¬ TbOf s.heap e p.1) (t' : Nat) : Inv X pins σ H { s with heap := h', toks := t' } := by
  obtain ⟨ch, hc⟩ := xs.tb_list
  refine I.call (g' := s.gens) (d' := s.drawn) (t' := t') (m.un xs hc) (m.hok I.hok xs xs' I.stkFree) I.bare fun b hb => ?_
  have tb := (hc b).mp hb
  obtain ⟨n, l, ne, oT, ts, g, gd⟩ := xs.tb tb
  refine ⟨.inr (Nat.le_trans hlo l), fun z => ?_, fun x c q z => ?_, fun p hp' z => hp p hp' (z ▸ tb)⟩
  · subst z
    obtain ⟨m, ⟨o, es, ep, ho, hd, _⟩, _⟩ := I.loc
    rw [g] at ho; cases ho
    rw [gd] at hd; cases hd
  · subst z
    obtain ⟨v, o, ho, hd⟩ := I.cell x c q
    rw [g] at ho; cases ho
    rw [gd] at hd; cases hd
end
def CX1 (P : Program) (w : World) : CXT := fun outer H s E e s' => ∃ a C dd H', e = .ref a ∧ s'.os = s.os ∧ AllBare s'.gens ∧ Un (frs outer) [] H H' s.heap s'.heap ∧ HOk P w H' s'.heap ∧ XS H' s'.heap s.heap.objs.size a C dd ∧ E (.ref C) dd H'
theorem leave_x {P : Program} {w : World} {K : Fg} {mg : Str → Option Value} {base : Heap} {N : List Str} {qual : Str} {scope : Scope} {f : Addr} {cd : Value} {A : Around} {outer : List Env} {s : Shared} {H : Hp} {E : XK}
    {pins : List (Addr × Obj)} {σ : L2.St} {H' : Hp} {s' : Shared} {a C : Addr} {dd : Option Addr} (I : Inv (cxOf (CX1 P w) P w K mg base N qual scope f cd A outer s H E) pins σ H' s') (xs : XS H' s'.heap s.heap.objs.size a C dd) (hE : E (.ref C) dd H') :
    (cxOf (CX1 P w) P w K mg base N qual scope f cd A outer s H E).xe (.ref a) s' := by
  have hF := I.stack
  have hS := I.stkFree
  refine leaving_ok (base := base) (L := s.heap.objs.size) (P := P) (w := w) (s := s') I.ok.frames hF rfl I.hok xs fun h1 m xs1 => ?_
  have un : Un (frs outer) [] H H' s.heap s'.heap := I.base
  have lt : ∀ b o, s.heap.get? b = some o → b < s.heap.objs.size := fun b o q => Heap.lt_size q
  have ne : ∀ b o, s.heap.get? b = some o → b ≠ a := fun b o q => Nat.ne_of_lt (Nat.lt_of_lt_of_le (lt b o q) xs.yg)
  have nt : ∀ b o, s.heap.get? b = some o → ¬ TbOf s'.heap a b := fun b o q z => absurd (Nat.lt_of_lt_of_le (lt b o q) (xs.tb z).2.1) (Nat.lt_irrefl _)
  refine ⟨a, C, dd, H', rfl, I.os, I.bare, ⟨fun b o q n hb hx => ?_, fun b o q n hb hx => ?_, un.free, fun b o q hx => ?_, un.tups, un.frzs, un.tbls⟩, m.hok I.hok xs xs1 hS, xs1, hE⟩
  · refine m.keep b o (un.keep b o q n hb hx) (fun z => ?_) (ne b o q) (nt b o q)
    rcases List.mem_cons.mp (I.stkSub b z) with y | y
    · exact absurd (lt b o q) (by rw [y]; exact Nat.lt_irrefl _)
    · exact hb y
  · obtain ⟨sl, z⟩ := un.slot b o q n hb hx
    obtain ⟨sl', z'⟩ := m.slot b _ z (ne b o q) (nt b o q)
    exact ⟨sl', z'⟩
  · obtain ⟨o', z⟩ := un.there b o q hx
    exact m.there b o' z
end L4
set_option Elab.async false
set_option linter.all false
set_option maxRecDepth 100000
namespace L4
open PySem PySem.Spec PyProof.Rows L2 L3 PySem.W
section
variable {prog : Program} {w : World} {A : Around} {E : Value → Shared → Prop} {s : Shared} {K : Frag} {x C : Addr} {ox : Obj} {od : Option Obj} {name : Str} {expr : Bool} {Q : Value → Shared → Prop}
theorem get_exc {v : Value} (X : K.In s.heap) (I : PySem.W.InstAt s.heap x ox C od) (hga : findIn K (.ref C) "__getattribute__" = some (some (.builtin "BaseException.__getattribute__"))) (hgr : findIn K (.ref C) "__getattr__" = some none) (hb : mroIn K C (.type "BaseException") = some true)
    (hf : findObj K C od name = some (.value v)) (hh : handedIn v = true) (h : Q v { s with toks := s.toks + 1 }) : wpAny (model prog w) A (getAttr (.ref x) name expr) Q E s := by
  obtain ⟨hp, g, d, t, os⟩ := s
  have L0 := I.type (M := model prog w)
  have L1 := looks_findIn (M := model prog w) X hga
  have L2 := looks_findIn (M := model prog w) X hgr
  have L3 := looks_find (M := model prog w) X I hf
  have L4 := looks_mroIn (M := model prog w) X hb
  have bnd := F.attr_ValueError.ga.bind (.ref x)
  have ok := F.args_bexc_ga (.ref x) (.str name t)
  have kd : builtinKind "BaseException.__getattribute__" = some .slot := by decide +kernel
  have sp : splitId "BaseException.__getattribute__" = some ("BaseException", "__getattribute__") := by decide +kernel
  unfold getAttr getAttrBy
  refine wpAny_bind (wpAny_mkText (wpAny_holding (wpAny_bind (L0.at (wpAny_bind (L1.at ?_))))))
  show wpAny _ _ (getAttrByItsOwn _ _ _ _ _ _) _ _ _
  unfold getAttrByItsOwn
  repeat (any_goals (first | assumption | with_reducible refine L0.at ?_ | with_reducible refine L2.at ?_ | wp_step))
  rw [if_neg (by cases expr <;> decide)]
  unfold boundAndCalled
  rw [bnd]
  repeat (any_goals (first | assumption | with_reducible refine L0.at ?_ | with_reducible refine L2.at ?_ | wp_step))
  refine codeAny_call_builtin F.attr_ValueError.ga.plain F.entry_bexc_ga ?_
  simp only [checkBuiltinCall, kd, sp]
  refine wpAny_bind ?_
  unfold isInstance
  refine wpAny_bind (L0.at (L4.at ?_))
  repeat (any_goals (first | assumption | with_reducible refine L0.at ?_ | with_reducible refine L3.at ?_ | wp_step))
  show wpAny _ _ (handedOut v) _ _ _
  rw [handedOut_of hh]
  exact wpAny_pure h
end
section
variable {prog : Program} {w : World} {A : Around} {E : Value → Shared → Prop} {s : Shared} {K : Frag} {x C D : Addr} {ox : Obj} {name : Str} {v : Value} {Q : Unit → Shared → Prop}
theorem set_exc1 {cd : ClassData} {bmB : List Value} (X : K.In s.heap) (hx : s.heap.get? x = some ox) (hc : ox.cls = .ref C) (hn : notCls ox = true) (hdn : ox.dict = none) (hs : findIn K (.ref C) "__setattr__" = some (some (.builtin "object.__setattr__")))
    (hcd : clsIn K C = some cd) (hm : cd.mro = .ref C :: .ref D :: [.type "ValueError", .type "Exception", .type "BaseException", .type "object"]) (hd : cd.hasDict = true) (hna : findIn K (.ref C) name = some none)
    (h : ∀ h' dx tk, s.heap.objs.size ≤ dx → h'.Ns1 dx (fun y => if y = name then some v else none) → h'.get? x = some { ox with dict := some dx } → (∀ b o, b ≠ x → s.heap.get? b = some o → h'.get? b = some o) → Q () { s with heap := h', toks := tk }) :
    wpAny (model prog w) A (setAttr (.ref x) name v) Q E s := by
  obtain ⟨hp, g, d, t, os⟩ := s
  obtain ⟨oc, odi, oda, osl⟩ := ox
  dsimp only at hc hdn
  subst hc hdn
  have I : PySem.W.InstAt hp x ⟨.ref C, none, oda, osl⟩ C none := ⟨hx, rfl, hn, trivial⟩
  refine PySem.W.set_plain X I hs ?_
  have SF := F.store_ValueError
  have L0 := I.type (M := model prog w)
  have L1 := looks_findIn (M := model prog w) X hna
  have L4 := looks_mroIn (M := model prog w) (r := true) X (C := C) (base := .type "object") (by unfold mroIn; rw [hcd, Option.bind_some, hm]; rfl)
  have LC := looks_clsIn (M := model prog w) X hcd
  have pass := SF.passes (.ref x)
  have ok := SF.args (.ref x) (.str name t) v
  refine codeAny_call_builtin SF.slot.plain SF.entry ?_
  simp only [checkBuiltinCall, SF.kind, SF.split]
  refine wpAny_bind ?_
  unfold isInstance
  refine wpAny_bind (L0.at (L4.at ?_))
  have LM : Looks (model prog w) hp (mroOf (.ref C)) cd.mro := (looks_clsIn X hcd).andThen .now
  rw [if_neg (by decide)]
  have run : ∀ A', wpAny (model prog w) A' (Builtin.«object.__setattr__» { pos := [Value.ref x, Value.str name t, v] }) (fun fin s' => ∃ f, fin = .done (.ret f) ∧ Q () s') E ⟨hp, g, d, t + 1, os⟩ := by
    intro A'
    unfold Builtin.«object.__setattr__»
    repeat (first | rw [refuse_eq] | with_reducible refine LM.at ?_ | (rw [hm, refuseLoop_ref, refuseLoop_ref, pass]) | with_reducible refine L0.at ?_ | with_reducible refine L1.at ?_ | (with_reducible refine LC.at ?_; rw [hd]) | wp_step)
    have fin : wpAny (model prog w) A' (do
        let d ← alloc { cls := Value.type "dict", data := Data.dict #[] }
        update x fun o => { cls := o.cls, dict := some d, data := o.data, slots := o.slots }
        dictMade (.ref C) x d)
        (fun a s' => wpAny (model prog w) A' (match a with
          | some d => Builtin.ObjectAttr.storeInDict d (Value.str name t) name v
          | none => Builtin.ObjectAttr.noDictFor (Value.ref x) (Value.ref C) name (none : Option Value).isSome) (fun fin s' => ∃ f, fin = Fin.done (Flow.ret f) ∧ Q () s') E s') E ⟨hp, g, d, t + 1, os⟩ := by
      refine wpAny_bind (wpAny_alloc' (wpAny_bind (wpAny_update' (Heap.get?_push_of_some _ hx) (wpAny_pure ?_))))
      have xs : x ≠ hp.objs.size := Nat.ne_of_lt (Heap.lt_size hx)
      show wpAny _ _ (Builtin.ObjectAttr.storeInDict hp.objs.size (.str name t) name v) _ _ _
      have e0 : ((hp.push { cls := .type "dict", data := .dict #[] }).update x fun o => { cls := o.cls, dict := some hp.objs.size, data := o.data, slots := o.slots }).get? hp.objs.size = some { cls := .type "dict", data := .dict #[] } := by
        rw [Heap.get?_update_other _ _ xs]; exact Heap.get?_push_size hp rfl
      have n0 : ((hp.push { cls := .type "dict", data := .dict #[] }).update x fun o => { cls := o.cls, dict := some hp.objs.size, data := o.data, slots := o.slots }).Ns hp.objs.size (fun _ => none) := ⟨_, #[], _, e0, rfl, fun e he => absurd he (by simp), fun _ => rfl⟩
      unfold Builtin.ObjectAttr.storeInDict Builtin.ObjectAttr.newKeyGuard
      refine wpAny_bind (wpAny_pure (wpAny_bind (wpAny_nsSet1 (Heap.Ns1.of_empty n0) fun h' n1 sb => ?_)))
      obtain ⟨oD, esD, epD, q1, q2, q3⟩ := n1.count (PySem.Within.cons name v PySem.Within.nil)
      refine wpAny_bind (wpAny_lookBehind q1 (by rw [q2]; exact pastItsLine_dict (Nat.le_trans q3 (show 1 ≤ sizeLine + 1 from by decide))) (wpAny_pure ⟨_, rfl, ?_⟩))
      refine h h' hp.objs.size _ (Nat.le_refl _) n1 ?_ fun b o nb q => ?_
      · rw [sb.2 x xs]
        refine Heap.get?_update_self _ (Heap.get?_push_of_some _ hx) ?_
        have fr := (Heap.get?_some_iff.mp hx).2
        cases oda <;> first | rfl | exact fr
      · rw [sb.2 b (Nat.ne_of_lt (Heap.lt_size q)), Heap.get?_update_other _ _ (Ne.symm nb)]
        exact Heap.get?_push_of_some _ q
    cases oda <;> first | exact fin | cases hn
  have fin : wpAny (model prog w) A.in1 (Builtin.«object.__setattr__» { pos := [Value.ref x, Value.str name t, v] }) (fun fin s' => match fin with
      | .done f => (match (Except.ok f : Result) with | .ok (.ret v) => Q () s' | .ok a => False | .error e => E e s')
      | .again c' => c'.quiet = true ∧ codeAny (model prog w) A c' (fun r s' => match r with | .ok (.ret v) => Q () s' | .ok a => False | .error e => E e s') s') E ⟨hp, g, d, t + 1, os⟩ :=
    wpAny_mono (run _) (fun f s' z => by obtain ⟨u, rfl, q⟩ := z; exact q) fun _ _ z => z
  cases hsig : Manifest.signature? "object.__setattr__" with
  | none => exact wpAny_pure fin
  | some sig =>
    simp only [argsOk, hsig] at ok
    show wpAny _ _ (Bind.checkArgs "object.__setattr__" sig ⟨[.ref x, .str name t, v], []⟩) _ _ _
    rw [show Bind.checkArgs "object.__setattr__" sig ⟨[.ref x, .str name t, v], []⟩ = pure () from ok]
    exact wpAny_pure fin
theorem set_exc2 {cd : ClassData} {dx : Addr} {mA : Str → Option Value} {ns : List Str} (X : K.In s.heap) (hx : s.heap.get? x = some ox) (hc : ox.cls = .ref C) (hn : notCls ox = true) (hdn : ox.dict = some dx) (hne : dx ≠ x) (hA : s.heap.Ns1 dx mA) (hw : PySem.Within mA ns) (hz : ns.length ≤ 1000) (hs : findIn K (.ref C) "__setattr__" = some (some (.builtin "object.__setattr__")))
    (hcd : clsIn K C = some cd) (hm : cd.mro = .ref C :: .ref D :: [.type "ValueError", .type "Exception", .type "BaseException", .type "object"]) (hd : cd.hasDict = true) (hna : findIn K (.ref C) name = some none)
    (h : ∀ h' tk, h'.Ns1 dx (fun y => if y = name then some v else mA y) → (∀ b o, b ≠ dx → s.heap.get? b = some o → h'.get? b = some o) → Q () { s with heap := h', toks := tk }) :
    wpAny (model prog w) A (setAttr (.ref x) name v) Q E s := by
  obtain ⟨hp, g, d, t, os⟩ := s
  obtain ⟨oc, odi, oda, osl⟩ := ox
  dsimp only at hc hdn
  subst hc hdn
  obtain ⟨od, qd⟩ : ∃ od, hp.get? dx = some od := by obtain ⟨o, _, _, q, _⟩ := hA; exact ⟨o, q⟩
  have I : PySem.W.InstAt hp x ⟨.ref C, some dx, oda, osl⟩ C (some od) := ⟨hx, rfl, hn, qd⟩
  refine PySem.W.set_plain X I hs ?_
  have SF := F.store_ValueError
  have L0 := I.type (M := model prog w)
  have L1 := looks_findIn (M := model prog w) X hna
  have L4 := looks_mroIn (M := model prog w) (r := true) X (C := C) (base := .type "object") (by unfold mroIn; rw [hcd, Option.bind_some, hm]; rfl)
  have LC := looks_clsIn (M := model prog w) X hcd
  have pass := SF.passes (.ref x)
  have ok := SF.args (.ref x) (.str name t) v
  refine codeAny_call_builtin SF.slot.plain SF.entry ?_
  simp only [checkBuiltinCall, SF.kind, SF.split]
  refine wpAny_bind ?_
  unfold isInstance
  refine wpAny_bind (L0.at (L4.at ?_))
  have LM : Looks (model prog w) hp (mroOf (.ref C)) cd.mro := (looks_clsIn X hcd).andThen .now
  rw [if_neg (by decide)]
  have run : ∀ A', wpAny (model prog w) A' (Builtin.«object.__setattr__» { pos := [Value.ref x, Value.str name t, v] }) (fun fin s' => ∃ f, fin = .done (.ret f) ∧ Q () s') E ⟨hp, g, d, t + 1, os⟩ := by
    intro A'
    have st : wpAny (model prog w) A' (Builtin.ObjectAttr.storeInDict dx (.str name t) name v) (fun fin s' => ∃ f, fin = .done (.ret f) ∧ Q () s') E ⟨hp, g, d, t + 1, os⟩ := by
      unfold Builtin.ObjectAttr.storeInDict Builtin.ObjectAttr.newKeyGuard
      refine wpAny_bind (wpAny_pure (wpAny_bind (wpAny_nsSet1 hA fun h' n1 sb => ?_)))
      obtain ⟨oD, esD, epD, q1, q2, q3⟩ := n1.count (PySem.Within.cons name v hw)
      refine wpAny_bind (wpAny_lookBehind q1 (by rw [q2]; exact pastItsLine_dict (Nat.le_trans q3 (Nat.le_trans (Nat.succ_le_succ hz) (show 1001 ≤ sizeLine + 1 from by decide)))) (wpAny_pure ⟨_, rfl, ?_⟩))
      exact h h' _ n1 fun b o nb q => (sb.2 b nb).trans q
    unfold Builtin.«object.__setattr__»
    repeat (first | with_reducible exact st | rw [refuse_eq] | with_reducible refine LM.at ?_ | (rw [hm, refuseLoop_ref, refuseLoop_ref, pass]) | with_reducible refine L0.at ?_ | with_reducible refine L1.at ?_ | (with_reducible refine LC.at ?_; rw [hd]) | wp_step)
  have fin : wpAny (model prog w) A.in1 (Builtin.«object.__setattr__» { pos := [Value.ref x, Value.str name t, v] }) (fun fin s' => match fin with
      | .done f => (match (Except.ok f : Result) with | .ok (.ret v) => Q () s' | .ok a => False | .error e => E e s')
      | .again c' => c'.quiet = true ∧ codeAny (model prog w) A c' (fun r s' => match r with | .ok (.ret v) => Q () s' | .ok a => False | .error e => E e s') s') E ⟨hp, g, d, t + 1, os⟩ :=
    wpAny_mono (run _) (fun f s' z => by obtain ⟨u, rfl, q⟩ := z; exact q) fun _ _ z => z
  cases hsig : Manifest.signature? "object.__setattr__" with
  | none => exact wpAny_pure fin
  | some sig =>
    simp only [argsOk, hsig] at ok
    show wpAny _ _ (Bind.checkArgs "object.__setattr__" sig ⟨[.ref x, .str name t, v], []⟩) _ _ _
    rw [show Bind.checkArgs "object.__setattr__" sig ⟨[.ref x, .str name t, v], []⟩ = pure () from ok]
    exact wpAny_pure fin
end
end L4
set_option Elab.async false
set_option linter.all false
set_option maxRecDepth 100000
namespace L4
open PySem PySem.Spec PyProof.Rows L2 L3 PySem.W
theorem cls_of {K : Frag} {C D fI : Addr} (c : XC K C D fI) : ∃ cd, PySem.W.clsIn K C = some cd ∧ cd.mro = .ref C :: .ref D :: bmV ∧ cd.hasDict = true := by
  obtain ⟨nm, q, N, bs, sn, sub, ab, col, dd, k0, k1, k2, k3, k5, lk⟩ := c.obj
  refine ⟨_, by unfold PySem.W.clsIn; rw [lk], rfl, rfl⟩
section
variable {prog : Program} {w : World} {A : Around} {E : Value → Shared → Prop} {s : Shared} {K : Frag} {x C : Addr} {ox : Obj} {od : Option Obj}
theorem cls_exc {Q : Option Value → Shared → Prop} (X : K.In s.heap) (I : PySem.W.InstAt s.heap x ox C od) (hga : findIn K (.ref C) "__getattribute__" = some (some (.builtin "BaseException.__getattribute__"))) (hgr : findIn K (.ref C) "__getattr__" = some none) (hb : mroIn K C (.type "BaseException") = some true)
    (hf : findObj K C od "__class__" = some (.bind (.builtin "getset_descriptor.__get__") (.builtin "object.__class__"))) (hm : mroIn K C (.type "object") = some true) (h : Q (some (.ref C)) { s with toks := s.toks + 1 }) : wpAny (model prog w) A (getAttr? (.ref x) "__class__") Q E s := by
  obtain ⟨hp, g, d, t, os⟩ := s
  have L0 := I.type (M := model prog w)
  have L1 := looks_findIn (M := model prog w) X hga
  have L2 := looks_findIn (M := model prog w) X hgr
  have L3 := looks_find (M := model prog w) X I hf
  have L4 := looks_mroIn (M := model prog w) X hb
  have bnd := F.attr_ValueError.ga.bind (.ref x)
  have ok := F.args_bexc_ga (.ref x) (.str "__class__" t)
  have kd : builtinKind "BaseException.__getattribute__" = some .slot := by decide +kernel
  have sp : splitId "BaseException.__getattribute__" = some ("BaseException", "__getattribute__") := by decide +kernel
  unfold getAttr? getAttrBy?
  refine wpAny_bind (wpAny_mkText (wpAny_bind (wpAny_attempt ?_)))
  unfold getAttrBy
  refine wpAny_holding (wpAny_bind (L0.at (wpAny_bind (L1.at ?_))))
  show wpAny _ _ (getAttrByItsOwn _ _ _ _ _ _) _ _ _
  unfold getAttrByItsOwn
  repeat (any_goals (first | assumption | with_reducible refine L0.at ?_ | with_reducible refine L2.at ?_ | wp_step))
  refine codeAny_call_builtin F.attr_ValueError.ga.plain F.entry_bexc_ga ?_
  simp only [checkBuiltinCall, kd, sp]
  refine wpAny_bind ?_
  unfold isInstance
  refine wpAny_bind (L0.at (L4.at ?_))
  repeat (any_goals (first | assumption | with_reducible refine L0.at ?_ | with_reducible refine L3.at ?_ | wp_step))
  refine class_get (s := ⟨hp, g, d, t + 1, os⟩) (ox := ox) (od := od) X I hm ?_
  exact wpAny_pure (handed_on rfl (wpAny_pure h))
theorem kitx_exc {D fI : Addr} (c : XC K C D fI) (hb : mroIn K C (.type "BaseException") = some true)
    (hf : findObj K C od "__class__" = some (.bind (.builtin "getset_descriptor.__get__") (.builtin "object.__class__"))) (hm : mroIn K C (.type "object") = some true) :
    KitX K (.ref x) (.ref C) (fun h => PySem.W.InstAt h x ox C od) where
  ty := fun _ _ _ I => I.type
  it := fun _ _ X _ => by
    obtain ⟨nm, q, N, bs, sn, sub, ab, col, dd, k0, k1, k2, k3, k5, ho⟩ := c.obj
    intro A' Q' E' s' k q
    unfold isType loadHead
    exact wpAny_bind (wpAny_loadPart (k _ _ (X _ _ ho)) (wpAny_pure q))
  ne := fun h tp dd its n sl X htp => by
    obtain ⟨nm, q, N, bs, sn, sub, ab, col, dd', k0, k1, k2, k3, k5, ho⟩ := c.obj
    refine Bool.eq_false_iff.mpr fun q => ?_
    have e : C = tp := Value.ref.inj (beq_iff_eq.mp q)
    subst e
    have z := (X _ _ ho).symm.trans htp
    injection z with z
    injection z with z1 z2 z3
    cases z3
  ca := fun X I k => cls_exc X I c.ga c.gr hb hf hm k
end
def XAt (H : Hp) (a C : Addr) (dd : Option Addr) : Prop := H a = some (.ext (XO a C dd)) ∧ ∀ dx, dd = some dx → ∃ fv, H dx = some (.ext (XD dx fv))
theorem inst_of {X : Cx} {pins : List (Addr × Obj)} {σ : L2.St} {H : Hp} {s : Shared} {a C : Addr} {dd : Option Addr} (I : Inv X pins σ H s) (h : XAt H a C dd) : ∃ ox od, PySem.W.InstAt s.heap a ox C od := by
  obtain ⟨h1, h2⟩ := h
  obtain ⟨⟨oe, q1, q2, q3, q4⟩, _⟩ := I.hok a _ h1
  cases dd with
  | none => exact ⟨oe, none, q1, q2, q4, by rw [q3]; trivial⟩
  | some dx =>
    obtain ⟨fv, h2⟩ := h2 dx rfl
    obtain ⟨⟨mA, na, wi, r⟩, _⟩ := I.hok dx _ h2
    obtain ⟨od, z1, hlk⟩ := lookIn_ns na
    exact ⟨oe, some od, q1, q2, q4, by rw [q3]; exact z1⟩
theorem findObj_dataO {K : Frag} {C : Addr} {od : Option Obj} {name : Str} {a g : Value} (hc : (clsIn K C).isSome = true) (ha : findIn K (.ref C) name = some (some a)) (hg : specialIn K a "__get__" = some (some g)) (ht : takesIn K a = some true) : findObj K C od name = some (.bind g a) := by
  obtain ⟨cd, hc⟩ := Option.isSome_iff_exists.mp hc
  unfold findObj
  rw [hc, Option.bind_some, ha, Option.bind_some]
  simp [hg, ht]
section
variable {X : Cx} {pins : List (Addr × Obj)} {σ : L2.St} {H : Hp} {s : Shared} {a C D fI : Addr} {dd : Option Addr} {Q : Value → Shared → Prop} {E : Value → Shared → Prop} {b : Bool}
theorem kit_of_exc (c : XC X.K C D fI) (kc : KC X.K C) {ox : Obj} {od : Option Obj} : KitX X.K (.ref a) (.ref C) (fun h => PySem.W.InstAt h a ox C od) := by
  obtain ⟨cd, k1, k2, k3⟩ := cls_of c
  refine kitx_exc c (by unfold PySem.W.mroIn; rw [k1, Option.bind_some, k2]; rfl) (findObj_dataO (by rw [k1]; rfl) kc.ha kc.hn kc.htk) (by unfold PySem.W.mroIn; rw [k1, Option.bind_some, k2]; rfl)
theorem isinst_exc (I : Inv X pins σ H s) (c : XC X.K C D fI) (kc : KC X.K C) (h : XAt H a C dd) {cv : Value} (e : kitOne X.K (.ref C) cv = some b) (q : ∀ tk, Q (.bool b) { s with toks := tk }) :
    wpAny (model X.prog X.w) X.A (call (.builtin "isinstance") [.ref a, cv]) Q E s := by
  obtain ⟨ox, od, It⟩ := inst_of I h
  exact kia_one (kit_of_exc c kc) I.kIn It e (fun z => nomatch z) q
end
end L4
set_option Elab.async false
set_option linter.all false
set_option maxRecDepth 100000
namespace L4
open PySem PySem.Spec PyProof.Rows L2 L3
structure Ex where
  cls : Str
  fs : List (Str × D)
inductive M (S : Type) where
  | ret (s : S)
  | exc (x : Ex)
  | bad
def M.on {S T : Type} (m : M S) (x : Ex → M T) (k : S → M T) : M T := match m with
  | .ret s => k s
  | .exc e => x e
  | .bad => .bad
def bd {S T : Type} (m : M S) (k : S → M T) : M T := m.on .exc k
def oM {S : Type} (o : Option S) : M S := match o with
  | some s => .ret s
  | none => .bad
section
variable {S T U : Type}
@[simp] theorem bd_ret (s : S) (k : S → M T) : bd (.ret s) k = k s := rfl
end
abbrev Pu (α : Type) := En → M α
def XR (K : Fg) (F : Hp) (C : Addr) (dd : Option Addr) (x : Ex) : Prop := XQ K C x.cls ∧
  ∃ fv, FX F dd fv ∧ Paired (fun (p : Str × V) (q : Str × D) => p.1 = q.1 ∧ Rep K F p.2 q.2) fv x.fs
def encX (x : Ex) : D := .dict ((.none, .str x.cls) :: x.fs.map fun p => (.str p.1, p.2))
theorem paired_enc {K : Fg} {F : Hp} : ∀ {fv : List (Str × V)} {fs : List (Str × D)}, Paired (fun (p : Str × V) (q : Str × D) => p.1 = q.1 ∧ Rep K F p.2 q.2) fv fs → (fs.map fun p => ((PyData.str p.1, p.2) : D × D)).map (·.1) = fv.map (fun p => .str p.1) ∧ RepL K F (fv.map (·.2)) ((fs.map fun p => ((PyData.str p.1, p.2) : D × D)).map (·.2))
  | _, _, .nil => ⟨rfl, .nil⟩
  | _, _, .cons h t => by
    obtain ⟨i1, i2⟩ := paired_enc t
    exact ⟨by simp only [List.map_cons, i1, h.1], by simp only [List.map_cons]; exact .cons h.2 i2⟩
theorem XR.rep {K : Fg} {F : Hp} {a C : Addr} {dd : Option Addr} {x : Ex} (h : XR K F C dd x) (e : F a = some (.ext (XO a C dd))) : Rep K F (.ref a) (encX x) := by
  obtain ⟨q, fv, fx, p⟩ := h
  exact .exc e q fx (paired_enc p).1 (paired_enc p).2
theorem XR.mono {K : Fg} {F F' : Hp} {C : Addr} {dd : Option Addr} {x : Ex} (s : Same F F') (h : XR K F C dd x) : XR K F' C dd x := by
  obtain ⟨q, fv, fx, p⟩ := h
  refine ⟨q, fv, fx.mono s, ?_⟩
  clear fx q
  revert p
  generalize x.fs = fs
  intro p
  induction p with
  | nil => exact .nil
  | cons h t ih => exact .cons ⟨h.1, h.2.mono s⟩ ih
structure FzOk (K : Fg) (F : Hp) (σ : L2.St) (ρ : En) : Prop where
  ln : σ.length = ρ.length
  fz : ∀ (i : Nat) (d : D), ρ[i]? = some (some (AV.fz d)) → ∃ v, σ[i]? = some (some v) ∧ Rep K F v d
theorem _root_.L3.StOk.fzok {K : Fg} {G : Gh} {F F' H : Hp} {σ : L2.St} {ρ : En} (S : StOk K G F σ H ρ) (s : Same F F') : FzOk K F' σ ρ := ⟨S.ln, fun i d q => by
  obtain ⟨v, e, r⟩ := S.fz i d q
  exact ⟨v, e, r.mono s⟩⟩
structure GOk (G : Gh) (F H : Hp) : Prop where
  fh : Same F H
  oh : Same G.O H
  fo : ∀ b o, G.O b = some o → F b = none ∧ NoTE o
  fb : Same G.B F
def XW (X : Cx) (G : Gh) (F : Hp) (ρ : En) (x : Ex) : Prop := ∀ F' H' s' a C dd pins σ, GOk G F' H' → FzOk X.K F' σ ρ → Inv X pins σ H' s' → XS H' s'.heap X.s₀.heap.objs.size a C dd → (∀ p ∈ X.pn ++ pins, ¬ TbOf s'.heap a p.1) → XR X.K F' C dd x → X.xe (.ref a) s'
theorem XW.mono {X : Cx} {G : Gh} {F F' : Hp} {ρ : En} {x : Ex} (s : Same F F') (h : XW X G F ρ x) : XW X G F' ρ x := h
def W (X : Cx) (G : Gh) (F : Hp) (σ : L2.St) (ρ : En) {α : Type} (m : M α) (C : α → Hp → Hp → Prop) : Prop := match m with
  | .ret a => ∀ F' H', Same F F' → StOk X.K G F' σ H' ρ → C a F' H'
  | .exc x => XW X G F ρ x
  | .bad => False
section
variable {X : Cx} {G : Gh} {F F' H : Hp} {σ : L2.St} {ρ : En} {α β : Type} {m : M α} {k : α → M β} {C C' : α → Hp → Hp → Prop}
theorem W.up {C : β → Hp → Hp → Prop} {m : M β} (s : Same F F') (h : W X G F σ ρ m C) : W X G F' σ ρ m C := by
  cases m with
  | ret a => exact fun F2 H2 s2 S2 => h F2 H2 (s.trans s2) S2
  | exc x => exact XW.mono (X := X) (G := G) (ρ := ρ) (x := x) s h
  | bad => exact h
theorem W.bind {C : β → Hp → Hp → Prop} (h : W X G F σ ρ (bd m k) C) : W X G F σ ρ m fun a F' H' => W X G F' σ ρ (k a) C := by
  cases m with
  | ret a => exact fun F2 H2 s2 S2 => W.up s2 h
  | exc x => exact h
  | bad => exact h
theorem W.imp (h : W X G F σ ρ m C) (w : ∀ a F' H', Same F F' → StOk X.K G F' σ H' ρ → C a F' H' → C' a F' H') : W X G F σ ρ m C' := by
  cases m with
  | ret a => exact fun F2 H2 s2 S2 => w a F2 H2 s2 S2 (h F2 H2 s2 S2)
  | exc x => exact h
  | bad => exact h
theorem W.opt {o : Option α} (h : W X G F σ ρ (oM o) C) : ∃ a, o = some a ∧ ∀ F' H', Same F F' → StOk X.K G F' σ H' ρ → C a F' H' := by
  cases o with
  | none => exact h.elim
  | some a => exact ⟨a, rfl, h⟩
end
@[irreducible] def tSem (X : Cx) (e : Expr) : TE := fun σ H Q => ∀ (pins : List (Addr × Obj)) (s : Shared), Inv X pins σ H s → wpAny (model X.prog X.w) X.A (eval e X.env) (EP X pins σ Q) X.xe s
@[irreducible] def tSemT (X : Cx) (e : Expr) : TT := fun σ H Q => ∀ (pins : List (Addr × Obj)) (s : Shared), Inv X pins σ H s → wpAny (model X.prog X.w) X.A (isTrue e X.env (eval e X.env)) (TP X pins σ Q) X.xe s
@[irreducible] def tSemW (X : Cx) (e : Expr) : TT := fun σ H Q => ∀ (whole : Sem Value) (pins : List (Addr × Obj)) (s : Shared), Inv X pins σ H s → wpAny (model X.prog X.w) X.A (isTrue e X.env whole) (TP X pins σ Q) X.xe s
@[irreducible] def tSemA (X : Cx) (es : List Expr) : TA := fun σ H Q => ∀ (pos : Pos) (pins : List (Addr × Obj)) (s : Shared), Inv X pins σ H s → wpAny (model X.prog X.w) X.A (spliced (backTo pos (starEach es X.env))) (AP X pins σ Q) X.xe s
section
variable {X : Cx} {e : Expr} {es : List Expr} {σ : L2.St} {H : Hp}
theorem pe_sem : PE X e (tSem X e) := fun pins s σ H Q I h => by unfold tSem at h; exact h pins s I
theorem pt_sem : PT X e (tSemT X e) := fun pins s σ H Q I h => by unfold tSemT at h; exact h pins s I
theorem pw_sem : PW X e (tSemW X e) := fun wh pins s σ H Q I h => by unfold tSemW at h; exact h wh pins s I
theorem pa_sem : PA X es (tSemA X es) := fun pos pins s σ H Q I h => by unfold tSemA at h; exact h pos pins s I
theorem sem {t : TE} {Q : VK} (h : PE X e t) (q : t σ H Q) : tSem X e σ H Q := by unfold tSem; exact fun pins s I => h pins s σ H Q I q
theorem semT {t : TT} {Q : Bool → Hp → Prop} (h : PT X e t) (q : t σ H Q) : tSemT X e σ H Q := by unfold tSemT; exact fun pins s I => h pins s σ H Q I q
theorem semW {t : TT} {Q : Bool → Hp → Prop} (h : PW X e t) (q : t σ H Q) : tSemW X e σ H Q := by unfold tSemW; exact fun wh pins s I => h wh pins s σ H Q I q
theorem semA {t : TA} {Q : List V → Hp → Prop} (h : PA X es t) (q : t σ H Q) : tSemA X es σ H Q := by unfold tSemA; exact fun pos pins s I => h pos pins s σ H Q I q
end
def ownL (ρ : En) (i : Nat) : Option (List D) := match ρ[i]? with
  | some (some (.ol (.l ds))) => some ds
  | some (some (.op (.l ds))) => some ds
  | _ => none
theorem ownL_own {ρ : En} {i : Nat} {ds : List D} (h : ownL ρ i = some ds) : own ρ i (.l ds) := by
  unfold ownL at h
  split at h
  · rename_i q; cases h; exact .inl q
  · rename_i q; cases h; exact .inr q
  · cases h
def VO (K : Fg) (F : Hp) (σ : L2.St) (ρ : En) (v : V) (d : D) : Prop := Rep K F v d ∨ ∃ i c, own ρ i c ∧ σ[i]? = some (some v) ∧ d = c.d
inductive VOs (K : Fg) (F : Hp) (σ : L2.St) (ρ : En) : List V → List D → Prop
  | nil : VOs K F σ ρ [] []
  | cons {v d vs ds} : VO K F σ ρ v d → VOs K F σ ρ vs ds → VOs K F σ ρ (v :: vs) (d :: ds)
theorem VO.mono {K : Fg} {F F' : Hp} {σ : L2.St} {ρ : En} {v : V} {d : D} (s : Same F F') (h : VO K F σ ρ v d) : VO K F' σ ρ v d := h.imp (Rep.mono s) id
theorem VOs.mono {K : Fg} {F F' : Hp} {σ : L2.St} {ρ : En} (s : Same F F') : ∀ {vs ds}, VOs K F σ ρ vs ds → VOs K F' σ ρ vs ds
  | _, _, .nil => .nil
  | _, _, .cons h t => .cons (h.mono s) (t.mono s)
def OR (K : Fg) (F H : Hp) (v : V) (d : D) : Prop := Rep K F v d ∨ ∃ a c, v = .ref a ∧ d = c.d ∧ Held K F H a c
inductive ORs (K : Fg) (F H : Hp) : List V → List D → Prop
  | nil : ORs K F H [] []
  | cons {v d vs ds} : OR K F H v d → ORs K F H vs ds → ORs K F H (v :: vs) (d :: ds)
theorem VO.or {K : Fg} {G : Gh} {F H : Hp} {σ : L2.St} {ρ : En} {v : V} {d : D} (S : StOk K G F σ H ρ) (h : VO K F σ ρ v d) : OR K F H v d := by
  rcases h with h | ⟨i, c, ho, hv, rfl⟩
  · exact .inl h
  · obtain ⟨a, e1, oa⟩ := S.ow i _ ho
    rw [hv] at e1
    injection e1 with e1; injection e1 with e1
    exact .inr ⟨a, c, e1, rfl, oa.he⟩
theorem VOs.ors {K : Fg} {G : Gh} {F H : Hp} {σ : L2.St} {ρ : En} (S : StOk K G F σ H ρ) : ∀ {vs ds}, VOs K F σ ρ vs ds → ORs K F H vs ds
  | _, _, .nil => .nil
  | _, _, .cons h t => .cons (h.or S) (t.ors S)
section
variable {K : Fg} {F H : Hp} {v : V} {ds : List D}
theorem OR.rep {d : D} (s : Same F H) (h : OR K F H v d) : Rep K H v d := by
  rcases h with h | ⟨a, c, rfl, rfl, h1⟩
  · exact h.mono s
  · obtain ⟨o, e, r⟩ := heldRep h1; exact r H s e
theorem OR.list (s : Same F H) (h : OR K F H v (.list ds)) : ∃ a vs, v = .ref a ∧ SqL K H a vs ∧ RepL K F vs ds := by
  rcases h with h | ⟨a, c, e, e2, h1⟩
  · cases h with
    | lst h1 h2 => exact ⟨_, _, rfl, s.seq h1, h2⟩
  · cases c <;> cases e2
    obtain ⟨vs, h1, h2⟩ := h1
    exact ⟨a, vs, e, .inl (.inl h1), h2⟩
theorem OR.tuple (s : Same F H) (h : OR K F H v (.tuple ds)) : ∃ a vs, v = .ref a ∧ SqT K H a vs ∧ RepL K F vs ds := by
  rcases h with h | ⟨a, c, e, e2, h1⟩
  · cases h with
    | tup h1 h2 => exact ⟨_, _, rfl, SqT.of (s _ _ h1), h2⟩
  · cases c <;> cases e2
theorem OR.tup' (h : OR K F H v (.tuple ds)) : Rep K F v (.tuple ds) := by
  rcases h with h | ⟨a, c, e, e2, h1⟩
  · exact h
  · cases c <;> cases e2
theorem OR.int {i : Int} (h : OR K F H v (.int i)) : v = .int i := by
  rcases h with h | ⟨a, c, e, e2, h1⟩
  · cases h; rfl
  · cases c <;> cases e2
theorem OR.str {i : Str} (h : OR K F H v (.str i)) : v = .str i := by
  rcases h with h | ⟨a, c, e, e2, h1⟩
  · cases h; rfl
  · cases c <;> cases e2
theorem ors_cons {vs : List V} {d : D} {ds : List D} (h : ORs K F H vs (d :: ds)) : ∃ v r, vs = v :: r ∧ OR K F H v d ∧ ORs K F H r ds := by
  cases h with | cons a b => exact ⟨_, _, rfl, a, b⟩
theorem ors_nil {vs : List V} (h : ORs K F H vs []) : vs = [] := by cases h; rfl
end
def AP (X : Cx) (e : Expr) (p : Pu D) : Prop :=
  ∀ (G : Gh) (F : Hp) (σ : L2.St) (H : Hp) (ρ : En) (Q : VK), StOk X.K G F σ H ρ → W X G F σ ρ (p ρ) (fun d F' H' => ∀ v, Rep X.K F' v d → Q v H') → tSem X e σ H Q
def AO (X : Cx) (e : Expr) (p : Pu D) : Prop :=
  ∀ (G : Gh) (F : Hp) (σ : L2.St) (H : Hp) (ρ : En) (Q : VK), StOk X.K G F σ H ρ → W X G F σ ρ (p ρ) (fun d F' H' => ∀ v, VO X.K F' σ ρ v d → Q v H') → tSem X e σ H Q
def AT (X : Cx) (e : Expr) (p : Pu Bool) : Prop :=
  ∀ (G : Gh) (F : Hp) (σ : L2.St) (H : Hp) (ρ : En) (Q : Bool → Hp → Prop), StOk X.K G F σ H ρ → W X G F σ ρ (p ρ) (fun d F' H' => Q d H') → tSemT X e σ H Q
def AW (X : Cx) (e : Expr) (p : Pu Bool) : Prop :=
  ∀ (G : Gh) (F : Hp) (σ : L2.St) (H : Hp) (ρ : En) (Q : Bool → Hp → Prop), StOk X.K G F σ H ρ → W X G F σ ρ (p ρ) (fun d F' H' => Q d H') → tSemW X e σ H Q
def AB (X : Cx) (e : Expr) (p : Pu Bool) : Prop :=
  ∀ (G : Gh) (F : Hp) (σ : L2.St) (H : Hp) (ρ : En) (Q : VK), StOk X.K G F σ H ρ → W X G F σ ρ (p ρ) (fun d F' H' => Q (.bl d) H') → tSem X e σ H Q
def AA {α : Type} (X : Cx) (es : List Expr) (m : (List D → M α) → En → M α) : Prop :=
  ∀ (G : Gh) (F : Hp) (σ : L2.St) (H : Hp) (ρ : En) (Q : List V → Hp → Prop) (k : List D → M α) (C : α → Hp → Hp → Prop), StOk X.K G F σ H ρ → W X G F σ ρ (m k ρ) C →
    (∀ ds vs F' H', Same F F' → StOk X.K G F' σ H' ρ → vs.length = es.length → RepL X.K F' vs ds → W X G F' σ ρ (k ds) C → Q vs H') → tSemA X es σ H Q
def AAo {α : Type} (X : Cx) (es : List Expr) (m : (List D → M α) → En → M α) : Prop :=
  ∀ (G : Gh) (F : Hp) (σ : L2.St) (H : Hp) (ρ : En) (Q : List V → Hp → Prop) (k : List D → M α) (C : α → Hp → Hp → Prop), StOk X.K G F σ H ρ → W X G F σ ρ (m k ρ) C →
    (∀ ds vs F' H', Same F F' → StOk X.K G F' σ H' ρ → VOs X.K F' σ ρ vs ds → W X G F' σ ρ (k ds) C → Q vs H') → tSemA X es σ H Q
def Frs (K : Fg) (G : Gh) (F : Hp) (σ : L2.St) (H : Hp) (ρ : En) (v : V) (c : OC) : Prop := ∃ a, v = .ref a ∧ OwnAt K G F H a c ∧ ∀ (i : Nat) (e : OC), own ρ i e → σ[i]? ≠ some (some (V.ref a))
def AL (X : Cx) (e : Expr) (p : Pu (List D)) : Prop :=
  ∀ (G : Gh) (F : Hp) (σ : L2.St) (H : Hp) (ρ : En) (Q : VK), StOk X.K G F σ H ρ → W X G F σ ρ (p ρ) (fun ds F' H' => ∀ v, Frs X.K G F' σ H' ρ v (.l ds) → Q v H') → tSem X e σ H Q
def pVar (i : Nat) : Pu D := fun ρ => match ρ[i]? with
  | some (some (.fz d)) => .ret d
  | _ => .bad
def pPeek (i : Nat) : Pu D := fun ρ => match ρ[i]? with
  | some (some (.ol c)) => .ret c.d
  | some (some (.op c)) => .ret c.d
  | _ => .bad
def pCon (d : D) : Pu D := fun _ => .ret d
def pBin (f : D → D → Option D) (a b : Pu D) : Pu D := fun ρ => bd (a ρ) fun x => bd (b ρ) fun y => oM (f x y)
def pBinB (f : D → D → Option Bool) (a b : Pu D) : Pu Bool := fun ρ => bd (a ρ) fun x => bd (b ρ) fun y => oM (f x y)
abbrev Pa (α : Type) := (List D → M α) → En → M α
def pNil {α : Type} : Pa α := fun k _ => k []
def pCons {α : Type} (a : Pu D) (r : Pa α) : Pa α := fun k ρ => bd (a ρ) fun x => r (fun xs => k (x :: xs)) ρ
def fitM {S : Type} (ds : List S) : M (List S) := if ds.length ≤ sizeLine then .ret ds else .bad
def pTup (ps : Pa D) : Pu D := fun ρ => ps (fun ds => .ret (.tuple ds)) ρ
def pLst (ps : Pa (List D)) : Pu (List D) := fun ρ => ps (fun ds => .ret ds) ρ
theorem le1000 {n : Nat} (h : n ≤ 1000) : n ≤ sizeLine := Nat.le_trans h (by decide)
def pCall (f : List D → Option D) (ps : Pa D) : Pu D := fun ρ => ps (fun ds => oM (f ds)) ρ
def pCallL (f : List D → Option (List D)) (ps : Pa (List D)) : Pu (List D) := fun ρ => ps (fun ds => oM (f ds)) ρ
def pB (p : Pu Bool) : Pu D := fun ρ => bd (p ρ) fun b => .ret (.bool b)
def pZ (p : Pu (List D)) : Pu D := fun ρ => bd (p ρ) fun ds => .ret (.list ds)
def pOr (a b : Pu Bool) : Pu Bool := fun ρ => bd (a ρ) fun t => if t then .ret true else b ρ
def pNot (a : Pu Bool) : Pu Bool := fun ρ => bd (a ρ) fun t => .ret (!t)
def pIf {α : Type} (c : Pu Bool) (a b : Pu α) : Pu α := fun ρ => bd (c ρ) fun t => if t then a ρ else b ρ
def OpD (K : Fg) (r : R2) (f : D → D → Option D) : Prop :=
  ∀ (G : Gh) (F : Hp) (σ : L2.St) (H : Hp) (ρ : En) (x y : V) (dx dy : D) (res : D) (Q : VK), StOk K G F σ H ρ → OR K F H x dx → OR K F H y dy → f dx dy = some res →
    (∀ v F' H', Same F F' → StOk K G F' σ H' ρ → Rep K F' v res → Q v H') → r x y H Q
def OpB (K : Fg) (r : R2) (f : D → D → Option Bool) : Prop :=
  ∀ (G : Gh) (F : Hp) (σ : L2.St) (H : Hp) (ρ : En) (x y : V) (dx dy : D) (res : Bool) (Q : VK), StOk K G F σ H ρ → OR K F H x dx → OR K F H y dy → f dx dy = some res → Q (.bl res) H → r x y H Q
def CallD (K : Fg) (r : List V → Hp → VK → Prop) (f : List D → Option D) : Prop :=
  ∀ (G : Gh) (F : Hp) (σ : L2.St) (H : Hp) (ρ : En) (xs : List V) (ds : List D) (res : D) (Q : VK), StOk K G F σ H ρ → ORs K F H xs ds → f ds = some res →
    (∀ v F' H', Same F F' → StOk K G F' σ H' ρ → Rep K F' v res → Q v H') → r xs H Q
section
variable {X : Cx} {e a b c : Expr} {es rest : List Expr} {p pa pb : Pu D} {ta tb tc : Pu Bool} {ps : Pa D} {pb' : Pa Bool} {pl : Pa (List D)} {α : Type} {pα : Pa α} {qs : Pu (List D)} {pos : Pos}
theorem ap_var {i : Nat} {x : Str} (hN : X.N[i]? = some x) (hv : Vis X.env.scope x) (hd : (x == ("__debug__" : Str)) = false := by decide) (hcd : (x == ("__classdict__" : Str)) = false := by decide) : AP X (.Name x pos) (pVar i) :=
  fun G F σ H ρ Q S w => sem (pe_var hN hv hd hcd) <| by
    unfold pVar at w
    split at w
    · rename_i d q
      obtain ⟨v, e1, r1⟩ := S.fz i d q
      exact ⟨v, e1, w F H (Same.refl _) S v r1⟩
    · exact w.elim
theorem ao_peek {i : Nat} {x : Str} (hN : X.N[i]? = some x) (hv : Vis X.env.scope x) (hd : (x == ("__debug__" : Str)) = false := by decide) (hcd : (x == ("__classdict__" : Str)) = false := by decide) : AO X (.Name x pos) (pPeek i) :=
  fun G F σ H ρ Q S w => sem (pe_var hN hv hd hcd) <| by
    have go : ∀ c : OC, own ρ i c → W X G F σ ρ (.ret c.d) (fun d F' H' => ∀ v, VO X.K F' σ ρ v d → Q v H') → tVar i σ H Q := fun ds ho w => by
      obtain ⟨a, e1, oa⟩ := S.ow i _ ho
      exact ⟨_, e1, w F H (Same.refl _) S _ (.inr ⟨i, ds, ho, e1, rfl⟩)⟩
    unfold pPeek at w
    split at w
    · rename_i ds q; exact go ds (.inl q) w
    · rename_i ds q; exact go ds (.inr q) w
    · exact w.elim
theorem ao (h : AP X e p) : AO X e p := fun G F σ H ρ Q S w => h G F σ H ρ Q S (w.imp fun d F' H' _ _ q v r => q v (.inl r))
theorem ap_con {v : V} {d : D} (h : PE X e (tC v)) (r : ∀ F, Rep X.K F v d) : AP X e (pCon d) :=
  fun G F σ H ρ Q S w => sem h (w F H (Same.refl _) S v (r F))
theorem ap_int {i j} : AP X (.Constant (.int i) j pos) (pCon (.int i)) := ap_con pe_int fun _ => .int _
theorem ap_bl {i j} : AP X (.Constant (.bool i) j pos) (pCon (.bool i)) := ap_con pe_bl fun _ => .bl _
theorem ap_str {i j} : AP X (.Constant (.str i) j pos) (pCon (.str i)) := ap_con pe_str fun _ => .str _
theorem ap_non {j} : AP X (.Constant .none j pos) (pCon .none) := ap_con pe_non fun _ => .non
theorem bin_go {r : R2} {Q : VK} {G : Gh} {F H : Hp} {σ : L2.St} {ρ : En} {α : Type} {f : D → D → M α} {C : α → Hp → Hp → Prop} (ha : AO X a pa) (hb : AO X b pb) (S : StOk X.K G F σ H ρ) (w : W X G F σ ρ (bd (pa ρ) fun x => bd (pb ρ) fun y => f x y) C)
    (k : ∀ x y dx dy F' H', Same F F' → StOk X.K G F' σ H' ρ → OR X.K F' H' x dx → OR X.K F' H' y dy → W X G F' σ ρ (f dx dy) C → r x y H' Q) : tOp r (tSem X a) (tSem X b) σ H Q :=
  ha G F σ H ρ _ S (w.bind.imp fun dx F1 H1 s1 S1 w1 x hx => hb G F1 σ H1 ρ _ S1 (w1.bind.imp fun dy F2 H2 s2 S2 w2 y hy => k x y dx dy F2 H2 (s1.trans s2) S2 ((hx.mono s2).or S2) (hy.or S2) w2))
theorem ap_bin {op : Operator} {r : R2} {f : D → D → Option D} (ho : OpR X (binaryOp op) r) (hf : OpD X.K r f) (ha : AO X a pa) (hb : AO X b pb) : AP X (.BinOp a op b pos) (pBin f pa pb) :=
  fun G F σ H ρ Q S w => sem (pe_op ho pe_sem pe_sem) (bin_go ha hb S w fun x y dx dy F' H' s' S' hx hy w' => by
    obtain ⟨res, e, k⟩ := w'.opt
    exact hf G F' σ H' ρ x y dx dy res Q S' hx hy e fun v F2 H2 s2 S2 r2 => k F2 H2 s2 S2 v r2)
theorem ap_ix {r : R2} {f : D → D → Option D} (hr : IxR X r) (hf : OpD X.K r f) (ha : AO X a pa) (hb : AO X b pb) (hs : PlainIx b) : AP X (.Subscript a b pos) (pBin f pa pb) :=
  fun G F σ H ρ Q S w => sem (pe_ix hr pe_sem pe_sem hs) (bin_go ha hb S w fun x y dx dy F' H' s' S' hx hy w' => by
    obtain ⟨res, e, k⟩ := w'.opt
    exact hf G F' σ H' ρ x y dx dy res Q S' hx hy e fun v F2 H2 s2 S2 r2 => k F2 H2 s2 S2 v r2)
theorem ab_cmp {op : CmpOp} {r : R2} {f : D → D → Option Bool} (ho : OpR X (compareOp op) r) (hf : OpB X.K r f) (ha : AO X a pa) (hb : AO X b pb) (hm : behindInMarks op b = false) : AB X (.Compare a [op] [b] pos) (pBinB f pa pb) :=
  fun G F σ H ρ Q S w => sem (pe_cmpR ho pe_sem pe_sem hm) (bin_go ha hb S w fun x y dx dy F' H' s' S' hx hy w' => by
    obtain ⟨res, e, k⟩ := w'.opt
    exact hf G F' σ H' ρ x y dx dy res Q S' hx hy e (k F' H' (Same.refl _) S'))
theorem at_cmp {op : CmpOp} {r : R2} {f : D → D → Option Bool} (ho : OpR X (compareOp op) r) (hf : OpB X.K r f) (ha : AO X a pa) (hb : AO X b pb) (hm : behindInMarks op b = false) : AT X (.Compare a [op] [b] pos) (pBinB f pa pb) :=
  fun G F σ H ρ Q S w => semT (pt_cmpR ho pe_sem pe_sem hm) (bin_go (Q := fun x H' => ∃ k, x = .bl k ∧ Q k H') ha hb S w fun x y dx dy F' H' s' S' hx hy w' => by
    obtain ⟨res, e, k⟩ := w'.opt
    exact hf G F' σ H' ρ x y dx dy res _ S' hx hy e ⟨res, rfl, k F' H' (Same.refl _) S'⟩)
theorem ap_b (h : AB X e ta) : AP X e (pB ta) := fun G F σ H ρ Q S w => h G F σ H ρ Q S (w.bind.imp fun b F' H' s1 S1 w1 => w1 F' H' (Same.refl _) S1 _ (.bl b))
theorem ap_z (h : AL X e qs) : AP X e (pZ qs) := fun G F σ H ρ Q S w => h G F σ H ρ Q S (w.bind.imp fun ds F' H' s1 S1 w1 v fr => by
  obtain ⟨F2, s2, S2, r2⟩ := S1.settle (v := v) (ds := ds) fr
  exact w1 F2 H' s2 S2 v r2)
theorem aa_nil : AA (α := α) X [] pNil := fun G F σ H ρ Q k C S w kk => semA pa_nil (kk [] [] F H (Same.refl _) S rfl .nil w)
theorem aa_cons (h : AP X e p) (hr : AA X es pα) (hs : starEach (e :: es) X.env = (false, eval e X.env) :: starEach es X.env) : AA X (e :: es) (pCons p pα) :=
  fun G F σ H ρ Q k C S w kk => semA (pa_cons pe_sem pa_sem hs) (h G F σ H ρ _ S (w.bind.imp fun d F1 H1 s1 S1 w1 v r1 =>
    hr G F1 σ H1 ρ _ _ C S1 w1 fun ds vs F2 H2 s2 S2 hl r2 w2 => kk (d :: ds) (v :: vs) F2 H2 (s1.trans s2) S2 (by simp [hl]) (.cons (r1.mono s2) r2) w2))
theorem aao_nil : AAo (α := α) X [] pNil := fun G F σ H ρ Q k C S w kk => semA pa_nil (kk [] [] F H (Same.refl _) S .nil w)
theorem aao_cons (h : AO X e p) (hr : AAo X es pα) (hs : starEach (e :: es) X.env = (false, eval e X.env) :: starEach es X.env) : AAo X (e :: es) (pCons p pα) :=
  fun G F σ H ρ Q k C S w kk => semA (pa_cons pe_sem pa_sem hs) (h G F σ H ρ _ S (w.bind.imp fun d F1 H1 s1 S1 w1 v r1 =>
    hr G F1 σ H1 ρ _ _ C S1 w1 fun ds vs F2 H2 s2 S2 r2 w2 => kk (d :: ds) (v :: vs) F2 H2 (s1.trans s2) S2 (.cons (r1.mono s2) r2) w2))
theorem W.fit {α : Type} {G : Gh} {F : Hp} {σ : L2.St} {ρ : En} {ds : List α} {C : List α → Hp → Hp → Prop} (h : W X G F σ ρ (fitM ds) C) : ds.length ≤ sizeLine ∧ ∀ F' H', Same F F' → StOk X.K G F' σ H' ρ → C ds F' H' := by
  unfold fitM at h
  split at h
  · exact ⟨by assumption, h⟩
  · exact h.elim
theorem ap_tup {x1} (h : AA X es ps) (hz : es.length ≤ 1000) : AP X (.Tuple es x1 pos) (pTup ps) :=
  fun G F σ H ρ Q S w => sem (pe_tup pa_sem) (h G F σ H ρ _ _ _ S w fun ds vs F1 H1 s1 S1 hl r1 w1 => by
    refine ⟨by rw [hl]; exact le1000 hz, fun q hq => ?_⟩
    obtain ⟨s2, S2, r2⟩ := S1.newTup hq r1
    exact w1 _ _ s2 S2 _ r2)
theorem al_lst (h : AA X es pl) (hz : es.length ≤ 1000) : AL X (.List es pos) (pLst pl) :=
  fun G F σ H ρ Q S w => sem (pe_lst pa_sem) (h G F σ H ρ _ _ _ S w fun ds vs F1 H1 s1 S1 hl r1 w1 => by
    refine ⟨by rw [hl]; exact le1000 hz, fun q hq => ?_⟩
    obtain ⟨S2, r2⟩ := S1.newLst hq r1
    exact w1 _ _ (Same.refl _) S2 _ r2)
theorem call_go {r : List V → Hp → VK → Prop} {Q : VK} {G : Gh} {F H : Hp} {σ : L2.St} {ρ : En} {f : List D → M α} {C : α → Hp → Hp → Prop} (ha : AAo X es pα) (S : StOk X.K G F σ H ρ) (w : W X G F σ ρ (pα f ρ) C)
    (k : ∀ xs ds F' H', Same F F' → StOk X.K G F' σ H' ρ → ORs X.K F' H' xs ds → W X G F' σ ρ (f ds) C → r xs H' Q) : tCB r (tSemA X es) σ H Q :=
  ha G F σ H ρ _ _ C S w fun ds xs F1 H1 s1 S1 hx w1 => k xs ds F1 H1 s1 S1 (hx.ors S1) w1
theorem ap_callB {x : Str} {p : Pos} {id : String} {r : List V → Hp → VK → Prop} {f : List D → Option D} (hc : CallR X (.builtin id) r) (hf : CallD X.K r f) (hg : Gl X x) (hm : X.mg x = none) (hv : bootBuiltins x = some (.builtin id)) (ha : AAo X (e :: es) ps)
    (hn : x ≠ "__name__") (hdb : (x == ("__debug__" : Str)) = false) (he : starEach (e :: es) X.env = (false, eval e X.env) :: starEach es X.env) (hpl : (backTo pos (starEach es X.env)).any (·.1) = false) : AP X (.Call (.Name x p) (e :: es) [] pos) (pCall f ps) :=
  fun G F σ H ρ Q S w => sem (pe_callB hc hg hm hv pa_sem hn hdb he hpl) (call_go ha S w fun xs ds F' H' s' S' hx w' => by
    obtain ⟨res, e, k⟩ := w'.opt
    exact hf G F' σ H' ρ xs ds res Q S' hx e fun v F2 H2 s2 S2 r2 => k F2 H2 s2 S2 v r2)
theorem at_b (ha : AB X a ta) (he : ∀ whole, isTrue a X.env whole = (do let v ← whole; standAt a.pos; holding [v] (truthy v))) : AT X a ta :=
  fun G F σ H ρ Q S w => semT (pt_truth pe_sem he) (ha G F σ H ρ _ S (w.imp fun x F1 H1 s1 S1 w1 => ⟨x, rfl, w1⟩))
theorem aw_or1 (ha : AT X a ta) : AW X (.BoolOp .Or [a] pos) ta := fun G F σ H ρ Q S w => semW (pw_or1 pt_sem) (ha G F σ H ρ Q S w)
theorem aw_or (ha : AT X a ta) (hb : AW X (.BoolOp .Or (b :: rest) pos) tb) : AW X (.BoolOp .Or (a :: b :: rest) pos) (pOr ta tb) :=
  fun G F σ H ρ Q S w => semW (pw_or pt_sem pw_sem) (ha G F σ H ρ _ S (w.bind.imp fun t F1 H1 s1 S1 w1 => by
    cases t with
    | true => refine iteT ?_; exact w1 F1 H1 (Same.refl _) S1
    | false => refine iteF ?_; exact hb G F1 σ H1 ρ Q S1 w1))
theorem at_aw (h : AW X e ta) : AT X e ta := fun G F σ H ρ Q S w => semT (fun pins s σ H Q I h => pw_sem _ pins s σ H Q I h) (h G F σ H ρ Q S w)
theorem at_not (ha : AT X a ta) : AT X (.UnaryOp .Not a pos) (pNot ta) :=
  fun G F σ H ρ Q S w => semT (pt_not pt_sem) (ha G F σ H ρ _ S (w.bind.imp fun t F1 H1 s1 S1 w1 => w1 F1 H1 (Same.refl _) S1))
theorem ap_if (hc : AT X c tc) (ha : AP X a pa) (hb : AP X b pb) : AP X (.IfExp c a b pos) (pIf tc pa pb) :=
  fun G F σ H ρ Q S w => sem (pe_ifExp pt_sem pe_sem pe_sem) (hc G F σ H ρ _ S (w.bind.imp fun t F1 H1 s1 S1 w1 => by
    cases t with
    | true => refine iteT ?_; exact ha G F1 σ H1 ρ Q S1 w1
    | false => refine iteF ?_; exact hb G F1 σ H1 ρ Q S1 w1))
end
end L4
set_option Elab.async false
set_option linter.all false
set_option maxRecDepth 100000
namespace L4
open PySem PySem.Spec PyProof.Rows L2 L3
def mulOk (i j : Int) : Bool := (decide (-(2 ^ 64) < i) && decide (i < 2 ^ 64)) || (decide (-(2 ^ 64) < j) && decide (j < 2 ^ 64))
def opAdd : D → D → Option D
  | .int i, .int j => some (.int (i + j))
  | .str a, .str b => if a.length + b.length ≤ sizeLine then some (.str (a ++ b)) else none
  | .tuple a, .tuple b => if a.length + b.length ≤ sizeLine then some (.tuple (a ++ b)) else none
  | .list a, .list b => if a.length + b.length ≤ sizeLine then some (.list (a ++ b)) else none
  | _, _ => none
def opSub : D → D → Option D
  | .int i, .int j => some (.int (i - j))
  | _, _ => none
def opMulI : D → D → Option D
  | .int i, .int j => if mulOk i j then some (.int (i * j)) else none
  | _, _ => none
def opDiv : D → D → Option D
  | .int i, .int j => if decide (0 < j) && decide (j < 1073741824) then some (.int (i / j)) else none
  | _, _ => none
def opMod : D → D → Option D
  | .int i, .int j => if 0 < j then some (.int (i % j)) else none
  | _, _ => none
def opPow : D → D → Option D
  | .int i, .int j => if decide (0 ≤ j) && decide (j ≤ 1000000) && decide (i.natAbs < 2 ^ 64) then some (.int (i ^ j.toNat)) else none
  | _, _ => none
def opGt : D → D → Option Bool
  | .int i, .int j => some (decide (j < i))
  | _, _ => none
def opGe : D → D → Option Bool
  | .int i, .int j => some (decide (j ≤ i))
  | _, _ => none
def rCat0 (K : Fg) : R2 := fun x y H Q => ∃ a b xs ys, x = .ref a ∧ y = .ref b ∧ SqT K H a xs ∧ SqT K H b ys ∧ xs.length + ys.length ≤ sizeLine ∧
  (xs = [] → Q (.ref b) H) ∧ (xs ≠ [] → ys = [] → Q (.ref a) H) ∧ (xs ≠ [] → ys ≠ [] → ∀ p, H p = none → Q (.ref p) (upd H p (.tup (xs ++ ys))))
theorem op_cat0 {X : Cx} : OpR X (binaryOp .Add) (rCat0 X.K) := by
  intro pins s σ H x y v u Q I rx ry h
  obtain ⟨a, b, xs, ys, rfl, rfl, ha, hb, hz, q0, q1, q2⟩ := h
  by_cases hx : xs = []
  · cases rx
    cases ry
    obtain ⟨its, r1, p1, _⟩ := I.tuple ha
    obtain ⟨its2, r2, p2, _⟩ := I.tuple hb
    have hv : its = [] := r1.nil_iff.mpr hx
    obtain ⟨⟨cls, dd, data, sl⟩, ho, hc, n, hd⟩ := id p1
    obtain ⟨⟨cls2, dd2, data2, sl2⟩, ho2, hc2, n2, hd2⟩ := id p2
    simp only at hc hd hc2 hd2
    subst hc hd hc2 hd2
    exact concat_meets ⟨_, ho, rfl⟩ ⟨_, ho2, rfl⟩ noFill_tuple_add seq_tuple_add PySem.F.slot_tuple_add PySem.F.entry_tuple_add (PySem.F.args_tuple_add_2 _ _)
      (tuple_addW0 a b its.toArray its2.toArray n n2 dd dd2 sl sl2 (by simp [hv])) ⟨ho, ho2, ⟨.ref b, H, I, rfl, q0 hx⟩⟩
  · exact op_catT pins s σ H _ _ v u Q I rx ry ⟨a, b, xs, ys, rfl, rfl, ha, hb, hx, hz, q1 hx, q2 hx⟩
section
variable {K : Fg} {X : Cx}
theorem okI {C : Int → Int → Prop} {g : Int → Int → V} {f : D → D → Option D} (h : ∀ dx dy res, f dx dy = some res → ∃ i j, dx = .int i ∧ dy = .int j ∧ C i j ∧ ∀ K F, Rep K F (g i j) res) : OpD K (rI C g) f := by
  intro G F σ H ρ x y dx dy res Q S ox oy e k
  obtain ⟨i, j, rfl, rfl, hc, hr⟩ := h dx dy res e
  exact ⟨i, j, ox.int, oy.int, hc, k _ F H (Same.refl _) S (hr K F)⟩
theorem okB {g : Int → Int → Bool} {f : D → D → Option Bool} (h : ∀ dx dy res, f dx dy = some res → ∃ i j, dx = .int i ∧ dy = .int j ∧ res = g i j) : OpB K (rI0 fun i j => .bl (g i j)) f := by
  intro G F σ H ρ x y dx dy res Q S ox oy e k
  obtain ⟨i, j, rfl, rfl, rfl⟩ := h dx dy res e
  exact ⟨i, j, ox.int, oy.int, k⟩
theorem ok_gt : OpB K (rI0 fun i j => .bl (decide (j < i))) opGt := okB fun dx dy res e => by
  cases dx <;> cases dy <;> cases e
  exact ⟨_, _, rfl, rfl, rfl⟩
theorem ok_ge : OpB K (rI0 fun i j => .bl (decide (j ≤ i))) opGe := okB fun dx dy res e => by
  cases dx <;> cases dy <;> cases e
  exact ⟨_, _, rfl, rfl, rfl⟩
theorem ok_div : OpD K (rI CDiv fun i j => .int (i / j)) opDiv := okI fun dx dy res e => by
  cases dx <;> cases dy <;> try (cases e)
  rename_i i j
  dsimp only [opDiv] at e
  split at e
  · rename_i hc
    cases e
    simp only [Bool.and_eq_true, decide_eq_true_eq] at hc
    exact ⟨i, j, rfl, rfl, hc, fun _ _ => .int _⟩
  · cases e
theorem ok_mod : OpD K (rI (fun _ j => 0 < j) fun i j => .int (i % j)) opMod := okI fun dx dy res e => by
  cases dx <;> cases dy <;> try (cases e)
  rename_i i j
  dsimp only [opMod] at e
  split at e
  · rename_i hc
    cases e
    exact ⟨i, j, rfl, rfl, hc, fun _ _ => .int _⟩
  · cases e
theorem ok_pow : OpD K (rI CPow fun i j => .int (i ^ j.toNat)) opPow := okI fun dx dy res e => by
  cases dx <;> cases dy <;> try (cases e)
  rename_i i j
  dsimp only [opPow] at e
  split at e
  · rename_i hc
    cases e
    simp only [Bool.and_eq_true, decide_eq_true_eq] at hc
    exact ⟨i, j, rfl, rfl, ⟨hc.1.1, hc.1.2, hc.2⟩, fun _ _ => .int _⟩
  · cases e
theorem repL_nil_iff {F : Hp} {vs : List V} {ds : List D} (r : RepL K F vs ds) : vs = [] ↔ ds = [] := by cases r <;> simp
def rCatL (K : Fg) : R2 := fun x y H Q => ∃ l b xs zs, x = .ref l ∧ y = .ref b ∧ SqL K H l xs ∧ SqL K H b zs ∧ xs.length + zs.length ≤ sizeLine ∧ ∀ p, H p = none → Q (.ref p) (upd H p (.lst (xs ++ zs)))
theorem op_catL : OpR X (binaryOp .Add) (rCatL X.K) := by
  intro pins s σ H x y v u Q I rx ry h
  obtain ⟨l, b, xs, zs, rfl, rfl, hH, hB, hz, q⟩ := h
  cases rx
  cases ry
  obtain ⟨its, r, pl, _⟩ := I.list hH
  obtain ⟨its2, r2, pl2, _⟩ := I.list hB
  obtain ⟨⟨cls, dd, data, sl⟩, ho, hc, n, hd⟩ := id pl.isList
  obtain ⟨⟨cls2, dd2, data2, sl2⟩, ho2, hc2, n2, hd2⟩ := id pl2.isList
  simp only at hc hd hc2 hd2
  subst hc hd hc2 hd2
  have e : its.toArray ++ its2.toArray = (its ++ its2).toArray := by simp
  refine concat_meets ⟨_, ho, rfl⟩ ⟨_, ho2, rfl⟩ noFill_list_add seq_list_add PySem.F.slot_list_add PySem.F.entry_list_add (PySem.F.args_list_add_2 _ _) (list_addW l b its.toArray its2.toArray n n2 dd dd2 sl sl2 (by rw [List.size_toArray, List.size_toArray, ← r.length, ← r2.length]; exact hz)) ⟨ho, ho2, ?_⟩
  rw [e]
  exact ⟨.ref _, _, I.laid (t' := s.toks) (o := .lst (xs ++ zs)) (fun b ob q => Heap.get?_push_of_some _ q) (Nat.le_refl _) ⟨by rw [List.length_append]; exact hz, _, 0, r.append r2, Heap.get?_push_size _ rfl⟩, rfl, q _ (I.hok.fresh (Nat.le_refl _))⟩
def rStr2 : R2 := fun x y H Q => ∃ i j, x = .str i ∧ y = .str j ∧ i.length + j.length ≤ sizeLine ∧ Q (.str (i ++ j)) H
def rAdd0 (K : Fg) : R2 := fun x y H Q => rI0 (fun i j => .int (i + j)) x y H Q ∨ (rStr2 x y H Q ∨ (rCat0 K x y H Q ∨ rCatL K x y H Q))
theorem op_addA : OpR X (binaryOp .Add) (rAdd0 X.K) := op_add.or (OpR.or op_add_str (op_cat0.or op_catL))
theorem ok_add : OpD K (rAdd0 K) opAdd := by
  intro G F σ H ρ x y dx dy res Q S ox oy e k
  cases dx <;> cases dy <;> try (cases e)
  · exact .inl ⟨_, _, ox.int, oy.int, k _ F H (Same.refl _) S (.int _)⟩
  · dsimp only [opAdd] at e
    split at e
    · rename_i hz
      cases e
      exact .inr (.inl ⟨_, _, ox.str, oy.str, hz, k _ F H (Same.refl _) S (.str _)⟩)
    · cases e
  · dsimp only [opAdd] at e
    split at e
    · rename_i hz
      cases e
      obtain ⟨a, vs, rfl, h1, h2⟩ := ox.list S.fh
      obtain ⟨b, us, rfl, g1, g2⟩ := oy.list S.fh
      refine .inr (.inr (.inr ⟨a, b, vs, us, rfl, rfl, h1, g1, by rw [h2.length, g2.length]; exact hz, fun p hp => ?_⟩))
      obtain ⟨S2, r2⟩ := S.newLst hp (h2.append g2)
      obtain ⟨F2, s3, S3, r3⟩ := S2.settle r2
      exact k _ F2 _ s3 S3 r3
    · cases e
  · dsimp only [opAdd] at e
    split at e
    · rename_i hz
      cases e
      obtain ⟨a, vs, rfl, h1, h2⟩ := ox.tuple S.fh
      obtain ⟨b, us, rfl, g1, g2⟩ := oy.tuple S.fh
      refine .inr (.inr (.inl ⟨a, b, vs, us, rfl, rfl, h1, g1, by rw [h2.length, g2.length]; exact hz, fun z => ?_, fun _ z => ?_, fun _ _ p hp => ?_⟩))
      · have z' := (repL_nil_iff h2).mp z
        subst z'
        exact k _ F H (Same.refl _) S oy.tup'
      · have z' := (repL_nil_iff g2).mp z
        subst z'
        exact k _ F H (Same.refl _) S (by rw [List.append_nil]; exact ox.tup')
      · obtain ⟨s2, S2, r2⟩ := S.newTup hp (h2.append g2)
        exact k _ _ _ s2 S2 r2
    · cases e
theorem ok_mul : OpD K (rI CMul fun i j => .int (i * j)) opMulI := okI fun dx dy res e => by
  cases dx <;> cases dy <;> try (cases e)
  rename_i i j
  dsimp only [opMulI] at e
  split at e
  · rename_i hc
    cases e
    unfold mulOk at hc
    simp only [Bool.or_eq_true, Bool.and_eq_true, decide_eq_true_eq] at hc
    exact ⟨i, j, rfl, rfl, hc, fun _ _ => .int _⟩
  · cases e
end
def eqOk (d e : D) : Bool := d.canLay0 && e.canLay0 && decide (d.depth ≤ 1000)
def opEq (d e : D) : Option Bool := if eqOk d e then some (PyData.eqv d e) else none
def opNe (d e : D) : Option Bool := if eqOk d e then some (!PyData.eqv d e) else none
def inOk (d : D) (xs : List D) : Bool := PyData.canLayAll0 xs && d.canLay0 && decide (d.depth ≤ 1000)
def inStr (i j : Str) : Bool := !(Builtin.Str.occurrences j i 0 j.length 1).isEmpty
def opIn (d c : D) : Option Bool := match c with
  | .list xs => if inOk d xs then some (xs.any fun y => PyData.eqv y d) else none
  | .tuple xs => if inOk d xs then some (xs.any fun y => PyData.eqv y d) else none
  | .str j => match d with
    | .str i => some (inStr i j)
    | _ => none
  | _ => none
def rD2 (K : Fg) (f : D → D → Option Bool) : R2 := fun x y H Q => ∃ d e b, Rep K H x d ∧ Rep K H y e ∧ f d e = some b ∧ Q (.bl b) H
theorem ok_D2 {K : Fg} {f : D → D → Option Bool} : OpB K (rD2 K f) f := by
  intro G F σ H ρ x y dx dy res Q S ox oy e k
  exact ⟨dx, dy, res, ox.rep S.fh, oy.rep S.fh, e, k⟩
section
variable {X : Cx}
theorem opr_eq (hu : X.A.units + 1100 < cLine) : OpR X (compareOp .Eq) (rD2 X.K opEq) := by
  intro pins s σ H x y v u Q I rx ry ⟨d, e, b, r1, r2, ho, q⟩
  unfold opEq at ho
  split at ho
  case isFalse => cases ho
  rename_i hc
  cases ho
  simp only [eqOk, Bool.and_eq_true, decide_eq_true_eq] at hc
  obtain ⟨as, ra⟩ := (reads_of I).1 r1 hc.1.1 rx
  obtain ⟨bs, rb⟩ := (reads_of I).1 r2 hc.1.2 ry
  exact SeqAt.compareEq_reads ra rb hc.1.1 hc.1.2 (by have := Nat.min_le_left d.depth e.depth; omega) ⟨.bl _, H, I, rfl, q⟩
theorem opr_ne (hu : X.A.units + 1100 < cLine) : OpR X (compareOp .NotEq) (rD2 X.K opNe) := by
  intro pins s σ H x y v u Q I rx ry ⟨d, e, b, r1, r2, ho, q⟩
  unfold opNe at ho
  split at ho
  case isFalse => cases ho
  rename_i hc
  cases ho
  simp only [eqOk, Bool.and_eq_true, decide_eq_true_eq] at hc
  obtain ⟨as, ra⟩ := (reads_of I).1 r1 hc.1.1 rx
  obtain ⟨bs, rb⟩ := (reads_of I).1 r2 hc.1.2 ry
  exact SeqAt.compareNe_reads ra rb hc.1.1 hc.1.2 (by have := Nat.min_le_left d.depth e.depth; omega) ⟨.bl _, H, I, rfl, q⟩
end
def opIx : D → D → Option D
  | .list ds, .int i => atI ds i
  | .tuple ds, .int i => atI ds i
  | .str z, .int i => if z.length ≤ sizeLine then (atI z.cps.toList i).map fun c => .str ⟨#[c]⟩ else none
  | _, _ => none
theorem atI_rep {K : Fg} {F : Hp} {vs : List V} {ds : List D} {i : Int} {d : D} (r : RepL K F vs ds) (h : atI ds i = some d) : ∃ v, atI vs i = some v ∧ Rep K F v d := by
  unfold atI at h ⊢
  rw [r.length]
  cases q : ixN ds.length i with
  | none => rw [q] at h; cases h
  | some j =>
    rw [q] at h
    exact r.get (i := j) h
theorem ok_ix {K : Fg} : OpD K (rIx K) opIx := by
  intro G F σ H ρ x y dx dy res Q S ox oy e k
  cases dx <;> cases dy <;> try (cases e)
  · dsimp only [opIx] at e
    split at e
    · rename_i hz
      obtain ⟨c, hc, rfl⟩ := Option.map_eq_some_iff.mp e
      exact .inr (.inr ⟨_, _, c, ox.str, oy.int, hz, hc, k _ F H (Same.refl _) S (.str _)⟩)
    · cases e
  · obtain ⟨a, vs, rfl, h1, h2⟩ := ox.list S.fh
    obtain ⟨v, e1, e2⟩ := atI_rep h2 e
    exact .inl ⟨a, vs, _, v, rfl, oy.int, h1, e1, k v F H (Same.refl _) S e2⟩
  · obtain ⟨a, vs, rfl, h1, h2⟩ := ox.tuple S.fh
    obtain ⟨v, e1, e2⟩ := atI_rep h2 e
    exact .inr (.inl ⟨a, vs, _, v, rfl, oy.int, h1, e1, k v F H (Same.refl _) S e2⟩)
end L4
set_option Elab.async false
set_option linter.all false
set_option maxRecDepth 100000
namespace L4
open PySem PySem.Spec PyProof.Rows L2 L3
def fLen : List D → Option D
  | [.list ds] => some (.int ds.length)
  | [.tuple ds] => some (.int ds.length)
  | [.str z] => if z.length ≤ sizeLine then some (.int z.length) else none
  | _ => none
def fAbs : List D → Option D
  | [.int i] => some (.int (if i < 0 then -i else i))
  | _ => none
def rLen (K : Fg) : List V → Hp → VK → Prop := fun xs H Q => (∃ p ys, xs = [.ref p] ∧ (SqL K H p ys ∨ SqT K H p ys) ∧ Q (.int ys.length) H) ∨ ∃ z, xs = [.str z] ∧ z.length ≤ sizeLine ∧ Q (.int z.length) H
theorem call_lenA {X : Cx} : CallR X (.builtin "len") (rLen X.K) := CallR.or call_len_seq call_len_str
theorem ok_len {K : Fg} : CallD K (rLen K) fLen := by
  intro G F σ H ρ xs ds res Q S o e k
  unfold fLen at e
  split at e
  · rename_i es
    cases e
    obtain ⟨v, r, rfl, ho, hr⟩ := ors_cons o
    obtain rfl := ors_nil hr
    obtain ⟨a, vs, rfl, h1, h2⟩ := ho.list S.fh
    exact .inl ⟨a, vs, rfl, .inl h1, k _ F H (Same.refl _) S (by rw [h2.length]; exact .int _)⟩
  · rename_i es
    cases e
    obtain ⟨v, r, rfl, ho, hr⟩ := ors_cons o
    obtain rfl := ors_nil hr
    obtain ⟨a, vs, rfl, h1, h2⟩ := ho.tuple S.fh
    exact .inl ⟨a, vs, rfl, .inr h1, k _ F H (Same.refl _) S (by rw [h2.length]; exact .int _)⟩
  · split at e
    · rename_i hz
      cases e
      obtain ⟨v, r, rfl, ho, hr⟩ := ors_cons o
      obtain rfl := ors_nil hr
      exact .inr ⟨_, by rw [ho.str], hz, k _ F H (Same.refl _) S (.int _)⟩
    · cases e
  · cases e
theorem ok_abs {K : Fg} : CallD K (fun xs H Q => ∃ i, xs = [.int i] ∧ Q (.int (if i < 0 then -i else i)) H) fAbs := by
  intro G F σ H ρ xs ds res Q S o e k
  unfold fAbs at e
  split at e
  · cases e
    obtain ⟨v, r, rfl, ho, hr⟩ := ors_cons o
    obtain rfl := ors_nil hr
    exact ⟨_, by rw [ho.int], k _ F H (Same.refl _) S (show Rep K F _ _ from .int _)⟩
  · cases e
theorem isXe_T {kvs : List (List Key × V)} {es : List (D × D)} (h : es.map (·.1) = kvs.map (fun p => keyT p.1)) : isXe es = false := by
  cases es with
  | nil => rfl
  | cons e r =>
    cases kvs with
    | nil => cases h
    | cons k ks =>
      obtain ⟨e1, e2⟩ := e
      simp only [List.map_cons, List.cons.injEq] at h
      rw [h.1]
      rfl
theorem isXe_K {kvs : List (Key × V)} {es : List (D × D)} (h : es.map (·.1) = kvs.map (fun p => keyD p.1)) : isXe es = false := by
  cases es with
  | nil => rfl
  | cons e r =>
    cases kvs with
    | nil => cases h
    | cons k ks =>
      obtain ⟨e1, e2⟩ := e
      obtain ⟨k1, k2⟩ := k
      simp only [List.map_cons, List.cons.injEq] at h
      rw [h.1]
      cases k1 <;> rfl
end L4
set_option Elab.async false
set_option linter.all false
set_option maxRecDepth 100000
namespace L4
open PySem PySem.Spec PyProof.Rows L2 L3
section
variable {K : Fg} {G : Gh} {F H : Hp} {σ : L2.St} {ρ ρ' : En}
theorem _root_.L3.StOk.weak (S : StOk K G F σ H ρ) (hl : ρ'.length = ρ.length) (h : ∀ (i : Nat) (av : AV), ρ'[i]? = some (some av) → ρ[i]? = some (some av)) (hp : ∀ (i : Nat) (c : OC), ρ[i]? = some (some (AV.op c)) → ρ'[i]? = some (some (AV.op c))) : StOk K G F σ H ρ' := by
  have ow' : ∀ j c, own ρ' j c → own ρ j c := fun j c q => q.imp (h _ _) (h _ _)
  refine ⟨S.fh, S.oh, S.fo, S.ln.trans hl.symm, fun j d q => S.fz j d (h _ _ q), fun j c q => S.ow j c (ow' j c q), fun j k c e a h1 h2 => S.dj j k c e a (ow' j c h1) (ow' k e h2), fun j a q => ?_, fun j c q => S.pq j c (h _ _ q), S.fb⟩
  obtain ⟨q1, c, q2⟩ := S.pp j a q
  exact ⟨q1, c, hp _ _ q2⟩
theorem app_none {k : Nat} {i : Nat} {av : AV} (h : (ρ ++ List.replicate k none)[i]? = some (some av)) : ρ[i]? = some (some av) := by
  by_cases hi : i < ρ.length
  · rw [List.getElem?_append_left hi] at h; exact h
  · rw [List.getElem?_append_right (Nat.not_lt.mp hi), List.getElem?_replicate] at h
    split at h <;> cases h
theorem _root_.L3.StOk.grow (S : StOk K G F σ H ρ) (k : Nat) : StOk K G F (σ ++ List.replicate k none) H (ρ ++ List.replicate k none) := by
  have ap : ∀ {i : Nat} {v : V}, σ[i]? = some (some v) → (σ ++ List.replicate k none)[i]? = some (some v) := fun {i v} e => by
    rw [List.getElem?_append_left (List.getElem?_eq_some_iff.mp e).1]; exact e
  have apr : ∀ {i : Nat} {v : AV}, ρ[i]? = some (some v) → (ρ ++ List.replicate k none)[i]? = some (some v) := fun {i v} e => by
    rw [List.getElem?_append_left (List.getElem?_eq_some_iff.mp e).1]; exact e
  have ow' : ∀ i c, own (ρ ++ List.replicate k none) i c → own ρ i c := fun i c h => by
    rcases h with h | h
    · exact .inl (app_none h)
    · exact .inr (app_none h)
  refine ⟨S.fh, S.oh, S.fo, by simp [S.ln], fun i d h => ?_, fun i c h => ?_, fun i j c e a h1 h2 e1 e2 => ?_, fun i a h => ?_, fun i c h => S.pq i c (app_none h), S.fb⟩
  · obtain ⟨v, e, r⟩ := S.fz i d (app_none h); exact ⟨v, ap e, r⟩
  · obtain ⟨a, e, oa⟩ := S.ow i c (ow' i c h); exact ⟨a, ap e, oa⟩
  · have o1 := ow' i c h1
    have o2 := ow' j e h2
    obtain ⟨a1, q1, _⟩ := S.ow i c o1
    obtain ⟨a2, q2, _⟩ := S.ow j e o2
    rw [ap q1] at e1; rw [ap q2] at e2
    injection e1 with e1; injection e2 with e2
    exact S.dj i j c e a o1 o2 (by rw [q1, e1]) (by rw [q2, e2])
  · obtain ⟨e, c, q⟩ := S.pp i a h; exact ⟨ap e, c, apr q⟩
theorem _root_.L3.StOk.shrink (S : StOk K G F σ H ρ) {n : Nat} (hn : n ≤ ρ.length) (hp : ∀ i a, G.P i = some a → i < n) : StOk K G F (σ.take n) H (ρ.take n) := by
  have tk : ∀ {i : Nat} {v : AV}, (ρ.take n)[i]? = some (some v) → i < n ∧ ρ[i]? = some (some v) := fun {i v} e => by
    have hi : i < n := by
      have := (List.getElem?_eq_some_iff.mp e).1
      rw [List.length_take] at this; omega
    rw [List.getElem?_take_of_lt hi] at e
    exact ⟨hi, e⟩
  have ow' : ∀ i c, own (ρ.take n) i c → i < n ∧ own ρ i c := fun i c h => by
    rcases h with h | h
    · exact ⟨(tk h).1, .inl (tk h).2⟩
    · exact ⟨(tk h).1, .inr (tk h).2⟩
  refine ⟨S.fh, S.oh, S.fo, by simp [S.ln], fun i d h => ?_, fun i c h => ?_, fun i j c e a h1 h2 e1 e2 => ?_, fun i a h => ?_, fun i c h => S.pq i c (tk h).2, S.fb⟩
  · obtain ⟨v, e, r⟩ := S.fz i d (tk h).2; exact ⟨v, by rw [List.getElem?_take_of_lt (tk h).1]; exact e, r⟩
  · obtain ⟨a, e, oa⟩ := S.ow i c (ow' i c h).2; exact ⟨a, by rw [List.getElem?_take_of_lt (ow' i c h).1]; exact e, oa⟩
  · rw [List.getElem?_take_of_lt (ow' i c h1).1] at e1
    rw [List.getElem?_take_of_lt (ow' j e h2).1] at e2
    exact S.dj i j c e a (ow' i c h1).2 (ow' j e h2).2 e1 e2
  · obtain ⟨e, c, q⟩ := S.pp i a h
    exact ⟨by rw [List.getElem?_take_of_lt (hp i a h)]; exact e, c, by rw [List.getElem?_take_of_lt (hp i a h)]; exact q⟩
end
theorem take_eq_of {α : Type} {l l' : List α} {n : Nat} (h : ∀ j, j < n → l'[j]? = l[j]?) (hl : l.length = n) : l'.take n = l := by
  apply List.ext_getElem?
  intro i
  by_cases hi : i < n
  · rw [List.getElem?_take_of_lt hi, h i hi]
  · rw [List.getElem?_eq_none_iff.mpr (by rw [List.length_take]; omega), List.getElem?_eq_none_iff.mpr (by omega)]
inductive Kd where
  | dead | f | o | p | t | k
@[reducible] def SOf : List Kd → Type
  | [] => Unit
  | .dead :: r => SOf r
  | .f :: r => D × SOf r
  | .o :: r => List D × SOf r
  | .p :: r => List D × SOf r
  | .t :: r => List (D × D) × SOf r
  | .k :: r => List (D × D) × SOf r
def rd : (sh : List Kd) → En → Option (SOf sh)
  | [], [] => some ()
  | .dead :: r, x :: ρ => match x with
    | some (.op _) => none
    | _ => rd r ρ
  | .f :: r, x :: ρ => match x with
    | some (.fz d) => match rd r ρ with
      | some s => some (d, s)
      | none => none
    | _ => none
  | .o :: r, x :: ρ => match x with
    | some (.ol (.l ds)) => match rd r ρ with
      | some s => some (ds, s)
      | none => none
    | _ => none
  | .p :: r, x :: ρ => match x with
    | some (.op (.l ds)) => match rd r ρ with
      | some s => some (ds, s)
      | none => none
    | _ => none
  | .t :: r, x :: ρ => match x with
    | some (.ol (.t ds)) => match rd r ρ with
      | some s => some (ds, s)
      | none => none
    | _ => none
  | .k :: r, x :: ρ => match x with
    | some (.ol (.k ds)) => match rd r ρ with
      | some s => some (ds, s)
      | none => none
    | _ => none
  | _, _ => none
def wr : (sh : List Kd) → SOf sh → En
  | [], _ => []
  | .dead :: r, s => none :: wr r s
  | .f :: r, s => some (.fz s.1) :: wr r s.2
  | .o :: r, s => some (.ol (.l s.1)) :: wr r s.2
  | .p :: r, s => some (.op (.l s.1)) :: wr r s.2
  | .t :: r, s => some (.ol (.t s.1)) :: wr r s.2
  | .k :: r, s => some (.ol (.k s.1)) :: wr r s.2
theorem rd_wr : ∀ (sh : List Kd) (ρ : En) (s : SOf sh), rd sh ρ = some s → (wr sh s).length = ρ.length ∧ (∀ (i : Nat) (av : AV), (wr sh s)[i]? = some (some av) → ρ[i]? = some (some av)) ∧ (∀ (i : Nat) (c : OC), ρ[i]? = some (some (AV.op c)) → (wr sh s)[i]? = some (some (AV.op c)))
  | [], [], s, h => ⟨rfl, fun i av q => by simpa [wr] using q, fun i c q => by simp at q⟩
  | [], _ :: _, s, h => by cases h
  | .dead :: r, [], s, h => by cases h
  | .f :: r, [], s, h => by cases h
  | .o :: r, [], s, h => by cases h
  | .p :: r, [], s, h => by cases h
  | .t :: r, [], s, h => by cases h
  | .k :: r, [], s, h => by cases h
  | .dead :: r, x :: ρ, s, h => by
    dsimp only [rd] at h
    split at h
    · cases h
    · rename_i hx
      obtain ⟨h1, h2, h3⟩ := rd_wr r ρ s h
      refine ⟨by simp [wr, h1], fun i av q => ?_, fun i c q => ?_⟩
      · cases i with
        | zero => simp [wr] at q
        | succ i => simpa using h2 i av (by simpa [wr] using q)
      · cases i with
        | zero => simp at q; exact absurd q (hx c)
        | succ i => simpa [wr] using h3 i c (by simpa using q)
  | .f :: r, x :: ρ, s, h => by
    dsimp only [rd] at h
    split at h
    · split at h
      · rename_i s' e
        cases h
        obtain ⟨h1, h2, h3⟩ := rd_wr r ρ s' e
        refine ⟨by simp [wr, h1], fun i av q => ?_, fun i c q => ?_⟩
        · cases i with
          | zero => simpa [wr] using q
          | succ i => simpa using h2 i av (by simpa [wr] using q)
        · cases i with
          | zero => simp at q
          | succ i => simpa [wr] using h3 i c (by simpa using q)
      · cases h
    · cases h
  | .o :: r, x :: ρ, s, h => by
    dsimp only [rd] at h
    split at h
    · split at h
      · rename_i s' e
        cases h
        obtain ⟨h1, h2, h3⟩ := rd_wr r ρ s' e
        refine ⟨by simp [wr, h1], fun i av q => ?_, fun i c q => ?_⟩
        · cases i with
          | zero => simpa [wr] using q
          | succ i => simpa using h2 i av (by simpa [wr] using q)
        · cases i with
          | zero => simp at q
          | succ i => simpa [wr] using h3 i c (by simpa using q)
      · cases h
    · cases h
  | .p :: r, x :: ρ, s, h => by
    dsimp only [rd] at h
    split at h
    · split at h
      · rename_i s' e
        cases h
        obtain ⟨h1, h2, h3⟩ := rd_wr r ρ s' e
        refine ⟨by simp [wr, h1], fun i av q => ?_, fun i c q => ?_⟩
        · cases i with
          | zero => simpa [wr] using q
          | succ i => simpa using h2 i av (by simpa [wr] using q)
        · cases i with
          | zero => simpa [wr] using q
          | succ i => simpa [wr] using h3 i c (by simpa using q)
      · cases h
    · cases h
  | .t :: r, x :: ρ, s, h => by
    dsimp only [rd] at h
    split at h
    · split at h
      · rename_i s' e
        cases h
        obtain ⟨h1, h2, h3⟩ := rd_wr r ρ s' e
        refine ⟨by simp [wr, h1], fun i av q => ?_, fun i c q => ?_⟩
        · cases i with
          | zero => simpa [wr] using q
          | succ i => simpa using h2 i av (by simpa [wr] using q)
        · cases i with
          | zero => simp at q
          | succ i => simpa [wr] using h3 i c (by simpa using q)
      · cases h
    · cases h
  | .k :: r, x :: ρ, s, h => by
    dsimp only [rd] at h
    split at h
    · split at h
      · rename_i s' e
        cases h
        obtain ⟨h1, h2, h3⟩ := rd_wr r ρ s' e
        refine ⟨by simp [wr, h1], fun i av q => ?_, fun i c q => ?_⟩
        · cases i with
          | zero => simpa [wr] using q
          | succ i => simpa using h2 i av (by simpa [wr] using q)
        · cases i with
          | zero => simp at q
          | succ i => simpa [wr] using h3 i c (by simpa using q)
      · cases h
    · cases h
theorem _root_.L3.StOk.rd {K : Fg} {G : Gh} {F H : Hp} {σ : L2.St} {ρ : En} {sh : List Kd} {s : SOf sh} (S : StOk K G F σ H ρ) (h : L4.rd sh ρ = some s) : StOk K G F σ H (wr sh s) := by
  obtain ⟨h1, h2, h3⟩ := rd_wr sh ρ s h
  exact S.weak h1 h2 h3
def rdk {S : Type} (sh : List Kd) (k : SOf sh → M S) (ρ : En) : M S := match rd sh ρ with
  | some s => k s
  | none => .bad
abbrev Ev (S α : Type) := (Ex → En → M S) → (α → En → M S) → En → M S
structure KS (S : Type) where
  nx : En → M S
  rt : D → En → M S
  rl : List D → En → M S
  bk : En → M S
  ct : En → M S
  x : Ex → En → M S
def KOk {S : Type} (OK : M S → Prop) : Prop := ¬ OK .bad
def XL {S : Type} (X : Cx) (OK : M S → Prop) (x : Ex → En → M S) (G : Gh) : Prop := ∀ F ρ e, OK (x e ρ) → XW X G F ρ e
def AE {S : Type} (X : Cx) (e : Expr) (m : Ev S D) : Prop :=
  ∀ (OK : M S → Prop) (x : Ex → En → M S) (k : D → En → M S) (G : Gh) (F : Hp) (σ : L2.St) (H : Hp) (ρ : En) (Q : VK), KOk OK → XL X OK x G → StOk X.K G F σ H ρ → OK (m x k ρ) →
    (∀ d v F' H' ρ', Same F F' → StOk X.K G F' σ H' ρ' → Rep X.K F' v d → OK (k d ρ') → Q v H') → tSem X e σ H Q
def AEt {S : Type} (X : Cx) (e : Expr) (m : Ev S Bool) : Prop :=
  ∀ (OK : M S → Prop) (x : Ex → En → M S) (k : Bool → En → M S) (G : Gh) (F : Hp) (σ : L2.St) (H : Hp) (ρ : En) (Q : Bool → Hp → Prop), KOk OK → XL X OK x G → StOk X.K G F σ H ρ → OK (m x k ρ) →
    (∀ d F' H' ρ', Same F F' → StOk X.K G F' σ H' ρ' → OK (k d ρ') → Q d H') → tSemT X e σ H Q
def AEa {S : Type} (X : Cx) (es : List Expr) (m : Ev S (List D)) : Prop :=
  ∀ (OK : M S → Prop) (x : Ex → En → M S) (k : List D → En → M S) (G : Gh) (F : Hp) (σ : L2.St) (H : Hp) (ρ : En) (Q : List V → Hp → Prop), KOk OK → XL X OK x G → StOk X.K G F σ H ρ → OK (m x k ρ) →
    (∀ ds vs F' H' ρ', Same F F' → StOk X.K G F' σ H' ρ' → vs.length = es.length → RepL X.K F' vs ds → OK (k ds ρ') → Q vs H') → tSemA X es σ H Q
def AEl {S : Type} (X : Cx) (e : Expr) (m : Ev S (List D)) : Prop :=
  ∀ (OK : M S → Prop) (x : Ex → En → M S) (k : List D → En → M S) (G : Gh) (F : Hp) (σ : L2.St) (H : Hp) (ρ : En) (Q : VK), KOk OK → XL X OK x G → StOk X.K G F σ H ρ → OK (m x k ρ) →
    (∀ ds v F' H' ρ', Same F F' → StOk X.K G F' σ H' ρ' → Frs X.K G F' σ H' ρ' v (.l ds) → OK (k ds ρ') → Q v H') → tSem X e σ H Q
def ePu {S α : Type} (p : Pu α) : Ev S α := fun x k ρ => (p ρ).on (fun e => x e ρ) (fun a => k a ρ)
section
variable {S α : Type} {X : Cx} {OK : M S → Prop} {x : Ex → En → M S} {k : α → En → M S} {G : Gh} {F : Hp} {σ : L2.St} {ρ : En} {p : Pu α} {C : α → Hp → Hp → Prop}
theorem W.of (hO : KOk OK) (hX : XL X OK x G) (h : OK (ePu p x k ρ)) (w : ∀ a F' H', Same F F' → StOk X.K G F' σ H' ρ → OK (k a ρ) → C a F' H') : W X G F σ ρ (p ρ) C := by
  unfold ePu at h
  cases hp : p ρ with
  | ret a => rw [hp] at h; exact fun F' H' s S' => w a F' H' s S' h
  | exc e => rw [hp] at h; exact hX F ρ e h
  | bad => rw [hp] at h; exact hO h
end
section
variable {S : Type} {X : Cx} {e a b c : Expr} {es rest : List Expr} {p : Pu D} {pt : Pu Bool} {ps : Pu (List D)} {pos : Pos}
theorem ae_pu (h : AP X e p) : AE (S := S) X e (ePu p) := fun OK x k G F σ H ρ Q hO hX St ok kk => h G F σ H ρ Q St (W.of hO hX ok fun d F' H' s S' o v r => kk d v F' H' ρ s S' r o)
theorem aet_pu (h : AT X e pt) : AEt (S := S) X e (ePu pt) := fun OK x k G F σ H ρ Q hO hX St ok kk => h G F σ H ρ Q St (W.of hO hX ok fun d F' H' s S' o => kk d F' H' ρ s S' o)
theorem ael_pu (h : AL X e ps) : AEl (S := S) X e (ePu ps) := fun OK x k G F σ H ρ Q hO hX St ok kk => h G F σ H ρ Q St (W.of hO hX ok fun d F' H' s S' o v r => kk d v F' H' ρ s S' r o)
def eBin (f : D → D → Option D) (a b : Ev S D) : Ev S D := fun x k ρ => a x (fun d ρ1 => b x (fun d2 ρ2 => (oM (f d d2)).on (fun e => x e ρ2) (fun r => k r ρ2)) ρ1) ρ
def eNil : Ev S (List D) := fun _ k ρ => k [] ρ
def eCons (m : Ev S D) (ms : Ev S (List D)) : Ev S (List D) := fun x k ρ => m x (fun d ρ1 => ms x (fun ds ρ2 => k (d :: ds) ρ2) ρ1) ρ
theorem opt_ok {α : Type} {OK : M S → Prop} (hO : KOk OK) {o : Option α} {x : Ex → M S} {k : α → M S} (h : OK ((oM o).on x k)) : ∃ a, o = some a ∧ OK (k a) := by
  cases o with
  | none => exact (hO h).elim
  | some a => exact ⟨a, rfl, h⟩
variable {ma mb m : Ev S D} {ta tb tc : Ev S Bool} {ms : Ev S (List D)}
theorem ebin_go {r : R2} {Q : VK} {OK : M S → Prop} {x : Ex → En → M S} {G : Gh} {F H : Hp} {σ : L2.St} {ρ : En} {f : D → D → En → M S} (ha : AE X a ma) (hb : AE X b mb) (hO : KOk OK) (hX : XL X OK x G) (St : StOk X.K G F σ H ρ)
    (ok : OK (ma x (fun d ρ1 => mb x (fun d2 ρ2 => f d d2 ρ2) ρ1) ρ)) (k : ∀ u v dx dy F' H' ρ', Same F F' → StOk X.K G F' σ H' ρ' → Rep X.K F' u dx → Rep X.K F' v dy → OK (f dx dy ρ') → r u v H' Q) : tOp r (tSem X a) (tSem X b) σ H Q :=
  ha OK x _ G F σ H ρ _ hO hX St ok fun d v F1 H1 ρ1 s1 S1 r1 o1 => hb OK x _ G F1 σ H1 ρ1 _ hO hX S1 o1 fun d2 u F2 H2 ρ2 s2 S2 r2 o2 => k v u d d2 F2 H2 ρ2 (s1.trans s2) S2 (r1.mono s2) r2 o2
theorem ae_ix {r : R2} {f : D → D → Option D} (hr : IxR X r) (hf : OpD X.K r f) (ha : AE X a ma) (hb : AE X b mb) (hs : PlainIx b) : AE X (.Subscript a b pos) (eBin f ma mb) :=
  fun OK x k G F σ H ρ Q hO hX St ok kk => sem (pe_ix hr pe_sem pe_sem hs) (ebin_go ha hb hO hX St ok fun u v dx dy F' H' ρ' s S' r1 r2 o => by
    obtain ⟨res, e, o'⟩ := opt_ok hO o
    exact hf G F' σ H' ρ' u v dx dy res Q S' (.inl r1) (.inl r2) e fun w F2 H2 s2 S2 r3 => kk res w F2 H2 ρ' (s.trans s2) S2 r3 o')
theorem aea_nil : AEa (S := S) X [] eNil := fun OK x k G F σ H ρ Q hO hX St ok kk => semA pa_nil (kk [] [] F H ρ (Same.refl _) St rfl .nil ok)
theorem aea_cons (h : AE X e m) (hr : AEa X es ms) (hs : starEach (e :: es) X.env = (false, eval e X.env) :: starEach es X.env) : AEa X (e :: es) (eCons m ms) :=
  fun OK x k G F σ H ρ Q hO hX St ok kk => semA (pa_cons pe_sem pa_sem hs) (h OK x _ G F σ H ρ _ hO hX St ok fun d v F1 H1 ρ1 s1 S1 r1 o1 =>
    hr OK x _ G F1 σ H1 ρ1 _ hO hX S1 o1 fun ds vs F2 H2 ρ2 s2 S2 hl r2 o2 => kk (d :: ds) (v :: vs) F2 H2 ρ2 (s1.trans s2) S2 (by simp [hl]) (.cons (r1.mono s2) r2) o2)
end
end L4
set_option Elab.async false
set_option linter.all false
set_option maxRecDepth 100000
namespace L4
open PySem PySem.Spec PyProof.Rows L2 L3
structure Walk (K : Fg) (J : It) (ds : List D) (F : Hp) : Prop where
  go : ∀ (i : Nat) (G : Gh) (F2 : Hp) (σ : L2.St) (H2 : Hp) (ρ : En), Same F F2 → StOk K G F2 σ H2 ρ → i < ds.length → J.go i H2
  yld : ∀ (i : Nat) (G : Gh) (F2 : Hp) (σ : L2.St) (H2 : Hp) (ρ : En) (x : V) (H3 : Hp) (d : D), Same F F2 → StOk K G F2 σ H2 ρ → ds[i]? = some d → J.yld i H2 x H3 → ∃ F3, Same F2 F3 ∧ StOk K G F3 σ H3 ρ ∧ Rep K F3 x d
  stop : ∀ (G : Gh) (F2 : Hp) (σ : L2.St) (H2 : Hp) (ρ : En), Same F F2 → StOk K G F2 σ H2 ρ → J.stop ds.length H2
def rangeD (lo : Int) (n : Nat) : List D := (List.range n).map fun (i : Nat) => PyData.int (lo + (i : Int))
theorem rangeD_length (lo : Int) (n : Nat) : (rangeD lo n).length = n := by simp [rangeD]
theorem walk_range {K : Fg} {F : Hp} (lo : Int) (n : Nat) : Walk K (Itr lo n) (rangeD lo n) F where
  go := fun i G F2 σ H2 ρ s S hi => by rw [rangeD_length] at hi; exact hi
  yld := fun i G F2 σ H2 ρ x H3 d s S hd ⟨e, q⟩ => by
    subst e q
    have e' : (rangeD lo n)[i]? = some d := hd
    unfold rangeD at e'
    rw [List.getElem?_map] at e'
    have hi : i < n := by
      have := (List.getElem?_eq_some_iff.mp hd).1
      rw [rangeD_length] at this; exact this
    rw [List.getElem?_range hi] at e'
    cases e'
    exact ⟨F2, Same.refl _, S, .int _⟩
  stop := fun G F2 σ H2 ρ s S => by rw [rangeD_length]; exact Nat.le_refl _
@[irreducible] def tSemI (X : Cx) (tg iter : Expr) : TI := fun σ H R => ∀ (pins : List (Addr × Obj)) (s : Shared), Inv X pins σ H s → wpAny (model X.prog X.w) X.A (eval iter X.env) (fun v s1 => wpAny (model X.prog X.w) X.A (pyIter v) (PIE X pins σ tg R) X.xe s1) X.xe s
theorem pi_sem {X : Cx} {tg e : Expr} : PI X tg e (tSemI X tg e) := fun pins s σ H R I h => by unfold tSemI at h; exact h pins s I
theorem semI {X : Cx} {tg e : Expr} {σ : L2.St} {H : Hp} {R : It → Hp → Prop} {t : TI} (h : PI X tg e t) (q : t σ H R) : tSemI X tg e σ H R := by unfold tSemI; exact fun pins s I => h pins s σ H R I q
def AI (X : Cx) (tg e : Expr) (p : Pu (List D)) : Prop :=
  ∀ (G : Gh) (F : Hp) (σ : L2.St) (H : Hp) (ρ : En) (R : It → Hp → Prop), StOk X.K G F σ H ρ → W X G F σ ρ (p ρ) (fun ds F' H' => ∀ J, Walk X.K J ds F' → R J H') → tSemI X tg e σ H R
def AEi {S : Type} (X : Cx) (tg e : Expr) (m : Ev S (List D)) : Prop :=
  ∀ (OK : M S → Prop) (x : Ex → En → M S) (k : List D → En → M S) (G : Gh) (F : Hp) (σ : L2.St) (H : Hp) (ρ : En) (R : It → Hp → Prop), KOk OK → XL X OK x G → StOk X.K G F σ H ρ → OK (m x k ρ) →
    (∀ ds J F' H' ρ', Same F F' → StOk X.K G F' σ H' ρ' → Walk X.K J ds F' → OK (k ds ρ') → R J H') → tSemI X tg e σ H R
theorem aei_pu {S : Type} {X : Cx} {tg e : Expr} {ps : Pu (List D)} (h : AI X tg e ps) : AEi (S := S) X tg e (ePu ps) := fun OK x k G F σ H ρ Q hO hX St ok kk => h G F σ H ρ Q St (W.of hO hX ok fun d F' H' s S' o v r => kk d v F' H' ρ s S' r o)
def small62 (i : Int) : Bool := decide (-(2 ^ 62) ≤ i) && decide (i < 2 ^ 62)
theorem small62_of {i : Int} (h : small62 i = true) : -(2 ^ 62) ≤ i ∧ i < 2 ^ 62 := by
  unfold small62 at h
  simp only [Bool.and_eq_true, decide_eq_true_eq] at h
  exact h
def fRange1 : List D → Option (List D)
  | [.int j] => if small62 j then some (rangeD 0 j.toNat) else none
  | _ => none
section
variable {S : Type} {X : Cx} {tg e a b : Expr} {pp : Pu D} {ps : Pa (List D)} {m : Ev S D} {ms : Ev S (List D)} {p pos : Pos}
theorem range1_go {F H : Hp} {vs : List V} {ds out : List D} {R : It → Hp → Prop} (r : RepL X.K F vs ds) (h : fRange1 ds = some out) (k : ∀ J, Walk X.K J out F → R J H) : ∃ j, vs = [.int j] ∧ -(2 ^ 62) ≤ j ∧ j < 2 ^ 62 ∧ R (Itr 0 j.toNat) H := by
  unfold fRange1 at h
  split at h
  · rename_i j
    split at h
    · rename_i hs
      cases h
      cases r with
      | cons r1 r2 =>
        cases r2
        cases r1
        exact ⟨j, rfl, (small62_of hs).1, (small62_of hs).2, k _ (walk_range 0 j.toNat)⟩
    · cases h
  · cases h
theorem ai_range1 (hg : Gl X "range") (hm : X.mg "range" = none) (ha : AA X [a] ps) (hs : starEach [a] X.env = [(false, eval a X.env)]) : AI X tg (.Call (.Name "range" p) [a] [] pos) (pCallL fRange1 ps) :=
  fun G F σ H ρ R S w => semI (pi_range1 hg hm pa_sem hs) (ha G F σ H ρ _ _ _ S w fun ds vs F1 H1 s1 S1 _ r1 w1 => by
    obtain ⟨out, hd, k⟩ := w1.opt
    exact range1_go r1 hd (k F1 H1 (Same.refl _) S1))
end
abbrev Tg (S : Type) := D → (En → M S) → En → M S
def okSet (ρ : En) (i : Nat) : Bool := decide (i < ρ.length) && (match ρ[i]? with
  | some (some (.op _)) => false
  | _ => true)
theorem okSet_of {ρ : En} {i : Nat} (h : okSet ρ i = true) : i < ρ.length ∧ ∀ c, ρ[i]? ≠ some (some (.op c)) := by
  unfold okSet at h
  rw [Bool.and_eq_true] at h
  refine ⟨by simpa using h.1, fun c e => ?_⟩
  rw [e] at h
  exact absurd h.2 (by simp)
@[irreducible] def tSemG (X : Cx) (tg : Expr) : TG := fun v σ H Q => ∀ (pins : List (Addr × Obj)) (s : Shared) (u : Value), Inv X pins σ H s → RelV v u → wpAny (model X.prog X.w) X.A (assign tg X.env u) (fun _ s' => ∃ σ' H', Inv X pins σ' H' s' ∧ Q σ' H') X.xe s
theorem pg_sem {X : Cx} {tg : Expr} : PG X tg (tSemG X tg) := fun pins s σ H v u Q I r h => by unfold tSemG at h; exact h pins s u I r
theorem semG {X : Cx} {tg : Expr} {t : TG} {v : V} {σ : L2.St} {H : Hp} {Q : L2.St → Hp → Prop} (h : PG X tg t) (q : t v σ H Q) : tSemG X tg v σ H Q := by unfold tSemG; exact fun pins s u I r => h pins s σ H v u Q I r q
def AG {S : Type} (X : Cx) (n : Nat) (tg : Expr) (st : Tg S) : Prop :=
  ∀ (OK : M S → Prop) (k : En → M S) (G : Gh) (F : Hp) (σ : L2.St) (H : Hp) (ρ : En) (v : V) (d : D) (Q : L2.St → Hp → Prop), KOk OK → StOk X.K G F σ H ρ → Rep X.K F v d → OK (st d k ρ) →
    (∀ σ' ρ', StOk X.K G F σ' H ρ' → (∀ j, j < n → σ'[j]? = σ[j]? ∧ ρ'[j]? = ρ[j]?) → σ'.length = σ.length → ρ'.length = ρ.length → OK (k ρ') → Q σ' H) → tSemG X tg v σ H Q
def gSet {S : Type} (i : Nat) : Tg S := fun d k ρ => match okSet ρ i with
  | true => k (ρ.set i (some (.fz d)))
  | false => .bad
section
variable {S : Type} {X : Cx} {pos : Pos} {n : Nat}
theorem ag_name {i : Nat} {x : Str} (hn : n ≤ i) (hN : X.N.Nodup) (hi : X.N[i]? = some x) (hx : Loc X.env.scope x) (hf : X.fn x = true ∨ X.env.scope.names.lookup x = some .local) : AG (S := S) X n (.Name x pos) (gSet i) := by
  intro OK k G F σ H ρ v d Q hO S r ok kk
  unfold gSet at ok
  split at ok
  · rename_i ho
    obtain ⟨hl, hop⟩ := okSet_of ho
    refine semG (pg_name hN hi hx hf) ?_
    exact kk _ _ (S.store hop hl (.inl ⟨d, rfl, r⟩)) (fun j hj => ⟨List.getElem?_set_ne (by omega), List.getElem?_set_ne (by omega)⟩) (by simp) (by simp) ok
  · exact (hO ok).elim
end
abbrev SM (S : Type) := KS S → En → M S
structure EOk {S : Type} (X : Cx) (OK : M S → Prop) (K : KS S) (G : Gh) (F : Hp) (E : Ends) : Prop where
  nx : ∀ F' σ' H' ρ', Same F F' → StOk X.K G F' σ' H' ρ' → OK (K.nx ρ') → E.nx σ' H'
  rt : ∀ F' σ' H' ρ' d v, Same F F' → StOk X.K G F' σ' H' ρ' → Rep X.K F' v d → OK (K.rt d ρ') → E.rt v H'
  rl : ∀ F' σ' H' ρ' ds v, Same F F' → StOk X.K G F' σ' H' ρ' → Frs X.K G F' σ' H' ρ' v (.l ds) → OK (K.rl ds ρ') → E.rt v H'
  bk : ∀ F' σ' H' ρ', Same F F' → StOk X.K G F' σ' H' ρ' → OK (K.bk ρ') → E.bk σ' H'
  ct : ∀ F' σ' H' ρ', Same F F' → StOk X.K G F' σ' H' ρ' → OK (K.ct ρ') → E.ct σ' H'
theorem EOk.up {S : Type} {X : Cx} {OK : M S → Prop} {K : KS S} {G : Gh} {F F' : Hp} {E : Ends} (h : EOk X OK K G F E) (s : Same F F') : EOk X OK K G F' E :=
  ⟨fun F2 σ' H' ρ' s2 => h.nx F2 σ' H' ρ' (s.trans s2), fun F2 σ' H' ρ' d v s2 => h.rt F2 σ' H' ρ' d v (s.trans s2), fun F2 σ' H' ρ' d v s2 => h.rl F2 σ' H' ρ' d v (s.trans s2), fun F2 σ' H' ρ' s2 => h.bk F2 σ' H' ρ' (s.trans s2), fun F2 σ' H' ρ' s2 => h.ct F2 σ' H' ρ' (s.trans s2)⟩
@[irreducible] def tSemS (X : Cx) (st : Stmt) : TS := fun E σ H => ∀ (pins : List (Addr × Obj)) (s : Shared), Inv X pins σ H s → wpAny (model X.prog X.w) X.A (exec st X.env) (SP X pins E) X.xe s
@[irreducible] def tSemB (X : Cx) (sts : List Stmt) : TS := fun E σ H => ∀ (pins : List (Addr × Obj)) (s : Shared), Inv X pins σ H s → wpAny (model X.prog X.w) X.A (execs sts X.env) (SP X pins E) X.xe s
section
variable {X : Cx} {st : Stmt} {sts : List Stmt} {σ : L2.St} {H : Hp} {E : Ends} {t : TS}
theorem ps_sem : PS X st (tSemS X st) := fun pins s σ H E I h => by unfold tSemS at h; exact h pins s I
theorem pss_sem : PSs X sts (tSemB X sts) := fun pins s σ H E I h => by unfold tSemB at h; exact h pins s I
theorem semS (h : PS X st t) (q : t E σ H) : tSemS X st E σ H := by unfold tSemS; exact fun pins s I => h pins s σ H E I q
theorem semB (h : PSs X sts t) (q : t E σ H) : tSemB X sts E σ H := by unfold tSemB; exact fun pins s I => h pins s σ H E I q
end
def AS {S : Type} (X : Cx) (st : Stmt) (m : SM S) : Prop :=
  ∀ (OK : M S → Prop) (K : KS S) (G : Gh) (F : Hp) (σ : L2.St) (H : Hp) (ρ : En) (E : Ends), KOk OK → XL X OK K.x G → StOk X.K G F σ H ρ → OK (m K ρ) → EOk X OK K G F E → tSemS X st E σ H
def ASs {S : Type} (X : Cx) (st : List Stmt) (m : SM S) : Prop :=
  ∀ (OK : M S → Prop) (K : KS S) (G : Gh) (F : Hp) (σ : L2.St) (H : Hp) (ρ : En) (E : Ends), KOk OK → XL X OK K.x G → StOk X.K G F σ H ρ → OK (m K ρ) → EOk X OK K G F E → tSemB X st E σ H
section
variable {S : Type}
def sNext : SM S := fun K ρ => K.nx ρ
def sSeq (m n : SM S) : SM S := fun K ρ => m { K with nx := fun ρ1 => n K ρ1 } ρ
def sIf (c : Ev S Bool) (m n : SM S) : SM S := fun K ρ => c K.x (fun b ρ1 => if b then m K ρ1 else n K ρ1) ρ
def sTo (sh : List Kd) (m : SM S) : SM S := fun K ρ => m { K with nx := fun ρ1 => rdk sh (fun s => K.nx (wr sh s)) ρ1 } ρ
def sSet (i : Nat) (m : Ev S D) : SM S := fun K ρ => m K.x (fun d ρ1 => match okSet ρ1 i with
  | true => K.nx (ρ1.set i (some (.fz d)))
  | false => .bad) ρ
def sSetL (i : Nat) (m : Ev S (List D)) : SM S := fun K ρ => m K.x (fun ds ρ1 => match okSet ρ1 i with
  | true => K.nx (ρ1.set i (some (.ol (.l ds))))
  | false => .bad) ρ
def sRet (m : Ev S D) : SM S := fun K ρ => m K.x K.rt ρ
def sRetL (m : Ev S (List D)) : SM S := fun K ρ => m K.x K.rl ρ
def setO (ρ : En) (i : Nat) (ds : List D) : En := match ρ[i]? with
  | some (some (.op _)) => ρ.set i (some (.op (.l ds)))
  | _ => ρ.set i (some (.ol (.l ds)))
def forC {T : Type} (step : T → D → (T → M S) → M S) : List D → T → (T → M S) → M S
  | [], s, k => k s
  | d :: r, s, k => step s d (fun s' => forC step r s' k)
@[reducible] def loopK (sh : List Kd) (K : KS S) (kn : SOf sh → M S) : KS S := { K with
    nx := fun ρ3 => rdk sh kn ρ3
    ct := fun ρ3 => rdk sh kn ρ3
    bk := fun ρ3 => rdk sh (fun s' => K.nx (wr sh s')) ρ3 }
def sFor (sh : List Kd) (it : Ev S (List D)) (t : Tg S) (mb : SM S) : SM S := fun K ρ => it K.x (fun ds ρ1 => rdk sh (fun s => forC (fun s d kn => t d (fun ρ2 => mb (loopK sh K kn) ρ2) (wr sh s)) ds s (fun s' => K.nx (wr sh s'))) ρ1) ρ
end
theorem setO_change (ρ : En) (i : Nat) (ds ds0 : List D) (h : ownL ρ i = some ds0) : setO ρ i ds = ρ.set i ((ρ[i]?.join).map fun | .op _ => .op (.l ds) | _ => .ol (.l ds)) := by
  unfold ownL at h
  unfold setO
  split at h
  · rename_i q; rw [q]; rfl
  · rename_i q; rw [q]; rfl
  · cases h
theorem rdk_ok {S : Type} {OK : M S → Prop} (hO : KOk OK) {sh : List Kd} {k : SOf sh → M S} {ρ : En} (h : OK (rdk sh k ρ)) : ∃ s, rd sh ρ = some s ∧ OK (k s) := by
  unfold rdk at h
  split at h
  · rename_i s e; exact ⟨s, e, h⟩
  · exact (hO h).elim
section
variable {S : Type} {X : Cx} {st : Stmt} {sts rest : List Stmt} {m n : SM S} {e c a b : Expr} {me : Ev S D} {mt : Ev S Bool} {ml : Ev S (List D)} {pos pos' tpos : Pos}
theorem ass_nil : ASs (S := S) X [] sNext := fun OK K G F σ H ρ E hO hX St ok eo => semB pss_nil (eo.nx F σ H ρ (Same.refl _) St ok)
theorem ass_cons (h1 : AS X st m) (h2 : ASs X rest n) : ASs X (st :: rest) (sSeq m n) := fun OK K G F σ H ρ E hO hX St ok eo =>
  semB (pss_cons ps_sem pss_sem) (h1 OK { K with nx := fun ρ1 => n K ρ1 } G F σ H ρ _ hO hX St ok ⟨fun F' σ' H' ρ' s S' o => h2 OK K G F' σ' H' ρ' E hO hX S' o (eo.up s), eo.rt, eo.rl, eo.bk, eo.ct⟩)
theorem ass_one (h1 : AS X st m) : ASs X [st] m := fun OK K G F σ H ρ E hO hX St ok eo => semB (pss_one ps_sem) (h1 OK K G F σ H ρ E hO hX St ok eo)
theorem as_if {A B : List Stmt} (hc : AEt X c mt) (ha : ASs X A m) (hb : ASs X B n) : AS X (.If c A B pos) (sIf mt m n) := fun OK K G F σ H ρ E hO hX St ok eo =>
  semS (ps_if pt_sem pss_sem pss_sem) (hc OK K.x _ G F σ H ρ _ hO hX St ok fun t F1 H1 ρ1 s1 S1 o1 => by
    cases t with
    | true => exact ha OK K G F1 σ H1 ρ1 E hO hX S1 o1 (eo.up s1)
    | false => exact hb OK K G F1 σ H1 ρ1 E hO hX S1 o1 (eo.up s1))
theorem as_to {sh : List Kd} (h : AS X st m) : AS X st (sTo sh m) := fun OK K G F σ H ρ E hO hX St ok eo =>
  h OK { K with nx := fun ρ1 => rdk sh (fun s => K.nx (wr sh s)) ρ1 } G F σ H ρ E hO hX St ok ⟨fun F' σ' H' ρ' s S' o => by
    obtain ⟨s', e', o'⟩ := rdk_ok hO o
    exact eo.nx F' σ' H' _ s (S'.rd e') o', eo.rt, eo.rl, eo.bk, eo.ct⟩
theorem as_ret (he : AE X e me) : AS X (.Return (some e) pos) (sRet me) := fun OK K G F σ H ρ E hO hX St ok eo =>
  semS (ps_ret pe_sem) (he OK K.x K.rt G F σ H ρ _ hO hX St ok fun d v F1 H1 ρ1 s1 S1 r1 o1 => eo.rt F1 σ H1 ρ1 d v s1 S1 r1 o1)
theorem as_retL (he : AEl X e ml) : AS X (.Return (some e) pos) (sRetL ml) := fun OK K G F σ H ρ E hO hX St ok eo =>
  semS (ps_ret pe_sem) (he OK K.x K.rl G F σ H ρ _ hO hX St ok fun d v F1 H1 ρ1 s1 S1 r1 o1 => eo.rl F1 σ H1 ρ1 d v s1 S1 r1 o1)
theorem as_set {i : Nat} {x : Str} (hN : X.N.Nodup) (hi : X.N[i]? = some x) (hx : Loc X.env.scope x) (he : AE X e me) (hs : swapsWith e (some (.Name x pos')) pos.line X.env = pure false) (hf : X.fn x = true ∨ X.env.scope.names.lookup x = some .local) :
    AS X (.Assign [.Name x pos'] e pos) (sSet i me) := fun OK K G F σ H ρ E hO hX St ok eo =>
  semS (ps_set hN hi hx pe_sem hs hf) (he OK K.x _ G F σ H ρ _ hO hX St ok fun d v F1 H1 ρ1 s1 S1 r1 o1 => by
    split at o1
    · rename_i ho
      obtain ⟨hl, hop⟩ := okSet_of ho
      exact eo.nx F1 _ H1 _ s1 (S1.store hop hl (.inl ⟨d, rfl, r1⟩)) o1
    · exact (hO o1).elim)
theorem as_setL {i : Nat} {x : Str} (hN : X.N.Nodup) (hi : X.N[i]? = some x) (hx : Loc X.env.scope x) (he : AEl X e ml) (hs : swapsWith e (some (.Name x pos')) pos.line X.env = pure false) (hf : X.fn x = true ∨ X.env.scope.names.lookup x = some .local) :
    AS X (.Assign [.Name x pos'] e pos) (sSetL i ml) := fun OK K G F σ H ρ E hO hX St ok eo =>
  semS (ps_set hN hi hx pe_sem hs hf) (he OK K.x _ G F σ H ρ _ hO hX St ok fun d v F1 H1 ρ1 s1 S1 r1 o1 => by
    split at o1
    · rename_i ho
      obtain ⟨hl, hop⟩ := okSet_of ho
      exact eo.nx F1 _ H1 _ s1 (S1.store hop hl (.inr ⟨.l d, rfl, r1⟩)) o1
    · exact (hO o1).elim)
end
end L4
set_option Elab.async false
set_option linter.all false
set_option maxRecDepth 100000
namespace L4
open PySem PySem.Spec PyProof.Rows L2 L3
section
variable {S : Type} {X : Cx} {m n mb : SM S} {e c a b o : Expr} {me mi : Ev S D} {mt : Ev S Bool} {ml ms : Ev S (List D)} {pos pos' tpos apos cpos : Pos}
theorem as_for {tg iter : Expr} {body : List Stmt} {sh : List Kd} {t : Tg S} (hp : PassesOwn (model X.prog X.w) X.A X.env X.xe) (hc : X.calm = true) (hi : AEi X tg iter ml) (hg : AG X 0 tg t) (hb : ASs X body mb)
    (hs : ∀ x, foldedSetIterable iter X.env x = pure x) : AS X (.For tg iter body [] pos) (sFor sh ml t mb) := fun OK K G F σ H ρ E hO hX St ok eo =>
  semS (ps_for hp hc pi_sem pg_sem pss_sem hs) (hi OK K.x _ G F σ H ρ _ hO hX St ok fun ds J F1 H1 ρ1 s1 S1 wk o1 => by
    obtain ⟨s0, e0, o0⟩ := rdk_ok hO o1
    have S0 := S1.rd e0
    clear o1
    generalize hstep : (fun (s : SOf sh) d (kn : SOf sh → M S) => t d (fun ρ2 => mb (loopK sh K kn) ρ2) (wr sh s)) = step at o0
    refine ⟨fun i m σ' H' => ∃ F' s, m = ds.length - i ∧ i ≤ ds.length ∧ Same F1 F' ∧ StOk X.K G F' σ' H' (wr sh s) ∧ OK (forC step (ds.drop i) s (fun s' => K.nx (wr sh s'))), ⟨ds.length, F1, s0, rfl, Nat.zero_le _, Same.refl _, S0, o0⟩, ?_⟩
    rintro i m σ' H' ⟨F', s, rfl, hi, s2, S2, go⟩
    by_cases hlt : i < ds.length
    · have ed : ds.drop i = ds[i] :: ds.drop (i + 1) := List.drop_eq_getElem_cons hlt
      rw [ed] at go
      dsimp only [forC] at go
      rw [← hstep] at go
      have again : ∀ F5 σ5 H5 ρ5, Same F' F5 → StOk X.K G F5 σ5 H5 ρ5 → OK (rdk sh (fun s' => forC step (ds.drop (i + 1)) s' fun s' => K.nx (wr sh s')) ρ5) →
          ∃ m', m' < ds.length - i ∧ ∃ F' s, m' = ds.length - (i + 1) ∧ i + 1 ≤ ds.length ∧ Same F1 F' ∧ StOk X.K G F' σ5 H5 (wr sh s) ∧ OK (forC step (ds.drop (i + 1)) s (fun s' => K.nx (wr sh s'))) := fun F5 σ5 H5 ρ5 s5 S5 o5 => by
        obtain ⟨s', e', o'⟩ := rdk_ok hO o5
        exact ⟨ds.length - (i + 1), by omega, F5, s', rfl, hlt, s2.trans s5, S5.rd e', o'⟩
      refine .inr ⟨wk.go i G F' σ' H' _ s2 S2 hlt, fun σ4 H4 => ∃ m', m' < ds.length - i ∧ ∃ F' s, m' = ds.length - (i + 1) ∧ i + 1 ≤ ds.length ∧ Same F1 F' ∧ StOk X.K G F' σ4 H4 (wr sh s) ∧ OK (forC step (ds.drop (i + 1)) s (fun s' => K.nx (wr sh s'))), fun σ4 H4 h4 => h4, fun x H2 y => ?_⟩
      obtain ⟨F3, s3, S3, r3⟩ := wk.yld i G F' σ' H' _ x H2 ds[i] s2 S2 (by simp [hlt]) y
      refine hg OK _ G F3 σ' H2 (wr sh s) x ds[i] _ hO S3 r3 go fun σ3 ρ3 S4 _ _ _ o4 => ?_
      rw [hstep] at o4
      refine hb OK (loopK sh K fun s' => forC step (ds.drop (i + 1)) s' fun s' => K.nx (wr sh s')) G F3 σ3 H2 ρ3 _ hO hX S4 o4 ⟨fun F5 σ5 H5 ρ5 s5 S5 o5 => ?_, fun F5 σ5 H5 ρ5 d v s5 => eo.rt F5 σ5 H5 ρ5 d v ((s1.trans (s2.trans s3)).trans s5), fun F5 σ5 H5 ρ5 d v s5 => eo.rl F5 σ5 H5 ρ5 d v ((s1.trans (s2.trans s3)).trans s5), fun F5 σ5 H5 ρ5 s5 S5 o5 => ?_, fun F5 σ5 H5 ρ5 s5 S5 o5 => ?_⟩
      · exact again F5 σ5 H5 ρ5 (s3.trans s5) S5 o5
      · obtain ⟨s', e', o'⟩ := rdk_ok hO o5
        exact eo.nx F5 σ5 H5 _ ((s1.trans (s2.trans s3)).trans s5) (S5.rd e') o'
      · exact again F5 σ5 H5 ρ5 (s3.trans s5) S5 o5
    · have ei : i = ds.length := by omega
      subst ei
      rw [List.drop_length] at go
      exact .inl ⟨wk.stop G F' σ' H' _ s2 S2, eo.nx F' σ' H' _ (s1.trans s2) S2 go⟩)
theorem own_ref {K : Fg} {G : Gh} {F H : Hp} {σ : L2.St} {ρ : En} {i : Nat} {ds : List D} (St : StOk K G F σ H ρ) (h : ownL ρ i = some ds) : ∃ a vs, σ[i]? = some (some (.ref a)) ∧ H a = some (.lst vs) ∧ RepL K F vs ds := by
  obtain ⟨a, ea, oa⟩ := St.ow i _ (ownL_own h)
  obtain ⟨vs, h1, h2⟩ := oa.he
  exact ⟨a, vs, ea, h1, h2⟩
theorem own_set {K : Fg} {G : Gh} {F H : Hp} {σ : L2.St} {ρ : En} {i : Nat} {a : Addr} {ds ds' : List D} {vs' : List V} (St : StOk K G F σ H ρ) (h : ownL ρ i = some ds) (ha : σ[i]? = some (some (.ref a))) (r : RepL K F vs' ds') :
    StOk K G F σ (upd H a (.lst vs')) (setO ρ i ds') := by
  rw [setO_change ρ i ds' ds h]
  exact St.change (ownL_own h) ha (c' := .l ds') ⟨_, upd_same, r⟩
end
end L4
set_option Elab.async false
set_option linter.all false
set_option maxRecDepth 100000
namespace L4
open PySem PySem.Spec PyProof.Rows L2 L3
theorem map_some_get {α : Type} {l : List α} {i : Nat} {x : α} : (l.map some)[i]? = some (some x) ↔ l[i]? = some x := by
  rw [List.getElem?_map]
  cases l[i]? <;> simp
open Classical in
noncomputable def calleeO (G : Gh) (σ : L2.St) (ρ : En) (H : Hp) (ex : Option Addr) : Hp := fun b => if (∃ (i : Nat) (c : OC), own ρ i c ∧ σ[i]? = some (some (V.ref b))) ∧ some b ≠ ex then H b else G.O b
def setC (ρ : En) (j : Nat) (c : OC) : En := ρ.set j ((ρ[j]?.join).map fun | .op _ => .op c | _ => .ol c)
section
variable {K : Fg} {G : Gh} {F F' H H' : Hp} {σ : L2.St} {ρ : En} {vs : List V} {ds : List D}
theorem calleeO_of {ex : Option Addr} (S : StOk K G F σ H ρ) {b : Addr} {o : HO} (h : G.O b = some o) : calleeO G σ ρ H ex b = some o := by
  unfold calleeO
  rw [if_neg]
  · exact h
  · rintro ⟨⟨i, c, ho, e⟩, _⟩
    obtain ⟨a, e', oa⟩ := S.ow i c ho
    rw [e] at e'
    injection e' with e'; injection e' with e'; injection e' with e'
    subst e'
    rw [oa.no] at h; cases h
theorem calleeO_own {ex : Option Addr} {b : Addr} {i : Nat} {c : OC} (ho : own ρ i c) (e : σ[i]? = some (some (V.ref b))) (hx : some b ≠ ex) : calleeO G σ ρ H ex b = H b := by
  unfold calleeO
  rw [if_pos ⟨⟨i, c, ho, e⟩, hx⟩]
theorem calleeO_h {ex : Option Addr} (S : StOk K G F σ H ρ) : Same (calleeO G σ ρ H ex) H := fun b o h => by
  unfold calleeO at h
  split at h
  · exact h
  · exact S.oh b o h
theorem _root_.L3.Held.notup {K : Fg} {F H : Hp} {a : Addr} {c : OC} {o : HO} (h : Held K F H a c) (e : H a = some o) : NoTE o := by
  cases c with
  | l ds => obtain ⟨vs, h1, _⟩ := h; rw [h1] at e; cases e; exact True.intro
  | t es => obtain ⟨vs, h1, _⟩ := h; rw [h1] at e; cases e; exact True.intro
  | k es => obtain ⟨vs, h1, _⟩ := h; rw [h1] at e; cases e; exact True.intro
theorem calleeO_f {ex : Option Addr} (S : StOk K G F σ H ρ) : ∀ b o, calleeO G σ ρ H ex b = some o → F b = none ∧ NoTE o := fun b o h => by
  unfold calleeO at h
  split at h
  · rename_i hc
    obtain ⟨⟨i, c, ho, e⟩, _⟩ := hc
    obtain ⟨a, e', oa⟩ := S.ow i c ho
    rw [e] at e'
    injection e' with e'; injection e' with e'; injection e' with e'
    subst e'
    exact ⟨oa.nf, oa.he.notup h⟩
  · exact S.fo b o h
theorem fz_get {i : Nat} {av : AV} (h : ((ds.map AV.fz).map some)[i]? = some (some av)) : ∃ d, av = .fz d ∧ ds[i]? = some d := by
  rw [map_some_get, List.getElem?_map] at h
  cases q : ds[i]? with
  | none => rw [q] at h; cases h
  | some d => rw [q] at h; cases h; exact ⟨d, rfl, rfl⟩
theorem no_own {i : Nat} {c : OC} (h : own ((ds.map AV.fz).map some) i c) : False := by
  rcases h with h | h <;> (obtain ⟨d, z, _⟩ := fz_get h; cases z)
theorem call_preD (S : StOk K G F σ H ρ) (r : RepL K F vs ds) : StOk K ⟨fun _ => none, calleeO G σ ρ H none, F⟩ F (vs.map some) H ((ds.map AV.fz).map some) := by
  refine ⟨S.fh, calleeO_h S, calleeO_f S, by simp [r.length], fun i d h => ?_, fun i c h => (no_own h).elim, fun i j c e a h => (no_own h).elim, fun i a h => (nomatch h), fun i c h => ?_, Same.refl _⟩
  · obtain ⟨d', z, e⟩ := fz_get h
    cases z
    obtain ⟨v, e1, e2⟩ := r.get e
    exact ⟨v, map_some_get.mpr e1, e2⟩
  · obtain ⟨d', z, e⟩ := fz_get h; cases z
theorem call_postD {avs' : List AV} (S : StOk K G F σ H ρ) (s1 : Same F F') (S1 : StOk K ⟨fun _ => none, calleeO G σ ρ H none, F⟩ F' (vs.map some) H' (avs'.map some)) :
    StOk K G F' σ H' ρ ∧ ∀ v c, Frs K ⟨fun _ => none, calleeO G σ ρ H none, F⟩ F' (vs.map some) H' (avs'.map some) v c → Frs K G F' σ H' ρ v c := by
  have oo : ∀ b, calleeO G σ ρ H none b = none → G.O b = none := fun b h => by
    cases q : G.O b with
    | none => rfl
    | some o => rw [calleeO_of S q] at h; cases h
  refine ⟨⟨S1.fh, fun b o h => S1.oh b o (calleeO_of S h), fun b o h => S1.fo b o (calleeO_of S h), S.ln, fun i d h => ?_, fun i c h => ?_, S.dj, S.pp, S.pq, S.fb.trans s1⟩, fun v cc h => ?_⟩
  · obtain ⟨v, e, r⟩ := S.fz i d h; exact ⟨v, e, r.mono s1⟩
  · obtain ⟨a, e, oa⟩ := S.ow i c h
    obtain ⟨o, ho⟩ := oa.he.some
    have q : calleeO G σ ρ H none a = some o := by rw [calleeO_own h e (by simp)]; exact ho
    exact ⟨a, e, (S1.fo a o q).1, oa.no, (oa.he.mono s1).at (by rw [S1.oh a o q, ho])⟩
  · obtain ⟨a, rfl, oa, _⟩ := h
    refine ⟨a, rfl, ⟨oa.nf, oo a oa.no, oa.he⟩, fun i e ho q => ?_⟩
    obtain ⟨a', e', oa'⟩ := S.ow i e ho
    rw [q] at e'
    injection e' with e'; injection e' with e'; injection e' with e'
    subst e'
    obtain ⟨o, hh⟩ := oa'.he.some
    have := oa.no
    rw [show (⟨fun _ => none, calleeO G σ ρ H none, F⟩ : Gh).O a = calleeO G σ ρ H none a from rfl, calleeO_own ho q (by simp), hh] at this
    cases this
def P1 (a : Addr) : Nat → Option Addr
  | 0 => some a
  | _ => none
theorem call_pre1 {j : Nat} {c : OC} {a : Addr} (S : StOk K G F σ H ρ) (hj : own ρ j c) (ha : σ[j]? = some (some (V.ref a))) (r : RepL K F vs ds) :
    StOk K ⟨P1 a, calleeO G σ ρ H (some a), F⟩ F ((V.ref a :: vs).map some) H ((AV.op c :: ds.map AV.fz).map some) := by
  obtain ⟨a', e', oa⟩ := S.ow j c hj
  rw [ha] at e'
  injection e' with e'; injection e' with e'; injection e' with e'
  subst e'
  have at0 : ∀ i d, own ((AV.op c :: ds.map AV.fz).map some) i d → i = 0 ∧ d = c := fun i d h => by
    cases i with
    | zero => rcases h with h | h <;> (simp at h); exact ⟨rfl, h.symm⟩
    | succ i => exact (no_own (ds := ds) (i := i) (c := d) (by unfold own at h ⊢; simpa using h)).elim
  refine ⟨S.fh, calleeO_h S, calleeO_f S, by simp [r.length], fun i d h => ?_, fun i d h => ?_, fun i k d e b h1 h2 _ _ => ?_, fun i b h => ?_, fun i d h => ?_, Same.refl _⟩
  · cases i with
    | zero => simp at h
    | succ i =>
      obtain ⟨d', z, e⟩ := fz_get (ds := ds) (i := i) (av := .fz d) (by simpa using h)
      cases z
      obtain ⟨v, e1, e2⟩ := r.get e
      exact ⟨v, by simpa using e1, e2⟩
  · obtain ⟨rfl, rfl⟩ := at0 i d h
    refine ⟨a, rfl, oa.nf, ?_, oa.he⟩
    show calleeO G σ ρ H (some a) a = none
    unfold calleeO
    rw [if_neg (by simp)]
    exact oa.no
  · rw [(at0 i d h1).1, (at0 k e h2).1]
  · cases i with
    | zero => cases h; exact ⟨rfl, c, rfl⟩
    | succ i => cases h
  · cases i with
    | zero => exact ⟨a, rfl⟩
    | succ i =>
      obtain ⟨d', z, e⟩ := fz_get (ds := ds) (i := i) (av := .op d) (by simpa using h)
      cases z
theorem call_post1 {j : Nat} {c c' : OC} {a : Addr} {l : List AV} (S : StOk K G F σ H ρ) (hj : own ρ j c) (ha : σ[j]? = some (some (V.ref a))) (s1 : Same F F')
    (S1 : StOk K ⟨P1 a, calleeO G σ ρ H (some a), F⟩ F' ((V.ref a :: vs).map some) H' ((AV.op c' :: l).map some)) :
    StOk K G F' σ H' (setC ρ j c') ∧ ∀ v cc, Frs K ⟨P1 a, calleeO G σ ρ H (some a), F⟩ F' ((V.ref a :: vs).map some) H' ((AV.op c' :: l).map some) v cc → Frs K G F' σ H' (setC ρ j c') v cc := by
  have oo : ∀ b, calleeO G σ ρ H (some a) b = none → G.O b = none := fun b h => by
    cases q : G.O b with
    | none => rfl
    | some o => rw [calleeO_of S q] at h; cases h
  obtain ⟨a', e', oa⟩ := S.ow j c hj
  rw [ha] at e'
  injection e' with e'; injection e' with e'; injection e' with e'
  subst e'
  have hl : j < ρ.length := by rcases hj with h | h <;> exact (List.getElem?_eq_some_iff.mp h).1
  generalize hav : ((ρ[j]?.join).map fun (x : AV) => match x with | .op _ => AV.op c' | _ => AV.ol c') = av
  have hset : setC ρ j c' = ρ.set j av := by rw [← hav]; rfl
  rw [hset]
  have ne : ∀ i, i ≠ j → (ρ.set j av)[i]? = ρ[i]? := fun i hi => List.getElem?_set_ne (Ne.symm hi)
  have atj : (ρ.set j av)[j]? = some av := List.getElem?_set_self hl
  have kind : (ρ[j]? = some (some (.ol c)) ∧ av = some (.ol c')) ∨ (ρ[j]? = some (some (.op c)) ∧ av = some (.op c')) := by
    rcases hj with h | h
    · exact .inl ⟨h, by rw [← hav, h]; rfl⟩
    · exact .inr ⟨h, by rw [← hav, h]; rfl⟩
  have owni : ∀ i e, own (ρ.set j av) i e → (i = j ∧ e = c') ∨ (i ≠ j ∧ own ρ i e) := fun i e h => by
    by_cases hi : i = j
    · subst hi
      unfold own at h
      rw [atj] at h
      rcases kind with ⟨_, k⟩ | ⟨_, k⟩ <;> rw [k] at h <;> rcases h with h | h <;> cases h <;> exact .inl ⟨rfl, rfl⟩
    · unfold own at h ⊢
      rw [ne i hi] at h
      exact .inr ⟨hi, h⟩
  have nea : ∀ i e b, i ≠ j → own ρ i e → σ[i]? = some (some (V.ref b)) → b ≠ a := fun i e b hi ho q z => by
    subst z
    exact hi (S.dj i j e c b ho hj q ha)
  have own1 : OwnAt K ⟨P1 a, calleeO G σ ρ H (some a), F⟩ F' H' a c' := by
    obtain ⟨b, e1, ob⟩ := S1.ow 0 c' (.inr rfl)
    have : V.ref a = V.ref b := by simpa using e1
    injection this with this
    subst this
    exact ob
  refine ⟨⟨S1.fh, fun b o h => S1.oh b o (calleeO_of S h), fun b o h => S1.fo b o (calleeO_of S h), by simpa using S.ln, fun i d h => ?_, fun i e h => ?_, fun i k d e b h1 h2 => ?_, fun i b h => ?_, fun i d h => ?_, S.fb.trans s1⟩, fun v cc h => ?_⟩
  · by_cases hi : i = j
    · subst hi
      rw [atj] at h
      rcases kind with ⟨_, k⟩ | ⟨_, k⟩ <;> rw [k] at h <;> cases h
    · rw [ne i hi] at h
      obtain ⟨v, e, r⟩ := S.fz i d h; exact ⟨v, e, r.mono s1⟩
  · rcases owni i e h with ⟨rfl, rfl⟩ | ⟨hi, ho⟩
    · exact ⟨a, ha, own1.nf, oa.no, own1.he⟩
    · obtain ⟨b, eb, ob⟩ := S.ow i e ho
      obtain ⟨o, hh⟩ := ob.he.some
      have q : calleeO G σ ρ H (some a) b = some o := by rw [calleeO_own ho eb (fun z => nea i e b hi ho eb (Option.some.inj z))]; exact hh
      exact ⟨b, eb, (S1.fo b o q).1, ob.no, (ob.he.mono s1).at (by rw [S1.oh b o q, hh])⟩
  · have f : ∀ i e, own (ρ.set j av) i e → ∃ d, own ρ i d := fun i e h => by
      rcases owni i e h with ⟨rfl, _⟩ | ⟨_, ho⟩
      · exact ⟨c, hj⟩
      · exact ⟨e, ho⟩
    exact S.dj i k _ _ b (f i d h1).choose_spec (f k e h2).choose_spec
  · obtain ⟨q1, e, q2⟩ := S.pp i b h
    refine ⟨q1, ?_⟩
    by_cases hi : i = j
    · subst hi
      rcases kind with ⟨k1, k⟩ | ⟨k1, k⟩
      · rw [k1] at q2; cases q2
      · exact ⟨c', by rw [atj, k]⟩
    · exact ⟨e, by rw [ne i hi]; exact q2⟩
  · by_cases hi : i = j
    · subst hi
      rcases kind with ⟨k1, k⟩ | ⟨k1, k⟩
      · rw [atj, k] at h; cases h
      · exact S.pq i c k1
    · rw [ne i hi] at h; exact S.pq i d h
  · obtain ⟨b, rfl, ob, nn⟩ := h
    refine ⟨b, rfl, ⟨ob.nf, oo b ob.no, ob.he⟩, fun i e ho q => ?_⟩
    rcases owni i e ho with ⟨rfl, _⟩ | ⟨hi, ho'⟩
    · rw [ha] at q
      injection q with q; injection q with q; injection q with q
      subst q
      exact nn 0 c' (.inr rfl) rfl
    · obtain ⟨b', eb, ob'⟩ := S.ow i e ho'
      rw [q] at eb
      injection eb with eb; injection eb with eb; injection eb with eb
      subst eb
      obtain ⟨o, hh⟩ := ob'.he.some
      have := ob.no
      rw [show (⟨P1 a, calleeO G σ ρ H (some a), F⟩ : Gh).O b = calleeO G σ ρ H (some a) b from rfl, calleeO_own ho' q (fun z => nea i e b hi ho' q (Option.some.inj z)), hh] at this
      cases this
end
abbrev fzs (ds : List D) : En := (ds.map AV.fz).map some
def KD : KS D := ⟨fun _ => .ret .none, fun d _ => .ret d, fun _ _ => .bad, fun _ => .bad, fun _ => .bad, fun e _ => .exc e⟩
def KL : KS (List D) := ⟨fun _ => .bad, fun _ _ => .bad, fun ds _ => .ret ds, fun _ => .bad, fun _ => .bad, fun e _ => .exc e⟩
def at0 {S : Type} (ρ : En) (k : List D → M S) : M S := match (ρ[0]? : Option (Option AV)) with
  | some (some (AV.op (OC.l f))) => k f
  | _ => .bad
def K1 : KS (D × List D) := ⟨fun ρ => at0 ρ fun f => .ret (.none, f), fun d ρ => at0 ρ fun f => .ret (d, f), fun _ _ => .bad, fun _ => .bad, fun _ => .bad, fun e _ => .exc e⟩
def EndM (K : Fg) (G : Gh) (E : XK) {α : Type} (m : M α) (C : α → Prop) : Prop := match m with
  | .ret a => C a
  | .exc x => ∀ F' H' Cl dd, GOk G F' H' → XR K F' Cl dd x → E (.ref Cl) dd H'
  | .bad => False
def spD (K : Fg) (n : Nat) (mf : List D → M D) : Sp := fun vs H Q E => ∃ G F ds, vs.length = n ∧ StOk K G F (vs.map some) H (fzs ds) ∧ EndM K G E (mf ds) fun d => ∀ v F' H', Same F F' → StOk K G F' (vs.map some) H' (fzs ds) → Rep K F' v d → Q v H'
def spL (K : Fg) (n : Nat) (mf : List D → M (List D)) : Sp := fun vs H Q E => ∃ G F ds, vs.length = n ∧ StOk K G F (vs.map some) H (fzs ds) ∧ EndM K G E (mf ds) fun d => ∀ v F' H', Same F F' → StOk K G F' (vs.map some) H' (fzs ds) → Frs K G F' (vs.map some) H' (fzs ds) v (.l d) → Q v H'
def sp1 (K : Fg) (n : Nat) (mf : List D → List D → M (D × List D)) : Sp := fun vs H Q E => ∃ G F f ds, vs.length = n ∧ StOk K G F (vs.map some) H (some (.op (.l f)) :: fzs ds) ∧ EndM K G E (mf f ds) fun r =>
  ∀ v F' H', Same F F' → StOk K G F' (vs.map some) H' (some (.op (.l r.2)) :: fzs ds) → Rep K F' v r.1 → Q v H'
section
variable {K : Fg} {G : Gh} {F F' H H' : Hp} {vs : List V} {σ : L2.St} {ρ : En} {ds : List D}
theorem back_D (S : StOk K G F (vs.map some) H (fzs ds)) (s1 : Same F F') (S1 : StOk K G F' σ H' ρ) : StOk K G F' (vs.map some) H' (fzs ds) := by
  refine ⟨S1.fh, S1.oh, S1.fo, S.ln, fun i d q => ?_, fun i c q => (no_own q).elim, fun i j c e a q => (no_own q).elim, S.pp, S.pq, S1.fb⟩
  obtain ⟨v, e, r⟩ := S.fz i d q
  exact ⟨v, e, r.mono s1⟩
theorem back_DL {v : V} {c : OC} (S1 : StOk K G F' σ H' ρ) (h : Frs K G F' σ H' ρ v c) : Frs K G F' (vs.map some) H' (fzs ds) v c := by
  obtain ⟨a, rfl, oa, _⟩ := h
  exact ⟨a, rfl, oa, fun i e q => (no_own q).elim⟩
theorem own1 {f : List D} {i : Nat} {c : OC} (h : own (some (.op (.l f)) :: fzs ds) i c) : i = 0 ∧ c = .l f := by
  cases i with
  | zero => rcases h with h | h <;> simp at h; exact ⟨rfl, h.symm⟩
  | succ i => exact (no_own (ds := ds) (i := i) (c := c) (by unfold own at h ⊢; simpa using h)).elim
theorem back_1 {f f' : List D} (S : StOk K G F (vs.map some) H (some (.op (.l f)) :: fzs ds)) (s1 : Same F F') (S1 : StOk K G F' σ H' ρ) (h0 : ρ[0]? = some (some (.op (.l f')))) :
    StOk K G F' (vs.map some) H' (some (.op (.l f')) :: fzs ds) ∧ ∀ v c, Frs K G F' σ H' ρ v c → Frs K G F' (vs.map some) H' (some (.op (.l f')) :: fzs ds) v c := by
  obtain ⟨a, ha⟩ := S1.pq 0 _ h0
  obtain ⟨e1, _⟩ := S1.pp 0 a ha
  obtain ⟨e2, _⟩ := S.pp 0 a ha
  obtain ⟨b, eb, ob⟩ := S1.ow 0 _ (.inr h0)
  rw [e1] at eb
  injection eb with eb; injection eb with eb; injection eb with eb
  subst eb
  have only : ∀ i b, G.P i = some b → i = 0 := fun i b h => by
    obtain ⟨_, c, q⟩ := S.pp i b h
    exact (own1 (.inr q)).1
  refine ⟨⟨S1.fh, S1.oh, S1.fo, S.ln, fun i d q => ?_, fun i c q => ?_, fun i j c e b q1 q2 _ _ => ?_, fun i b q => ?_, fun i c q => ?_, S1.fb⟩, fun v c h => ?_⟩
  · cases i with
    | zero => simp at q
    | succ i =>
      obtain ⟨v, e, r⟩ := S.fz (i + 1) d (by simpa using q)
      exact ⟨v, e, r.mono s1⟩
  · obtain ⟨rfl, rfl⟩ := own1 q
    exact ⟨a, e2, ob⟩
  · rw [(own1 q1).1, (own1 q2).1]
  · have := only i b q
    subst this
    exact ⟨(S.pp 0 b q).1, _, rfl⟩
  · obtain ⟨rfl, _⟩ := own1 (.inr q)
    exact ⟨a, ha⟩
  · obtain ⟨b, rfl, ob2, nn⟩ := h
    refine ⟨b, rfl, ob2, fun i e q z => ?_⟩
    obtain ⟨rfl, rfl⟩ := own1 q
    rw [e2] at z
    injection z with z; injection z with z; injection z with z
    subst z
    exact nn 0 _ (.inr h0) e1
end
section
variable {P : Program} {w : World} {K : Fg} {mg : Str → Option Value} {base : Heap} {x qual : Str} {st : Stmt} {f : Addr} {fd : FuncData} {N ps : List Str} {k : Nat}
theorem start_fz {vs : List V} {ds : List D} {G : Gh} {F H : Hp} (hl : vs.length = ps.length) (S0 : StOk K G F (vs.map some) H (fzs ds)) : StOk K G F (L2.start N vs) H (fzs ds ++ List.replicate (N.length - ps.length) none) := by
  have e0 : L2.start N vs = vs.map some ++ List.replicate (N.length - ps.length) none := by unfold L2.start; rw [hl]
  rw [e0]
  exact S0.grow _
theorem fn_x {sp : Sp} (Fn : Fun K x qual st f fd) (S : FnScope N ps (defScope st)) (len : ∀ vs H Q E, sp vs H Q E → vs.length = ps.length)
    (hbody : ∀ (cdv : Value) (A : Around) (outer : List Env) (s : Shared) (H : Hp) (vs : List V) (Q : VK) (E : XK), Room k (A.deeper (envOfC qual (defScope st) s.heap.objs.size f cdv)) → sp vs H Q E →
      ∃ t, PSs (cxOf (CX1 P w) P w K mg base N qual (defScope st) f cdv A outer s H E) (defBody st) t ∧ t { nx := fun _ H' => Q .non H', rt := Q } (start N vs) H) : FnOk P w K mg base (CX1 P w) (k + 1) f fd ps sp := by
  obtain ⟨oc, od, kV, doc, pm, an, cdv, ct, osl, rfl, lk, hcd⟩ := Fn.ex
  exact fn_of lk hcd S len fun A outer s H vs Q E hr hsp => hbody cdv A outer s H vs Q E hr hsp
theorem end_x {α : Type} {C : α → Prop} {N : List Str} {qual : Str} {scope : Scope} {f : Addr} {cdv : Value} {A : Around} {outer : List Env} {s : Shared} {H F : Hp} {E : XK} {G : Gh} {ρ : En} {e : Ex} (h : EndM K G E (M.exc e : M α) C) : XW (cxOf (CX1 P w) P w K mg base N qual scope f cdv A outer s H E) G F ρ e :=
  fun F' H' s' a Cl dd pins σ g _ I xs _ xr => leave_x I xs (h F' H' Cl dd g xr)
theorem fn_okD {mb : SM D} {mf : List D → M D} (Fn : Fun K x qual st f fd) (Sc : FnScope N ps (defScope st))
    (hb : ∀ (cdv : Value) (A : Around) (outer : List Env) (s : Shared) (H : Hp) (E : XK), Room k (A.deeper (envOfC qual (defScope st) s.heap.objs.size f cdv)) →
      ASs (cxOf (CX1 P w) P w K mg base N qual (defScope st) f cdv A outer s H E) (defBody st) mb)
    (hm : ∀ ds, ds.length = ps.length → mf ds = mb KD (fzs ds ++ List.replicate (N.length - ps.length) none)) : FnOk P w K mg base (CX1 P w) (k + 1) f fd ps (spD K ps.length mf) := by
  refine fn_x Fn Sc (fun vs H Q E h => ?_) (fun cdv A outer s H vs Q E hr h => ?_)
  · obtain ⟨_, _, _, h1, _⟩ := h; exact h1
  · obtain ⟨G, F0, ds, h1, S0, e⟩ := h
    have hl : ds.length = ps.length := by have := S0.ln; simp at this; omega
    rw [hm ds hl] at e
    refine ⟨_, pss_sem, hb cdv A outer s H E hr (fun m => EndM K G E m _) KD G F0 _ H _ _ (fun z => z) (fun F ρ e z => end_x z) (start_fz h1 S0) e ?_⟩
    exact ⟨fun F' σ' H' ρ' s S' o => (by exact o .non F' H' s (back_D S0 s S') .non), fun F' σ' H' ρ' d' v s S' r o => (by exact o v F' H' s (back_D S0 s S') r), fun F' σ' H' ρ' d' v s S' r o => (o : False).elim, fun F' σ' H' ρ' s S' o => (o : False).elim, fun F' σ' H' ρ' s S' o => (o : False).elim⟩
theorem fn_okL {mb : SM (List D)} {mf : List D → M (List D)} (Fn : Fun K x qual st f fd) (Sc : FnScope N ps (defScope st))
    (hb : ∀ (cdv : Value) (A : Around) (outer : List Env) (s : Shared) (H : Hp) (E : XK), Room k (A.deeper (envOfC qual (defScope st) s.heap.objs.size f cdv)) →
      ASs (cxOf (CX1 P w) P w K mg base N qual (defScope st) f cdv A outer s H E) (defBody st) mb)
    (hm : ∀ ds, ds.length = ps.length → mf ds = mb KL (fzs ds ++ List.replicate (N.length - ps.length) none)) : FnOk P w K mg base (CX1 P w) (k + 1) f fd ps (spL K ps.length mf) := by
  refine fn_x Fn Sc (fun vs H Q E h => ?_) (fun cdv A outer s H vs Q E hr h => ?_)
  · obtain ⟨_, _, _, h1, _⟩ := h; exact h1
  · obtain ⟨G, F0, ds, h1, S0, e⟩ := h
    have hl : ds.length = ps.length := by have := S0.ln; simp at this; omega
    rw [hm ds hl] at e
    refine ⟨_, pss_sem, hb cdv A outer s H E hr (fun m => EndM K G E m _) KL G F0 _ H _ _ (fun z => z) (fun F ρ e z => end_x z) (start_fz h1 S0) e ?_⟩
    exact ⟨fun F' σ' H' ρ' s S' o => (o : False).elim, fun F' σ' H' ρ' d' v s S' r o => (o : False).elim, fun F' σ' H' ρ' d' v s S' r o => (by exact o v F' H' s (back_D S0 s S') (back_DL S' r)), fun F' σ' H' ρ' s S' o => (o : False).elim, fun F' σ' H' ρ' s S' o => (o : False).elim⟩
theorem at0_ok {S : Type} {ρ : En} {k : List D → M S} {K : Fg} {G : Gh} {E : XK} {C : S → Prop} (h : EndM K G E (at0 ρ k) C) : ∃ f, ρ[0]? = some (some (AV.op (OC.l f))) ∧ EndM K G E (k f) C := by
  unfold at0 at h
  split at h
  · rename_i f q; exact ⟨f, q, h⟩
  · exact h.elim
theorem start_1 {vs : List V} {ds g : List D} {G : Gh} {F H : Hp} (hl : vs.length = ps.length) (S0 : StOk K G F (vs.map some) H (some (.op (.l g)) :: fzs ds)) : StOk K G F (L2.start N vs) H (some (.op (.l g)) :: fzs ds ++ List.replicate (N.length - ps.length) none) := by
  have e0 : L2.start N vs = vs.map some ++ List.replicate (N.length - ps.length) none := by unfold L2.start; rw [hl]
  rw [e0]
  exact S0.grow _
theorem fn_ok1 {mb : SM (D × List D)} {mf : List D → List D → M (D × List D)} (Fn : Fun K x qual st f fd) (Sc : FnScope N ps (defScope st))
    (hb : ∀ (cdv : Value) (A : Around) (outer : List Env) (s : Shared) (H : Hp) (E : XK), Room k (A.deeper (envOfC qual (defScope st) s.heap.objs.size f cdv)) →
      ASs (cxOf (CX1 P w) P w K mg base N qual (defScope st) f cdv A outer s H E) (defBody st) mb)
    (hm : ∀ g ds, ds.length + 1 = ps.length → mf g ds = mb K1 (some (.op (.l g)) :: fzs ds ++ List.replicate (N.length - ps.length) none)) : FnOk P w K mg base (CX1 P w) (k + 1) f fd ps (sp1 K ps.length mf) := by
  refine fn_x Fn Sc (fun vs H Q E h => ?_) (fun cdv A outer s H vs Q E hr h => ?_)
  · obtain ⟨_, _, _, _, h1, _⟩ := h; exact h1
  · obtain ⟨G, F0, g, ds, h1, S0, e⟩ := h
    have hl : ds.length + 1 = ps.length := by have := S0.ln; simp at this; omega
    rw [hm g ds hl] at e
    refine ⟨_, pss_sem, hb cdv A outer s H E hr (fun m => EndM K G E m _) K1 G F0 _ H _ _ (fun z => z) (fun F ρ e z => end_x z) (start_1 h1 S0) e ?_⟩
    refine ⟨fun F' σ' H' ρ' s S' o => ?_, fun F' σ' H' ρ' d' v s S' rv o => ?_, fun F' σ' H' ρ' d' v s S' r o => (o : False).elim, fun F' σ' H' ρ' s S' o => (o : False).elim, fun F' σ' H' ρ' s S' o => (o : False).elim⟩
    · obtain ⟨f', q, e'⟩ := at0_ok o
      exact e' .non F' H' s (back_1 S0 s S' q).1 .non
    · obtain ⟨f', q, e'⟩ := at0_ok o
      exact e' v F' H' s (back_1 S0 s S' q).1 rv
end
structure CF (P : Program) (w : World) (K : Fg) (mg : Str → Option Value) (base : Heap) (x : Str) (k : Nat) (sp : Sp) : Prop where
  ex : ∃ (f : Addr) (fd : FuncData) (ps : List Str), FnOk P w K mg base (CX1 P w) k f fd ps sp ∧ mg x = some (.ref f) ∧ PySem.W.keepIn K (.ref f) = true ∧ L2.Binds K fd ps []
def pFnD (mf : List D → M D) (ps : Pa D) : Pu D := fun ρ => ps (fun ds => mf ds) ρ
def pFnL (mf : List D → M (List D)) (ps : Pa (List D)) : Pu (List D) := fun ρ => ps (fun ds => mf ds) ρ
section
variable {S : Type}
def eFn1 (mf : List D → List D → M (D × List D)) (i : Nat) (ms : Ev S (List D)) : Ev S D := fun x k ρ => ms x (fun ds ρ1 => match ownL ρ1 i with
  | some f => (mf f ds).on (fun e => x e ρ1) (fun r => k r.1 (setO ρ1 i r.2))
  | none => .bad) ρ
end
def EX (X : Cx) (G : Gh) (σ : L2.St) : XK := fun c dd H' => ∃ x ρ F1 F' C, c = .ref C ∧ XW X G F1 ρ x ∧ GOk G F' H' ∧ FzOk X.K F' σ ρ ∧ XR X.K F' C dd x
theorem XS.older {H : Hp} {h : Heap} {lo lo' : Nat} {e C : Addr} {dd : Option Addr} (xs : XS H h lo e C dd) (hl : lo' ≤ lo) : XS H h lo' e C dd := by
  obtain ⟨oe, vs, q, c, d, z, z1, k⟩ := xs.obj
  refine ⟨Nat.le_trans hl xs.yg, xs.trk, oe, vs, q, c, d, z, z1, k.imp id ?_⟩
  rintro ⟨T, oT, ts, k, ne, l, r⟩
  exact ⟨T, oT, ts, k, ne, Nat.le_trans hl l, r⟩
def PassesAt (X : Cx) (σ : L2.St) (E : XK) : Prop := ∀ (pins : List (Addr × Obj)) (H : Hp) (s : Shared) (e : Value) (s' : Shared), Inv X pins σ H s → CX1 X.prog X.w X.stack H s E e s' → X.xe e s'
theorem passX {X : Cx} {G : Gh} {σ : L2.St} : PassesAt X σ (EX X G σ) := fun pins H s e s' I h => by
  obtain ⟨a, C, dd, H', rfl, ho, hb, un, hk, xs, x, ρ, F1, F', C', ec, xw, g, fz, xr⟩ := h
  cases ec
  refine xw F' H' s' a C dd pins σ g fz (I.call' ho un hk hb fun b z => absurd z (by simp)) (xs.older I.sz) (fun p hp z => ?_) xr
  exact absurd (Nat.lt_of_lt_of_le (Heap.lt_size (I.pin p hp).1) (xs.tb z).2.1) (Nat.lt_irrefl _)
theorem EX.of {X : Cx} {G : Gh} {F F' H' H : Hp} {σ : L2.St} {ρ : En} {x : Ex} {C : Addr} {dd : Option Addr} {ex : Option Addr} {p : Nat → Option Addr} (S : StOk X.K G F σ H ρ) (xw : XW X G F ρ x) (g : GOk ⟨p, calleeO G σ ρ H ex, F⟩ F' H') (xr : XR X.K F' C dd x) : EX X G σ (.ref C) dd H' :=
  ⟨x, ρ, F, F', C, rfl, xw, ⟨g.fh, fun b o h => g.oh b o (calleeO_of S h), fun b o h => g.fo b o (calleeO_of S h), S.fb.trans g.fb⟩, S.fzok g.fb, xr⟩
section
variable {X : Cx} {k : Nat} {f : Addr} {fd : FuncData} {ps : List Str} {sp : Sp} {E : XK} {x : Str} {p pos : Pos} {e : Expr} {es : List Expr} {σ : L2.St} {H : Hp} {Q : VK}
theorem run_at {pins : List (Addr × Obj)} {s : Shared} {us : List Value} {vs : List V} (F : FnOk X.prog X.w X.K X.mg X.base (CX1 X.prog X.w) k f fd ps sp) (hr : Room k X.A) (hb : L2.Binds X.K fd ps []) (hx : PassesAt X σ E)
    (I : Inv X pins σ H s) (r : Vals vs us) (h : sp vs H Q E) : wpAny (model X.prog X.w) X.A (call (.ref f) us) (EP X pins σ Q) X.xe s := by
  have hl : (us ++ []).length = ps.length := by rw [List.append_nil, ← r.length]; exact F.len _ _ _ _ h
  have bb := hb s us I.kIn hl
  rw [List.append_nil] at bb
  refine wpAny_call (codeAny_mono (F.run X.A X.stack s H ⟨us, []⟩ us vs Q E hr I.env0 bb r h) fun r s' hq => ?_)
  cases r with
  | error e => exact hx pins H s e s' I hq
  | ok fl =>
    cases fl with
    | ret u => exact I.after hq
    | next => exact False.elim hq
    | brk => exact False.elim hq
    | cont => exact False.elim hq
theorem sem_call (F : FnOk X.prog X.w X.K X.mg X.base (CX1 X.prog X.w) k f fd ps sp) (hr : Room k X.A) (hg : Gl X x) (hm : X.mg x = some (.ref f)) (hk : PySem.W.keepIn X.K (.ref f) = true) (hb : L2.Binds X.K fd ps []) (hx : PassesAt X σ E)
    (hdb : (x == ("__debug__" : Str)) = false) (he : starEach (e :: es) X.env = (false, eval e X.env) :: starEach es X.env) (hpl : (backTo pos (starEach es X.env)).any (·.1) = false)
    (h : tSemA X (e :: es) σ H fun vs H1 => sp vs H1 Q E) : tSem X (.Call (.Name x p) (e :: es) [] pos) σ H Q := by
  unfold tSem
  intro pins s I
  unfold tSemA at h
  refine wpAny_Call_Name_kw (ld_glob I hg hm ?_ hdb)
  refine PySem.W.callWith_K (h₀ := X.base) I.ok.mod.kin hk (thn (h pos pins s I) fun us s1 ⟨vs, H1, I1, r, q⟩ => ⟨I1.kIn, ?_⟩) he hpl
  exact run_at F hr hb hx I1 r q
end
section
variable {S : Type} {X : Cx} {k n : Nat} {mf : List D → M D} {ml : List D → M (List D)} {m1 : List D → List D → M (D × List D)} {m1L : List D → List D → M (List D × List D)} {x : Str} {p pos pn : Pos} {e : Expr} {es : List Expr} {ps : Pa D} {pl : Pa (List D)} {ms : Ev S (List D)}
theorem ap_fn (C : CF X.prog X.w X.K X.mg X.base x k (spD X.K n mf)) (hr : Room k X.A) (hg : Gl X x) (ha : AA X (e :: es) ps) (hn : (e :: es).length = n)
    (hdb : (x == ("__debug__" : Str)) = false) (he : starEach (e :: es) X.env = (false, eval e X.env) :: starEach es X.env) (hpl : (backTo pos (starEach es X.env)).any (·.1) = false) : AP X (.Call (.Name x p) (e :: es) [] pos) (pFnD mf ps) := by
  obtain ⟨f, fd, pl, Fn, h1, h2, h3⟩ := C.ex
  intro G F σ H ρ Q St w
  refine sem_call Fn hr hg h1 h2 h3 (passX (G := G)) hdb he hpl ?_
  refine ha G F σ H ρ _ _ _ St w fun ds vs F1 H1 s1 S1 hl r1 w1 => ?_
  show spD X.K n mf vs H1 Q (EX X G σ)
  cases hd : mf ds with
  | bad => rw [hd] at w1; exact w1.elim
  | exc e =>
    rw [hd] at w1
    exact ⟨_, F1, ds, hl.trans hn, call_preD S1 r1, by rw [hd]; exact fun F' H' Cl dd g xr => EX.of S1 w1 g xr⟩
  | ret d =>
    rw [hd] at w1
    refine ⟨_, F1, ds, hl.trans hn, call_preD S1 r1, ?_⟩
    rw [hd]
    intro v F2 H2 s2 S2 r2
    obtain ⟨S3, t3⟩ := call_postD (avs' := ds.map AV.fz) S1 s2 S2
    exact w1 F2 H2 s2 S3 v r2
theorem al_fn (C : CF X.prog X.w X.K X.mg X.base x k (spL X.K n ml)) (hr : Room k X.A) (hg : Gl X x) (ha : AA X (e :: es) pl) (hn : (e :: es).length = n)
    (hdb : (x == ("__debug__" : Str)) = false) (he : starEach (e :: es) X.env = (false, eval e X.env) :: starEach es X.env) (hpl : (backTo pos (starEach es X.env)).any (·.1) = false) : AL X (.Call (.Name x p) (e :: es) [] pos) (pFnL ml pl) := by
  obtain ⟨f, fd, pz, Fn, h1, h2, h3⟩ := C.ex
  intro G F σ H ρ Q St w
  refine sem_call Fn hr hg h1 h2 h3 (passX (G := G)) hdb he hpl ?_
  refine ha G F σ H ρ _ _ _ St w fun ds vs F1 H1 s1 S1 hl r1 w1 => ?_
  show spL X.K n ml vs H1 Q (EX X G σ)
  cases hd : ml ds with
  | bad => rw [hd] at w1; exact w1.elim
  | exc e =>
    rw [hd] at w1
    exact ⟨_, F1, ds, hl.trans hn, call_preD S1 r1, by rw [hd]; exact fun F' H' Cl dd g xr => EX.of S1 w1 g xr⟩
  | ret d =>
    rw [hd] at w1
    refine ⟨_, F1, ds, hl.trans hn, call_preD S1 r1, ?_⟩
    rw [hd]
    intro v F2 H2 s2 S2 r2
    obtain ⟨S3, t3⟩ := call_postD (avs' := ds.map AV.fz) S1 s2 S2
    exact w1 F2 H2 s2 S3 v (t3 v _ r2)
theorem setO_setC {ρ : En} {i : Nat} {f g : List D} (h : ownL ρ i = some g) : setO ρ i f = setC ρ i (.l f) := setO_change ρ i f g h
theorem call1_args {i : Nat} {y : Str} {OK : M S → Prop} {z : Ex → En → M S} {kk : List D → En → M S} {G : Gh} {F H : Hp} {σ : L2.St} {ρ : En} {Q : List V → Hp → Prop} (hN : X.N[i]? = some y) (hv : Vis X.env.scope y) (hd : (y == ("__debug__" : Str)) = false) (hcd : (y == ("__classdict__" : Str)) = false)
    (ha : AEa X es ms) (he : starEach (.Name y pn :: es) X.env = (false, eval (.Name y pn) X.env) :: starEach es X.env) (hO : KOk OK) (hX : XL X OK z G) (St : StOk X.K G F σ H ρ) (ok : OK (ms z (fun ds ρ1 => match ownL ρ1 i with | some f => kk (.list f :: ds) ρ1 | none => .bad) ρ))
    (h0 : (ownL ρ i).isSome = true)
    (k2 : ∀ a f ds vs F' H' ρ', Same F F' → StOk X.K G F' σ H' ρ' → ownL ρ' i = some f → σ[i]? = some (some (V.ref a)) → vs.length = es.length → RepL X.K F' vs ds → OK (kk (.list f :: ds) ρ') → Q (.ref a :: vs) H') : tSemA X (.Name y pn :: es) σ H Q := by
  obtain ⟨f0, hf0⟩ := Option.isSome_iff_exists.mp h0
  obtain ⟨a, _, ea, _, _⟩ := own_ref St hf0
  refine semA (pa_cons (pe_var hN hv hd hcd) pa_sem he) ⟨_, ea, ?_⟩
  refine ha OK z _ G F σ H ρ _ hO hX St ok fun ds vs F1 H1 ρ1 s1 S1 hl r1 o1 => ?_
  split at o1
  · rename_i f hf
    exact k2 a f ds vs F1 H1 ρ1 s1 S1 hf ea hl r1 o1
  · exact (hO o1).elim
def ck {S α : Type} (i : Nat) (m : Ev S α) : Ev S α := fun x k ρ => match (ownL ρ i).isSome with
  | true => m x k ρ
  | false => .bad
theorem call_pre1' {K : Fg} {G : Gh} {F H : Hp} {σ : L2.St} {ρ : En} {vs : List V} {ds f : List D} {j : Nat} {a : Addr} (S : StOk K G F σ H ρ) (hj : ownL ρ j = some f) (ha : σ[j]? = some (some (V.ref a))) (r : RepL K F vs ds) :
    StOk K ⟨P1 a, calleeO G σ ρ H (some a), F⟩ F ((V.ref a :: vs).map some) H (some (.op (.l f)) :: fzs ds) := call_pre1 S (ownL_own hj) ha r
theorem ae_fn1 {i : Nat} {y : Str} (C : CF X.prog X.w X.K X.mg X.base x k (sp1 X.K n m1)) (hr : Room k X.A) (hg : Gl X x) (hN : X.N[i]? = some y) (hv : Vis X.env.scope y) (ha : AEa X es ms) (hn : es.length + 1 = n)
    (hdb : (x == ("__debug__" : Str)) = false) (he : starEach (.Name y pn :: es) X.env = (false, eval (.Name y pn) X.env) :: starEach es X.env) (hpl : (backTo pos (starEach es X.env)).any (·.1) = false)
    (hd : (y == ("__debug__" : Str)) = false := by decide) (hcd : (y == ("__classdict__" : Str)) = false := by decide) : AE X (.Call (.Name x p) (.Name y pn :: es) [] pos) (ck i (eFn1 m1 i ms)) := by
  obtain ⟨f, fd, pl, Fn, h1, h2, h3⟩ := C.ex
  intro OK z kk G F σ H ρ Q hO hX St ok k2
  unfold ck at ok
  split at ok
  case h_2 => exact (hO ok).elim
  rename_i h0
  refine sem_call Fn hr hg h1 h2 h3 (passX (G := G)) hdb he hpl ?_
  refine call1_args (OK := OK) (z := z) (kk := fun l ρ1 => match l with | .list f :: ds => (m1 f ds).on (fun e => z e ρ1) (fun r => kk r.1 (setO ρ1 i r.2)) | _ => .bad) hN hv hd hcd ha he hO hX St ok h0 fun a f ds vs F1 H1 ρ1 s1 S1 hf ea hl r1 o1 => ?_
  have o1' : OK ((m1 f ds).on (fun e => z e ρ1) (fun r => kk r.1 (setO ρ1 i r.2))) := o1
  show sp1 X.K n m1 (V.ref a :: vs) H1 Q (EX X G σ)
  cases hd : m1 f ds with
  | bad => rw [hd] at o1'; exact (hO o1').elim
  | exc e =>
    rw [hd] at o1'
    exact ⟨_, F1, f, ds, by simp [hl]; exact hn, call_pre1' S1 hf ea r1, by rw [hd]; exact fun F' H' Cl dd g xr => EX.of S1 (hX F1 ρ1 e o1') g xr⟩
  | ret r =>
    rw [hd] at o1'
    refine ⟨_, F1, f, ds, by simp [hl]; exact hn, call_pre1' S1 hf ea r1, ?_⟩
    rw [hd]
    intro v F2 H2 s2 S2 r2
    obtain ⟨S3, t3⟩ := call_post1 (c' := .l r.2) (l := ds.map AV.fz) S1 (ownL_own hf) ea s2 S2
    rw [← setO_setC hf] at S3
    exact k2 r.1 v F2 H2 _ (s1.trans s2) S3 r2 o1'
end
theorem room_u {k : Nat} {A : Around} (r : Room k A) : A.units + 1100 < cLine := by have := r.un; omega
end L4
set_option Elab.async false
set_option linter.all false
set_option maxRecDepth 100000
namespace L4
open PySem PySem.Spec PyProof.Rows L2 L3
def noX {S : Type} (m : M S) : M S := match m with
  | .ret s => .ret s
  | _ => .bad
theorem noX_ret {S : Type} (s : S) : noX (M.ret s) = .ret s := rfl
def compC (step : D → M (Option D)) : List D → M (List D)
  | [] => .ret []
  | d :: r => bd (noX (step d)) fun o => bd (compC step r) fun xs => .ret (o.toList ++ xs)
theorem compC_nx {step : D → M (Option D)} : ∀ {ds : List D} {e : Ex}, compC step ds ≠ .exc e
  | [], e, h => by cases h
  | d :: r, e, h => by
    unfold compC at h
    cases hs : step d with
    | ret o =>
      rw [hs, noX_ret, bd_ret] at h
      cases hr : compC step r with
      | ret xs => rw [hr] at h; cases h
      | exc e' => exact compC_nx hr
      | bad => rw [hr] at h; cases h
    | exc e' => rw [hs] at h; cases h
    | bad => rw [hs] at h; cases h
def pComp (k : Nat) (it : Pu (List D)) (t : Tg (Option D)) (pt : Pu Bool) (pe : Pu D) : Pu (List D) := fun ρ => bd (it ρ) fun ds =>
  bd (compC (fun d => t d (fun ρ1 => bd (pt ρ1) fun b => if b then bd (pe ρ1) fun v => .ret (some v) else .ret none) (ρ ++ List.replicate k none)) ds) fitM
def pTrue : Pu Bool := fun _ => .ret true
def ATs (X : Cx) (ifs : List Expr) (p : Pu Bool) : Prop :=
  ∀ (G : Gh) (F : Hp) (σ : L2.St) (H : Hp) (ρ : En) (Q : Bool → Hp → Prop), StOk X.K G F σ H ρ → W X G F σ ρ (p ρ) (fun d F' H' => Q d H') → ∀ (pins : List (Addr × Obj)) (s : Shared), Inv X pins σ H s →
    wpAny (model X.prog X.w) X.A (forIn ifs true fun c r => if r = true then do let ok ← isTrue c X.env (eval c X.env); pure (ForInStep.yield ok) else pure (ForInStep.yield r)) (TP X pins σ Q) X.xe s
theorem ats_nil {X : Cx} : ATs X [] pTrue := fun G F σ H ρ Q S w pins s I => pts_nil pins s σ H Q I (w F H (Same.refl _) S)
theorem W.rets {X : Cx} {G : Gh} {F : Hp} {σ : L2.St} {ρ : En} {α : Type} {m : M α} {a : α} {C : α → Hp → Hp → Prop} (e : m = .ret a) (h : ∀ F' H', Same F F' → StOk X.K G F' σ H' ρ → C a F' H') : W X G F σ ρ m C := by subst e; exact h
section
variable {X : Cx}
def tAllG (X : Cx) (N' : List Str) (scope : Scope) (tg : Expr) : TG := fun v σ H Q => ∀ cl s H0 fp C, tSemG (compCx X N' scope cl s H0 fp C) tg v σ H Q
def tAllT (X : Cx) (N' : List Str) (scope : Scope) (ifs : List Expr) : TT := fun σ H Q => ∀ cl s0 H0 fp C, ∀ (pins : List (Addr × Obj)) (s : Shared), Inv (compCx X N' scope cl s0 H0 fp C) pins σ H s →
    wpAny (model X.prog X.w) (compCx X N' scope cl s0 H0 fp C).A (forIn ifs true fun c r => if r = true then do let ok ← isTrue c (compCx X N' scope cl s0 H0 fp C).env (eval c (compCx X N' scope cl s0 H0 fp C).env); pure (ForInStep.yield ok) else pure (ForInStep.yield r)) (TP (compCx X N' scope cl s0 H0 fp C) pins σ Q) (compCx X N' scope cl s0 H0 fp C).xe s
def tAllE (X : Cx) (N' : List Str) (scope : Scope) (e : Expr) : TE := fun σ H Q => ∀ cl s H0 fp C, tSem (compCx X N' scope cl s H0 fp C) e σ H Q
variable {elt tg iter : Expr} {ifs : List Expr} {scope : Scope} {pos : Pos} {N' : List Str} {k : Nat}
theorem comp_rd {it : Pu (List D)} {t : Tg (Option D)} {pt : Pu Bool} {pe : Pu D} {G : Gh} {F : Hp} {σ : L2.St} {H : Hp} {ρ : En} {Q : VK} (hi : AI X tg iter it)
    (hg : ∀ cl s H fp C, AG (compCx X N' scope cl s H fp C) X.N.length tg t) (ht : ∀ cl s H fp C, ATs (compCx X N' scope cl s H fp C) ifs pt) (he : ∀ cl s H fp C, AP (compCx X N' scope cl s H fp C) elt pe)
    (hσ : σ.length = X.N.length) (St : StOk X.K G F σ H ρ) (w : W X G F σ ρ (pComp k it t pt pe ρ) fun ds F' H' => ∀ v, Frs X.K G F' σ H' ρ v (.l ds) → Q v H') :
    tComp (tSemI X tg iter) k (tAllG X N' scope tg) (tAllT X N' scope ifs) (tAllE X N' scope elt) σ H Q := by
  refine hi G F σ H ρ _ St (w.bind.imp fun ds F1 H1 s1 S1 w1 J wk => ?_)
  have hP : ∀ i a, G.P i = some a → i < σ.length := fun i a h => (List.getElem?_eq_some_iff.mp (S1.pp i a h).1).1
  have hln : σ.length = ρ.length := S1.ln
  have wc := w1.bind
  revert wc
  generalize hstep : (fun d => t d (fun ρ1 => bd (pt ρ1) fun b => if b then bd (pe ρ1) fun v => .ret (some v) else .ret none) (ρ ++ List.replicate k none)) = step
  intro wc
  cases hcc : compC step ds with
  | bad => rw [hcc] at wc; exact wc.elim
  | exc e => exact (compC_nx hcc).elim
  | ret out =>
    rw [hcc] at wc
    have wf : ∀ F' H', Same F1 F' → StOk X.K G F' σ H' ρ → W X G F' σ ρ (fitM out) fun ds F' H' => ∀ v, Frs X.K G F' σ H' ρ v (.l ds) → Q v H' := wc
    have hfit : out.length ≤ sizeLine := (wf F1 H1 (Same.refl _) S1).fit.1
    have fin : ∀ F' H', Same F1 F' → StOk X.K G F' σ H' ρ → ∀ v, Frs X.K G F' σ H' ρ v (.l out) → Q v H' := fun F' H' s' S' => (wf F' H' s' S').fit.2 F' H' (Same.refl _) S'
    have grown : ∀ {F' H' σ' ρ'}, StOk X.K G F' σ' H' ρ' → (∀ j, j < σ.length → σ'[j]? = σ[j]? ∧ ρ'[j]? = ρ[j]?) → σ'.length = σ.length + k → StOk X.K G F' σ' H' (ρ ++ List.replicate k none) := fun {F' H' σ' ρ'} S' kp hl => by
      refine S'.weak (by have := S'.ln; simp; omega) (fun i av q => ?_) (fun i c q => ?_)
      · have q' := app_none q
        have hi : i < σ.length := by rw [hln]; exact (List.getElem?_eq_some_iff.mp q').1
        rw [(kp i hi).2]; exact q'
      · obtain ⟨a, ha⟩ := S'.pq i c q
        have hi := hP i a ha
        rw [List.getElem?_append_left (by omega), ← (kp i hi).2]
        exact q
    refine ⟨fun i m vs σ' H' => ∃ F' acc rest, m = ds.length - i ∧ i ≤ ds.length ∧ Same F1 F' ∧ StOk X.K G F' σ' H' (ρ ++ List.replicate k none) ∧ (∀ j, j < σ.length → σ'[j]? = σ[j]?) ∧ σ'.length = σ.length + k ∧ RepL X.K F' vs acc ∧ compC step (ds.drop i) = .ret rest ∧ out = acc ++ rest,
      ⟨ds.length, F1, [], out, rfl, Nat.zero_le _, Same.refl _, S1.grow k, fun j hj => by rw [List.getElem?_append_left hj], by simp, .nil, hcc, rfl⟩, ?_⟩
    rintro i m vs σ' H' ⟨F', acc, rest, rfl, hi, s2, S2, kp, hlen, rp, go, eo⟩
    refine ⟨by rw [rp.length]; rw [eo, List.length_append] at hfit; omega, ?_⟩
    by_cases hlt : i < ds.length
    · refine .inr ⟨wk.go i G F' σ' H' _ s2 S2 hlt, fun x H2 y cl s0 H0 fp C => ?_⟩
      have hd : ds[i]? = some ds[i] := by simp [hlt]
      obtain ⟨F3, s3, S3, r3⟩ := wk.yld i G F' σ' H' _ x H2 ds[i] s2 S2 hd y
      have ed : ds.drop i = ds[i] :: ds.drop (i + 1) := List.drop_eq_getElem_cons hlt
      rw [ed] at go
      cases hst : step ds[i] with
      | bad => dsimp only [compC] at go; rw [hst] at go; cases go
      | exc e => dsimp only [compC] at go; rw [hst] at go; cases go
      | ret o =>
        dsimp only [compC] at go
        rw [hst, noX_ret, bd_ret] at go
        cases hr : compC step (ds.drop (i + 1)) with
        | bad => rw [hr] at go; cases go
        | exc e => rw [hr] at go; cases go
        | ret rest' =>
          rw [hr, bd_ret] at go
          cases go
          rw [← hstep] at hst
          refine hg cl s0 H0 fp C (fun m => m = .ret o) _ G F3 σ' H2 _ x ds[i] _ (fun z => nomatch z) S3 r3 hst fun σ3 ρ3 S4 kp3 hl3 ml3 o4 => ?_
          have kp' : ∀ j, j < σ.length → σ3[j]? = σ[j]? ∧ ρ3[j]? = ρ[j]? := fun j hj => ⟨((kp3 j (by omega)).1).trans (kp j hj), by rw [(kp3 j (by omega)).2, List.getElem?_append_left (by omega)]⟩
          cases hpt : pt ρ3 with
          | bad => rw [hpt] at o4; cases o4
          | exc e => rw [hpt] at o4; cases o4
          | ret b =>
            rw [hpt, bd_ret] at o4
            intro cl s0 H0 fp C
            refine ht cl s0 H0 fp C G F3 σ3 H2 ρ3 _ S4 (W.rets hpt fun F5 H5 s5 S5 => ?_)
            cases b with
            | true =>
              refine iteT ?_
              have o4' : bd (pe ρ3) (fun v => .ret (some v)) = M.ret o := o4
              cases hpe : pe ρ3 with
              | bad => rw [hpe] at o4'; cases o4'
              | exc e => rw [hpe] at o4'; cases o4'
              | ret v =>
                rw [hpe, bd_ret] at o4'
                cases o4'
                intro cl s0 H0 fp C
                refine he cl s0 H0 fp C G F5 σ3 H5 ρ3 _ S5 (W.rets hpe fun F6 H6 s6 S6 u ru => ?_)
                exact ⟨ds.length - (i + 1), by omega, F6, acc ++ [v], rest', rfl, hlt, ((s2.trans s3).trans s5).trans s6, grown S6 kp' (by omega), fun j hj => (kp' j hj).1, by omega, (rp.mono ((s3.trans s5).trans s6)).append (.cons ru .nil), hr, by rw [eo]; simp⟩
            | false =>
              refine iteF ?_
              have o4' : (M.ret none : M (Option D)) = M.ret o := o4
              cases o4'
              exact ⟨ds.length - (i + 1), by omega, F5, acc, rest', rfl, hlt, (s2.trans s3).trans s5, grown S5 kp' (by omega), fun j hj => (kp' j hj).1, by omega, rp.mono (s3.trans s5), hr, by rw [eo]; simp⟩
    · have ei : i = ds.length := by omega
      subst ei
      rw [List.drop_length] at go
      cases go
      rw [List.append_nil] at eo
      subst eo
      refine .inl ⟨wk.stop G F' σ' H' _ s2 S2, fun p hp => ?_⟩
      have Ssh := S2.shrink (n := σ.length) (by simp; omega) hP
      have e1 : σ'.take σ.length = σ := take_eq_of kp rfl
      have e2 : (ρ ++ List.replicate k none).take σ.length = ρ := by rw [hln, List.take_left]
      rw [e1, e2] at Ssh
      obtain ⟨S5, r5⟩ := Ssh.newLst hp rp
      exact fin F' _ s2 S5 _ r5
theorem al_comp {it : Pu (List D)} {t : Tg (Option D)} {pt : Pu Bool} {pe : Pu D} (hc : X.calm = true) (Sc : CompOk X N' k scope) (hi : AI X tg iter it)
    (hg : ∀ cl s H fp C, AG (compCx X N' scope cl s H fp C) X.N.length tg t) (ht : ∀ cl s H fp C, ATs (compCx X N' scope cl s H fp C) ifs pt) (he : ∀ cl s H fp C, AP (compCx X N' scope cl s H fp C) elt pe)
    (hs : ∀ x, foldedSetIterable iter X.env x = pure x) : AL X (.ListComp elt [⟨tg, iter, ifs, 0⟩] scope pos) (pComp k it t pt pe) := by
  intro G F σ H ρ Q St w; unfold tSem; intro pins s I
  refine pe_comp (wi := tSemI X tg iter) (g := tAllG X N' scope tg) (tc := tAllT X N' scope ifs) (te := tAllE X N' scope elt) hc Sc (fun x hx hf => I.ok.has x.1 (Sc.free x hx hf)) pi_sem
    (fun cl s H fp C pins s' σ H v u Q I r h => pg_sem pins s' σ H v u Q I r (h cl _ _ fp C)) (fun cl s H fp C pins s' σ H Q I h => h cl _ _ fp C pins s' I) (fun cl s H fp C pins s' σ H Q I h => pe_sem pins s' σ H Q I (h cl _ _ fp C)) hs pins s σ H Q I (comp_rd hi hg ht he I.len St w)
end
end L4
set_option Elab.async false
set_option linter.all false
set_option maxRecDepth 100000
namespace L4
open PySem PySem.Spec PyProof.Rows L2 L3
section
variable {S : Type}
def putD (ds : List D) (j d : D) : Option (List D) := match j with
  | .int k => (ixN ds.length k).map fun q => ds.set q d
  | _ => none
def sPut (i : Nat) (mi me : Ev S D) : SM S := fun K ρ => me K.x (fun d ρ1 => match ownL ρ1 i with
  | some _ => mi K.x (fun j ρ2 => match ownL ρ2 i with
    | some ds => (oM (putD ds j d)).on (fun e => K.x e ρ2) (fun ds' => K.nx (setO ρ2 i ds'))
    | none => .bad) ρ1
  | none => .bad) ρ
variable {X : Cx} {a b e : Expr} {mi me : Ev S D} {pos pos' tpos apos cpos : Pos} {ml : Ev S (List D)}
theorem as_put {i : Nat} {x : Str} (hN : X.N[i]? = some x) (hv : Vis X.env.scope x) (hi : AE X b mi) (he : AE X e me) (ha : ∀ v, assign (.Subscript (.Name x pos') b tpos) X.env v = (do
      let ov ← holding [v] (eval (.Name x pos') X.env)
      let iv ← holding [v, ov] (eval b X.env)
      standAt tpos
      holding [v, ov, iv] (setItem ov iv v)
      release [v, ov, iv] []))
    (hs : swapsWithSole [.Subscript (.Name x pos') b tpos] e pos.line X.env = pure false) (hw : swappedStores [.Subscript (.Name x pos') b tpos] e X.env = pure none)
    (h1 : (assignEach [.Subscript (.Name x pos') b tpos] X.env).map (·.2) = [assign (.Subscript (.Name x pos') b tpos) X.env])
    (hd : (x == ("__debug__" : Str)) = false := by decide) (hcd : (x == ("__classdict__" : Str)) = false := by decide) : AS X (.Assign [.Subscript (.Name x pos') b tpos] e pos) (sPut i mi me) := fun OK K G F σ H ρ E hO hX St ok eo =>
  semS (ps_asg pe_sem (pg_sub (pe_var hN hv hd hcd) pe_sem set_list ha) hs hw h1) (he OK K.x _ G F σ H ρ _ hO hX St ok fun d v F1 H1 ρ1 s1 S1 r1 o1 => by
    split at o1
    case h_2 => exact (hO o1).elim
    rename_i ds0 hd0
    obtain ⟨a, vs0, ea, _, _⟩ := own_ref S1 hd0
    refine ⟨_, ea, hi OK K.x _ G F1 σ H1 ρ1 _ hO hX S1 o1 fun j u F2 H2 ρ2 s2 S2 r2 o2 => ?_⟩
    split at o2
    case h_2 => exact (hO o2).elim
    rename_i ds hds
    obtain ⟨ds', hp, o3⟩ := opt_ok hO o2
    obtain ⟨a', vs, ea', hh, rv⟩ := own_ref S2 hds
    rw [ea] at ea'
    injection ea' with ea'; injection ea' with ea'; injection ea' with ea'
    subst ea'
    unfold putD at hp
    split at hp
    · rename_i k
      obtain ⟨q, hq, rfl⟩ := Option.map_eq_some_iff.mp hp
      cases r2
      refine ⟨a, vs, k, q, rfl, rfl, hh, by rw [rv.length]; exact hq, ?_⟩
      exact eo.nx F2 σ _ _ (s1.trans s2) (own_set S2 hds ea (RepL.set (r1.mono s2) q rv)) o3
    · cases hp)
end
end L4
set_option Elab.async false
set_option linter.all false
set_option maxRecDepth 100000
namespace L4
open PySem PySem.Spec PyProof.Rows L2 L3
def kindB (k : NameKind) : Option NameKind → Bool
  | some k' => k == k'
  | none => false
def compChk (N N' : List Str) (k : Nat) (scope sc : Scope) : Bool :=
  (scope.kind == .function) && (N'.length == N.length + k) && scope.names.all (fun y => y.2 != .cell) && scope.names.all (fun y => y.2 != .local || kindB .local (scope.names.lookup y.1))
    && ((List.range N.length).all fun i => match N'[i]? with
      | some x => !(kindB .free (scope.names.lookup x) || kindB .local (scope.names.lookup x) || kindB .cell (scope.names.lookup x)) || (N[i]? == some x && kindB .free (scope.names.lookup x))
      | none => true)
    && scope.names.all (fun y => y.2 != .free || kindB .cell (sc.names.lookup y.1) || kindB .free (sc.names.lookup y.1))
theorem kindB_of {k : NameKind} {o : Option NameKind} (h : kindB k o = true) : o = some k := by
  cases o with
  | none => cases h
  | some k' => simp [kindB] at h; rw [h]
theorem kindB_to {k : NameKind} {o : Option NameKind} (h : o = some k) : kindB k o = true := by subst h; simp [kindB]
theorem compOk_of {X : Cx} {N N' : List Str} {k : Nat} {scope sc : Scope} (h : compChk N N' k scope sc = true) (hN : X.N = N) (hs : X.env.scope = sc) : CompOk X N' k scope := by
  subst hN hs
  simp only [compChk, Bool.and_eq_true, List.all_eq_true, beq_iff_eq, Bool.or_eq_true, bne_iff_ne, ne_eq] at h
  obtain ⟨⟨⟨⟨⟨h1, h2⟩, h3⟩, h4⟩, h5⟩, h6⟩ := h
  refine ⟨h1, h2, fun y hy => h3 y hy, fun y hy hl => ?_, fun i x hi hx _ hk => ?_, fun y hy hf => ?_⟩
  · rcases h4 y hy with z | z
    · exact absurd hl z
    · exact kindB_of z
  · have := h5 i (List.mem_range.mpr hi)
    rw [hx] at this
    simp only [Bool.or_eq_true, Bool.not_eq_true', Bool.and_eq_true, beq_iff_eq] at this
    rcases this with z | ⟨z1, z2⟩
    · exfalso
      rcases hk with hk | hk | hk <;> simp [kindB_to hk] at z
    · exact ⟨z1, kindB_of z2⟩
  · rcases h6 y hy with (z | z) | z
    · exact absurd hf z
    · exact .inl (kindB_of z)
    · exact .inr (kindB_of z)
section
variable {S : Type} {X : Cx} {a b e : Expr} {ms : Ev S (List D)} {pos : Pos}
def sPar (i j : Nat) (ms : Ev S (List D)) : SM S := fun K ρ => ms K.x (fun ds ρ1 => match ds with
  | [u, v] => (match okSet ρ1 i && okSet (ρ1.set i (some (.fz u))) j with
    | true => K.nx ((ρ1.set i (some (.fz u))).set j (some (.fz v)))
    | false => .bad)
  | _ => .bad) ρ
theorem as_par {i j : Nat} {x y : Str} {px py pt : Pos} {kt k2 pt2} (hc : X.calm = true) (hN : X.N.Nodup) (hi : X.N[i]? = some x) (hj : X.N[j]? = some y) (hij : i ≠ j)
    (hx : X.env.scope.names.lookup x = some .local) (hy : X.env.scope.names.lookup y = some .local) (ha : AEa X [a, b] ms)
    (hw : swappedStores [.Tuple [.Name x px, .Name y py] kt pt] (.Tuple [a, b] k2 pt2) X.env = pure (some [x, y]))
    (hs : swapsWithSole [.Tuple [.Name x px, .Name y py] kt pt] (.Tuple [a, b] k2 pt2) pos.line X.env = pure false) :
    AS X (.Assign [.Tuple [.Name x px, .Name y py] kt pt] (.Tuple [a, b] k2 pt2) pos) (sPar i j ms) := fun OK K G F σ H ρ E hO hX St ok eo =>
  semS (ps_par hc hN hi hj hij hx hy pa_sem hw hs) (ha OK K.x _ G F σ H ρ _ hO hX St ok fun ds vs F1 H1 ρ1 s1 S1 hl r1 o1 => by
    split at o1
    · split at o1
      · rename_i _ u v _ hok
        rw [Bool.and_eq_true] at hok
        obtain ⟨h1, h2⟩ := okSet_of hok.1
        obtain ⟨h3, h4⟩ := okSet_of hok.2
        cases r1 with
        | cons ra rb =>
          cases rb with
          | cons rb rc =>
            cases rc
            refine ⟨_, _, rfl, eo.nx F1 _ H1 _ s1 ?_ o1⟩
            exact (S1.store h2 h1 (.inl ⟨u, rfl, ra⟩)).store h4 h3 (.inl ⟨v, rfl, rb⟩)
      · exact (hO o1).elim
    · exact (hO o1).elim)
end
theorem law_start {K : Fg} {H : Hp} {a : Addr} {ns : List Int} {mf : List D → M D} (hS : SqL K H a (ns.map V.int)) (h : mf [.list (ns.map PyData.int)] = .ret (.bool true)) : spD K 1 mf [.ref a] H (fun v _ => v = .bl true) fun _ _ _ => False := by
  refine ⟨⟨fun _ => none, fun _ => none, H⟩, H, [.list (ns.map PyData.int)], rfl, ⟨Same.refl _, fun b o z => (nomatch z), fun b o z => (nomatch z), rfl, fun i d z => ?_, fun i c z => (no_own (ds := [.list (ns.map PyData.int)]) z).elim, fun i j c e a z => (no_own (ds := [.list (ns.map PyData.int)]) z).elim, fun i a z => (nomatch z), fun i c z => ?_, Same.refl _⟩, ?_⟩
  · obtain ⟨d', e, q⟩ := fz_get (ds := [.list (ns.map PyData.int)]) z
    cases e
    cases i with
    | zero => simp at q; subst q; exact ⟨_, rfl, .lst hS (RepL.ints ns)⟩
    | succ i => simp at q
  · obtain ⟨d', e, q⟩ := fz_get (ds := [.list (ns.map PyData.int)]) z
    cases e
  · rw [h]
    intro v F' H' s S' r
    cases r
    rfl
end L4
set_option Elab.async false
set_option linter.all false
set_option maxRecDepth 100000
namespace L4
open PySem PySem.Spec PyProof.Rows L2 L3
def isStar : Expr → Bool
  | .Starred _ _ => true
  | _ => false
theorem star_ok {env : Env} : ∀ {e : Expr} {es : List Expr}, isStar e = false → starEach (e :: es) env = (false, eval e env) :: starEach es env := by
  intro e es h
  cases e <;> first | rfl | cases h
end L4
set_option Elab.async false
set_option linter.all false
set_option maxRecDepth 100000
namespace L4
open PySem PySem.Spec PyProof.Rows L2 L3
noncomputable def forS {S T : Type} : (T → D → (T → M S) → M S) → List D → T → (T → M S) → M S := Classical.choose (⟨@forC S T, rfl⟩ : ∃ f, f = @forC S T)
theorem forS_is {S T : Type} : @forS S T = @forC S T := Classical.choose_spec (⟨@forC S T, rfl⟩ : ∃ f, f = @forC S T)
section
variable {S : Type}
noncomputable def sForS (sh : List Kd) (it : Ev S (List D)) (t : Tg S) (mb : SM S) : SM S := fun K ρ => it K.x (fun ds ρ1 => rdk sh (fun s => forS (fun s d kn => t d (fun ρ2 => mb (loopK sh K kn) ρ2) (wr sh s)) ds s (fun s' => K.nx (wr sh s'))) ρ1) ρ
theorem sForS_is (sh : List Kd) (it : Ev S (List D)) (t : Tg S) (mb : SM S) : sForS sh it t mb = sFor sh it t mb := by
  unfold sForS sFor
  rw [forS_is]
variable {X : Cx} {mb : SM S} {c : Expr} {mt : Ev S Bool} {ml : Ev S (List D)} {pos : Pos}
theorem as_forS {tg iter : Expr} {body : List Stmt} {sh : List Kd} {t : Tg S} (hp : PassesOwn (model X.prog X.w) X.A X.env X.xe) (hc : X.calm = true) (hi : AEi X tg iter ml) (hg : AG X 0 tg t) (hb : ASs X body mb)
    (hs : ∀ x, foldedSetIterable iter X.env x = pure x) : AS X (.For tg iter body [] pos) (sForS sh ml t mb) := by
  rw [sForS_is]
  exact as_for hp hc hi hg hb hs
end
end L4
set_option Elab.async false
set_option linter.all false
set_option maxRecDepth 100000
namespace L4
open PySem PySem.Spec PyProof.Rows L2 L3
def isKeyK : D → Bool
  | .int _ => true
  | .str _ => true
  | _ => false
def isKeyT : D → Bool
  | .tuple ds => ds.all isKeyK
  | _ => false
def keyQ1 : D → D → Bool
  | .int i, .int j => decide (i = j)
  | .str i, .str j => decide (i = j)
  | _, _ => false
def keyQs : List D → List D → Bool
  | [], [] => true
  | a :: r, b :: t => keyQ1 a b && keyQs r t
  | _, _ => false
def keyQ : D → D → Bool
  | .tuple a, .tuple b => keyQs a b
  | a, b => keyQ1 a b
def keyOk (es : List (D × D)) (k : D) : Bool := (isKeyT k && es.all fun p => isKeyT p.1) || (isKeyK k && es.all fun p => isKeyK p.1)
theorem keyOk_x {es : List (D × D)} {k : D} (h : keyOk es k = true) : isXe es = false := by
  unfold isXe
  split
  · simp [keyOk, isKeyT, isKeyK] at h
  · rfl
def getE (es : List (D × D)) (k : D) : Option D := (es.find? fun p => keyQ p.1 k).map (·.2)
theorem keyQ1_eq (a b : Key) : keyQ1 (keyD a) (keyD b) = decide (a = b) := by
  cases a <;> cases b <;> simp [keyQ1, keyD]
theorem keyQs_eq : ∀ (a b : List Key), keyQs (a.map keyD) (b.map keyD) = decide (a = b)
  | [], [] => by simp [keyQs]
  | [], _ :: _ => by simp [keyQs]
  | _ :: _, [] => by simp [keyQs]
  | x :: xs, y :: ys => by
    simp only [List.map_cons, keyQs, keyQ1_eq, keyQs_eq xs ys]
    by_cases h : x = y <;> by_cases g : xs = ys <;> simp [h, g]
theorem keyQ_T (a b : List Key) : keyQ (keyT a) (keyT b) = decide (a = b) := keyQs_eq a b
theorem keyQ_K (a b : Key) : keyQ (keyD a) (keyD b) = decide (a = b) := by
  have h : keyQ (keyD a) (keyD b) = keyQ1 (keyD a) (keyD b) := by cases a <;> cases b <;> rfl
  rw [h]; exact keyQ1_eq a b
theorem isKeyK_of {d : D} (h : isKeyK d = true) : ∃ k, d = keyD k := by
  cases d <;> first | exact ⟨.inl _, rfl⟩ | exact ⟨.inr _, rfl⟩ | cases h
theorem isKeyKs_of : ∀ {ds : List D}, ds.all isKeyK = true → ∃ k : List Key, ds = k.map keyD
  | [], _ => ⟨[], rfl⟩
  | d :: ds, h => by
    rw [List.all_cons, Bool.and_eq_true] at h
    obtain ⟨k, rfl⟩ := isKeyK_of h.1
    obtain ⟨ks, rfl⟩ := isKeyKs_of h.2
    exact ⟨k :: ks, rfl⟩
theorem isKeyT_of {d : D} (h : isKeyT d = true) : ∃ k, d = keyT k := by
  cases d <;> first | cases h | skip
  obtain ⟨k, rfl⟩ := isKeyKs_of h
  exact ⟨k, rfl⟩
theorem isKeyT_D (k : Key) : isKeyT (keyD k) = false := by cases k <;> rfl
theorem isKeyK_T (k : List Key) : isKeyK (keyT k) = false := rfl
section
variable {K : Fg} {F H : Hp} {v : V}
theorem rep_keyD {k : Key} (r : Rep K F v (keyD k)) : v = kV k := by
  cases k with
  | inl i => cases (show Rep K F v (.int i) from r); rfl
  | inr i => cases (show Rep K F v (.str i) from r); rfl
theorem repL_keyD : ∀ {vs : List V} {k : List Key}, RepL K F vs (k.map keyD) → vs = k.map kV
  | _, [], r => by rw [List.map_nil] at r; cases r; rfl
  | _, k :: ks, r => by
    rw [List.map_cons] at r
    cases r with
    | cons a b => rw [rep_keyD a, repL_keyD b]; rfl
theorem rep_keyT {k : List Key} (r : Rep K F v (keyT k)) : ∃ b, v = .ref b ∧ F b = some (.tup (k.map kV)) := by
  unfold keyT at r
  cases r with
  | tup h1 h2 => rw [repL_keyD h2] at h1; exact ⟨_, rfl, h1⟩
def DT (K : Fg) (F H : Hp) (a : Addr) (es : List (D × D)) : Prop := ∃ kvs, H a = some (.dT kvs) ∧ es.map (·.1) = kvs.map (fun p => keyT p.1) ∧ RepL K F (kvs.map (·.2)) (es.map (·.2))
def DK (K : Fg) (F H : Hp) (a : Addr) (es : List (D × D)) : Prop := ∃ kvs, H a = some (.dK kvs) ∧ es.map (·.1) = kvs.map (fun p => keyD p.1) ∧ RepL K F (kvs.map (·.2)) (es.map (·.2))
theorem OR.dict {es : List (D × D)} (s : Same F H) (h : OR K F H v (.dict es)) (hx : isXe es = false) : ∃ a, v = .ref a ∧ (DT K F H a es ∨ DK K F H a es) := by
  rcases h with h | ⟨a, c, e, e2, h1⟩
  · cases h with
    | dct h1 h2 h3 => exact ⟨_, rfl, .inl ⟨_, s _ _ h1, h2, h3⟩⟩
    | dck h1 h2 h3 => exact ⟨_, rfl, .inr ⟨_, s _ _ h1, h2, h3⟩⟩
    | exc _ _ _ _ _ => cases hx
  · cases c <;> cases e2
    · exact ⟨a, e, .inl h1⟩
    · exact ⟨a, e, .inr h1⟩
theorem get_rel {κ : Type} [DecidableEq κ] {kd : κ → D} (inj : ∀ a b, keyQ (kd a) (kd b) = decide (a = b)) (k : κ) : ∀ {kvs : List (κ × V)} {es : List (D × D)}, es.map (·.1) = kvs.map (fun p => kd p.1) → RepL K F (kvs.map (·.2)) (es.map (·.2)) →
    (∃ d v, getE es (kd k) = some d ∧ valV kvs k = some v ∧ Rep K F v d) ∨ (getE es (kd k) = none ∧ valV kvs k = none)
  | [], [], _, _ => .inr ⟨rfl, rfl⟩
  | [], _ :: _, e, _ => by simp at e
  | _ :: _, [], e, _ => by simp at e
  | p :: kvs, q :: es, e, r => by
    simp only [List.map_cons, List.cons.injEq] at e
    cases r with
    | cons r1 r2 =>
      unfold getE valV
      rw [List.find?_cons, List.find?_cons, e.1, inj]
      by_cases h : p.1 = k
      · simp only [h, decide_true]
        exact .inl ⟨_, _, rfl, rfl, r1⟩
      · simp only [h, decide_false]
        exact get_rel inj k e.2 r2
end
def EmptyD (H : Hp) (a : Addr) : Prop := H a = some (.dT []) ∨ H a = some (.dK [])
theorem empty_both {X : Cx} {pins : List (Addr × Obj)} {σ : L2.St} {H : Hp} {s : Shared} {a : Addr} (I : Inv X pins σ H s) (h : EmptyD H a) :
    s.heap.DictOfH (tupleKind (mixKind X.prog X.w)) a [] ∧ s.heap.DictOf (mixKind X.prog X.w) a [] ∧ (a == sysModules) = false := by
  rcases h with h | h
  · obtain ⟨z, y, xs, kt, o, es, ep, h1, h2, h3, h4, h5, h6⟩ := dt_of I.hok h
    cases kt
    have e0 : es = #[] := by
      have : es.toList = [] := h4
      exact Array.toList_inj.mp this
    subst e0
    exact ⟨⟨o, _, ep, h1, h2, h3, rfl, (fun x hx => by simp at hx), List.nodup_nil⟩, ⟨o, _, ep, h1, h2, h3, fun e he => by simp at he, .nil, List.nodup_nil⟩, y⟩
  · obtain ⟨z, y, vs, kv, o, es, ep, h1, h2, h3, h4, h5, h6⟩ := dk_of I.hok h
    cases kv
    have e0 : es = #[] := by
      have : es.toList = [] := by
        generalize es.toList = l at h5
        cases h5
        rfl
      exact Array.toList_inj.mp this
    subst e0
    exact ⟨⟨o, _, ep, h1, h2, h3, rfl, (fun x hx => by simp at hx), List.nodup_nil⟩, ⟨o, _, ep, h1, h2, h3, fun e he => by simp at he, .nil, List.nodup_nil⟩, y⟩
theorem DT.empty {K : Fg} {F H : Hp} {a : Addr} (h : DT K F H a []) : EmptyD H a := by
  obtain ⟨kvs, h1, h2, _⟩ := h
  cases kvs with
  | nil => exact .inl h1
  | cons _ _ => simp at h2
theorem DK.empty {K : Fg} {F H : Hp} {a : Addr} (h : DK K F H a []) : EmptyD H a := by
  obtain ⟨kvs, h1, h2, _⟩ := h
  cases kvs with
  | nil => exact .inr h1
  | cons _ _ => simp at h2
def KeyV (H : Hp) (y : V) : Prop := (∃ k, y = kV k) ∨ ∃ (b : Addr) (ks : List Key), y = .ref b ∧ H b = some (.tup (ks.map kV))
def DAsk (H : Hp) (a : Addr) (y : V) (o : Option V) : Prop := DGet H a y o ∨ (EmptyD H a ∧ KeyV H y ∧ o = none)
theorem ask_of {K : Fg} {F H : Hp} {a : Addr} {y : V} {es : List (D × D)} {k : D} (s : Same F H) (h : DT K F H a es ∨ DK K F H a es) (r : Rep K F y k) (hk : keyOk es k = true) :
    (∃ d v, getE es k = some d ∧ DAsk H a y (some v) ∧ Rep K F v d) ∨ (getE es k = none ∧ DAsk H a y none) := by
  unfold keyOk at hk
  rw [Bool.or_eq_true, Bool.and_eq_true, Bool.and_eq_true] at hk
  have kT : isKeyT k = true → KeyV H y := fun h => by
    obtain ⟨ks, rfl⟩ := isKeyT_of h
    obtain ⟨b, rfl, hb⟩ := rep_keyT r
    exact .inr ⟨b, ks, rfl, s _ _ hb⟩
  have kK : isKeyK k = true → KeyV H y := fun h => by
    obtain ⟨ks, rfl⟩ := isKeyK_of h
    exact .inl ⟨ks, rep_keyD r⟩
  cases es with
  | nil =>
    refine .inr ⟨rfl, .inr ⟨?_, ?_, rfl⟩⟩
    · rcases h with h | h
      · exact h.empty
      · exact h.empty
    · rcases hk with hk | hk
      · exact kT hk.1
      · exact kK hk.1
  | cons p es =>
    rcases h with ⟨kvs, h1, h2, h3⟩ | ⟨kvs, h1, h2, h3⟩
    · rcases hk with ⟨hk, _⟩ | ⟨_, hk⟩
      · obtain ⟨ks, rfl⟩ := isKeyT_of hk
        obtain ⟨b, rfl, hb⟩ := rep_keyT r
        rcases get_rel keyQ_T ks h2 h3 with ⟨d, v, e1, e2, e3⟩ | ⟨e1, e2⟩
        · exact .inl ⟨d, v, e1, .inl (e2 ▸ DGet.t h1 (s _ _ hb)), e3⟩
        · exact .inr ⟨e1, .inl (e2 ▸ DGet.t h1 (s _ _ hb))⟩
      · exfalso
        cases kvs with
        | nil => simp at h2
        | cons q kvs =>
          simp only [List.map_cons, List.cons.injEq] at h2
          rw [List.all_cons, h2.1, isKeyK_T, Bool.false_and] at hk
          cases hk
    · rcases hk with ⟨_, hk⟩ | ⟨hk, _⟩
      · exfalso
        cases kvs with
        | nil => simp at h2
        | cons q kvs =>
          simp only [List.map_cons, List.cons.injEq] at h2
          rw [List.all_cons, h2.1, isKeyT_D, Bool.false_and] at hk
          cases hk
      · obtain ⟨ks, rfl⟩ := isKeyK_of hk
        obtain rfl := rep_keyD r
        rcases get_rel keyQ_K ks h2 h3 with ⟨d, v, e1, e2, e3⟩ | ⟨e1, e2⟩
        · exact .inl ⟨d, v, e1, .inl (e2 ▸ DGet.k h1), e3⟩
        · exact .inr ⟨e1, .inl (e2 ▸ DGet.k h1)⟩
section
variable {X : Cx} {pins : List (Addr × Obj)} {σ : L2.St} {H : Hp} {s : Shared} {a : Addr} {y d : V} {u r : Value} {o : Option V} {A : Around} {E : Value → Shared → Prop}
theorem a_get2 {Q : Value → Shared → Prop} (hu : A.units + 1 < cLine) (I : Inv X pins σ H s) (g : DAsk H a y o) (ry : RelV y u) (rd : RelV d r) (h : ∀ w' s', Inv X pins σ H s' → RelV (o.getD d) w' → Q w' s') :
    wpAny (model X.prog X.w) A (call (.builtin "dict.get") [.ref a, u, r]) Q E s := by
  rcases g with g | ⟨e, k, rfl⟩
  · exact d_get2 hu I g ry rd h
  · obtain ⟨h1, h2, hd⟩ := empty_both I e
    rcases k with ⟨k, rfl⟩ | ⟨b, ks, rfl, hb⟩
    · exact call_meetsIn PySem.F.slot_dict_get h2.typeIs PySem.F.entry_dict_get (PySem.F.args_dict_get_3 _ _ _) (meets_dict_get_default (mixKind X.prog X.w) a (kV_is ry) hd r) ⟨_, h2.mapOf, h _ _ (I.tok _) rd⟩
    · cases (show u = Value.ref b from ry)
      exact call_meetsIn PySem.F.slot_dict_get h1.typeIs PySem.F.entry_dict_get (PySem.F.args_dict_get_3 _ _ _) (meetsH_dict_get_default (tupleKind (mixKind X.prog X.w)) a b hd r) ⟨tupleKind_room_in1 hu, ks, [], key_of I.hok hb, h1, h _ _ (I.tok _) rd⟩
theorem DT.isD {K : Fg} {F : Hp} {es : List (D × D)} (h : DT K F H a es ∨ DK K F H a es) : IsD H a := by
  rcases h with ⟨kvs, h1, _⟩ | ⟨kvs, h1, _⟩
  · exact .inr ⟨_, .inl h1⟩
  · exact .inl ⟨_, .inl h1⟩
end
end L4
set_option Elab.async false
set_option linter.all false
set_option maxRecDepth 100000
namespace L4
open PySem PySem.Spec PyProof.Rows L2 L3
def dGet2 : D → D → D → Option D
  | .dict es, k, z => if keyOk es k then some ((getE es k).getD z) else none
  | _, _, _ => none
def opInA (d c : D) : Option Bool := match c with
  | .dict es => if keyOk es d then some (getE es d).isSome else none
  | _ => opIn d c
def opIxA (x y : D) : Option D := match x with
  | .dict es => if keyOk es y then getE es y else none
  | _ => opIx x y
def pDGet2 (po pe pf : Pu D) : Pu D := fun ρ => bd (po ρ) fun d => bd (noX (pe ρ)) fun k => bd (noX (pf ρ)) fun z => oM (dGet2 d k z)
theorem W.nx {X : Cx} {G : Gh} {F : Hp} {σ : L2.St} {ρ : En} {α : Type} {m : M α} {C : α → Hp → Hp → Prop} (h : W X G F σ ρ (noX m) C) : W X G F σ ρ m C := by
  cases m with
  | ret a => exact h
  | exc x => exact h.elim
  | bad => exact h.elim
def tAGet2 (td ty tx : TE) : TE := fun σ H Q => td σ H fun x H1 => ∃ a, x = .ref a ∧ IsD H1 a ∧ ty σ H1 fun y H2 => tx σ H2 fun z H3 => ∃ o, DAsk H3 a y o ∧ Q (o.getD z) H3
section
variable {X : Cx} {o e f : Expr} {apos cpos : Pos} {td ty tx : TE}
theorem pe_aget2 (hu : X.A.units + 1 < cLine) (ho : PE X o td) (he : PE X e ty) (hf : PE X f tx) (m : M2 X o "get" apos e f cpos) : PE X (.Call (.Attribute o "get" apos) [e, f] [] cpos) (tAGet2 td ty tx) := by
  intro pins s σ H Q I h
  refine wpAny_Call_method m.base m.few m.line PySem.F.plainAttrs_dict PySem.F.slot_dict_get PySem.F.type_dict_get (thn (ho pins s σ H _ I h) fun u s1 ⟨x, H1, I1, rx, a, ex, d, q1⟩ => ?_)
  subst ex
  obtain rfl : u = Value.ref a := rx
  obtain ⟨t1, t2, _⟩ := isD_at I1 d
  refine ⟨t1, t2, ?_⟩
  rw [m.trees]
  refine Calls.callWith_builtin rfl (Calls.evalArgs_plain (Calls.spliced_cons (thn (he pins s1 σ H1 _ I1 q1) fun iv s2 ⟨y, H2, I2, ry, q2⟩ =>
    Calls.spliced_cons (thn (hf pins s2 σ H2 _ I2 q2) fun fv s3 ⟨z, H3, I3, rz, ov, g, q3⟩ => Calls.spliced_nil ?_))))
  exact a_get2 hu I3 g ry rz fun w' s4 I4 rw' => ⟨_, H3, I4, rw', q3⟩
end
section
variable {X : Cx} {o e f : Expr} {apos cpos pos : Pos} {po pe pf : Pu D}
theorem ap_dget2 (hu : X.A.units + 1100 < cLine) (ho : AO X o po) (he : AP X e pe) (hf : AP X f pf) (m : M2 X o "get" apos e f cpos) : AP X (.Call (.Attribute o "get" apos) [e, f] [] cpos) (pDGet2 po pe pf) :=
  fun G F σ H ρ Q S w => sem (pe_aget2 (by omega) pe_sem pe_sem pe_sem m) (ho G F σ H ρ _ S (w.bind.imp fun d F1 H1 s1 S1 w1 v hv => by
    have hd : ∃ es, d = .dict es ∧ isXe es = false := by
      cases hk : pe ρ with
      | ret k => cases hz : pf ρ with
        | ret z =>
          rw [hk] at w1; simp only [noX_ret, bd_ret] at w1; rw [hz] at w1; simp only [noX_ret, bd_ret] at w1
          obtain ⟨res, e, _⟩ := w1.opt
          cases d with
          | dict es =>
            dsimp only [dGet2] at e
            split at e
            · rename_i hk; exact ⟨es, rfl, keyOk_x hk⟩
            · cases e
          | _ => cases e
        | exc x => rw [hk] at w1; simp only [noX_ret, bd_ret] at w1; rw [hz] at w1; exact w1.elim
        | bad => rw [hk] at w1; simp only [noX_ret, bd_ret] at w1; rw [hz] at w1; exact w1.elim
      | exc x => rw [hk] at w1; exact w1.elim
      | bad => rw [hk] at w1; exact w1.elim
    obtain ⟨es, rfl, hnx⟩ := hd
    obtain ⟨a, rfl, hh⟩ := (hv.or S1).dict S1.fh hnx
    refine ⟨a, rfl, DT.isD hh, he G F1 σ H1 ρ _ S1 (w1.bind.nx.imp fun k F2 H2 s2 S2 w2 y hy => hf G F2 σ H2 ρ _ S2 (w2.bind.nx.imp fun z F3 H3 s3 S3 w3 zv hz => ?_))⟩
    obtain ⟨res, e, kk⟩ := w3.opt
    dsimp only [dGet2] at e
    split at e
    case isFalse => cases e
    rename_i hk
    cases e
    obtain ⟨a', ea, hh3⟩ := (((hv.mono s2).mono s3).or S3).dict S3.fh hnx
    cases ea
    rcases ask_of S3.fh hh3 (hy.mono s3) hk with ⟨d, v, e1, g, r⟩ | ⟨e1, g⟩
    · refine ⟨some v, g, ?_⟩
      rw [e1] at kk
      exact kk F3 H3 (Same.refl _) S3 v r
    · refine ⟨none, g, ?_⟩
      rw [e1] at kk
      exact kk F3 H3 (Same.refl _) S3 zv hz))
end
def rDIx : R2 := fun x y H Q => ∃ a v, x = .ref a ∧ DGet H a y (some v) ∧ Q v H
def rIxA (K : Fg) : R2 := fun x y H Q => rIx K x y H Q ∨ rDIx x y H Q
section
variable {X : Cx}
theorem ix_dict (hu : X.A.units + 1100 < cLine) : IxR X rDIx := by
  intro value slice pins s σ H x y v u Q I rx ry ⟨a, w, e, g, q⟩ hs
  subst e
  obtain rfl : v = Value.ref a := rx
  have hT : s.TypeIs (.ref a) "dict" := dict_typeIs I g
  unfold subscriptTail
  refine wpAny_bind ?_
  rw [getitemInPython_of_ne hT.not_modules]
  refine wpAny_bind (wpAny_specialOf hT PySem.F.slot_dict_getitem.lookup ?_)
  have h₂ : wpAny (model X.prog X.w) X.A (getItem (.ref a) u) (EP X pins σ Q) X.xe s := d_getItem (by omega) I g ry fun w' s3 I3 rw' => ⟨w, H, I3, rw', q⟩
  have fin : wpAny (model X.prog X.w) X.A (subscripted slice false (.ref a) u) (fun r s₃ => wpAny (model X.prog X.w) X.A (letTemporaryGo value (.ref a) r >>= fun _ => pure r) (EP X pins σ Q) X.xe s₃) X.xe s := by
    rw [hs]
    exact wpAny_operating (wpAny_mono h₂ (fun r s₃ h₃ => wpAny_bind (wpAny_letTemporaryGo (wpAny_pure h₃))) fun _ _ x => x)
  first
    | exact wpAny_pure (wpAny_bind fin)
    | exact wpAny_bind (wpAny_pure (wpAny_bind fin))
    | exact wpAny_bind fin
theorem ix_any (hu : X.A.units + 1100 < cLine) : IxR X (rIxA X.K) := IxR.or ix_seq (ix_dict hu)
theorem keyOk_rep {K : Fg} {F H : Hp} {y : V} {es : List (D × D)} {k : D} (h : OR K F H y k) (hk : keyOk es k = true) : Rep K F y k := by
  rcases h with h | ⟨a, c, e, e2, h1⟩
  · exact h
  · exfalso
    subst e2
    unfold keyOk at hk
    cases c <;> simp [OC.d, isKeyT, isKeyK] at hk
theorem ok_ixA {K : Fg} : OpD K (rIxA K) opIxA := by
  intro G F σ H ρ x y dx dy res Q S ox oy e k
  unfold opIxA at e
  split at e
  · rename_i es
    split at e
    case isFalse => cases e
    rename_i hk
    obtain ⟨a, rfl, hh⟩ := ox.dict S.fh (keyOk_x hk)
    rcases ask_of S.fh hh (keyOk_rep oy hk) hk with ⟨d, v, e1, g, r⟩ | ⟨e1, g⟩
    · rw [e1] at e
      cases e
      rcases g with g | ⟨_, _, z⟩
      · exact .inr ⟨a, v, rfl, g, k v F H (Same.refl _) S r⟩
      · cases z
    · rw [e1] at e; cases e
  · exact .inl (ok_ix G F σ H ρ x y dx dy res Q S ox oy e k)
end
end L4
set_option Elab.async false
set_option linter.all false
set_option maxRecDepth 100000
namespace L4
open PySem PySem.Spec PyProof.Rows L2 L3 PySem.W
section
variable {prog : Program} {w : World} {A : Around} {E : Value → Shared → Prop} {K : Frag} {C D fI : Addr} {h : Heap} {g : Array GenState} {d : Drawn} {t : Nat} {os : OsState} {rest : List Value}
abbrev newX (h : Heap) (C : Addr) (rest : List Value) : Heap := (h.push { cls := .type "tuple", data := .seq rest.toArray }).push { cls := .ref C, data := .fields #[.ref h.objs.size, .none, .none, .none, .bool false, .none] }
theorem newX_kept {b : Addr} {o : Obj} (q : h.get? b = some o) : (newX h C rest).get? b = some o := Heap.get?_push_of_some _ (Heap.get?_push_of_some _ q)
theorem newX_at : (newX h C rest).get? (h.objs.size + 1) = some { cls := .ref C, data := .fields #[.ref h.objs.size, .none, .none, .none, .bool false, .none] } := by
  have z := Heap.get?_push_size (h.push { cls := .type "tuple", data := .seq rest.toArray }) (o := { cls := .ref C, data := .fields #[.ref h.objs.size, .none, .none, .none, .bool false, .none] }) rfl
  rwa [Heap.size_push] at z
theorem made_by_init (X : K.In h) (c : XC K C D fI) {Q : Fin → Shared → Prop} (hz : rest.length ≤ sizeLine)
    (hq : wpAny (model prog w) A (call (.ref fI) (.ref (h.objs.size + 1) :: rest)) (fun r s' => r = .none ∧ Q (.done (.ret (.ref (h.objs.size + 1)))) s') E ⟨newX h C rest, g, d, t, os⟩) :
    wpAny (model prog w) A (Builtin.«type.__call__» ⟨.ref C :: rest, []⟩) Q E ⟨h, g, d, t, os⟩ := by
  obtain ⟨nm, q, N, bs, sn, sub, ab, col, dd, k0, k1, k2, k3, k5, lk⟩ := c.obj
  have hC := X _ _ lk
  have T : OwnTail h bmV (.ref D :: bmV) := tail_of_in X c.tl
  have B := F.excBase_ValueError
  repeat (first | with_reducible refine wpAny_loadPart_at hC ?_ | with_reducible refine wpAny_madeBy_exc hC ?_ | wp_step)
  refine codeAny_call_builtin_code (Code.quiet_builtin _ B.quiet) (wpAny_check_new_subT B T hC (codeAny_exc_new_subT B T hC ?_ hz))
  show wpAny _ _ _ _ _ _
  have X1 : K.In (newX h C rest) := X.keeps fun b o z => newX_kept z
  have LI := looks_findIn (M := model prog w) X1 c.ini
  have LB := bind_fn (M := model prog w) X1 (.ref (h.objs.size + 1)) c.fn
  have hC1 := newX_kept (rest := rest) (C := C) hC
  have yes : (Value.ref C :: .ref D :: bmV).contains (.ref C) = true := by simp
  unfold isInstance
  repeat (first | with_reducible refine wpAny_loadPart_at newX_at ?_ | (with_reducible refine wpAny_isSubtype_exc hC1 ?_; rw [yes]) | wp_step)
  show wpAny _ _ (typeLookup (.ref C) _) _ _ _
  refine LI.at ?_
  refine wpAny_holding (wpAny_bind (LB.at ?_))
  refine wpAny_bind (wpAny_mono hq (fun r s' z => ?_) fun _ _ z => z)
  obtain ⟨rfl, z⟩ := z
  wp_walk
  exact z
theorem call_exc (X : K.In h) (c : XC K C D fI) {Q : Value → Shared → Prop} (hz : rest.length ≤ sizeLine)
    (hq : wpAny (model prog w) (A.under (.builtin "type.__call__" ⟨.ref C :: rest, []⟩)) (call (.ref fI) (.ref (h.objs.size + 1) :: rest)) (fun r s' => r = .none ∧ Q (.ref (h.objs.size + 1)) s') E ⟨newX h C rest, g, d, t, os⟩) :
    wpAny (model prog w) A (call (.ref C) rest) Q E ⟨h, g, d, t, os⟩ := by
  obtain ⟨nm, q, N, bs, sn, sub, ab, col, dd, k0, k1, k2, k3, k5, lk⟩ := c.obj
  have hC := X _ _ lk
  have f1 := tc_lookup
  have f2 := tc_bind (.ref C)
  have ty : (⟨h, g, d, t, os⟩ : Shared).TypeIs (.ref C) "type" := ⟨_, hC, rfl⟩
  refine wpAny_call (codeAny_of_tree ?_)
  show wpAny _ _ (callAny (.ref C) _) _ _ _
  repeat (any_goals (first | assumption | with_reducible refine wpAny_loadPart_at hC ?_ | wp_step))
  refine ⟨rfl, codeAny_call_builtin_at (Code.quiet_builtin _ (by decide +kernel)) entry_typeCall (wpAny_check_type_call_sub hC (made_by_init X c hz ?_))⟩
  exact hq
end
end L4
set_option Elab.async false
set_option linter.all false
set_option maxRecDepth 100000
namespace L4
open PySem PySem.Spec PyProof.Rows L2 L3
def XN (e C : Addr) (dd : Option Addr) : Heap → Prop := fun h => ∃ oe vs, h.get? e = some oe ∧ oe.cls = .ref C ∧ oe.dict = dd ∧ oe.data = .fields vs ∧ 1 < vs.size ∧ vs[1]? = some .none
section
variable {P : Program} {w : World} {h h' : Heap} {e C dx : Addr} {dd : Option Addr} {H : Hp} {fs : List (Str × V)}
theorem XN.ok {H' : Hp} (x : XN e C dd h) : ObjOk P w H' h e (.ext (XN e C dd)) := by
  obtain ⟨oe, vs, q, r⟩ := x
  exact ⟨⟨oe, vs, q, r⟩, ⟨oe, q⟩, fun h1 h2 ⟨o, vs, z, r⟩ k => ⟨o, vs, k o z, r⟩⟩
theorem XD.ok {H' : Hp} (x : XD dx fs h) : ObjOk P w H' h dx (.ext (XD dx fs)) := by
  obtain ⟨mA, n, r⟩ := x
  obtain ⟨o, es, ep, q, z⟩ := id n
  exact ⟨⟨mA, n, r⟩, ⟨o, q⟩, fun h1 h2 ⟨m, n, r⟩ k => ⟨m, n.at fun o q => k o q, r⟩⟩
theorem un_x1 {fr : List Addr} {o1 o2 : HO} (ea : ∃ φ, H e = some (.ext φ)) (hd : h.objs.size ≤ dx) (hn : H dx = none) (heo : ∃ o, h'.get? e = some o) (k : ∀ b o, b ≠ e → h.get? b = some o → h'.get? b = some o) : Un fr [] H (upd (upd H dx o1) e o2) h h' := by
  obtain ⟨φ, ea⟩ := ea
  have nd : ∀ b o, h.get? b = some o → b ≠ dx := fun b o q => Nat.ne_of_lt (Nat.lt_of_lt_of_le (Heap.lt_size q) hd)
  have ne : ∀ b, H b = none → b ≠ e := fun b n z => by subst z; rw [ea] at n; cases n
  have kp : ∀ b u, H b = some u → (∀ φ, u ≠ .ext φ) → (upd (upd H dx o1) e o2) b = some u := fun b u q nu => by
    rw [upd_ne (fun z => by subst z; rw [ea] at q; cases q; exact nu _ rfl), upd_ne (fun z => by subst z; rw [hn] at q; cases q)]
    exact q
  refine ⟨fun b o q n _ _ => k b o (ne b n) q, fun b o q n _ _ => ⟨o.slots, k b o (ne b n) q⟩, fun b o q n _ => ?_, fun b o q _ => ?_, fun b xs q => kp b _ q (fun _ z => by cases z), fun b o u q => kp b _ q (fun _ z => by cases z), fun b ps q => ⟨#[], ?_⟩⟩
  · rw [upd_ne (ne b n), upd_ne (nd b o q)]; exact n
  · by_cases z : b = e
    · subst z; exact heo
    · exact ⟨o, k b o z q⟩
  · rw [kp b _ q (fun _ z => by cases z)]; simp
theorem hok_x1 {o1 o2 : HO} (ok : HOk P w H h) (ea : ∃ φ, H e = some (.ext φ)) (hn : H dx = none) (k : ∀ b o, b ≠ e → h.get? b = some o → h'.get? b = some o)
    (h1 : ObjOk P w (upd (upd H dx o1) e o2) h' dx o1) (h2 : ObjOk P w (upd (upd H dx o1) e o2) h' e o2) : HOk P w (upd (upd H dx o1) e o2) h' := fun a o q => by
  obtain ⟨φ, ea⟩ := ea
  have kp : ∀ b u, H b = some u → (∀ φ, u ≠ .ext φ) → (upd (upd H dx o1) e o2) b = some u := fun b u r nu => by
    rw [upd_ne (fun z => by subst z; rw [ea] at r; cases r; exact nu _ rfl), upd_ne (fun z => by subst z; rw [hn] at r; cases r)]
    exact r
  by_cases z : a = e
  · subst z; rw [upd_same] at q; cases q; exact h2
  · rw [upd_ne z] at q
    by_cases y : a = dx
    · subst y; rw [upd_same] at q; cases q; exact h1
    · rw [upd_ne y] at q
      refine (ok a o q).stay (fun b u hb r => k b u (fun x => ?_) r) (fun b r => kp b _ r (fun _ z => by cases z)) fun b xs r => kp b _ r (fun _ z => by cases z)
      subst x
      rcases hb with rfl | hb
      · exact z rfl
      · rw [ea] at hb; cases hb
end
section
variable {X : Cx} {pins : List (Addr × Obj)} {σ : L2.St} {H : Hp} {s : Shared} {e C D fI dx : Addr} {f : Str} {y : V} {u : Value} {A : Around} {E : Value → Shared → Prop} {fs : List (Str × V)} {Q : Unit → Shared → Prop}
theorem setx1 (I : Inv X pins σ H s) (ea : H e = some (.ext (XN e C none))) (c : XC X.K C D fI) (n : NoAttr X.K C f) (ry : RelV y u)
    (h : ∀ s' dx, H dx = none → dx ≠ e → Inv X pins σ (upd (upd H dx (.ext (XD dx [(f, y)]))) e (.ext (XN e C (some dx)))) s' → Q () s') : wpAny (model X.prog X.w) A (setAttr (.ref e) f u) Q E s := by
  obtain ⟨⟨oe, vs, q, q1, q2, q3, q4, q5⟩, _⟩ := I.hok e _ ea
  obtain ⟨cd, k1, k2, k3⟩ := cls_of c
  refine set_exc1 (bmB := bmV) I.kIn q q1 (by unfold PySem.W.notCls; rw [q3]) q2 c.sa k1 k2 k3 n fun h' dx tk hd ns he kp => ?_
  have hn : H dx = none := I.hok.fresh hd
  have nx : dx ≠ e := fun z => by subst z; rw [ea] at hn; cases hn
  have xn : XN e C (some dx) h' := ⟨_, vs, he, q1, rfl, q3, q4, q5⟩
  have xd : XD dx [(f, y)] h' := by
    refine ⟨_, ns, fun g hg => ?_, fun g => ?_⟩
    · by_cases z : g = f
      · subst z; exact List.mem_singleton.mpr rfl
      · exact absurd (show (if g = f then some u else none) = none from if_neg z) hg
    · by_cases z : g = f
      · subst z
        rw [show List.lookup g [(g, y)] = some y by simp [List.lookup], show (if g = g then some u else none) = some u from if_pos rfl]
        exact ry
      · rw [show List.lookup g [(f, y)] = none by simp [List.lookup, beq_eq_false_iff_ne.mpr z], show (if g = f then some u else none) = none from if_neg z]
        exact True.intro
  exact h _ dx hn nx (I.un (un_x1 ⟨_, ea⟩ hd hn ⟨_, he⟩ kp) (hok_x1 I.hok ⟨_, ea⟩ hn kp xd.ok xn.ok))
theorem setx2 (I : Inv X pins σ H s) (ea : H e = some (.ext (XN e C (some dx)))) (hd : H dx = some (.ext (XD dx fs))) (c : XC X.K C D fI) (n : NoAttr X.K C f) (hl : fs.length ≤ 900) (ry : RelV y u)
    (h : ∀ s', Inv X pins σ (upd H dx (.ext (XD dx (putF f y fs)))) s' → Q () s') : wpAny (model X.prog X.w) A (setAttr (.ref e) f u) Q E s := by
  obtain ⟨⟨oe, vs, q, q1, q2, q3, q4, q5⟩, _⟩ := I.hok e _ ea
  obtain ⟨⟨mA, na, wi, r⟩, _⟩ := I.hok dx _ hd
  obtain ⟨cd, k1, k2, k3⟩ := cls_of c
  have ne : dx ≠ e := fun z => by
    subst z
    obtain ⟨o, es, ep, z1, z2, _⟩ := na
    rw [q] at z1; cases z1
    rw [q3] at z2; cases z2
  refine set_exc2 (D := D) I.kIn q q1 (by unfold PySem.W.notCls; rw [q3]) q2 ne na wi (by rw [List.length_map]; omega) c.sa k1 k2 k3 n fun h' tk ns kp => ?_
  have xd : XD dx (putF f y fs) h' := by
    refine ⟨_, ns, fun g hg => ?_, fun g => ?_⟩
    · by_cases z : g = f
      · rw [z]; exact (keys_putF f y fs).1
      · refine (keys_putF f y fs).2 g (wi g fun z' => hg ?_)
        show (if g = f then some u else mA g) = none
        rw [if_neg z]; exact z'
    · show RelO ((putF f y fs).lookup g) (if g = f then some u else mA g)
      rw [lookup_putF]
      by_cases z : g = f
      · rw [if_pos z, if_pos z]; exact ry
      · rw [if_neg z, if_neg z]; exact r g
  obtain ⟨o', es', ep', z', _⟩ := id ns
  exact h _ (I.write (x := dx) (e := dx) (by rw [hd]; exact True.intro) (.inl rfl) (fun b o nb z => kp b o nb z) ⟨o', z'⟩ xd.ok)
end
end L4
set_option Elab.async false
set_option linter.all false
set_option maxRecDepth 100000
namespace L4
open PySem PySem.Spec PyProof.Rows L2 L3
def sX1 (C : Addr) (f : Str) (i : Nat) : TS := fun D σ H => ∃ e y, σ[0]? = some (some (.ref e)) ∧ σ[i]? = some (some y) ∧ H e = some (.ext (XN e C none)) ∧ ∀ dx, H dx = none → dx ≠ e → D.nx σ (upd (upd H dx (.ext (XD dx [(f, y)]))) e (.ext (XN e C (some dx))))
def sX2 (C : Addr) (f : Str) (i : Nat) : TS := fun D σ H => ∃ e y dx fs, σ[0]? = some (some (.ref e)) ∧ σ[i]? = some (some y) ∧ H e = some (.ext (XN e C (some dx))) ∧ H dx = some (.ext (XD dx fs)) ∧ fs.length ≤ 900 ∧ D.nx σ (upd H dx (.ext (XD dx (putF f y fs))))
section
variable {X : Cx} {C D fI : Addr} {f : Str} {o value : Expr} {i : Nat} {pos pos' : Pos}
theorem ps_x1 (c : XC X.K C D fI) (n : NoAttr X.K C f) (ha : PE X o (tVar 0)) (hv : PE X value (tVar i)) (hs : swapsWith value (some (.Attribute o f pos')) pos.line X.env = pure false) : PS X (.Assign [.Attribute o f pos'] value pos) (sX1 C f i) := by
  intro pins s σ H Dd I h
  obtain ⟨e, y, h0, hi, he, k⟩ := h
  refine plainObj_wpAny_Assign_Attribute (thn (hv pins s σ H (fun v H' => v = y ∧ H' = H) I ⟨y, hi, rfl, rfl⟩) fun u s1 ⟨y', H1, I1, ry, e1, e2⟩ => thn (ha pins s1 σ H1 (fun v H' => v = .ref e ∧ H' = H) (by rw [e2] at I1 ⊢; exact I1) ⟨_, h0, rfl, e2⟩) fun ov s2 ⟨x, H2, I2, rx, e3, e4⟩ => ?_) hs
  subst e1 e2 e3 e4
  obtain rfl : ov = Value.ref e := rx
  exact setx1 I2 he c n ry fun s3 dx hn ne I3 => ⟨σ, _, I3, k dx hn ne⟩
theorem ps_x2 (c : XC X.K C D fI) (n : NoAttr X.K C f) (ha : PE X o (tVar 0)) (hv : PE X value (tVar i)) (hs : swapsWith value (some (.Attribute o f pos')) pos.line X.env = pure false) : PS X (.Assign [.Attribute o f pos'] value pos) (sX2 C f i) := by
  intro pins s σ H Dd I h
  obtain ⟨e, y, dx, fs, h0, hi, he, hd, hl, k⟩ := h
  refine plainObj_wpAny_Assign_Attribute (thn (hv pins s σ H (fun v H' => v = y ∧ H' = H) I ⟨y, hi, rfl, rfl⟩) fun u s1 ⟨y', H1, I1, ry, e1, e2⟩ => thn (ha pins s1 σ H1 (fun v H' => v = .ref e ∧ H' = H) (by rw [e2] at I1 ⊢; exact I1) ⟨_, h0, rfl, e2⟩) fun ov s2 ⟨x, H2, I2, rx, e3, e4⟩ => ?_) hs
  subst e1 e2 e3 e4
  obtain rfl : ov = Value.ref e := rx
  exact setx2 I2 he hd c n hl ry fun s3 I3 => ⟨σ, _, I3, k⟩
end
def spI (C : Addr) (fl : List Str) : Sp := fun vs H Q _ => ∃ e args, vs = .ref e :: args ∧ args.length = fl.length ∧ H e = some (.ext (XN e C none)) ∧
  ((fl = [] ∧ Q .non H) ∨ (fl ≠ [] ∧ ∀ dx, H dx = none → dx ≠ e → Q .non (upd (upd H dx (.ext (XD dx (fl.zip args)))) e (.ext (XN e C (some dx))))))
section
variable {P : Program} {w : World} {K : Fg} {mg : Str → Option Value} {base : Heap} {qual : Str} {st : Stmt} {f : Addr} {fd : FuncData} {k : Nat} {C D : Addr} {f1 f2 q1 q2 self : Str} {a1 a2 a3 a4 b1 b2 b3 b4 : Pos}
theorem init0 (Fn : Fun K "__init__" qual st f fd) (Sc : FnScope [self] [self] (defScope st)) (hb : defBody st = [.Pass a1]) : FnOk P w K mg base (CX1 P w) (k + 1) f fd [self] (spI C []) := by
  refine fn_x Fn Sc (fun vs H Q E h => ?_) (fun cdv A outer s H vs Q E hr h => ?_)
  · obtain ⟨e, args, rfl, hl, _⟩ := h; simp at hl ⊢; exact hl
  · obtain ⟨e, args, rfl, hl, he, h⟩ := h
    rcases h with ⟨_, h⟩ | ⟨h, _⟩
    · rw [hb]
      exact ⟨_, pss_cons ps_pass pss_nil, h⟩
    · exact absurd rfl h
theorem init1 (Fn : Fun K "__init__" qual st f fd) (Sc : FnScope [self, q1] [self, q1] (defScope st)) (hb : defBody st = [.Assign [.Attribute (.Name self a1) f1 a2] (.Name q1 a3) a4]) (c : XC K C D f) (n : NoAttr K C f1)
    (v0 : Vis (defScope st) self := by first | exact Or.inl rfl | exact Or.inr (Or.inl rfl) | exact Or.inr (Or.inr rfl)) (v1 : Vis (defScope st) q1 := by first | exact Or.inl rfl | exact Or.inr (Or.inl rfl) | exact Or.inr (Or.inr rfl))
    (d0 : (self == ("__debug__" : Str)) = false := by decide) (d1 : (q1 == ("__debug__" : Str)) = false := by decide) (c0 : (self == ("__classdict__" : Str)) = false := by decide) (c1 : (q1 == ("__classdict__" : Str)) = false := by decide) : FnOk P w K mg base (CX1 P w) (k + 1) f fd [self, q1] (spI C [f1]) := by
  refine fn_x Fn Sc (fun vs H Q E h => ?_) (fun cdv A outer s H vs Q E hr h => ?_)
  · obtain ⟨e, args, rfl, hl, _⟩ := h; simp at hl ⊢; exact hl
  · obtain ⟨e, args, rfl, hl, he, h⟩ := h
    match args, hl with
    | [y], _ =>
      rw [hb]
      refine ⟨_, pss_cons (ps_x1 (i := 1) c n (pe_var rfl v0 d0 c0) (pe_var rfl v1 d1 c1) rfl) pss_nil, e, y, rfl, rfl, he, fun dx hn ne => ?_⟩
      rcases h with ⟨h, _⟩ | ⟨_, h⟩
      · cases h
      · exact h dx hn ne
theorem init2 (Fn : Fun K "__init__" qual st f fd) (Sc : FnScope [self, q1, q2] [self, q1, q2] (defScope st)) (hb : defBody st = [.Assign [.Attribute (.Name self a1) f1 a2] (.Name q1 a3) a4, .Assign [.Attribute (.Name self b1) f2 b2] (.Name q2 b3) b4]) (c : XC K C D f) (n : NoAttr K C f1) (n2 : NoAttr K C f2) (ne12 : f1 ≠ f2)
    (v0 : Vis (defScope st) self := by first | exact Or.inl rfl | exact Or.inr (Or.inl rfl) | exact Or.inr (Or.inr rfl)) (v1 : Vis (defScope st) q1 := by first | exact Or.inl rfl | exact Or.inr (Or.inl rfl) | exact Or.inr (Or.inr rfl)) (v2 : Vis (defScope st) q2 := by first | exact Or.inl rfl | exact Or.inr (Or.inl rfl) | exact Or.inr (Or.inr rfl))
    (d0 : (self == ("__debug__" : Str)) = false := by decide) (d1 : (q1 == ("__debug__" : Str)) = false := by decide) (d2 : (q2 == ("__debug__" : Str)) = false := by decide) (c0 : (self == ("__classdict__" : Str)) = false := by decide) (c1 : (q1 == ("__classdict__" : Str)) = false := by decide) (c2 : (q2 == ("__classdict__" : Str)) = false := by decide) : FnOk P w K mg base (CX1 P w) (k + 1) f fd [self, q1, q2] (spI C [f1, f2]) := by
  refine fn_x Fn Sc (fun vs H Q E h => ?_) (fun cdv A outer s H vs Q E hr h => ?_)
  · obtain ⟨e, args, rfl, hl, _⟩ := h; simp at hl ⊢; exact hl
  · obtain ⟨e, args, rfl, hl, he, h⟩ := h
    match args, hl with
    | [y, z], _ =>
      rw [hb]
      refine ⟨_, pss_cons (ps_x1 (i := 1) c n (pe_var rfl v0 d0 c0) (pe_var rfl v1 d1 c1) rfl) (pss_cons (ps_x2 (i := 2) c n2 (pe_var rfl v0 d0 c0) (pe_var rfl v2 d2 c2) rfl) pss_nil), e, y, rfl, rfl, he, fun dx hn ne => ?_⟩
      rcases h with ⟨h, _⟩ | ⟨_, h⟩
      · cases h
      · refine ⟨e, z, dx, [(f1, y)], rfl, rfl, upd_same, by rw [upd_ne ne, upd_same], by simp, ?_⟩
        have e1 : putF f2 z [(f1, y)] = [(f1, y), (f2, z)] := by
          show (if f1 = f2 then (f1, z) :: [] else (f1, y) :: putF f2 z []) = _
          rw [if_neg ne12]; rfl
        have e2 : ∀ (a b : HO), upd (upd (upd H dx a) e b) dx (.ext (XD dx [(f1, y), (f2, z)])) = upd (upd H dx (.ext (XD dx [(f1, y), (f2, z)]))) e b := fun a b => by
          funext q
          unfold upd
          by_cases q1 : q = dx
          · rw [if_pos q1]
            rw [if_neg (fun z => ne (q1 ▸ z)), if_pos q1]
          · rw [if_neg q1]
            by_cases q2 : q = e
            · rw [if_pos q2, if_pos q2]
            · rw [if_neg q2, if_neg q2, if_neg q1, if_neg q1]
        rw [e1]
        show Q .non _
        rw [e2]
        exact h dx hn ne
end
end L4
set_option Elab.async false
set_option linter.all false
set_option maxRecDepth 100000
namespace L4
open PySem PySem.Spec PyProof.Rows L2 L3
section
variable {M : Model} {A : Around} {E : Value → Shared → Prop} {s : Shared} {env : Env} {K : Fg} {C D fI : Addr}
theorem raised_made {x : Sem Value} {Q : Flow → Shared → Prop} (c : XC K C D fI) (hh : A.handled = none)
    (h : wpAny M A x (fun v s1 => ∃ e oe vs, v = .ref e ∧ K.In s1.heap ∧ s1.heap.get? e = some oe ∧ oe.cls = .ref C ∧ oe.data = .fields vs ∧ vs[1]? = some .none ∧ E (.ref e) s1) E s) :
    wpAny M A (raiseStmt env (some x) none) Q E s := by
  obtain ⟨nm, q, N, bs, sn, sub, ab, col, dd, k0, k1, k2, k3, k5, lk⟩ := c.obj
  have isB : (Value.ref C :: .ref D :: bmV).contains (.type "BaseException") = true := by rfl
  unfold raiseStmt
  refine wpAny_bind (wpAny_mono h (fun v s1 z => ?_) fun _ _ z => z)
  obtain ⟨e, oe, vs, rfl, X, he, hc, hd, h1, hE⟩ := z
  obtain ⟨hp, g, d, t, os⟩ := s1
  have hC := X _ _ lk
  repeat (first | (with_reducible refine wpAny_loadPart_at he ?_; rw [hc]) | with_reducible refine wpAny_loadPart_at hC ?_ | (with_reducible refine wpAny_isSubtype_exc hC ?_; rw [isB]) | with_reducible refine wpAny_field he hd h1 ?_ | wp_step)
  exact wpAny_raiseNew_none hh hE
end
def MadeX (H H' : Hp) (e C : Addr) (fl : List Str) (vs : List V) (dd : Option Addr) : Prop :=
  (fl = [] ∧ dd = none ∧ H' = upd H e (.ext (XN e C none))) ∨ (fl ≠ [] ∧ ∃ dx, dd = some dx ∧ H dx = none ∧ dx ≠ e ∧ H' = upd (upd (upd H e (.ext (XN e C none))) dx (.ext (XD dx (fl.zip vs)))) e (.ext (XN e C (some dx))))
section
variable {X : Cx} {pins : List (Addr × Obj)} {σ : L2.St} {H : Hp} {s : Shared} {C D fI : Addr} {fd : FuncData} {ps fl : List Str} {k : Nat} {us : List Value} {vs : List V} {Q : Value → Shared → Prop} {E : Value → Shared → Prop}
theorem inv_newX (I : Inv X pins σ H s) : Inv X pins σ (upd H (s.heap.objs.size + 1) (.ext (XN (s.heap.objs.size + 1) C none))) { s with heap := newX s.heap C us } := by
  have I1 := I.kept (h' := s.heap.push { cls := .type "tuple", data := .seq us.toArray }) (t' := s.toks) fun b u q => Heap.get?_push_of_some _ q
  refine I1.laid (a := s.heap.objs.size + 1) (t' := s.toks) (h' := newX s.heap C us) (fun b u q => Heap.get?_push_of_some _ q) (Nat.le_of_eq (Heap.size_push _ _)) ?_
  exact XN.ok ⟨_, _, newX_at, rfl, rfl, rfl, (show 1 < 6 from by decide), rfl⟩
theorem run_makeX (c : XC X.K C D fI) (Fn : FnOk X.prog X.w X.K X.mg X.base (CX1 X.prog X.w) k fI fd ps (spI C fl)) (hr : Room (k + 1) X.A) (hb : L2.Binds X.K fd ps []) (I : Inv X pins σ H s) (r : Vals vs us) (hl : vs.length = fl.length) (hz : us.length ≤ sizeLine)
    (h : ∀ e dd H' s', s.heap.objs.size ≤ e → Inv X pins σ H' s' → MadeX H H' e C fl vs dd → H' e = some (.ext (XN e C dd)) → Q (.ref e) s') : wpAny (model X.prog X.w) X.A (call (.ref C) us) Q E s := by
  have I2 := inv_newX (C := C) (us := us) I
  have hn : H (s.heap.objs.size + 1) = none := I.hok.fresh (Nat.le_succ _)
  obtain ⟨hp, g, d, t, os⟩ := s
  have sp : ∀ E', spI C fl (V.ref (hp.objs.size + 1) :: vs) (upd H (hp.objs.size + 1) (.ext (XN (hp.objs.size + 1) C none))) (fun v H' => v = .non ∧ ∃ dd, MadeX H H' (hp.objs.size + 1) C fl vs dd ∧ H' (hp.objs.size + 1) = some (.ext (XN (hp.objs.size + 1) C dd))) E' := by
    intro E'
    refine ⟨_, vs, rfl, hl, upd_same, ?_⟩
    by_cases z : fl = []
    · exact .inl ⟨z, rfl, none, .inl ⟨z, rfl, rfl⟩, upd_same⟩
    · exact .inr ⟨z, fun dx q ne => ⟨rfl, some dx, .inr ⟨z, dx, rfl, by rw [upd_ne ne] at q; exact q, ne, rfl⟩, upd_same⟩⟩
  have r2 : Vals (V.ref (hp.objs.size + 1) :: vs) (Value.ref (hp.objs.size + 1) :: us) := .cons rfl r
  have hl2 : ((Value.ref (hp.objs.size + 1) :: us) ++ []).length = ps.length := by
    have e := r2.length
    rw [Fn.len _ _ _ _ (sp fun _ _ _ => False)] at e
    rw [List.append_nil]
    exact e.symm
  refine call_exc I.kIn c hz (wpAny_call (codeAny_mono (Fn.run _ X.stack _ _ ⟨Value.ref (hp.objs.size + 1) :: us, []⟩ (Value.ref (hp.objs.size + 1) :: us) _ _ (fun _ _ _ => False) (hr.make C us []) (I2.env0.make C us []) (by
    have := hb _ (Value.ref (hp.objs.size + 1) :: us) I2.kIn hl2
    rw [List.append_nil] at this
    exact this) r2 (sp _)) fun r s' q => ?_))
  cases r with
  | error e => obtain ⟨_, _, _, _, _, _, _, _, _, _, z⟩ := q; exact z.elim
  | ok fl' =>
    cases fl' with
    | ret u =>
      obtain ⟨v, H', I3, rv, ev, dd, mk, he⟩ := I2.after q
      subst ev
      exact ⟨rv, h _ dd H' s' (Nat.le_succ _) I3 mk he⟩
    | next => exact False.elim q
    | brk => exact False.elim q
    | cont => exact False.elim q
end
end L4
set_option Elab.async false
set_option linter.all false
set_option maxRecDepth 100000
namespace L4
open PySem PySem.Spec PyProof.Rows L2 L3
structure CCl (P : Program) (w : World) (K : Fg) (mg : Str → Option Value) (base : Heap) (x : Str) (k : Nat) (fl : List Str) : Prop where
  ex : ∃ C D fI fd ps, XC K C D fI ∧ FnOk P w K mg base (CX1 P w) k fI fd ps (spI C fl) ∧ L2.Binds K fd ps [] ∧ mg x = some (.ref C) ∧ XQ K C x ∧ PySem.W.keepIn K (.ref C) = true ∧ (∀ f ∈ fl, NoAttr K C f) ∧ PySem.W.exmOne K (.ref C) (.ref C) = some true
def sRaise {S : Type} (x : Str) (fl : List Str) (ms : Ev S (List D)) : SM S := fun K ρ => ms K.x (fun ds ρ1 => K.x ⟨x, fl.zip ds⟩ ρ1) ρ
def sRaise0 {S : Type} (x : Str) : SM S := fun K ρ => K.x ⟨x, []⟩ ρ
theorem zip_rep {K : Fg} {F : Hp} : ∀ {fl : List Str} {vs : List V} {ds : List D}, RepL K F vs ds → fl.length = vs.length → Paired (fun (p : Str × V) (q : Str × D) => p.1 = q.1 ∧ Rep K F p.2 q.2) (fl.zip vs) (fl.zip ds)
  | [], _, _, .nil, _ => .nil
  | f :: fl, _, _, .cons r t, h => .cons ⟨rfl, r⟩ (zip_rep t (by simpa using h))
section
variable {X : Cx} {pins : List (Addr × Obj)} {σ : L2.St} {H H' : Hp} {s : Shared} {e C : Addr} {dd : Option Addr} {fl : List Str} {vs : List V} {ds : List D} {G : Gh} {F : Hp} {ρ : En} {x : Str}
theorem raise_go (I : Inv X pins σ H' s) (hs : X.s₀.heap.objs.size ≤ e) (hn : H e = none) (mk : MadeX H H' e C fl vs dd) (he : H' e = some (.ext (XN e C dd))) (St : StOk X.K G F σ H ρ) (r : RepL X.K F vs ds) (hl : fl.length = vs.length)
    (hc : XQ X.K C x) (xw : XW X G F ρ ⟨x, fl.zip ds⟩) : X.xe (.ref e) s := by
  obtain ⟨⟨oe, ws, q1, q2, q3, q4, q5, q6⟩, _⟩ := I.hok e _ he
  have I2 : Inv X pins σ (upd H' e (.ext (XO e C dd))) s := by
    have := I.write (x := e) (e := e) (o := .ext (XO e C dd)) (h' := s.heap) (t' := s.toks) (by rw [he]; exact True.intro) (.inl rfl) (fun b u _ z => z) ⟨_, q1⟩ (XO.ok ⟨oe, q1, q2, q3, by unfold PySem.W.notCls; rw [q4]⟩)
    exact this
  have low : ∀ b u, b ≠ e → H b = some u → upd H' e (.ext (XO e C dd)) b = some u := fun b u ne z => by
    rw [upd_ne ne]
    rcases mk with ⟨_, _, rfl⟩ | ⟨_, dx, _, hd, _, rfl⟩
    · rw [upd_ne ne]; exact z
    · rw [upd_ne ne, upd_ne (fun y => by subst y; rw [hd] at z; cases z), upd_ne ne]; exact z
  have ne : ∀ b u, H b = some u → b ≠ e := fun b u z y => by subst y; rw [hn] at z; cases z
  have xs : XS (upd H' e (.ext (XO e C dd))) s.heap X.s₀.heap.objs.size e C dd := ⟨hs, upd_same, oe, ws, q1, q2, q3, q4, q5, .inl q6⟩
  have nt : ∀ b, ¬ TbOf s.heap e b := fun b ⟨oe', vs', z1, z2, z3⟩ => by
    rw [q1] at z1; cases z1
    rw [q4] at z2; cases z2
    rw [q6] at z3; cases z3
  have fh0 : Same F (upd H' e (.ext (XO e C dd))) := fun b u z => low b u (ne b u (St.fh b u z)) (St.fh b u z)
  have oh0 : Same G.O (upd H' e (.ext (XO e C dd))) := fun b u z => low b u (ne b u (St.oh b u z)) (St.oh b u z)
  rcases mk with ⟨z, rfl, _⟩ | ⟨z, dx, rfl, hd, nx, rfl⟩
  · subst z
    refine xw F _ s e C none pins σ ⟨fh0, oh0, St.fo, St.fb⟩ (St.fzok (Same.refl _)) I2 xs (fun p _ => nt p.1) ⟨hc, [], .inl ⟨rfl, rfl⟩, .nil⟩
  · have fd : F dx = none := St.fh.free hd
    have od : G.O dx = none := St.oh.free hd
    have sm : Same F (upd F dx (.ext (XD dx (fl.zip vs)))) := same_upd fd
    refine xw (upd F dx (.ext (XD dx (fl.zip vs)))) _ s e C (some dx) pins σ ⟨fun b u z => ?_, oh0, fun b u z => ?_, St.fb.trans sm⟩ (St.fzok sm) I2 xs (fun p _ => nt p.1) ⟨hc, _, .inr ⟨dx, rfl, upd_same⟩, zip_rep (r.mono sm) hl⟩
    · by_cases y : b = dx
      · subst y
        rw [upd_same] at z
        cases z
        rw [upd_ne nx, upd_ne nx, upd_same]
      · rw [upd_ne y] at z
        exact fh0 b u z
    · rw [upd_ne (ne_of_none z od)]
      exact St.fo b u z
end
section
variable {S : Type} {X : Cx} {k : Nat} {x : Str} {fl : List Str} {p cpos pos : Pos} {e : Expr} {es : List Expr} {ms : Ev S (List D)}
theorem as_raise (C : CCl X.prog X.w X.K X.mg X.base x k fl) (hr : Room (k + 1) X.A) (hg : Gl X x) (ha : AEa X (e :: es) ms) (hn : (e :: es).length = fl.length) (hz : fl.length ≤ 1000)
    (hdb : (x == ("__debug__" : Str)) = false) (he : starEach (e :: es) X.env = (false, eval e X.env) :: starEach es X.env) (hpl : (backTo cpos (starEach es X.env)).any (·.1) = false) :
    AS X (.Raise (some (.Call (.Name x p) (e :: es) [] cpos)) none pos) (sRaise x fl ms) := by
  obtain ⟨Cl, D, fI, fd, ps, c, Fn, hb, hm, hc, kp, _⟩ := C.ex
  intro OK K G F σ H ρ E hO hX St ok eo
  unfold tSemS
  intro pins s I
  rw [arm_exec_Raise]
  refine wpAny_bind (wpAny_standAt (raised_made c hr.hd ?_))
  refine wpAny_bind (wpAny_mono (wpAny_Call_Name_kw (ld_glob I hg hm (PySem.W.callWith_K (h₀ := X.base) I.ok.mod.kin kp (Q := fun v s1 => ∃ e oe vs, v = .ref e ∧ X.K.In s1.heap ∧ s1.heap.get? e = some oe ∧ oe.cls = .ref Cl ∧ oe.data = .fields vs ∧ vs[1]? = some .none ∧ X.xe (.ref e) s1) ?_ he hpl) hdb)) (fun v s3 z => wpAny_bind (wpAny_standAt (wpAny_pure z))) fun _ _ z => z)
  have ar : tSemA X (e :: es) σ H fun vs H1 => ∃ F1 ρ1 ds, StOk X.K G F1 σ H1 ρ1 ∧ vs.length = (e :: es).length ∧ RepL X.K F1 vs ds ∧ OK (K.x ⟨x, fl.zip ds⟩ ρ1) :=
    ha OK K.x _ G F σ H ρ _ hO hX St ok fun ds vs F1 H1 ρ1 s1 S1 hl r1 o1 => ⟨F1, ρ1, ds, S1, hl, r1, o1⟩
  unfold tSemA at ar
  refine thn (ar cpos pins s I) fun us s1 ⟨vs, H1, I1, rv, F1, ρ1, ds, S1, hl, r1, o1⟩ => ⟨I1.kIn, ?_⟩
  have hlv : vs.length = fl.length := hl.trans hn
  refine run_makeX (vs := vs) c Fn hr hb I1 rv hlv (by rw [List.nil_append, ← rv.length, hlv]; exact le1000 hz) fun a dd H2 s2 hs I2 mk hh => ?_
  obtain ⟨⟨oe, ws, q1, q2, q3, q4, q5, q6⟩, _⟩ := I2.hok a _ hh
  exact ⟨a, oe, ws, rfl, I2.kIn, q1, q2, q4, q6, raise_go I2 (Nat.le_trans I1.sz hs) (I1.hok.fresh hs) mk hh S1 r1 hlv.symm hc (hX F1 ρ1 _ o1)⟩
theorem as_raise0 (C : CCl X.prog X.w X.K X.mg X.base x k []) (hr : Room (k + 1) X.A) (hg : Gl X x) (hdb : (x == ("__debug__" : Str)) = false) :
    AS (S := S) X (.Raise (some (.Call (.Name x p) [] [] cpos)) none pos) (sRaise0 x) := by
  obtain ⟨Cl, D, fI, fd, ps, c, Fn, hb, hm, hc, kp, _⟩ := C.ex
  intro OK K G F σ H ρ E hO hX St ok eo
  unfold tSemS
  intro pins s I
  rw [arm_exec_Raise]
  refine wpAny_bind (wpAny_standAt (raised_made c hr.hd ?_))
  refine wpAny_bind (wpAny_mono (wpAny_Call_Name_kw (ld_glob I hg hm (PySem.W.callWith_K0 I.kIn kp (Q := fun v s1 => ∃ e oe vs, v = .ref e ∧ X.K.In s1.heap ∧ s1.heap.get? e = some oe ∧ oe.cls = .ref Cl ∧ oe.data = .fields vs ∧ vs[1]? = some .none ∧ X.xe (.ref e) s1) ?_) hdb)) (fun v s3 z => wpAny_bind (wpAny_standAt (wpAny_pure z))) fun _ _ z => z)
  refine run_makeX (vs := []) (us := []) c Fn hr hb I .nil rfl (Nat.zero_le _) fun a dd H2 s2 hs I2 mk hh => ?_
  obtain ⟨⟨oe, ws, q1, q2, q3, q4, q5, q6⟩, _⟩ := I2.hok a _ hh
  exact ⟨a, oe, ws, rfl, I2.kIn, q1, q2, q4, q6, raise_go (fl := []) (ds := []) I2 (Nat.le_trans I.sz hs) (I.hok.fresh hs) mk hh St .nil rfl hc (hX F ρ _ ok)⟩
end
end L4
set_option Elab.async false
set_option linter.all false
set_option maxRecDepth 100000
namespace L4
open PySem PySem.Spec PyProof.Rows L2 L3
section
variable {prog : Program} {w : World} {A : Around} {E : Value → Shared → Prop} {s : Shared} {env : Env} {K : Fg} {e C : Addr}
theorem handle_as {t : Expr} {n : Str} {b0 : Stmt} {suite : List Stmt} {pos : Pos} {rest : List ExceptHandler} {Q : Flow → Shared → Prop}
    (h : wpAny (model prog w) (A.mark (some (.ref e))) (eval t env) (fun c s1 => K.In s1.heap ∧ PySem.W.exmOne K (.ref C) c = some true ∧ (∃ oe, s1.heap.get? e = some oe ∧ oe.cls = .ref C) ∧
      wpAny (model prog w) (A.mark (some (.ref e))) (setFlight (.ref e) none) (fun _ s2 => wpAny (model prog w) (A.mark (some (.ref e))) (storeName env n (.ref e)) (fun _ s3 =>
        wpAny (model prog w) (A.mark (some (.ref e))) (execs (b0 :: suite) env) (fun f s4 => wpAny (model prog w) A (do bindName env n .none; unbindBehindTheSuite env n pos) (fun _ s5 => Q f s5) E s4) (fun _ _ => False) s3) (fun _ _ => False) s2) (fun _ _ => False) s1) (fun _ _ => False) s) :
    wpAny (model prog w) A (handleBy (.ref e) env (.ExceptHandler (some t) (some n) (b0 :: suite) pos :: rest)) Q E s := by
  refine wpAny_handleBy_cons (codeAny_handlers_test (wpAny_mono h (fun c s1 z => ?_) fun _ _ z => z.elim)) (fun z => nomatch z)
  obtain ⟨X, hx, ⟨oe, he, hc⟩, k⟩ := z
  have LT : PySem.W.Looks (model prog w) s1.heap (typeOf (.ref e)) (.ref C) := hc ▸ (PySem.W.Looks.ld he).andThen .now
  obtain ⟨hp, g, d, tk, os⟩ := s1
  refine (PySem.W.exm_one (M := model prog w) X LT hx).at ?_
  refine codeAny_handlers_suite_as (wpAny_mono k (fun _ s2 k2 => wpAny_mono k2 (fun _ s3 k3 => wpAny_mono k3 (fun f s4 k4 => k4) fun _ _ z => z.elim) fun _ _ z => z.elim) fun _ _ z => z.elim)
theorem name_goes {n : Str} {pos : Pos} {m : Str → Option Value} {Q : Unit → Shared → Prop} (hl : env.kindOf n = some .local) (hn : s.heap.Ns env.locals m) (hk : env.scope.kind = .function)
    (k : ∀ h' v t', h'.Ns env.locals (fun y => if y = n then v else m y) → Heap.SameBut env.locals s.heap h' → Q () { s with heap := h', toks := t' }) : wpAny (model prog w) A (do bindName env n .none; unbindBehindTheSuite env n pos) Q E s := by
  have hc : (env.scope.kind == .class || (env.scope.kind == .module && env.locals != env.globals)) = false := by rw [hk]; rfl
  refine wpAny_bind (wpAny_bindName (wpAny_storeName_local hl hn (fun h1 n1 b1 => ?_) hc))
  simp only [unbindBehindTheSuite, unbindName]
  refine wpAny_onRaise (wpAny_bind (wpAny_point (wpAny_bind ?_)))
  unfold deleteName
  simp only [hl, hc]
  rw [if_neg (by decide)]
  refine wpAny_bind (wpAny_nsDel_keeps n1 fun h2 v n2 b2 => ?_)
  simp only [if_true, Option.isSome_some, Bool.not_true, Bool.false_eq_true, if_false]
  refine wpAny_pure (wpAny_point (k h2 v _ ?_ (b1.trans b2)))
  refine (show (fun y => if y = n then v else if y = n then some Value.none else m y) = (fun y => if y = n then v else m y) from ?_) ▸ n2
  funext y
  by_cases q : y = n
  · rw [if_pos q, if_pos q]
  · rw [if_neg q, if_neg q, if_neg q]
end
section
variable {X : Cx} {pins : List (Addr × Obj)} {σ : L2.St} {H : Hp} {s : Shared} {j : Nat} {n : Str} {A : Around} {E : Value → Shared → Prop}
theorem goes_ok {pos : Pos} {Q : Unit → Shared → Prop} (I : Inv X pins σ H s) (hN : X.N.Nodup) (hj : X.N[j]? = some n) (hl : X.env.kindOf n = some .local)
    (k : ∀ s', Inv X pins (σ.set j none) H s' → Q () s') : wpAny (model X.prog X.w) A (do bindName X.env n .none; unbindBehindTheSuite X.env n pos) Q E s := by
  obtain ⟨m, hn, hv⟩ := id I.loc
  refine name_goes hl hn I.ok.kind fun h' v t' n1 b1 => k _ ?_
  have neL : ∀ b o, X.s₀.heap.get? b = some o → b ≠ X.env.locals := fun b o q => Nat.ne_of_lt (Nat.lt_of_lt_of_le (Heap.lt_size q) I.ok.above)
  refine ⟨I.ok, I.os, I.bare, ⟨fun b o q z hb hx => ?_, fun b o q z hb hx => ?_, I.base.free, fun b o q hx => ?_, I.base.tups, I.base.frzs, I.base.tbls⟩, ⟨_, n1, fun i x u q1 q2 q3 => ?_⟩, fun x c q => ?_, I.free, I.freeC, fun p hp => ?_, fun b o q => ?_, by simpa using I.len⟩
  · exact (b1.2 b (neL b o q)).trans (I.base.keep b o q z hb hx)
  · obtain ⟨sl, r⟩ := I.base.slot b o q z hb hx
    exact ⟨sl, (b1.2 b (neL b o q)).trans r⟩
  · obtain ⟨o', r⟩ := I.base.there b o q hx
    exact ⟨o', (b1.2 b (neL b o q)).trans r⟩
  · have ne : i ≠ j := fun z => by
      subst z
      have hi : i < σ.length := by rw [I.len]; exact (List.getElem?_eq_some_iff.mp q1).1
      rw [List.getElem?_set_self hi] at q2
      cases q2
    rw [List.getElem?_set_ne (Ne.symm ne)] at q2
    obtain ⟨w', r, l⟩ := hv i x u q1 q2 q3
    refine ⟨w', r, ?_⟩
    rcases l with ⟨l1, l2⟩ | ⟨l1, c, l2, l3⟩
    · refine .inl ⟨l1, ?_⟩
      have nx : x ≠ n := fun z => by subst z; exact ne (nodup_ix hN q1 hj)
      show (if x = n then v else m x) = _
      rw [if_neg nx]; exact l2
    · refine .inr ⟨l1, c, l2, ?_⟩
      obtain ⟨oc, g1, g2⟩ := l3
      exact ⟨oc, (b1.2 c (I.cne x c l2)).trans g1, g2⟩
  · obtain ⟨v', oc, g1, g2⟩ := I.cell x c q
    exact ⟨v', oc, (b1.2 c (I.cne x c q)).trans g1, g2⟩
  · obtain ⟨g1, g2, g3, g4⟩ := I.pin p hp
    exact ⟨(b1.2 p.1 g3).trans g1, g2, g3, g4⟩
  · refine (I.hok b o q).stay (fun c u hc r => (b1.2 c ?_).trans r) (fun _ r => r) fun _ _ r => r
    rintro rfl
    rcases hc with z | z
    · rw [← z, I.free] at q; cases q
    · rw [I.free] at z; cases z
abbrev cau (X : Cx) (e : Addr) : Cx := { X with A := X.A.mark (some (.ref e)), calm := false, xe := fun _ _ => False }
theorem caught_in {e : Addr} (I : Inv X pins σ H s) : Inv (cau X e) pins σ H s :=
  ⟨⟨I.ok.mod, I.ok.kind, I.ok.glob, I.ok.blt, I.ok.above, I.ok.inj, I.ok.has, I.ok.cab, (fun z => nomatch z), I.ok.frames, I.ok.stk, I.ok.exf, I.ok.bs, I.ok.bsz, I.ok.noex, I.ok.exfs, I.ok.funs, I.ok.frf⟩, I.os, I.bare, I.base, I.loc, I.cell, I.free, I.freeC, I.pin, I.hok, I.len⟩
theorem caught_out {e : Addr} (h : X.calm = true → X.A.handled = none) (I : Inv (cau X e) pins σ H s) : Inv X pins σ H s :=
  ⟨⟨I.ok.mod, I.ok.kind, I.ok.glob, I.ok.blt, I.ok.above, I.ok.inj, I.ok.has, I.ok.cab, h, I.ok.frames, I.ok.stk, I.ok.exf, I.ok.bs, I.ok.bsz, I.ok.noex, I.ok.exfs, I.ok.funs, I.ok.frf⟩, I.os, I.bare, I.base, I.loc, I.cell, I.free, I.freeC, I.pin, I.hok, I.len⟩
end
def tXat (K : Fg) (ta : TE) (f : Str) : TE := fun σ H Q => ta σ H fun x H1 => ∃ a C D fI dx fv v, x = .ref a ∧ XC K C D fI ∧ NoAttr K C f ∧ H1 a = some (.ext (XO a C (some dx))) ∧ H1 dx = some (.ext (XD dx fv)) ∧ fv.lookup f = some v ∧ Q v H1
theorem pe_xat {X : Cx} {o : Expr} {ta : TE} {f : Str} {pos : Pos} (ha : PE X o ta) (hb : attributeBase o f X.env (eval o X.env) = eval o X.env) : PE X (.Attribute o f pos) (tXat X.K ta f) := by
  intro pins s σ H Q I h
  refine attr_of hb (thn (ha pins s σ H _ I h) fun u s1 ⟨x, H1, I1, rx, a, C, D, fI, dx, fv, v, ex, c, n, h1, h2, l, q⟩ => ?_)
  subst ex
  obtain rfl : u = Value.ref a := rx
  obtain ⟨⟨oe, q1, q2, q3, q4⟩, _⟩ := I1.hok a _ h1
  obtain ⟨⟨mA, na, wi, r⟩, _⟩ := I1.hok dx _ h2
  obtain ⟨cd, k1, k2, k3⟩ := cls_of c
  obtain ⟨od, z1, hlk⟩ := lookIn_ns na
  have It : PySem.W.InstAt s1.heap a oe C (some od) := ⟨q1, q2, q4, by rw [q3]; exact z1⟩
  obtain ⟨u, hu, ru⟩ := RelO.some_of (v := v) (o := mA f) (by rw [← l]; exact r f)
  have lk : PySem.W.lookIn f od = some (some u) := by rw [hlk, hu]
  refine get_exc I1.kIn It c.ga c.gr (by unfold PySem.W.mroIn; rw [k1, Option.bind_some, k2]; rfl) (PySem.W.findObj_own (by unfold PySem.W.hasDictIn; rw [k1]; exact k3) n rfl lk) (handed_of ru) ⟨v, H1, I1.tok _, ru, q⟩
end L4
set_option Elab.async false
set_option linter.all false
set_option maxRecDepth 100000
namespace L4
open PySem PySem.Spec PyProof.Rows L2 L3
section
variable {M : Model} {A : Around} {E : Value → Shared → Prop} {s : Shared} {e C : Addr} {dd : Option Addr} {H : Hp} {lo : Nat}
theorem flight_again {Q : Unit → Shared → Prop} (fs : List Addr) (xs : XS H s.heap lo e C dd) (k : ∀ h', Mv fs s.heap h' e → XS H h' lo e C dd → Q () { s with heap := h' }) : wpAny M A (setFlight (.ref e) none) Q E s := by
  obtain ⟨oe, vs, he, hc, hdd, hd, hz, tb⟩ := xs.obj
  simp only [setFlight]
  rcases tb with tb | ⟨T, oT, ts, tb, hTe, hTl, hTn, hT, hTd, t3⟩
  · refine wpAny_bind (wpAny_field he hd tb ?_)
    rw [if_neg (by decide)]
    exact wpAny_pure (k s.heap ⟨fun _ _ q _ _ _ => q, fun b o q _ _ => ⟨o.slots, q⟩, fun b o q => ⟨o, q⟩⟩ xs)
  · refine wpAny_bind (wpAny_field he hd tb ?_)
    rw [if_pos (by simp)]
    have z3 : 3 < ts.size := (Array.getElem?_eq_some_iff.mp t3).1
    have isT : TbOf s.heap e T := ⟨oe, vs, he, hd, tb⟩
    have off : ∀ b, b ≠ T → (s.heap.update T (Obj.mapFields (·.setIfInBounds 3 ((none : Option Addr).elim Value.none fun f => rawInt f)))).get? b = s.heap.get? b := fun b hb => Heap.get?_update_other _ _ (Ne.symm hb)
    have T0 : (s.heap.update T (Obj.mapFields (·.setIfInBounds 3 ((none : Option Addr).elim Value.none fun f => rawInt f)))).get? T = some (oT.mapFields (·.setIfInBounds 3 ((none : Option Addr).elim Value.none fun f => rawInt f))) := Heap.get?_update_self _ hT (Obj.isFreed_of_fields (Obj.data_mapFields hTd _))
    have nt : ∀ b, ¬ TbOf s.heap e b → b ≠ T := fun b z q => z (q ▸ isT)
    refine wpAny_setField hT hTd z3 (k _ ⟨fun b o q _ _ z => (off b (nt b z)).trans q, fun b o q _ z => ⟨o.slots, (off b (nt b z)).trans q⟩, fun b o q => ?_⟩ ⟨xs.yg, xs.trk, oe, vs, (off e (Ne.symm hTe)).trans he, hc, hdd, hd, hz, .inr ⟨T, _, _, tb, hTe, hTl, hTn, T0, Obj.data_mapFields hTd _, by simp [z3]⟩⟩)
    by_cases z : b = T
    · subst z; exact ⟨_, T0⟩
    · exact ⟨o, (off b z).trans q⟩
end
theorem _root_.L3.StOk.setdead {K : Fg} {G : Gh} {F H : Hp} {σ : L2.St} {ρ : En} (S : StOk K G F σ H ρ) {j : Nat} (hj : ∀ av, ρ[j]? ≠ some (some av)) (u : Option V) : StOk K G F (σ.set j u) H ρ := by
  have ne : ∀ i av, ρ[i]? = some (some av) → i ≠ j := fun i av q z => by subst z; exact hj av q
  have at_ : ∀ i av, ρ[i]? = some (some av) → (σ.set j u)[i]? = σ[i]? := fun i av q => List.getElem?_set_ne (Ne.symm (ne i av q))
  have ao : ∀ i c, own ρ i c → (σ.set j u)[i]? = σ[i]? := fun i c q => by rcases q with q | q <;> exact at_ i _ q
  refine ⟨S.fh, S.oh, S.fo, by simpa using S.ln, fun i d q => by rw [at_ i _ q]; exact S.fz i d q, fun i c q => by rw [ao i c q]; exact S.ow i c q, fun i k c e a q1 q2 z1 z2 => ?_, fun i a q => ?_, S.pq, S.fb⟩
  · rw [ao i c q1] at z1
    rw [ao k e q2] at z2
    exact S.dj i k c e a q1 q2 z1 z2
  · obtain ⟨z1, c, z2⟩ := S.pp i a q
    exact ⟨by rw [at_ i _ z2]; exact z1, c, z2⟩
end L4
set_option Elab.async false
set_option linter.all false
set_option maxRecDepth 100000
namespace L4
open PySem PySem.Spec PyProof.Rows L2 L3
theorem av {X : Cx} (i : Nat) {x : Str} {pos : Pos} (hN : X.N[i]? = some x := by rfl) (hv : Vis X.env.scope x := by first | exact Or.inl rfl | exact Or.inr (Or.inl rfl) | exact Or.inr (Or.inr rfl))
    (hd : (x == ("__debug__" : Str)) = false := by decide) (hcd : (x == ("__classdict__" : Str)) = false := by decide) : AP X (.Name x pos) (pVar i) := ap_var hN hv hd hcd
end L4
set_option Elab.async false
set_option linter.all false
set_option maxRecDepth 100000
namespace L4
open PySem PySem.Spec PyProof.Rows L2 L3
def instOf (tb : List (Str × Bool)) : D → Option Bool
  | .dict ((.none, .str c) :: _) => tb.lookup c
  | _ => none
def pInst (tb : List (Str × Bool)) (p : Pu D) : Pu Bool := fun ρ => bd (p ρ) fun d => oM (instOf tb d)
def Inst1 (K : Fg) (cv : Value) : List (Str × Bool) → Prop
  | [] => True
  | (c, b) :: r => (∃ C, PySem.W.nsIn K mainGlobals c = some (some (.ref C)) ∧ PySem.W.kitOne K (.ref C) cv = some b) ∧ Inst1 K cv r
theorem Inst1.at {K : Fg} {cv : Value} : ∀ {tb : List (Str × Bool)} {c : Str} {b : Bool} {C : Addr}, Inst1 K cv tb → tb.lookup c = some b → PySem.W.nsIn K mainGlobals c = some (some (.ref C)) → PySem.W.kitOne K (.ref C) cv = some b
  | (d, b') :: r, c, b, C, h, l, n => by
    rw [List.lookup_cons] at l
    cases q : c == d with
    | true =>
      rw [q] at l
      cases l
      have : c = d := by simpa using q
      subst this
      obtain ⟨⟨C', n', k⟩, _⟩ := h
      rw [n] at n'
      cases n'
      exact k
    | false => rw [q] at l; exact Inst1.at h.2 l n
theorem exc_at {K : Fg} {F : Hp} {v : V} {c : Str} {es : List (D × D)} (r : Rep K F v (.dict ((.none, .str c) :: es))) : ∃ a C dd fv, v = .ref a ∧ F a = some (.ext (XO a C dd)) ∧ XQ K C c ∧ FX F dd fv ∧ es.map (·.1) = fv.map (fun p => .str p.1) ∧ RepL K F (fv.map (·.2)) (es.map (·.2)) := by
  cases r with
  | dct _ h _ => exact absurd (isXe_T h) (by simp [isXe])
  | dck _ h _ => exact absurd (isXe_K h) (by simp [isXe])
  | exc h1 q fx h2 h3 => exact ⟨_, _, _, _, rfl, h1, q, fx, h2, h3⟩
theorem FX.xat {F H : Hp} {a C : Addr} {dd : Option Addr} {fv : List (Str × V)} (s : Same F H) (h1 : F a = some (.ext (XO a C dd))) (fx : FX F dd fv) : XAt H a C dd := ⟨s _ _ h1, fun dx z => by
  rcases fx with ⟨z', _⟩ | ⟨dx', z', y⟩
  · rw [z'] at z; cases z
  · rw [z'] at z; cases z; exact ⟨_, s _ _ y⟩⟩
def rInst1 (K : Fg) (tb : List (Str × Bool)) (vc : V) : List V → Hp → VK → Prop := fun xs H Q => ∃ v d b, xs = [v, vc] ∧ Rep K H v d ∧ instOf tb d = some b ∧ Q (.bl b) H
theorem inst_dict {tb : List (Str × Bool)} {d : D} {b : Bool} (h : instOf tb d = some b) : ∃ c es, d = .dict ((.none, .str c) :: es) ∧ tb.lookup c = some b := by
  unfold instOf at h
  split at h
  · exact ⟨_, _, rfl, h⟩
  · cases h
theorem call_inst1 {X : Cx} {tb : List (Str × Bool)} {vc : V} {cv : Value} (hv : RelV vc cv) (hu : ∀ u, RelV vc u → u = cv) (ht : Inst1 X.K cv tb) : CallR X (.builtin "isinstance") (rInst1 X.K tb vc) := by
  intro pins s σ H xs us Q I r h
  obtain ⟨v, d, b, rfl, rp, hb, q⟩ := h
  obtain ⟨u, w, rfl, ru, rw'⟩ := vals2 r
  have := hu w rw'
  subst this
  obtain ⟨c, es, rfl, hl⟩ := inst_dict hb
  obtain ⟨a, C, dd, fv, rfl, h1, xq, fx, _, _⟩ := exc_at rp
  cases ru
  obtain ⟨D, fI, xc⟩ := xq.xc
  exact isinst_exc I xc xq.kc (fx.xat (Same.refl _) h1) (ht.at hl xq.ns) fun tk => ⟨.bl _, H, I.tok tk, rfl, q⟩
section
variable {X : Cx} {e t : Expr} {ts : List Expr} {p : Pu D} {pos p1 p2 : Pos} {tb : List (Str × Bool)} {x1 : ExprContext}
theorem ab_inst1 {vc : V} {cv : Value} (hv : RelV vc cv) (hu : ∀ u, RelV vc u → u = cv) (htb : Inst1 X.K cv tb) (hg : Gl X "isinstance") (hm : X.mg "isinstance" = none) (ht : PE X t (tC vc)) (ha : AP X e p) (hs : starEach [e, t] X.env = (false, eval e X.env) :: starEach [t] X.env) (hs2 : starEach [t] X.env = (false, eval t X.env) :: starEach [] X.env)
    (hpl : (backTo pos (starEach [t] X.env)).any (·.1) = false) : AB X (.Call (.Name "isinstance" p1) [e, t] [] pos) (pInst tb p) :=
  fun G F σ H ρ Q S w => sem (pe_callB (call_inst1 hv hu htb) hg hm (by decide +kernel) (pa_cons pe_sem (pa_cons ht pa_nil hs2) hs) (by decide) (by decide) hs hpl) (ha G F σ H ρ _ S (w.bind.imp fun d F1 H1 s1 S1 w1 v hv => by
    obtain ⟨b, hb, k⟩ := w1.opt
    exact ⟨v, d, b, rfl, hv.mono S1.fh, hb, k F1 H1 (Same.refl _) S1⟩))
end
end L4
set_option Elab.async false
set_option linter.all false
set_option maxRecDepth 100000
namespace L4
open PySem PySem.Spec PyProof.Rows L2 L3
def lookS : List (D × D) → Str → Option D
  | (.str g, d) :: r, f => if f == g then some d else lookS r f
  | _ :: r, f => lookS r f
  | [], _ => none
def attOf (cs : List Str) (f : Str) : D → Option D
  | .dict ((.none, .str c) :: es) => if cs.contains c then lookS es f else none
  | _ => none
def pAtt (cs : List Str) (f : Str) (p : Pu D) : Pu D := fun ρ => bd (p ρ) fun d => oM (attOf cs f d)
def NoAtts (K : Fg) (f : Str) : List Str → Prop
  | [] => True
  | c :: r => (∃ C, PySem.W.nsIn K mainGlobals c = some (some (.ref C)) ∧ NoAttr K C f) ∧ NoAtts K f r
theorem NoAtts.at {K : Fg} {f : Str} : ∀ {cs : List Str} {c : Str} {C : Addr}, NoAtts K f cs → cs.contains c = true → PySem.W.nsIn K mainGlobals c = some (some (.ref C)) → NoAttr K C f
  | d :: r, c, C, h, l, n => by
    rw [List.contains_cons, Bool.or_eq_true] at l
    rcases l with q | q
    · have : c = d := by simpa using q
      subst this
      obtain ⟨⟨C', n', k⟩, _⟩ := h
      rw [n] at n'
      cases n'
      exact k
    · exact NoAtts.at h.2 q n
theorem lookS_rep {K : Fg} {F : Hp} {f : Str} : ∀ {fv : List (Str × V)} {es : List (D × D)} {d : D}, es.map (·.1) = fv.map (fun p => .str p.1) → RepL K F (fv.map (·.2)) (es.map (·.2)) → lookS es f = some d → ∃ v, fv.lookup f = some v ∧ Rep K F v d
  | [], [], d, _, _, h => by cases h
  | [], _ :: _, d, h, _, _ => by cases h
  | _ :: _, [], d, h, _, _ => by cases h
  | (g, v) :: fv, (k, x) :: es, d, h, r, l => by
    simp only [List.map_cons, List.cons.injEq] at h
    obtain ⟨rfl, h⟩ := h
    simp only [List.map_cons] at r
    cases r with
    | cons r1 r2 =>
      unfold lookS at l
      rw [List.lookup_cons]
      cases q : f == g with
      | true => rw [q] at l; cases l; exact ⟨v, rfl, r1⟩
      | false => rw [q] at l; exact lookS_rep h r2 l
theorem ap_att {X : Cx} {o : Expr} {p : Pu D} {f : Str} {cs : List Str} {pos : Pos} (hna : NoAtts X.K f cs) (ha : AP X o p) (hb : attributeBase o f X.env (eval o X.env) = eval o X.env) : AP X (.Attribute o f pos) (pAtt cs f p) :=
  fun G F σ H ρ Q S w => sem (pe_xat pe_sem hb) (ha G F σ H ρ _ S (w.bind.imp fun d F1 H1 s1 S1 w1 v hv => by
    obtain ⟨b, hb, k⟩ := w1.opt
    unfold attOf at hb
    split at hb
    case h_2 => cases hb
    rename_i c es
    split at hb
    case isFalse => cases hb
    rename_i hc
    obtain ⟨a, C, dd, fv, rfl, h1, xq, fx, h2, h3⟩ := exc_at hv
    obtain ⟨D, fI, xc⟩ := xq.xc
    obtain ⟨u, lu, ru⟩ := lookS_rep h2 h3 hb
    rcases fx with ⟨_, rfl⟩ | ⟨dx, rfl, hd⟩
    · cases lu
    · exact ⟨a, C, D, fI, dx, fv, u, rfl, xc, hna.at hc xq.ns, S1.fh _ _ h1, S1.fh _ _ hd, lu, k F1 H1 (Same.refl _) S1 u ru⟩))
abbrev _root_.L2.Cx.wishP (X : Cx) (E : Value → Shared → Prop) (pn : List (Addr × Obj)) : Cx := { X with xe := E, pn := pn }
section
variable {X : Cx} {pins pins' : List (Addr × Obj)} {σ : L2.St} {H : Hp} {s : Shared} {E : Value → Shared → Prop}
theorem _root_.L2.Inv.wishP (I : Inv X pins σ H s) (E : Value → Shared → Prop) : Inv (X.wishP E (X.pn ++ pins)) [] σ H s :=
  ⟨⟨I.ok.mod, I.ok.kind, I.ok.glob, I.ok.blt, I.ok.above, I.ok.inj, I.ok.has, I.ok.cab, I.ok.hd, I.ok.frames, I.ok.stk, I.ok.exf, I.ok.bs, I.ok.bsz, I.ok.noex, I.ok.exfs, I.ok.funs, I.ok.frf⟩, I.os, I.bare, I.base, I.loc, I.cell, I.free, I.freeC, fun p hp => I.pin p (by simpa using hp), I.hok, I.len⟩
theorem _root_.L2.Inv.unwishP (I : Inv (X.wishP E (X.pn ++ pins)) pins' σ H s) : Inv X pins σ H s :=
  ⟨⟨I.ok.mod, I.ok.kind, I.ok.glob, I.ok.blt, I.ok.above, I.ok.inj, I.ok.has, I.ok.cab, I.ok.hd, I.ok.frames, I.ok.stk, I.ok.exf, I.ok.bs, I.ok.bsz, I.ok.noex, I.ok.exfs, I.ok.funs, I.ok.frf⟩, I.os, I.bare, I.base, I.loc, I.cell, I.free, I.freeC, fun p hp => I.pin p (List.mem_append_left _ hp), I.hok, I.len⟩
theorem sp_unwishP {Dd : Ends} {f : Flow} {s' : Shared} (h : SP (X.wishP E (X.pn ++ pins)) [] Dd f s') : SP X pins Dd f s' := by
  cases f with
  | next => obtain ⟨σ', H', I, q⟩ := h; exact ⟨σ', H', I.unwishP, q⟩
  | brk => obtain ⟨σ', H', I, q⟩ := h; exact ⟨σ', H', I.unwishP, q⟩
  | cont => obtain ⟨σ', H', I, q⟩ := h; exact ⟨σ', H', I.unwishP, q⟩
  | ret u => obtain ⟨v, σ', H', I, r, q⟩ := h; exact ⟨v, σ', H', I.unwishP, r, q⟩
end
theorem _root_.L3.StOk.reB {K : Fg} {G : Gh} {F H B : Hp} {σ : L2.St} {ρ : En} (S : StOk K { G with B := B } F σ H ρ) (h : Same G.B F) : StOk K G F σ H ρ :=
  ⟨S.fh, S.oh, S.fo, S.ln, S.fz, fun i c q => by obtain ⟨a, e, oa⟩ := S.ow i c q; exact ⟨a, e, oa.nf, oa.no, oa.he⟩, S.dj, S.pp, S.pq, h⟩
theorem _root_.L3.StOk.toB {K : Fg} {G : Gh} {F H : Hp} {σ : L2.St} {ρ : En} (S : StOk K G F σ H ρ) : StOk K { G with B := F } F σ H ρ :=
  ⟨S.fh, S.oh, S.fo, S.ln, S.fz, fun i c q => by obtain ⟨a, e, oa⟩ := S.ow i c q; exact ⟨a, e, oa.nf, oa.no, oa.he⟩, S.dj, S.pp, S.pq, Same.refl _⟩
def noOp (ρ : En) : Bool := ρ.all fun x => match x with
  | some (.op _) => false
  | _ => true
def onlyF (sh : List Kd) : Bool := sh.all fun k => match k with
  | .f => true
  | .dead => true
  | _ => false
theorem onlyF_wr : ∀ {sh : List Kd} {s : SOf sh} {i : Nat} {av : AV}, onlyF sh = true → (wr sh s)[i]? = some (some av) → ∃ d, av = .fz d
  | [], s, i, av, _, q => by simp [wr] at q
  | .f :: r, s, 0, av, h, q => by simp [wr] at q; exact ⟨_, q.symm⟩
  | .f :: r, s, i + 1, av, h, q => onlyF_wr (sh := r) (s := s.2) (i := i) (by simpa [onlyF] using h) (by simpa [wr] using q)
  | .dead :: r, s, 0, av, h, q => by simp [wr] at q
  | .dead :: r, s, i + 1, av, h, q => onlyF_wr (sh := r) (s := s) (i := i) (by simpa [onlyF] using h) (by simpa [wr] using q)
  | .o :: r, s, i, av, h, q => by simp [onlyF] at h
  | .p :: r, s, i, av, h, q => by simp [onlyF] at h
  | .t :: r, s, i, av, h, q => by simp [onlyF] at h
  | .k :: r, s, i, av, h, q => by simp [onlyF] at h
def onCls {S : Type} (cs : List Str) (c : Str) (m : M S) : M S := match cs.contains c with
  | true => m
  | false => .bad
def tryE {S A B : Type} (m : M (A ⊕ (Ex × B))) (k : A → M S) (h : Ex → B → M S) : M S := bd m fun r => match r with
  | .inl a => k a
  | .inr p => h p.1 p.2
def onX {S T : Type} (h : Ex → M T) (m : M S) (k : S → M T) : M T := m.on h k
def KB (sh shx : List Kd) : KS (SOf sh ⊕ (Ex × SOf shx)) := ⟨rdk sh fun s => .ret (.inl s), fun _ _ => .bad, fun _ _ => .bad, fun _ => .bad, fun _ => .bad, fun ex ρ => rdk shx (fun s => .ret (.inr (ex, s))) ρ⟩
def KH {S : Type} (j : Nat) (K : KS S) : KS S := ⟨fun ρ => K.nx (ρ.set j none), fun _ _ => .bad, fun _ _ => .bad, fun _ => .bad, fun _ => .bad, fun _ _ => .bad⟩
def sTry {S : Type} (j : Nat) (cs : List Str) (sh shx : List Kd) (mb : SM (SOf sh ⊕ (Ex × SOf shx))) (mh : SM S) : SM S := fun K ρ => match noOp ρ with
  | true => tryE (mb (KB sh shx) ρ) (fun s => K.nx (wr sh s)) fun ex s => onCls cs ex.cls (mh (KH j K) ((wr shx s).set j (some (.fz (encX ex)))))
  | false => .bad
def HandL (K : Fg) (hv : Value) : List Str → Prop
  | [] => True
  | c :: r => (∃ C, PySem.W.nsIn K mainGlobals c = some (some (.ref C)) ∧ PySem.W.exmOne K (.ref C) hv = some true) ∧ HandL K hv r
theorem HandL.at {K : Fg} {hv : Value} : ∀ {cs : List Str} {c : Str} {C : Addr}, HandL K hv cs → cs.contains c = true → PySem.W.nsIn K mainGlobals c = some (some (.ref C)) → PySem.W.exmOne K (.ref C) hv = some true
  | d :: r, c, C, h, l, n => by
    rw [List.contains_cons, Bool.or_eq_true] at l
    rcases l with q | q
    · have : c = d := by simpa using q
      subst this
      obtain ⟨⟨C', n', k⟩, _⟩ := h
      rw [n] at n'
      cases n'
      exact k
    · exact HandL.at h.2 q n
section
variable {S : Type} {X : Cx} {j : Nat} {x n : Str} {b0 : Stmt} {body suite : List Stmt} {pC ph pos : Pos} {cs : List Str} {sh shx : List Kd} {hv : Value} {mb : SM (SOf sh ⊕ (Ex × SOf shx))} {mh : SM S}
theorem as_try (hmx : X.mg x = some hv) (hgx : Gl X x) (hcs : HandL X.K hv cs) (hb : ∀ E pn, ASs (X.wishP E pn) body mb) (hh : ∀ a, ASs (cau X a) (b0 :: suite) mh) (hF : onlyF shx = true)
    (hN : X.N.Nodup) (hj : X.N[j]? = some n) (hnl : X.env.scope.names.lookup n = some .local) (stk : X.stack = X.env :: X.outer) (frm : X.env.frame = some X.env.locals) (hdx : (x == ("__debug__" : Str)) = false) :
    AS X (.Try body [.ExceptHandler (some (.Name x pC)) (some n) (b0 :: suite) ph] [] [] pos) (sTry j cs sh shx mb mh) := by
  intro OK K G F σ H ρ E hO hX St ok eo
  unfold sTry at ok
  cases hq : noOp ρ with
  | false => rw [hq] at ok; exact (hO ok).elim
  | true =>
  rw [hq] at ok
  dsimp only at ok
  have noP : ∀ i a, G.P i ≠ some a := fun i a z => by
    obtain ⟨_, c, q⟩ := St.pp i a z
    unfold noOp at hq
    have := List.all_eq_true.mp hq _ (List.mem_of_getElem? q)
    cases this
  unfold tSemS
  intro pins s I
  rw [arm_exec_Try]
  refine wpAny_bind (wpAny_standAt (wpAny_tryStmt_except ?_))
  generalize hXE : (fun (e : Value) (s1 : Shared) => wpAny (model X.prog X.w) X.A (noteFrame e X.env) (fun _ s2 => wpAny (model X.prog X.w) X.A (setFlight e none) (fun _ s3 => wpAny (model X.prog X.w) X.A (handleBy e X.env [.ExceptHandler (some (.Name x pC)) (some n) (b0 :: suite) ph]) (SP X pins E) X.xe s3) X.xe s2) X.xe s1) = XE
  let E1 : Ends := { nx := E.nx, rt := fun _ _ => False, bk := fun _ _ => False, ct := fun _ _ => False }
  let OK1 : M (SOf sh ⊕ (Ex × SOf shx)) → Prop := fun m => OK (tryE m (fun s => K.nx (wr sh s)) fun ex s => onCls cs ex.cls (mh (KH j K) ((wr shx s).set j (some (.fz (encX ex))))))
  have hO1 : KOk OK1 := fun z => hO z
  have bsem : tSemB (X.wishP XE (X.pn ++ pins)) body E1 σ H := by
    refine hb XE (X.pn ++ pins) OK1 (KB sh shx) { G with B := F } F σ H ρ E1 hO1 ?_ St.toB ok ⟨?_, fun F' σ' H' ρ' d v s S' r o => (hO1 o).elim, fun F' σ' H' ρ' d v s S' r o => (hO1 o).elim, fun F' σ' H' ρ' s S' o => (hO1 o).elim, fun F' σ' H' ρ' s S' o => (hO1 o).elim⟩
    · -- an exception
      intro F1 ρ1 ex o1
      intro F' H' s' a C dd pins' σ' g fz I' xs hp xr
      have o2 : OK1 (rdk shx (fun s => .ret (.inr (ex, s))) ρ1) := o1
      unfold rdk at o2
      cases hr : rd shx ρ1 with
      | none => rw [hr] at o2; exact (hO1 o2).elim
      | some sx =>
      rw [hr] at o2
      have o3 : OK (onCls cs ex.cls (mh (KH j K) ((wr shx sx).set j (some (.fz (encX ex)))))) := o2
      unfold onCls at o3
      cases hc : cs.contains ex.cls with
      | false => rw [hc] at o3; exact (hO o3).elim
      | true =>
      rw [hc] at o3
      dsimp only at o3
      have I2 : Inv X pins σ' H' s' := I'.unwishP
      have hlo : X.s₀.heap.objs.size ≤ X.s₀.heap.objs.size := Nat.le_refl _
      have hp2 : ∀ p ∈ X.pn ++ pins, ¬ TbOf s'.heap a p.1 := fun p q => hp p (List.mem_append_left _ q)
      show XE (.ref a) s'
      subst hXE
      refine noted_ok (lo := X.s₀.heap.objs.size) (base := X.base) (env := X.env) (outer := X.outer) (L := X.env.locals) (P := X.prog) (w := X.w) (I2.ok.frames.trans (congrArg some stk)) (stk ▸ I2.stack) frm I2.hok xs fun h3 m3 xs3 tn => ?_
      have I3 : Inv X pins σ' H' { s' with heap := h3 } := Inv.mv I2 (by rw [stk]; exact m3) xs xs3 hlo hp2 s'.toks
      have hp3 : ∀ p ∈ X.pn ++ pins, ¬ TbOf h3 a p.1 := fun p q z => absurd (Nat.lt_of_lt_of_le (Heap.lt_size (I2.pin p q).1) (tn _ z)) (Nat.lt_irrefl _)
      refine handle_as (K := X.K) (C := C) (ld_glob (X := cau X a) (caught_in I3) hgx hmx ⟨I3.kIn, hcs.at hc xr.1.ns, ?_, ?_⟩ hdx)
      · obtain ⟨oe, _, q1, q2, _⟩ := xs3.obj
        exact ⟨oe, q1, q2⟩
      refine flight_again (s := { s' with heap := h3 }) (frs X.stack) xs3 fun h4 m4 xs4 => ?_
      have I4 : Inv X pins σ' H' { s' with heap := h4 } := Inv.mv (s := { s' with heap := h3 }) I3 m4 xs3 xs4 hlo hp3 s'.toks
      refine store_ok I4 hN hj (.inl hnl) (v := .ref a) rfl (fun s5 I5 => ?_) (.inr hnl)
      have oa : G.O a = none := by
        cases q : G.O a with
        | none => rfl
        | some o =>
          have h1 := g.oh a o q
          rw [xs.trk] at h1
          cases h1
          exact ((g.fo a _ q).2 : False).elim
      obtain ⟨F2, sm2, fh2, fo2, ra⟩ : ∃ F2, Same F' F2 ∧ Same F2 H' ∧ (∀ b o, G.O b = some o → F2 b = none ∧ NoTE o) ∧ Rep X.K F2 (.ref a) (encX ex) := by
        cases q : F' a with
        | some o =>
          have h1 := g.fh a o q
          rw [xs.trk] at h1
          cases h1
          exact ⟨F', Same.refl _, g.fh, g.fo, xr.rep q⟩
        | none =>
          have sm := same_upd (F := F') (o := .ext (XO a C dd)) q
          refine ⟨upd F' a (.ext (XO a C dd)), sm, fun b u z => ?_, fun b u z => ?_, (xr.mono sm).rep upd_same⟩
          · by_cases y : b = a
            · subst y; rw [upd_same] at z; cases z; exact xs.trk
            · rw [upd_ne y] at z; exact g.fh b u z
          · rw [upd_ne (ne_of_none z oa)]; exact g.fo b u z
      have FB : Same F F' := g.fb
      have hjl : j < σ'.length := by rw [I2.len]; exact (List.getElem?_eq_some_iff.mp hj).1
      obtain ⟨wl, w1, w2⟩ := rd_wr shx ρ1 sx hr
      have hjr : j < (wr shx sx).length := by rw [wl, ← fz.ln]; exact hjl
      have only : ∀ i av, ((wr shx sx).set j (some (.fz (encX ex))))[i]? = some (some av) → ∃ d, av = AV.fz d := fun i av q => by
        by_cases y : i = j
        · rw [y, List.getElem?_set_self hjr] at q; injection q with q; injection q with q; exact ⟨_, q.symm⟩
        · rw [List.getElem?_set_ne (Ne.symm y)] at q; exact onlyF_wr hF q
      have noown : ∀ i c, ¬ own ((wr shx sx).set j (some (.fz (encX ex)))) i c := fun i c q => by
        rcases q with q | q <;> (obtain ⟨d, z⟩ := only i _ q; cases z)
      have S3 : StOk X.K G F2 (σ'.set j (some (V.ref a))) H' ((wr shx sx).set j (some (.fz (encX ex)))) := by
        refine ⟨fh2, g.oh, fo2, by simp [wl, fz.ln], fun i d q => ?_, fun i c q => (noown i c q).elim, fun i k c e b q => (noown i c q).elim, fun i b z => (noP i b z).elim, fun i c q => ?_, (St.fb.trans FB).trans sm2⟩
        · by_cases y : i = j
          · rw [y, List.getElem?_set_self hjr] at q
            injection q with q; injection q with q; injection q with q
            rw [← q, y]
            exact ⟨_, List.getElem?_set_self hjl, ra⟩
          · rw [List.getElem?_set_ne (Ne.symm y)] at q
            obtain ⟨v, e1, r1⟩ := fz.fz i d (w1 i _ q)
            exact ⟨v, by rw [List.getElem?_set_ne (Ne.symm y)]; exact e1, r1.mono sm2⟩
        · obtain ⟨d, z⟩ := only i _ q; cases z
      have suite' := hh a OK (KH j K) G F2 _ H' _ { nx := fun σ6 H6 => ∃ F6 ρ6, Same F2 F6 ∧ StOk X.K G F6 σ6 H6 ρ6 ∧ OK (K.nx (ρ6.set j none)), rt := fun _ _ => False, bk := fun _ _ => False, ct := fun _ _ => False } hO (fun _ _ _ z => (hO z).elim) S3 o3
        ⟨fun F6 σ6 H6 ρ6 s6 S6 o6 => ⟨F6, ρ6, s6, S6, o6⟩, fun F' σ' H' ρ' d v s S' r o => (hO o).elim, fun F' σ' H' ρ' d v s S' r o => (hO o).elim, fun F' σ' H' ρ' s S' o => (hO o).elim, fun F' σ' H' ρ' s S' o => (hO o).elim⟩
      unfold tSemB at suite'
      refine wpAny_mono (suite' pins s5 (caught_in I5)) (fun f s6 z => ?_) fun _ _ z => z
      cases f with
      | next =>
        obtain ⟨σ6, H6, I6, F6, ρ6, s6, S6, o6⟩ := z
        refine goes_ok (caught_out I2.ok.hd I6) hN hj hnl fun s7 I7 => ⟨σ6.set j none, H6, I7, ?_⟩
        have S7 : StOk X.K G F6 σ6 H6 (ρ6.set j none) := by
          refine S6.weak (by simp) (fun i av q => ?_) (fun i c q => ?_)
          · by_cases y : i = j
            · rw [y, List.getElem?_set] at q
              simp at q
            · rw [List.getElem?_set_ne (Ne.symm y)] at q; exact q
          · obtain ⟨b, z⟩ := S6.pq i c q
            exact (noP i b z).elim
        refine eo.nx F6 _ H6 (ρ6.set j none) ((FB.trans sm2).trans s6) (S7.setdead (fun av q => ?_) none) o6
        rw [List.getElem?_set] at q
        simp at q
      | brk => obtain ⟨_, _, _, z⟩ := z; exact z.elim
      | cont => obtain ⟨_, _, _, z⟩ := z; exact z.elim
      | ret u => obtain ⟨_, _, _, _, _, z⟩ := z; exact z.elim
    · intro F' σ' H' ρ' s1 S' o
      have o2 : OK1 (rdk sh (fun s => .ret (.inl s)) ρ') := o
      unfold rdk at o2
      cases hr : rd sh ρ' with
      | none => rw [hr] at o2; exact (hO1 o2).elim
      | some sx =>
      rw [hr] at o2
      have S2 : StOk X.K G F' σ' H' ρ' := S'.reB (St.fb.trans s1)
      exact eo.nx F' σ' H' (wr sh sx) s1 (S2.rd hr) o2
  unfold tSemB at bsem
  refine wpAny_mono (bsem [] s (I.wishP XE)) (fun f s1 z => ?_) fun e s1 z => by subst hXE; exact z
  have z2 := sp_unwishP z
  cases f with
  | next => exact wpAny_execs_nil z2
  | brk => obtain ⟨_, _, _, z⟩ := z2; exact z.elim
  | cont => obtain ⟨_, _, _, z⟩ := z2; exact z.elim
  | ret u => obtain ⟨_, _, _, _, _, z⟩ := z2; exact z.elim
end
end L4
set_option Elab.async false
set_option linter.all false
set_option maxRecDepth 100000
namespace L4
open PySem PySem.Spec PyProof.Rows L2 L3
theorem ref_only {a : Addr} : ∀ u, RelV (.ref a) u → u = .ref a := fun u h => h
section
variable {X : Cx} {e : Expr} {ts : List Expr} {p : Pu D} {pos p1 p2 : Pos} {tb : List (Str × Bool)}
theorem ab_instC {c : Str} (h : ∃ C, X.mg c = some (.ref C) ∧ Inst1 X.K (.ref C) tb) (hgc : Gl X c) (hm : X.mg "isinstance" = none) (hg : Gl X "isinstance") (ha : AP X e p) (hs : starEach [e, .Name c p2] X.env = (false, eval e X.env) :: starEach [.Name c p2] X.env) (hs2 : starEach [.Name c p2] X.env = (false, eval (.Name c p2) X.env) :: starEach [] X.env)
    (hpl : (backTo pos (starEach [.Name c p2] X.env)).any (·.1) = false) (hd : (c == ("__debug__" : Str)) = false) : AB X (.Call (.Name "isinstance" p1) [e, .Name c p2] [] pos) (pInst tb p) := by
  obtain ⟨C, h1, h2⟩ := h
  exact ab_inst1 (vc := .ref C) rfl ref_only h2 hg hm (pe_glob hgc h1 rfl hd) ha hs hs2 hpl
theorem ab_instV {c : Str} {T : String} (h : Inst1 X.K (.type T) tb) (hgc : Gl X c) (hmc : X.mg c = none) (hb : bootBuiltins c = some (.type T)) (hm : X.mg "isinstance" = none) (hg : Gl X "isinstance") (ha : AP X e p) (hs : starEach [e, .Name c p2] X.env = (false, eval e X.env) :: starEach [.Name c p2] X.env) (hs2 : starEach [.Name c p2] X.env = (false, eval (.Name c p2) X.env) :: starEach [] X.env)
    (hpl : (backTo pos (starEach [.Name c p2] X.env)).any (·.1) = false) (hn : c ≠ "__name__") (hd : (c == ("__debug__" : Str)) = false) : AB X (.Call (.Name "isinstance" p1) [e, .Name c p2] [] pos) (pInst tb p) :=
  ab_inst1 (vc := .ty T) rfl (fun u h => h) h hg hm (pe_bltn hgc hmc hb rfl hn hd) ha hs hs2 hpl
end
section
variable {S : Type} {X : Cx} {j : Nat} {x n : Str} {b0 : Stmt} {body suite : List Stmt} {pC ph pos : Pos} {cs : List Str} {sh shx : List Kd} {mb : SM (SOf sh ⊕ (Ex × SOf shx))} {mh : SM S}
theorem as_tryC (h : ∃ hv, X.mg x = some hv ∧ HandL X.K hv cs) (hgx : Gl X x) (hb : ∀ E pn, ASs (X.wishP E pn) body mb) (hh : ∀ a, ASs (cau X a) (b0 :: suite) mh) (hF : onlyF shx = true)
    (hN : X.N.Nodup) (hj : X.N[j]? = some n) (hnl : X.env.scope.names.lookup n = some .local) (stk : X.stack = X.env :: X.outer) (frm : X.env.frame = some X.env.locals) (hdx : (x == ("__debug__" : Str)) = false) :
    AS X (.Try body [.ExceptHandler (some (.Name x pC)) (some n) (b0 :: suite) ph] [] [] pos) (sTry j cs sh shx mb mh) := by
  obtain ⟨hv, h1, h2⟩ := h
  exact as_try h1 hgx h2 hb hh hF hN hj hnl stk frm hdx
end
theorem xq_no {K : Fg} {C : Addr} (h : (["bool", "int", "str", "list", "tuple", "dict"].all fun T => PySem.W.kitOne K (.ref C) (.type T) == some false) = true) : ∀ T, tyOk T = true → PySem.W.kitOne K (.ref C) (.type T) = some false := fun T hT => by
  have h' : ∀ T ∈ ["bool", "int", "str", "list", "tuple", "dict"], PySem.W.kitOne K (.ref C) (.type T) = some false := fun T q => by
    have := List.all_eq_true.mp h T q
    simpa using this
  apply h'
  simp only [tyOk, Bool.or_eq_true, beq_iff_eq] at hT
  rcases hT with ((((rfl | rfl) | rfl) | rfl) | rfl) | rfl <;> simp
end L4
set_option Elab.async false
set_option linter.all false
set_option maxRecDepth 100000
set_option maxHeartbeats 8000000
namespace K18
open PySem PySem.Spec PyProof.Rows L2 L3 L4
noncomputable section
def top (i : Nat) : Stmt := PySem.Challenge.pw_passersby_k18_refusals_apart.main.body.getD i (.Pass ⟨0, 0, 0, 0⟩)
structure BN (mg : Str → Option Value) : Prop where
  range : mg "range" = none
  len : mg "len" = none
  tuple : mg "tuple" = none
  list : mg "list" = none
  max : mg "max" = none
  min : mg "min" = none
  sum : mg "sum" = none
  abs : mg "abs" = none
  repr : mg "repr" = none
  enumerate : mg "enumerate" = none
  isinstance : mg "isinstance" = none
  all : mg "all" = none
  any : mg "any" = none
  int : mg "int" = none
  str : mg "str" = none
  bool : mg "bool" = none
  zip : mg "zip" = none
  sorted : mg "sorted" = none
  set : mg "set" = none
  dict : mg "dict" = none
  reversed : mg "reversed" = none
  ValueError : mg "ValueError" = none
structure KX (K : Fg) (mg : Str → Option Value) : Prop where
  i_NoText : ∃ C, mg "NoText" = some (.ref C) ∧ Inst1 K (.ref C) [("NoCrowd", false), ("NoText", true), ("NoMeeting", false), ("NoPaper", false), ("TooMany", false), ("NoLine", false), ("NoRule", false)]
  i_NoMeeting : ∃ C, mg "NoMeeting" = some (.ref C) ∧ Inst1 K (.ref C) [("NoCrowd", false), ("NoText", false), ("NoMeeting", true), ("NoPaper", false), ("TooMany", false), ("NoLine", false), ("NoRule", false)]
  i_NoPaper : ∃ C, mg "NoPaper" = some (.ref C) ∧ Inst1 K (.ref C) [("NoCrowd", false), ("NoText", false), ("NoMeeting", false), ("NoPaper", true), ("TooMany", false), ("NoLine", false), ("NoRule", false)]
  i_TooMany : ∃ C, mg "TooMany" = some (.ref C) ∧ Inst1 K (.ref C) [("NoCrowd", false), ("NoText", false), ("NoMeeting", false), ("NoPaper", false), ("TooMany", true), ("NoLine", false), ("NoRule", false)]
  i_NoLine : ∃ C, mg "NoLine" = some (.ref C) ∧ Inst1 K (.ref C) [("NoCrowd", false), ("NoText", false), ("NoMeeting", false), ("NoPaper", false), ("TooMany", false), ("NoLine", true), ("NoRule", false)]
  i_NoRule : ∃ C, mg "NoRule" = some (.ref C) ∧ Inst1 K (.ref C) [("NoCrowd", false), ("NoText", false), ("NoMeeting", false), ("NoPaper", false), ("TooMany", false), ("NoLine", false), ("NoRule", true)]
  i_NoCrowd : ∃ C, mg "NoCrowd" = some (.ref C) ∧ Inst1 K (.ref C) [("NoCrowd", true), ("NoText", false), ("NoMeeting", false), ("NoPaper", false), ("TooMany", false), ("NoLine", false), ("NoRule", false)]
  a_row : NoAtts K "row" ["NoText"]
  a_word : NoAtts K "word" ["NoText", "NoPaper"]
  a_number : NoAtts K "number" ["NoPaper"]
  a_place : NoAtts K "place" ["NoMeeting"]
  a_line : NoAtts K "line" ["NoLine"]
  h_PassError : ∃ hv, mg "PassError" = some hv ∧ HandL K hv ["NoCrowd", "NoText", "NoMeeting", "NoPaper", "TooMany", "NoLine", "NoRule"]
  i_ValueError : Inst1 K (.type "ValueError") [("NoCrowd", true), ("NoText", true), ("NoMeeting", true), ("NoPaper", true), ("TooMany", true), ("NoLine", true), ("NoRule", true)]
structure KN (mg : Str → Option Value) : Prop where
  non : True
section
variable {P : Program} {w : World} {K : Fg} {mg : Str → Option Value} {base : Heap}
def clsBody (s : Stmt) : List Stmt := match s with
  | .ClassDef _ _ _ b _ _ _ _ _ _ _ => b
  | _ => []
abbrev s_init_NoCrowd : Stmt := (clsBody (top 8)).getD 0 (.Pass ⟨0, 0, 0, 0⟩)
theorem sc_init_NoCrowd : FnScope ["self"] ["self"] (defScope s_init_NoCrowd) := ⟨rfl, rfl, rfl, by decide +kernel, rfl, by decide +kernel, by decide +kernel⟩
theorem cl_NoCrowd {Cl D f : Addr} {fd : FuncData} (Fn : Fun K "__init__" "NoCrowd.__init__" s_init_NoCrowd f fd) (c : XC K Cl D f) (hm : mg "NoCrowd" = some (.ref Cl)) (hc : XQ K Cl "NoCrowd") (kp : PySem.W.keepIn K (.ref Cl) = true) (na : ∀ f ∈ ([] : List Str), NoAttr K Cl f) (ex : PySem.W.exmOne K (.ref Cl) (.ref Cl) = some true) : CCl P w K mg base "NoCrowd" 1 [] :=
  ⟨Cl, D, f, fd, ["self"], c, init0 (k := 0) Fn sc_init_NoCrowd rfl, (Fn.binds fun _ _ _ _ _ _ us hl => match us, hl with | [_], _ => rfl), hm, hc, kp, na, ex⟩
abbrev s_init_NoText : Stmt := (clsBody (top 2)).getD 0 (.Pass ⟨0, 0, 0, 0⟩)
theorem sc_init_NoText : FnScope ["self", "row", "word"] ["self", "row", "word"] (defScope s_init_NoText) := ⟨rfl, rfl, rfl, by decide +kernel, rfl, by decide +kernel, by decide +kernel⟩
theorem cl_NoText {Cl D f : Addr} {fd : FuncData} (Fn : Fun K "__init__" "NoText.__init__" s_init_NoText f fd) (c : XC K Cl D f) (hm : mg "NoText" = some (.ref Cl)) (hc : XQ K Cl "NoText") (kp : PySem.W.keepIn K (.ref Cl) = true) (na : ∀ f ∈ (["row", "word"] : List Str), NoAttr K Cl f) (ex : PySem.W.exmOne K (.ref Cl) (.ref Cl) = some true) : CCl P w K mg base "NoText" 1 ["row", "word"] :=
  ⟨Cl, D, f, fd, ["self", "row", "word"], c, init2 (k := 0) Fn sc_init_NoText rfl c (na _ (by simp)) (na _ (by simp)) (by decide), (Fn.binds fun _ _ _ _ _ _ us hl => match us, hl with | [_, _, _], _ => rfl), hm, hc, kp, na, ex⟩
abbrev s_init_NoMeeting : Stmt := (clsBody (top 3)).getD 0 (.Pass ⟨0, 0, 0, 0⟩)
theorem sc_init_NoMeeting : FnScope ["self", "place"] ["self", "place"] (defScope s_init_NoMeeting) := ⟨rfl, rfl, rfl, by decide +kernel, rfl, by decide +kernel, by decide +kernel⟩
theorem cl_NoMeeting {Cl D f : Addr} {fd : FuncData} (Fn : Fun K "__init__" "NoMeeting.__init__" s_init_NoMeeting f fd) (c : XC K Cl D f) (hm : mg "NoMeeting" = some (.ref Cl)) (hc : XQ K Cl "NoMeeting") (kp : PySem.W.keepIn K (.ref Cl) = true) (na : ∀ f ∈ (["place"] : List Str), NoAttr K Cl f) (ex : PySem.W.exmOne K (.ref Cl) (.ref Cl) = some true) : CCl P w K mg base "NoMeeting" 1 ["place"] :=
  ⟨Cl, D, f, fd, ["self", "place"], c, init1 (k := 0) Fn sc_init_NoMeeting rfl c (na _ (by simp)), (Fn.binds fun _ _ _ _ _ _ us hl => match us, hl with | [_, _], _ => rfl), hm, hc, kp, na, ex⟩
abbrev s_init_NoPaper : Stmt := (clsBody (top 4)).getD 0 (.Pass ⟨0, 0, 0, 0⟩)
theorem sc_init_NoPaper : FnScope ["self", "word", "number"] ["self", "word", "number"] (defScope s_init_NoPaper) := ⟨rfl, rfl, rfl, by decide +kernel, rfl, by decide +kernel, by decide +kernel⟩
theorem cl_NoPaper {Cl D f : Addr} {fd : FuncData} (Fn : Fun K "__init__" "NoPaper.__init__" s_init_NoPaper f fd) (c : XC K Cl D f) (hm : mg "NoPaper" = some (.ref Cl)) (hc : XQ K Cl "NoPaper") (kp : PySem.W.keepIn K (.ref Cl) = true) (na : ∀ f ∈ (["word", "number"] : List Str), NoAttr K Cl f) (ex : PySem.W.exmOne K (.ref Cl) (.ref Cl) = some true) : CCl P w K mg base "NoPaper" 1 ["word", "number"] :=
  ⟨Cl, D, f, fd, ["self", "word", "number"], c, init2 (k := 0) Fn sc_init_NoPaper rfl c (na _ (by simp)) (na _ (by simp)) (by decide), (Fn.binds fun _ _ _ _ _ _ us hl => match us, hl with | [_, _, _], _ => rfl), hm, hc, kp, na, ex⟩
abbrev s_init_TooMany : Stmt := (clsBody (top 5)).getD 0 (.Pass ⟨0, 0, 0, 0⟩)
theorem sc_init_TooMany : FnScope ["self"] ["self"] (defScope s_init_TooMany) := ⟨rfl, rfl, rfl, by decide +kernel, rfl, by decide +kernel, by decide +kernel⟩
theorem cl_TooMany {Cl D f : Addr} {fd : FuncData} (Fn : Fun K "__init__" "TooMany.__init__" s_init_TooMany f fd) (c : XC K Cl D f) (hm : mg "TooMany" = some (.ref Cl)) (hc : XQ K Cl "TooMany") (kp : PySem.W.keepIn K (.ref Cl) = true) (na : ∀ f ∈ ([] : List Str), NoAttr K Cl f) (ex : PySem.W.exmOne K (.ref Cl) (.ref Cl) = some true) : CCl P w K mg base "TooMany" 1 [] :=
  ⟨Cl, D, f, fd, ["self"], c, init0 (k := 0) Fn sc_init_TooMany rfl, (Fn.binds fun _ _ _ _ _ _ us hl => match us, hl with | [_], _ => rfl), hm, hc, kp, na, ex⟩
abbrev s_init_NoLine : Stmt := (clsBody (top 6)).getD 0 (.Pass ⟨0, 0, 0, 0⟩)
theorem sc_init_NoLine : FnScope ["self", "line"] ["self", "line"] (defScope s_init_NoLine) := ⟨rfl, rfl, rfl, by decide +kernel, rfl, by decide +kernel, by decide +kernel⟩
theorem cl_NoLine {Cl D f : Addr} {fd : FuncData} (Fn : Fun K "__init__" "NoLine.__init__" s_init_NoLine f fd) (c : XC K Cl D f) (hm : mg "NoLine" = some (.ref Cl)) (hc : XQ K Cl "NoLine") (kp : PySem.W.keepIn K (.ref Cl) = true) (na : ∀ f ∈ (["line"] : List Str), NoAttr K Cl f) (ex : PySem.W.exmOne K (.ref Cl) (.ref Cl) = some true) : CCl P w K mg base "NoLine" 1 ["line"] :=
  ⟨Cl, D, f, fd, ["self", "line"], c, init1 (k := 0) Fn sc_init_NoLine rfl c (na _ (by simp)), (Fn.binds fun _ _ _ _ _ _ us hl => match us, hl with | [_, _], _ => rfl), hm, hc, kp, na, ex⟩
abbrev s_init_NoRule : Stmt := (clsBody (top 7)).getD 0 (.Pass ⟨0, 0, 0, 0⟩)
theorem sc_init_NoRule : FnScope ["self"] ["self"] (defScope s_init_NoRule) := ⟨rfl, rfl, rfl, by decide +kernel, rfl, by decide +kernel, by decide +kernel⟩
theorem cl_NoRule {Cl D f : Addr} {fd : FuncData} (Fn : Fun K "__init__" "NoRule.__init__" s_init_NoRule f fd) (c : XC K Cl D f) (hm : mg "NoRule" = some (.ref Cl)) (hc : XQ K Cl "NoRule") (kp : PySem.W.keepIn K (.ref Cl) = true) (na : ∀ f ∈ ([] : List Str), NoAttr K Cl f) (ex : PySem.W.exmOne K (.ref Cl) (.ref Cl) = some true) : CCl P w K mg base "NoRule" 1 [] :=
  ⟨Cl, D, f, fd, ["self"], c, init0 (k := 0) Fn sc_init_NoRule rfl, (Fn.binds fun _ _ _ _ _ _ us hl => match us, hl with | [_], _ => rfl), hm, hc, kp, na, ex⟩
abbrev s__law_feed : Stmt := top 10
abbrev N__law_feed : List Str := ["_law_script", "_law_k", "_law_cell", "_law_great"]
theorem sc__law_feed : FnScope N__law_feed ["_law_script", "_law_k"] (defScope s__law_feed) := ⟨rfl, rfl, rfl, by decide +kernel, rfl, by decide +kernel, by decide +kernel⟩
def c__law_feed (p_law_script : D) (p_law_k : D) : M (List D) :=
  bd (bd (bd (oM (fLen [p_law_script])) fun x1 => oM (opGt x1 (.int 0))) fun b4 => if b4 then bd (bd (oM (fLen [p_law_script])) fun x2 => oM (opMod p_law_k x2)) fun x3 => oM (opIxA p_law_script x3) else .ret (.int 0)) fun x5 => bd (bd (bd (oM (fAbs [x5])) fun x6 => bd (oM (opPow (.int 10) (.int 18))) fun x7 => oM (opGe x6 x7)) fun b8 => if b8 then oM (fAbs [x5]) else .ret (.int 0)) fun x9 => bd (bd (bd (oM (opMod x5 (.int 1000003))) fun x10 => bd (oM (opMulI (.int 7919) p_law_k)) fun x11 => oM (opAdd x10 x11)) fun x12 => .ret [x9, x12, (.int 0)]) fun l13 => .ret l13
def mf__law_feed : List D → M (List D) := fun l => match l with
  | [p_law_script, p_law_k] => c__law_feed p_law_script p_law_k
  | _ => .bad
set_option maxHeartbeats 4000000 in
theorem fn__law_feed {f : Addr} {fd : FuncData} (Fn : Fun K "_law_feed" "_law_feed" s__law_feed f fd) (B : BN mg) (Kn : KN mg) (Kx : KX K mg) : FnOk P w K mg base (CX1 P w) 1 f fd ["_law_script", "_law_k"] (spL K 2 mf__law_feed) :=
  fn_okL (k := 0) Fn sc__law_feed (fun cdv A outer s H E hr =>
  (ass_cons (as_to (sh := [.dead, .f, .f, .dead]) (as_set (i := 2) sc__law_feed.nd rfl (by first | exact Or.inl rfl | exact Or.inr rfl) (ae_pu (ap_if (at_cmp op_gt ok_gt (ao (ap_callB call_lenA ok_len rfl B.len PySem.boot_len (aao_cons (ao (av 0)) aao_nil (star_ok rfl)) (by decide) (by decide) rfl rfl)) (ao ap_int) rfl) (ap_ix (ix_any (room_u hr)) ok_ixA (ao (av 0)) (ao (ap_bin op_mod ok_mod (ao (av 1)) (ao (ap_callB call_lenA ok_len rfl B.len PySem.boot_len (aao_cons (ao (av 0)) aao_nil (star_ok rfl)) (by decide) (by decide) rfl rfl)))) (fun _ _ => rfl)) ap_int)) rfl (.inl rfl)))
   (ass_cons (as_to (sh := [.dead, .f, .f, .f]) (as_set (i := 3) sc__law_feed.nd rfl (by first | exact Or.inl rfl | exact Or.inr rfl) (ae_pu (ap_if (at_cmp op_ge ok_ge (ao (ap_callB call_abs ok_abs rfl B.abs (by decide +kernel) (aao_cons (ao (av 2)) aao_nil (star_ok rfl)) (by decide) (by decide) rfl rfl)) (ao (ap_bin op_pow ok_pow (ao ap_int) (ao ap_int))) rfl) (ap_callB call_abs ok_abs rfl B.abs (by decide +kernel) (aao_cons (ao (av 2)) aao_nil (star_ok rfl)) (by decide) (by decide) rfl rfl) ap_int)) rfl (.inl rfl)))
   (ass_one (as_retL (ael_pu (al_lst (aa_cons (av 3) (aa_cons (ap_bin op_addA ok_add (ao (ap_bin op_mod ok_mod (ao (av 2)) (ao ap_int))) (ao (ap_bin op_mul ok_mul (ao ap_int) (ao (av 1))))) (aa_cons ap_int aa_nil (star_ok rfl)) (star_ok rfl)) (star_ok rfl)) (by decide +kernel))))))))
  (fun ds hl => match ds, hl with | [p_law_script, p_law_k], _ => by kernel_rfl)
theorem ok__law_feed {f : Addr} {fd : FuncData} (Fn : Fun K "_law_feed" "_law_feed" s__law_feed f fd) (hmg : mg "_law_feed" = some (.ref f)) (B : BN mg) (Kn : KN mg) (Kx : KX K mg) : CF P w K mg base "_law_feed" 1 (spL K 2 mf__law_feed) :=
  ⟨f, fd, ["_law_script", "_law_k"], fn__law_feed Fn B Kn Kx, hmg, Fn.kp, (Fn.binds fun _ _ _ _ _ _ us hl => match us, hl with | [_, _], _ => rfl)⟩
abbrev s__law_next : Stmt := top 11
abbrev N__law_next : List Str := ["_law_feed_here", "_law_many", "_law_digit", "_law_turn", "_law_one_here"]
theorem sc__law_next : FnScope N__law_next ["_law_feed_here", "_law_many"] (defScope s__law_next) := ⟨rfl, rfl, rfl, by decide +kernel, rfl, by decide +kernel, by decide +kernel⟩
def c__law_next (p_law_feed_here : List D) (p_law_many : D) : M (D × List D) :=
  bd (bd (oM (opIxA (PyData.list p_law_feed_here) (.int 0))) fun x1 => oM (opGt x1 (.int 0))) fun b2 => if b2 then
    bd (bd (oM (opIxA (PyData.list p_law_feed_here) (.int 0))) fun x3 => oM (opMod x3 p_law_many)) fun x4 => bd (bd (oM (opIxA (PyData.list p_law_feed_here) (.int 0))) fun x5 => oM (opDiv x5 p_law_many)) fun x6 => bd (oM (putD p_law_feed_here (.int 0) x6)) fun l7 => .ret (x4, l7)
   else
    bd (bd (oM (opIxA (PyData.list p_law_feed_here) (.int 2))) fun x8 => oM (opAdd x8 (.int 1))) fun x9 => bd (oM (putD p_law_feed_here (.int 2) x9)) fun l10 => bd (bd (bd (bd (bd (oM (opIxA (PyData.list l10) (.int 1))) fun x11 => bd (oM (opMulI (.int 41) x9)) fun x12 => oM (opAdd x11 x12)) fun x13 => oM (opAdd x13 (.int 3))) fun x15 => bd (bd (oM (opMulI x9 x9)) fun x14 => oM (opAdd x14 (.int 69621))) fun x16 => oM (opMulI x15 x16)) fun x17 => oM (opMod x17 (.int 998244353))) fun x18 => bd (bd (bd (bd (bd (bd (bd (oM (opMod x18 (.int 65519))) fun x19 => oM (opAdd x19 (.int 40692))) fun x20 => oM (opMulI x18 x20)) fun x21 => oM (opAdd x21 x9)) fun x22 => oM (opMod x22 (.int 2147483629))) fun x23 => oM (opDiv x23 (.int 13))) fun x24 => oM (opMod x24 p_law_many)) fun x25 => .ret (x25, l10)
def mf__law_next : List D → List D → M (D × List D) := fun p_law_feed_here l => match l with
  | [p_law_many] => c__law_next p_law_feed_here p_law_many
  | _ => .bad
set_option maxHeartbeats 4000000 in
theorem fn__law_next {f : Addr} {fd : FuncData} (Fn : Fun K "_law_next" "_law_next" s__law_next f fd) (B : BN mg) (Kn : KN mg) (Kx : KX K mg) : FnOk P w K mg base (CX1 P w) 1 f fd ["_law_feed_here", "_law_many"] (sp1 K 2 mf__law_next) :=
  fn_ok1 (k := 0) Fn sc__law_next (fun cdv A outer s H E hr =>
  (ass_cons (as_if (aet_pu (at_cmp op_gt ok_gt (ao (ap_ix (ix_any (room_u hr)) ok_ixA (ao_peek (i := 0) rfl (by first | exact Or.inl rfl | exact Or.inr (Or.inl rfl) | exact Or.inr (Or.inr rfl))) (ao ap_int) (fun _ _ => rfl))) (ao ap_int) rfl))
    (ass_cons (as_to (sh := [.p, .f, .f, .dead, .dead]) (as_set (i := 2) sc__law_next.nd rfl (by first | exact Or.inl rfl | exact Or.inr rfl) (ae_pu (ap_bin op_mod ok_mod (ao (ap_ix (ix_any (room_u hr)) ok_ixA (ao_peek (i := 0) rfl (by first | exact Or.inl rfl | exact Or.inr (Or.inl rfl) | exact Or.inr (Or.inr rfl))) (ao ap_int) (fun _ _ => rfl))) (ao (av 1)))) rfl (.inl rfl)))
   (ass_cons (as_to (sh := [.p, .dead, .f, .dead, .dead]) (as_put (i := 0) rfl (by first | exact Or.inl rfl | exact Or.inr (Or.inl rfl) | exact Or.inr (Or.inr rfl)) (ae_pu ap_int) (ae_pu (ap_bin op_fdiv ok_div (ao (ap_ix (ix_any (room_u hr)) ok_ixA (ao_peek (i := 0) rfl (by first | exact Or.inl rfl | exact Or.inr (Or.inl rfl) | exact Or.inr (Or.inr rfl))) (ao ap_int) (fun _ _ => rfl))) (ao (av 1)))) (fun _ => rfl) rfl rfl rfl))
   (ass_one (as_ret (ae_pu (av 2))))))
    ass_nil)
   (ass_cons (as_to (sh := [.p, .f, .dead, .f, .dead]) (as_set (i := 3) sc__law_next.nd rfl (by first | exact Or.inl rfl | exact Or.inr rfl) (ae_pu (ap_bin op_addA ok_add (ao (ap_ix (ix_any (room_u hr)) ok_ixA (ao_peek (i := 0) rfl (by first | exact Or.inl rfl | exact Or.inr (Or.inl rfl) | exact Or.inr (Or.inr rfl))) (ao ap_int) (fun _ _ => rfl))) (ao ap_int))) rfl (.inl rfl)))
   (ass_cons (as_to (sh := [.p, .f, .dead, .f, .dead]) (as_put (i := 0) rfl (by first | exact Or.inl rfl | exact Or.inr (Or.inl rfl) | exact Or.inr (Or.inr rfl)) (ae_pu ap_int) (ae_pu (av 3)) (fun _ => rfl) rfl rfl rfl))
   (ass_cons (as_to (sh := [.p, .f, .dead, .f, .f]) (as_set (i := 4) sc__law_next.nd rfl (by first | exact Or.inl rfl | exact Or.inr rfl) (ae_pu (ap_bin op_mod ok_mod (ao (ap_bin op_mul ok_mul (ao (ap_bin op_addA ok_add (ao (ap_bin op_addA ok_add (ao (ap_ix (ix_any (room_u hr)) ok_ixA (ao_peek (i := 0) rfl (by first | exact Or.inl rfl | exact Or.inr (Or.inl rfl) | exact Or.inr (Or.inr rfl))) (ao ap_int) (fun _ _ => rfl))) (ao (ap_bin op_mul ok_mul (ao ap_int) (ao (av 3)))))) (ao ap_int))) (ao (ap_bin op_addA ok_add (ao (ap_bin op_mul ok_mul (ao (av 3)) (ao (av 3)))) (ao ap_int))))) (ao ap_int))) rfl (.inl rfl)))
   (ass_one (as_ret (ae_pu (ap_bin op_mod ok_mod (ao (ap_bin op_fdiv ok_div (ao (ap_bin op_mod ok_mod (ao (ap_bin op_addA ok_add (ao (ap_bin op_mul ok_mul (ao (av 4)) (ao (ap_bin op_addA ok_add (ao (ap_bin op_mod ok_mod (ao (av 4)) (ao ap_int))) (ao ap_int))))) (ao (av 3)))) (ao ap_int))) (ao ap_int))) (ao (av 1)))))))))))
  (fun g ds hl => match ds, hl with | [p_law_many], _ => by kernel_rfl)
theorem ok__law_next {f : Addr} {fd : FuncData} (Fn : Fun K "_law_next" "_law_next" s__law_next f fd) (hmg : mg "_law_next" = some (.ref f)) (B : BN mg) (Kn : KN mg) (Kx : KX K mg) : CF P w K mg base "_law_next" 1 (sp1 K 2 mf__law_next) :=
  ⟨f, fd, ["_law_feed_here", "_law_many"], fn__law_next Fn B Kn Kx, hmg, Fn.kp, (Fn.binds fun _ _ _ _ _ _ us hl => match us, hl with | [_, _], _ => rfl)⟩
abbrev s__law_one : Stmt := top 12
abbrev N__law_one : List Str := ["_law_feed_here", "_law_some"]
theorem sc__law_one : FnScope N__law_one ["_law_feed_here", "_law_some"] (defScope s__law_one) := ⟨rfl, rfl, rfl, by decide +kernel, rfl, by decide +kernel, by decide +kernel⟩
def c__law_one (p_law_feed_here : List D) (p_law_some : D) : M (D × List D) :=
  bd (oM (fLen [p_law_some])) fun x1 => bd (c__law_next p_law_feed_here x1) fun r2 => bd (oM (opIxA p_law_some r2.1)) fun x3 => .ret (x3, r2.2)
def mf__law_one : List D → List D → M (D × List D) := fun p_law_feed_here l => match l with
  | [p_law_some] => c__law_one p_law_feed_here p_law_some
  | _ => .bad
set_option maxHeartbeats 4000000 in
theorem fn__law_one {f : Addr} {fd : FuncData} (Fn : Fun K "_law_one" "_law_one" s__law_one f fd) (B : BN mg) (Kn : KN mg) (Kx : KX K mg) (C__law_next : CF P w K mg base "_law_next" 1 (sp1 K 2 mf__law_next)) : FnOk P w K mg base (CX1 P w) 2 f fd ["_law_feed_here", "_law_some"] (sp1 K 2 mf__law_one) :=
  fn_ok1 (k := 1) Fn sc__law_one (fun cdv A outer s H E hr =>
  (ass_one (as_ret (ae_ix (ix_any (room_u hr)) ok_ixA (ae_pu (av 1)) (ae_fn1 (i := 0) C__law_next (hr.mono (by decide)) rfl rfl (by first | exact Or.inl rfl | exact Or.inr (Or.inl rfl) | exact Or.inr (Or.inr rfl)) (aea_cons (ae_pu (ap_callB call_lenA ok_len rfl B.len PySem.boot_len (aao_cons (ao (av 1)) aao_nil (star_ok rfl)) (by decide) (by decide) rfl rfl)) aea_nil (star_ok rfl)) rfl (by decide) rfl rfl) (fun _ _ => rfl)))))
  (fun g ds hl => match ds, hl with | [p_law_some], _ => by kernel_rfl)
theorem ok__law_one {f : Addr} {fd : FuncData} (Fn : Fun K "_law_one" "_law_one" s__law_one f fd) (hmg : mg "_law_one" = some (.ref f)) (B : BN mg) (Kn : KN mg) (Kx : KX K mg) (C__law_next : CF P w K mg base "_law_next" 1 (sp1 K 2 mf__law_next)) : CF P w K mg base "_law_one" 2 (sp1 K 2 mf__law_one) :=
  ⟨f, fd, ["_law_feed_here", "_law_some"], fn__law_one Fn B Kn Kx C__law_next, hmg, Fn.kp, (Fn.binds fun _ _ _ _ _ _ us hl => match us, hl with | [_, _], _ => rfl)⟩
abbrev s__law_sorts : Stmt := top 13
abbrev N__law_sorts : List Str := ["_law_e", "_law_some"]
theorem sc__law_sorts : FnScope N__law_sorts ["_law_e"] (defScope s__law_sorts) := ⟨rfl, rfl, rfl, by decide +kernel, rfl, by decide +kernel, by decide +kernel⟩
def c__law_sorts (p_law_e : D) : M D :=
  bd (bd (bd (bd (oM (instOf [("NoCrowd", false), ("NoText", true), ("NoMeeting", false), ("NoPaper", false), ("TooMany", false), ("NoLine", false), ("NoRule", false)] p_law_e)) fun b1 => .ret (.bool b1)) fun x2 => bd (bd (oM (instOf [("NoCrowd", false), ("NoText", false), ("NoMeeting", true), ("NoPaper", false), ("TooMany", false), ("NoLine", false), ("NoRule", false)] p_law_e)) fun b3 => .ret (.bool b3)) fun x4 => bd (bd (oM (instOf [("NoCrowd", false), ("NoText", false), ("NoMeeting", false), ("NoPaper", true), ("TooMany", false), ("NoLine", false), ("NoRule", false)] p_law_e)) fun b5 => .ret (.bool b5)) fun x6 => bd (bd (oM (instOf [("NoCrowd", false), ("NoText", false), ("NoMeeting", false), ("NoPaper", false), ("TooMany", true), ("NoLine", false), ("NoRule", false)] p_law_e)) fun b7 => .ret (.bool b7)) fun x8 => .ret [x2, x4, x6, x8]) fun l9 => .ret (PyData.list l9)) fun x10 => bd (bd (bd (bd (bd (oM (instOf [("NoCrowd", false), ("NoText", false), ("NoMeeting", false), ("NoPaper", false), ("TooMany", false), ("NoLine", true), ("NoRule", false)] p_law_e)) fun b11 => .ret (.bool b11)) fun x12 => bd (bd (oM (instOf [("NoCrowd", false), ("NoText", false), ("NoMeeting", false), ("NoPaper", false), ("TooMany", false), ("NoLine", false), ("NoRule", true)] p_law_e)) fun b13 => .ret (.bool b13)) fun x14 => bd (bd (oM (instOf [("NoCrowd", true), ("NoText", false), ("NoMeeting", false), ("NoPaper", false), ("TooMany", false), ("NoLine", false), ("NoRule", false)] p_law_e)) fun b15 => .ret (.bool b15)) fun x16 => .ret [x12, x14, x16]) fun l17 => .ret (PyData.list l17)) fun x18 => oM (opAdd x10 x18)) fun x19 => .ret x19
def mf__law_sorts : List D → M D := fun l => match l with
  | [p_law_e] => c__law_sorts p_law_e
  | _ => .bad
set_option maxHeartbeats 4000000 in
theorem fn__law_sorts {f : Addr} {fd : FuncData} (Fn : Fun K "_law_sorts" "_law_sorts" s__law_sorts f fd) (B : BN mg) (Kn : KN mg) (Kx : KX K mg) : FnOk P w K mg base (CX1 P w) 1 f fd ["_law_e"] (spD K 1 mf__law_sorts) :=
  fn_okD (k := 0) Fn sc__law_sorts (fun cdv A outer s H E hr =>
  (ass_cons (as_to (sh := [.f, .f]) (as_set (i := 1) sc__law_sorts.nd rfl (by first | exact Or.inl rfl | exact Or.inr rfl) (ae_pu (ap_z (al_lst (aa_cons (ap_b (ab_instC Kx.i_NoText rfl B.isinstance rfl (av 0) rfl rfl rfl (by decide))) (aa_cons (ap_b (ab_instC Kx.i_NoMeeting rfl B.isinstance rfl (av 0) rfl rfl rfl (by decide))) (aa_cons (ap_b (ab_instC Kx.i_NoPaper rfl B.isinstance rfl (av 0) rfl rfl rfl (by decide))) (aa_cons (ap_b (ab_instC Kx.i_TooMany rfl B.isinstance rfl (av 0) rfl rfl rfl (by decide))) aa_nil (star_ok rfl)) (star_ok rfl)) (star_ok rfl)) (star_ok rfl)) (by decide +kernel)))) rfl (.inl rfl)))
   (ass_one (as_ret (ae_pu (ap_bin op_addA ok_add (ao (av 1)) (ao (ap_z (al_lst (aa_cons (ap_b (ab_instC Kx.i_NoLine rfl B.isinstance rfl (av 0) rfl rfl rfl (by decide))) (aa_cons (ap_b (ab_instC Kx.i_NoRule rfl B.isinstance rfl (av 0) rfl rfl rfl (by decide))) (aa_cons (ap_b (ab_instC Kx.i_NoCrowd rfl B.isinstance rfl (av 0) rfl rfl rfl (by decide))) aa_nil (star_ok rfl)) (star_ok rfl)) (star_ok rfl)) (by decide +kernel))))))))))
  (fun ds hl => match ds, hl with | [p_law_e], _ => by kernel_rfl)
theorem ok__law_sorts {f : Addr} {fd : FuncData} (Fn : Fun K "_law_sorts" "_law_sorts" s__law_sorts f fd) (hmg : mg "_law_sorts" = some (.ref f)) (B : BN mg) (Kn : KN mg) (Kx : KX K mg) : CF P w K mg base "_law_sorts" 1 (spD K 1 mf__law_sorts) :=
  ⟨f, fd, ["_law_e"], fn__law_sorts Fn B Kn Kx, hmg, Fn.kp, (Fn.binds fun _ _ _ _ _ _ us hl => match us, hl with | [_], _ => rfl)⟩
abbrev s__law_fields : Stmt := top 14
abbrev N__law_fields : List Str := ["_law_e"]
theorem sc__law_fields : FnScope N__law_fields ["_law_e"] (defScope s__law_fields) := ⟨rfl, rfl, rfl, by decide +kernel, rfl, by decide +kernel, by decide +kernel⟩
def c__law_fields (p_law_e : D) : M D :=
  bd (oM (instOf [("NoCrowd", false), ("NoText", true), ("NoMeeting", false), ("NoPaper", false), ("TooMany", false), ("NoLine", false), ("NoRule", false)] p_law_e)) fun b1 => if b1 then
    bd (bd (oM (attOf ["NoText"] "row" p_law_e)) fun x2 => bd (oM (attOf ["NoText", "NoPaper"] "word" p_law_e)) fun x3 => .ret (.tuple [x2, x3])) fun x4 => .ret x4
   else
    bd (oM (instOf [("NoCrowd", false), ("NoText", false), ("NoMeeting", false), ("NoPaper", true), ("TooMany", false), ("NoLine", false), ("NoRule", false)] p_law_e)) fun b5 => if b5 then
    bd (bd (oM (attOf ["NoText", "NoPaper"] "word" p_law_e)) fun x6 => bd (oM (attOf ["NoPaper"] "number" p_law_e)) fun x7 => .ret (.tuple [x6, x7])) fun x8 => .ret x8
   else
    bd (oM (instOf [("NoCrowd", false), ("NoText", false), ("NoMeeting", true), ("NoPaper", false), ("TooMany", false), ("NoLine", false), ("NoRule", false)] p_law_e)) fun b9 => if b9 then
    bd (bd (oM (attOf ["NoMeeting"] "place" p_law_e)) fun x10 => .ret (.tuple [x10])) fun x11 => .ret x11
   else
    bd (bd (oM (instOf [("NoCrowd", false), ("NoText", false), ("NoMeeting", false), ("NoPaper", false), ("TooMany", false), ("NoLine", true), ("NoRule", false)] p_law_e)) fun b13 => if b13 then bd (oM (attOf ["NoLine"] "line" p_law_e)) fun x12 => .ret (.tuple [x12]) else .ret (.tuple [])) fun x14 => .ret x14
def mf__law_fields : List D → M D := fun l => match l with
  | [p_law_e] => c__law_fields p_law_e
  | _ => .bad
set_option maxHeartbeats 4000000 in
theorem fn__law_fields {f : Addr} {fd : FuncData} (Fn : Fun K "_law_fields" "_law_fields" s__law_fields f fd) (B : BN mg) (Kn : KN mg) (Kx : KX K mg) : FnOk P w K mg base (CX1 P w) 1 f fd ["_law_e"] (spD K 1 mf__law_fields) :=
  fn_okD (k := 0) Fn sc__law_fields (fun cdv A outer s H E hr =>
  (ass_cons (as_if (aet_pu (at_b (ab_instC Kx.i_NoText rfl B.isinstance rfl (av 0) rfl rfl rfl (by decide)) (fun _ => rfl)))
    (ass_one (as_ret (ae_pu (ap_tup (aa_cons (ap_att Kx.a_row (av 0) rfl) (aa_cons (ap_att Kx.a_word (av 0) rfl) aa_nil (star_ok rfl)) (star_ok rfl)) (by decide +kernel)))))
    ass_nil)
   (ass_cons (as_if (aet_pu (at_b (ab_instC Kx.i_NoPaper rfl B.isinstance rfl (av 0) rfl rfl rfl (by decide)) (fun _ => rfl)))
    (ass_one (as_ret (ae_pu (ap_tup (aa_cons (ap_att Kx.a_word (av 0) rfl) (aa_cons (ap_att Kx.a_number (av 0) rfl) aa_nil (star_ok rfl)) (star_ok rfl)) (by decide +kernel)))))
    ass_nil)
   (ass_cons (as_if (aet_pu (at_b (ab_instC Kx.i_NoMeeting rfl B.isinstance rfl (av 0) rfl rfl rfl (by decide)) (fun _ => rfl)))
    (ass_one (as_ret (ae_pu (ap_tup (aa_cons (ap_att Kx.a_place (av 0) rfl) aa_nil (star_ok rfl)) (by decide +kernel)))))
    ass_nil)
   (ass_one (as_ret (ae_pu (ap_if (at_b (ab_instC Kx.i_NoLine rfl B.isinstance rfl (av 0) rfl rfl rfl (by decide)) (fun _ => rfl)) (ap_tup (aa_cons (ap_att Kx.a_line (av 0) rfl) aa_nil (star_ok rfl)) (by decide +kernel)) (ap_tup aa_nil (by decide +kernel))))))))))
  (fun ds hl => match ds, hl with | [p_law_e], _ => by kernel_rfl)
theorem ok__law_fields {f : Addr} {fd : FuncData} (Fn : Fun K "_law_fields" "_law_fields" s__law_fields f fd) (hmg : mg "_law_fields" = some (.ref f)) (B : BN mg) (Kn : KN mg) (Kx : KX K mg) : CF P w K mg base "_law_fields" 1 (spD K 1 mf__law_fields) :=
  ⟨f, fd, ["_law_e"], fn__law_fields Fn B Kn Kx, hmg, Fn.kp, (Fn.binds fun _ _ _ _ _ _ us hl => match us, hl with | [_], _ => rfl)⟩
abbrev s__law_raised : Stmt := top 15
abbrev N__law_raised : List Str := ["_law_k", "_law_number", "_law_more", "_law_text", "_law_caught", "_law_e"]
theorem sc__law_raised : FnScope N__law_raised ["_law_k", "_law_number", "_law_more", "_law_text"] (defScope s__law_raised) := ⟨rfl, rfl, rfl, by decide +kernel, rfl, by decide +kernel, by decide +kernel⟩
def c__law_raised_j1 (v_law_caught : D) : M D :=
  .ret v_law_caught
def c__law_raised (p_law_k : D) (p_law_number : D) (p_law_more : D) (p_law_text : D) : M D :=
  tryE (A := Unit) (B := Unit) (onX (fun e_ => .ret (.inr (e_, (())))) (oM (opEq p_law_k (.int 0))) fun b1 => if b1 then
    .ret (.inr (⟨"NoText", [("row", p_law_number), ("word", p_law_more)]⟩, (())))
   else
    onX (fun e_ => .ret (.inr (e_, (())))) (oM (opEq p_law_k (.int 1))) fun b2 => if b2 then
    .ret (.inr (⟨"NoMeeting", [("place", p_law_number)]⟩, (())))
   else
    onX (fun e_ => .ret (.inr (e_, (())))) (oM (opEq p_law_k (.int 2))) fun b3 => if b3 then
    .ret (.inr (⟨"NoPaper", [("word", p_law_text), ("number", p_law_more)]⟩, (())))
   else
    onX (fun e_ => .ret (.inr (e_, (())))) (oM (opEq p_law_k (.int 3))) fun b4 => if b4 then
    .ret (.inr (⟨"TooMany", []⟩, (())))
   else
    onX (fun e_ => .ret (.inr (e_, (())))) (oM (opEq p_law_k (.int 4))) fun b5 => if b5 then
    .ret (.inr (⟨"NoLine", [("line", p_law_text)]⟩, (())))
   else
    onX (fun e_ => .ret (.inr (e_, (())))) (oM (opEq p_law_k (.int 5))) fun b6 => if b6 then
    .ret (.inr (⟨"NoRule", []⟩, (())))
   else
    .ret (.inr (⟨"NoCrowd", []⟩, (())))) (fun s9 => .bad) (fun e7 s8 => onCls ["NoCrowd", "NoText", "NoMeeting", "NoPaper", "TooMany", "NoLine", "NoRule"] e7.cls (c__law_raised_j1 (encX e7)))
def mf__law_raised : List D → M D := fun l => match l with
  | [p_law_k, p_law_number, p_law_more, p_law_text] => c__law_raised p_law_k p_law_number p_law_more p_law_text
  | _ => .bad
set_option maxHeartbeats 4000000 in
theorem fn__law_raised {f : Addr} {fd : FuncData} (Fn : Fun K "_law_raised" "_law_raised" s__law_raised f fd) (B : BN mg) (Kn : KN mg) (Kx : KX K mg) (X_NoCrowd : CCl P w K mg base "NoCrowd" 1 []) (X_NoText : CCl P w K mg base "NoText" 1 ["row", "word"]) (X_NoMeeting : CCl P w K mg base "NoMeeting" 1 ["place"]) (X_NoPaper : CCl P w K mg base "NoPaper" 1 ["word", "number"]) (X_TooMany : CCl P w K mg base "TooMany" 1 []) (X_NoLine : CCl P w K mg base "NoLine" 1 ["line"]) (X_NoRule : CCl P w K mg base "NoRule" 1 []) : FnOk P w K mg base (CX1 P w) 3 f fd ["_law_k", "_law_number", "_law_more", "_law_text"] (spD K 4 mf__law_raised) :=
  fn_okD (k := 2) Fn sc__law_raised (fun cdv A outer s H E hr =>
  (ass_cons (as_to (sh := [.f, .f, .f, .f, .dead, .dead]) (as_set (i := 4) sc__law_raised.nd rfl (by first | exact Or.inl rfl | exact Or.inr rfl) (ae_pu ap_non) rfl (.inl rfl)))
   (ass_cons (as_to (sh := [.dead, .dead, .dead, .dead, .f, .dead]) (as_tryC (j := 5) (sh := [.dead, .dead, .dead, .dead, .dead, .dead]) (shx := [.dead, .dead, .dead, .dead, .dead, .dead]) Kx.h_PassError rfl (fun _ _ => (ass_cons (as_if (aet_pu (at_cmp (opr_eq (room_u hr)) ok_D2 (ao (av 0)) (ao ap_int) rfl))
    (ass_one (as_raise X_NoText (hr.mono (by decide)) rfl (aea_cons (ae_pu (av 1)) (aea_cons (ae_pu (av 2)) aea_nil (star_ok rfl)) (star_ok rfl)) rfl (by decide) (by decide) (star_ok rfl) rfl))
    ass_nil)
   (ass_cons (as_if (aet_pu (at_cmp (opr_eq (room_u hr)) ok_D2 (ao (av 0)) (ao ap_int) rfl))
    (ass_one (as_raise X_NoMeeting (hr.mono (by decide)) rfl (aea_cons (ae_pu (av 1)) aea_nil (star_ok rfl)) rfl (by decide) (by decide) (star_ok rfl) rfl))
    ass_nil)
   (ass_cons (as_if (aet_pu (at_cmp (opr_eq (room_u hr)) ok_D2 (ao (av 0)) (ao ap_int) rfl))
    (ass_one (as_raise X_NoPaper (hr.mono (by decide)) rfl (aea_cons (ae_pu (av 3)) (aea_cons (ae_pu (av 2)) aea_nil (star_ok rfl)) (star_ok rfl)) rfl (by decide) (by decide) (star_ok rfl) rfl))
    ass_nil)
   (ass_cons (as_if (aet_pu (at_cmp (opr_eq (room_u hr)) ok_D2 (ao (av 0)) (ao ap_int) rfl))
    (ass_one (as_raise0 X_TooMany (hr.mono (by decide)) rfl (by decide)))
    ass_nil)
   (ass_cons (as_if (aet_pu (at_cmp (opr_eq (room_u hr)) ok_D2 (ao (av 0)) (ao ap_int) rfl))
    (ass_one (as_raise X_NoLine (hr.mono (by decide)) rfl (aea_cons (ae_pu (av 3)) aea_nil (star_ok rfl)) rfl (by decide) (by decide) (star_ok rfl) rfl))
    ass_nil)
   (ass_cons (as_if (aet_pu (at_cmp (opr_eq (room_u hr)) ok_D2 (ao (av 0)) (ao ap_int) rfl))
    (ass_one (as_raise0 X_NoRule (hr.mono (by decide)) rfl (by decide)))
    ass_nil)
   (ass_one (as_raise0 X_NoCrowd (hr.mono (by decide)) rfl (by decide)))))))))) (fun _ => (ass_one (as_set (i := 4) sc__law_raised.nd rfl (by first | exact Or.inl rfl | exact Or.inr rfl) (ae_pu (av 5)) rfl (.inl rfl)))) (by decide) sc__law_raised.nd rfl rfl rfl rfl (by decide)))
   (ass_one (as_ret (ae_pu (av 4)))))))
  (fun ds hl => match ds, hl with | [p_law_k, p_law_number, p_law_more, p_law_text], _ => by kernel_rfl)
theorem ok__law_raised {f : Addr} {fd : FuncData} (Fn : Fun K "_law_raised" "_law_raised" s__law_raised f fd) (hmg : mg "_law_raised" = some (.ref f)) (B : BN mg) (Kn : KN mg) (Kx : KX K mg) (X_NoCrowd : CCl P w K mg base "NoCrowd" 1 []) (X_NoText : CCl P w K mg base "NoText" 1 ["row", "word"]) (X_NoMeeting : CCl P w K mg base "NoMeeting" 1 ["place"]) (X_NoPaper : CCl P w K mg base "NoPaper" 1 ["word", "number"]) (X_TooMany : CCl P w K mg base "TooMany" 1 []) (X_NoLine : CCl P w K mg base "NoLine" 1 ["line"]) (X_NoRule : CCl P w K mg base "NoRule" 1 []) : CF P w K mg base "_law_raised" 3 (spD K 4 mf__law_raised) :=
  ⟨f, fd, ["_law_k", "_law_number", "_law_more", "_law_text"], fn__law_raised Fn B Kn Kx X_NoCrowd X_NoText X_NoMeeting X_NoPaper X_TooMany X_NoLine X_NoRule, hmg, Fn.kp, (Fn.binds fun _ _ _ _ _ _ us hl => match us, hl with | [_, _, _, _], _ => rfl)⟩
abbrev s_law : Stmt := top 16
abbrev N_law : List Str := ["_law_script", "_law_feed_here", "_law_number", "_law_more", "_law_text", "_law_due", "_law_k", "_law_caught"]
theorem sc_law : FnScope N_law ["_law_script"] (defScope s_law) := ⟨rfl, rfl, rfl, by decide +kernel, rfl, by decide +kernel, by decide +kernel⟩
abbrev N_law_0 : List Str := ["_law_script", "_law_feed_here", "_law_number", "_law_more", "_law_text", "_law_due", "_law_k", "_law_caught", "_law_j"]
theorem nd_N_law_0 : N_law_0.Nodup := by decide +kernel
def c_law_r2 (v_law_number : D) (v_law_more : D) (v_law_text : D) (v_law_due : D) : M D :=
  .ret (.bool true)
def c_law_s1 (v_law_number : D) (v_law_more : D) (v_law_text : D) (v_law_due : D) (d_ : D) (kn6 : D × D × D × D × Unit → M D) : M D :=
  bd (c__law_raised d_ v_law_number v_law_more v_law_text) fun x7 => bd (bd (bd (oM (instOf [("NoCrowd", true), ("NoText", true), ("NoMeeting", true), ("NoPaper", true), ("TooMany", true), ("NoLine", true), ("NoRule", true)] x7)) fun b8 => .ret (!b8)) fun b11 => if b11 then .ret true else bd (c__law_fields x7) fun x9 => bd (oM (opIxA v_law_due d_)) fun x10 => oM (opNe x9 x10)) fun b12 => if b12 then
    .ret (.bool false)
   else
    bd (bd (c__law_sorts x7) fun x18 => bd (bd (bd (oM (fRange1 [(.int 7)])) fun l16 => bd (compC (fun d13 => bd (bd (oM (opEq d13 d_)) fun b14 => .ret (.bool b14)) fun x15 => .ret (some x15)) l16) fitM) fun l17 => .ret (PyData.list l17)) fun x19 => oM (opNe x18 x19)) fun b20 => if b20 then
    .ret (.bool false)
   else
    kn6 (v_law_number, v_law_more, v_law_text, v_law_due, ())
def c_law (p_law_script : D) : M D :=
  bd (c__law_feed p_law_script (.int 0)) fun l1 => bd (c__law_next l1 (.int 400)) fun r2 => bd (c__law_next r2.2 (.int 400)) fun r3 => bd (c__law_one r3.2 (PyData.list [(.str "shape"), (.str "way"), (.str ""), (.str "meet 3"), (.str "closed")])) fun r4 => bd (oM (fRange1 [(.int 7)])) fun l5 => forS (fun s21 d22 kn => c_law_s1 s21.1 s21.2.1 s21.2.2.1 s21.2.2.2.1 d22 kn) l5 (r2.1, r3.1, r4.1, (PyData.list [(.tuple [r2.1, r3.1]), (.tuple [r2.1]), (.tuple [r4.1, r3.1]), (.tuple []), (.tuple [r4.1]), (.tuple []), (.tuple [])]), ()) (fun s21 => c_law_r2 s21.1 s21.2.1 s21.2.2.1 s21.2.2.2.1)
def mf_law : List D → M D := fun l => match l with
  | [p_law_script] => c_law p_law_script
  | _ => .bad
set_option maxHeartbeats 4000000 in
theorem fn_law {f : Addr} {fd : FuncData} (Fn : Fun K "law" "law" s_law f fd) (B : BN mg) (Kn : KN mg) (Kx : KX K mg) (C__law_feed : CF P w K mg base "_law_feed" 1 (spL K 2 mf__law_feed)) (C__law_one : CF P w K mg base "_law_one" 2 (sp1 K 2 mf__law_one)) (C__law_next : CF P w K mg base "_law_next" 1 (sp1 K 2 mf__law_next)) (C__law_raised : CF P w K mg base "_law_raised" 3 (spD K 4 mf__law_raised)) (C__law_sorts : CF P w K mg base "_law_sorts" 1 (spD K 1 mf__law_sorts)) (C__law_fields : CF P w K mg base "_law_fields" 1 (spD K 1 mf__law_fields)) : FnOk P w K mg base (CX1 P w) 4 f fd ["_law_script"] (spD K 1 mf_law) :=
  fn_okD (k := 3) Fn sc_law (fun cdv A outer s H E hr =>
  (ass_cons (as_to (sh := [.dead, .o, .dead, .dead, .dead, .dead, .dead, .dead]) (as_setL (i := 1) sc_law.nd rfl (by first | exact Or.inl rfl | exact Or.inr rfl) (ael_pu (al_fn C__law_feed (hr.mono (by decide)) rfl (aa_cons (av 0) (aa_cons ap_int aa_nil (star_ok rfl)) (star_ok rfl)) rfl (by decide) rfl rfl)) rfl (.inl rfl)))
   (ass_cons (as_to (sh := [.dead, .o, .f, .f, .dead, .dead, .dead, .dead]) (as_par (i := 2) (j := 3) rfl sc_law.nd rfl rfl (by decide) rfl rfl (aea_cons (ae_fn1 (i := 1) C__law_next (hr.mono (by decide)) rfl rfl (by first | exact Or.inl rfl | exact Or.inr (Or.inl rfl) | exact Or.inr (Or.inr rfl)) (aea_cons (ae_pu ap_int) aea_nil (star_ok rfl)) rfl (by decide) rfl rfl) (aea_cons (ae_fn1 (i := 1) C__law_next (hr.mono (by decide)) rfl rfl (by first | exact Or.inl rfl | exact Or.inr (Or.inl rfl) | exact Or.inr (Or.inr rfl)) (aea_cons (ae_pu ap_int) aea_nil (star_ok rfl)) rfl (by decide) rfl rfl) aea_nil (star_ok rfl)) (star_ok rfl)) rfl rfl))
   (ass_cons (as_to (sh := [.dead, .dead, .f, .f, .f, .dead, .dead, .dead]) (as_set (i := 4) sc_law.nd rfl (by first | exact Or.inl rfl | exact Or.inr rfl) (ae_fn1 (i := 1) C__law_one (hr.mono (by decide)) rfl rfl (by first | exact Or.inl rfl | exact Or.inr (Or.inl rfl) | exact Or.inr (Or.inr rfl)) (aea_cons (ae_pu (ap_z (al_lst (aa_cons ap_str (aa_cons ap_str (aa_cons ap_str (aa_cons ap_str (aa_cons ap_str aa_nil (star_ok rfl)) (star_ok rfl)) (star_ok rfl)) (star_ok rfl)) (star_ok rfl)) (by decide +kernel)))) aea_nil (star_ok rfl)) rfl (by decide) rfl rfl) rfl (.inl rfl)))
   (ass_cons (as_to (sh := [.dead, .dead, .f, .f, .f, .f, .dead, .dead]) (as_set (i := 5) sc_law.nd rfl (by first | exact Or.inl rfl | exact Or.inr rfl) (ae_pu (ap_z (al_lst (aa_cons (ap_tup (aa_cons (av 2) (aa_cons (av 3) aa_nil (star_ok rfl)) (star_ok rfl)) (by decide +kernel)) (aa_cons (ap_tup (aa_cons (av 2) aa_nil (star_ok rfl)) (by decide +kernel)) (aa_cons (ap_tup (aa_cons (av 4) (aa_cons (av 3) aa_nil (star_ok rfl)) (star_ok rfl)) (by decide +kernel)) (aa_cons (ap_tup aa_nil (by decide +kernel)) (aa_cons (ap_tup (aa_cons (av 4) aa_nil (star_ok rfl)) (by decide +kernel)) (aa_cons (ap_tup aa_nil (by decide +kernel)) (aa_cons (ap_tup aa_nil (by decide +kernel)) aa_nil (star_ok rfl)) (star_ok rfl)) (star_ok rfl)) (star_ok rfl)) (star_ok rfl)) (star_ok rfl)) (star_ok rfl)) (by decide +kernel)))) rfl (.inl rfl)))
   (ass_cons (as_forS (sh := [.dead, .dead, .f, .f, .f, .f, .dead, .dead]) PassesOwn.leaving rfl (aei_pu (ai_range1 rfl B.range (aa_cons ap_int aa_nil (star_ok rfl)) rfl)) (ag_name (i := 6) (Nat.zero_le _) sc_law.nd rfl (by first | exact Or.inl rfl | exact Or.inr rfl) (.inl rfl))
    (ass_cons (as_to (sh := [.dead, .dead, .f, .f, .f, .f, .f, .f]) (as_set (i := 7) sc_law.nd rfl (by first | exact Or.inl rfl | exact Or.inr rfl) (ae_pu (ap_fn C__law_raised (hr.mono (by decide)) rfl (aa_cons (av 6) (aa_cons (av 2) (aa_cons (av 3) (aa_cons (av 4) aa_nil (star_ok rfl)) (star_ok rfl)) (star_ok rfl)) (star_ok rfl)) rfl (by decide) rfl rfl)) rfl (.inl rfl)))
   (ass_cons (as_if (aet_pu (at_aw (aw_or (at_not (at_b (ab_instV Kx.i_ValueError rfl B.ValueError (by decide +kernel) B.isinstance rfl (av 7) rfl rfl rfl (by decide) (by decide)) (fun _ => rfl))) (aw_or1 (at_cmp (opr_ne (room_u hr)) ok_D2 (ao (ap_fn C__law_fields (hr.mono (by decide)) rfl (aa_cons (av 7) aa_nil (star_ok rfl)) rfl (by decide) rfl rfl)) (ao (ap_ix (ix_any (room_u hr)) ok_ixA (ao (av 5)) (ao (av 6)) (fun _ _ => rfl))) rfl)))))
    (ass_one (as_ret (ae_pu ap_bl)))
    ass_nil)
   (ass_one (as_if (aet_pu (at_cmp (opr_ne (room_u hr)) ok_D2 (ao (ap_fn C__law_sorts (hr.mono (by decide)) rfl (aa_cons (av 7) aa_nil (star_ok rfl)) rfl (by decide) rfl rfl)) (ao (ap_z (al_comp (N' := N_law_0) (k := 1) rfl (compOk_of (N := N_law) (sc := (defScope s_law)) (by decide +kernel) rfl rfl) (ai_range1 rfl B.range (aa_cons ap_int aa_nil (star_ok rfl)) rfl) (fun cl s' H' fp C' => (ag_name (i := 8) (show 8 ≤ 8 by decide) nd_N_law_0 rfl (by first | exact Or.inl rfl | exact Or.inr rfl) (.inr rfl))) (fun cl s' H' fp C' => ats_nil) (fun cl s' H' fp C' => (ap_b (ab_cmp (opr_eq (room_u hr)) ok_D2 (ao (av 8)) (ao (av 6)) rfl))) (fun _ => rfl)))) rfl))
    (ass_one (as_ret (ae_pu ap_bl)))
    ass_nil)))) (fun _ => rfl))
   (ass_one (as_ret (ae_pu ap_bl)))))))))
  (fun ds hl => match ds, hl with | [p_law_script], _ => by kernel_rfl)
theorem ok_law {f : Addr} {fd : FuncData} (Fn : Fun K "law" "law" s_law f fd) (hmg : mg "law" = some (.ref f)) (B : BN mg) (Kn : KN mg) (Kx : KX K mg) (C__law_feed : CF P w K mg base "_law_feed" 1 (spL K 2 mf__law_feed)) (C__law_one : CF P w K mg base "_law_one" 2 (sp1 K 2 mf__law_one)) (C__law_next : CF P w K mg base "_law_next" 1 (sp1 K 2 mf__law_next)) (C__law_raised : CF P w K mg base "_law_raised" 3 (spD K 4 mf__law_raised)) (C__law_sorts : CF P w K mg base "_law_sorts" 1 (spD K 1 mf__law_sorts)) (C__law_fields : CF P w K mg base "_law_fields" 1 (spD K 1 mf__law_fields)) : CF P w K mg base "law" 4 (spD K 1 mf_law) :=
  ⟨f, fd, ["_law_script"], fn_law Fn B Kn Kx C__law_feed C__law_one C__law_next C__law_raised C__law_sorts C__law_fields, hmg, Fn.kp, (Fn.binds fun _ _ _ _ _ _ us hl => match us, hl with | [_], _ => rfl)⟩
end
end
end K18
set_option Elab.async false
set_option linter.all false
set_option maxRecDepth 100000
namespace L4
open PySem PySem.Spec PyProof.Rows L2 L3
theorem bdR {S T : Type} (s : S) (k : S → M T) : bd (.ret s) k = k s := id rfl
theorem oMS {S : Type} (s : S) : oM (some s) = .ret s := id rfl
theorem atI_nat {α : Type} (xs : List α) (i : Nat) (h : i < xs.length) : atI xs (i : Int) = some (xs[i]'h) := by
  unfold atI ixN
  rw [if_pos (Int.natCast_nonneg _), if_pos (by omega)]
  simp [h]
theorem atI_ok {α : Type} (xs : List α) (i : Int) (h0 : 0 ≤ i) (h : i < xs.length) : ∃ x ∈ xs, atI xs i = some x := by
  obtain ⟨n, rfl⟩ := Int.eq_ofNat_of_zero_le h0
  exact ⟨_, List.getElem_mem _, atI_nat xs n (by omega)⟩
def wordOk (s : Str) : Bool := PyData.strOk s && decide ((reprText s).length ≤ 24) && PyData.strOk (reprText s)
def Ok (k : Nat) : Nat → D → Prop
  | 0, _ => False
  | _ + 1, .none => True
  | _ + 1, .bool _ => True
  | _ + 1, .int i => i.natAbs < 10 ^ (16 + k)
  | _ + 1, .str s => wordOk s = true
  | n + 1, .list ds => ds.length ≤ 6 + k ∧ ∀ d ∈ ds, Ok k n d
  | n + 1, .tuple ds => ds.length ≤ 6 + k ∧ ∀ d ∈ ds, Ok k n d
  | _ + 1, .dict _ => False
def lim : Nat → Nat
  | 0 => 24
  | n + 1 => 4 + 9 * (lim n + 2)
end L4
set_option Elab.async false
set_option linter.all false
set_option maxRecDepth 100000
namespace L4
open PySem PySem.Spec PyProof.Rows L2 L3
theorem gtI (a b : Int) : opGt (.int a) (.int b) = some (decide (b < a)) := id rfl
theorem geI (a b : Int) : opGe (.int a) (.int b) = some (decide (b ≤ a)) := id rfl
theorem addI (a b : Int) : opAdd (.int a) (.int b) = some (.int (a + b)) := id rfl
theorem modI (i j : Int) (h : 0 < j) : opMod (.int i) (.int j) = some (.int (i % j)) := if_pos h
theorem divI (i j : Int) (h : 0 < j) (h2 : j < 1073741824) : opDiv (.int i) (.int j) = some (.int (i / j)) := if_pos (by simp [h, h2])
theorem mulL (i j : Int) (h : -(2 ^ 64) < i) (h2 : i < 2 ^ 64) : opMulI (.int i) (.int j) = some (.int (i * j)) := if_pos (by simp only [mulOk, Bool.or_eq_true, Bool.and_eq_true, decide_eq_true_eq]; exact .inl ⟨h, h2⟩)
theorem mulR (i j : Int) (h : -(2 ^ 64) < j) (h2 : j < 2 ^ 64) : opMulI (.int i) (.int j) = some (.int (i * j)) := if_pos (by simp only [mulOk, Bool.or_eq_true, Bool.and_eq_true, decide_eq_true_eq]; exact .inr ⟨h, h2⟩)
theorem lenL (ds : List D) : fLen [.list ds] = some (.int ds.length) := id rfl
theorem ix3_0 (a b c : D) : opIx (.list [a, b, c]) (.int 0) = some a := id rfl
theorem ix3_1 (a b c : D) : opIx (.list [a, b, c]) (.int 1) = some b := id rfl
theorem ix3_2 (a b c : D) : opIx (.list [a, b, c]) (.int 2) = some c := id rfl
theorem put3_0 (a b c d : D) : putD [a, b, c] (.int 0) d = some [d, b, c] := id rfl
theorem put3_2 (a b c d : D) : putD [a, b, c] (.int 2) d = some [a, b, d] := id rfl
def sW (lo hi : Int) : D → Bool
  | .int i => decide (lo ≤ i) && decide (i ≤ hi)
  | _ => false
def sS (w : Str) : D → Bool
  | .str s => s == w
  | _ => false
def Ey (d : D) : Prop := d.canLay0 = true ∧ d.depth ≤ 1000
end L4
set_option Elab.async false
set_option linter.all false
set_option maxRecDepth 100000
namespace L4
open PySem PySem.Spec PyProof.Rows L2 L3
theorem forC_pre {S T ι : Type} {step : T → D → (T → M S) → M S} {e : ι → D} {F : List ι → T} {k : T → M S} : ∀ (is pre : List ι),
    (∀ p i q, is = p ++ i :: q → ∀ kn : T → M S, step (F (pre ++ p)) (e i) kn = kn (F (pre ++ p ++ [i]))) → forC step (is.map e) (F pre) k = k (F (pre ++ is))
  | [], pre, _ => by simp [forC]
  | i :: r, pre, h => by
    show step (F pre) (e i) _ = _
    have h0 := h [] i r rfl (fun s' => forC step (r.map e) s' k)
    rw [List.append_nil] at h0
    rw [h0]
    have := forC_pre (step := step) (e := e) (F := F) (k := k) r (pre ++ [i]) fun p j q hq kn => by
      have := h (i :: p) j q (by rw [hq]; rfl) kn
      simpa using this
    rw [this]
    simp
theorem forS_pre {S T ι : Type} {step : T → D → (T → M S) → M S} {e : ι → D} {F : List ι → T} {k : T → M S} (is : List ι)
    (h : ∀ p i q, is = p ++ i :: q → ∀ kn : T → M S, step (F p) (e i) kn = kn (F (p ++ [i]))) : forS step (is.map e) (F []) k = k (F is) := by
  rw [forS_is]
  have := forC_pre (step := step) (e := e) (F := F) (k := k) is [] (by simpa using h)
  simpa using this
abbrev iN (n : Nat) : D := .int (n : Int)
def rng (lo hi : Nat) : List Nat := (List.range (hi - lo)).map (lo + ·)
theorem rangeD_nat (lo n : Nat) : rangeD (lo : Int) n = ((List.range n).map (lo + ·)).map iN := by
  unfold rangeD
  rw [List.map_map]
  apply List.map_congr_left
  intro a _
  show PyData.int _ = PyData.int _
  congr 1
theorem small_nat {n : Nat} (h : n ≤ 100000) : small62 (n : Int) = true := by
  unfold small62
  simp only [Bool.and_eq_true, decide_eq_true_eq]
  omega
theorem range1N (n : Nat) (h : n ≤ 100000) : fRange1 [.int (n : Int)] = some ((List.range n).map iN) := by
  unfold fRange1
  simp only [small_nat h, if_true]
  have := rangeD_nat 0 n
  simp only [Int.toNat_natCast]
  rw [show (0 : Int) = ((0 : Nat) : Int) from rfl, this]
  simp
mutual
def sz : D → Nat
  | .list ds => 1 + szs ds
  | .tuple ds => 1 + szs ds
  | .none => 1
  | .bool _ => 1
  | .int _ => 1
  | .str _ => 1
  | .dict _ => 1
def szs : List D → Nat
  | [] => 0
  | d :: r => sz d + szs r
end
mutual
def Sm : D → Prop
  | .list ds => Sms ds
  | .tuple ds => Sms ds
  | .none => True
  | .bool _ => True
  | .int i => i.natAbs < 10 ^ 19
  | .str s => wordOk s = true
  | .dict _ => False
def Sms : List D → Prop
  | [] => True
  | d :: r => Sm d ∧ Sms r
end
end L4
set_option Elab.async false
set_option linter.all false
set_option maxRecDepth 100000
namespace L4
open PySem PySem.Spec PyProof.Rows L2 L3
theorem ixA_L (ds : List D) (k : D) : opIxA (.list ds) k = opIx (.list ds) k := id rfl
theorem inA_L (d : D) (ds : List D) : opInA d (.list ds) = opIn d (.list ds) := id rfl
theorem inA_T (d : D) (ds : List D) : opInA d (.tuple ds) = opIn d (.tuple ds) := id rfl
abbrev pD (p : Nat × Nat) : D := .tuple [iN p.1, iN p.2]
abbrev Mt := Nat × Nat × Nat × Nat
abbrev mD (m : Mt) : D := .tuple [iN m.1, iN m.2.1, iN m.2.2.1, iN m.2.2.2]
structure Rl where
  n : Nat
  st : List Nat
  ms : List Mt
  sy : List Bool
abbrev Rl.d (r : Rl) : D := .tuple [iN r.n, .tuple (r.st.map iN), .tuple (r.ms.map mD), .tuple (r.sy.map PyData.bool)]
def plt (p q : Nat × Nat) : Prop := p.1 < q.1 ∨ p.1 = q.1 ∧ p.2 < q.2
structure MtOk (n : Nat) (m : Mt) : Prop where
  ab : m.1 ≤ m.2.1
  b : m.2.1 < n
  c : m.2.2.1 < n
  d : m.2.2.2 < n
  ne : m.2.2 ≠ (m.1, m.2.1)
  ne' : m.2.2 ≠ (m.2.1, m.1)
structure Wf (r : Rl) : Prop where
  n1 : 1 ≤ r.n
  st : ∀ s ∈ r.st, s < r.n
  sy : r.sy.length = r.n
  ms : ∀ m ∈ r.ms, MtOk r.n m
  so : r.ms.Pairwise fun m m' => plt (m.1, m.2.1) (m'.1, m'.2.1)
def look (ms : List Mt) (p : Nat × Nat) : Option (Nat × Nat) := (ms.find? fun m => decide (m.1 = p.1) && decide (m.2.1 = p.2)).map (·.2.2)
def turn (ms : List Mt) (i j : Nat) : Nat × Nat := if i ≤ j then (look ms (i, j)).getD (i, j) else let t := (look ms (j, i)).getD (j, i); (t.2, t.1)
end L4
set_option Elab.async false
set_option linter.all false
set_option maxRecDepth 100000
namespace L4
open PySem PySem.Spec PyProof.Rows L2 L3
abbrev kvM (m : Mt) : D × D := (pD (m.1, m.2.1), pD m.2.2)
theorem isKey_pD (p : Nat × Nat) : isKeyT (pD p) = true := id rfl
theorem isKeyK_pD (p : Nat × Nat) : isKeyK (pD p) = false := id rfl
structure Ahd (n a b : Nat) (ms : List Mt) : Prop where
  ok : ∀ m ∈ ms, MtOk n m
  so : ms.Pairwise fun m m' => plt (m.1, m.2.1) (m'.1, m'.2.1)
  ah : ∀ m ∈ ms, plt (m.1, m.2.1) (a, b)
  le : ms.length ≤ a * n + b
end L4
set_option Elab.async false
set_option linter.all false
set_option maxRecDepth 100000
namespace K18
open PySem PySem.Spec PyProof.Rows L2 L3 L4
def Fd (T : Nat) (f : List D) : Prop := ∃ a b t : Int, f = [.int a, .int b, .int t] ∧ 0 ≤ t ∧ t ≤ T
theorem Fd.le {T T' : Nat} {f : List D} (h : Fd T f) (hl : T ≤ T') : Fd T' f := by
  obtain ⟨a, b, t, e, h0, h1⟩ := h
  exact ⟨a, b, t, e, h0, by omega⟩
theorem next_okI {T : Nat} {f : List D} {m : Int} (h : Fd T f) (hT : T ≤ 1000000) (hm : 0 < m) (hm2 : m < 1073741824) :
    ∃ (r : Int) (f' : List D), c__law_next f (.int m) = .ret (.int r, f') ∧ 0 ≤ r ∧ r < m ∧ Fd (T + 1) f' := by
  obtain ⟨a, b, t, rfl, h0, h1⟩ := h
  unfold c__law_next
  simp only [ixA_L]
  rw [L4.ix3_0, oMS, bdR, L4.gtI, oMS, bdR]
  by_cases ha : 0 < a
  · simp only [ha, decide_true, if_true]
    simp only [oMS, bdR, L4.modI _ _ hm, L4.divI _ _ hm hm2, L4.put3_0]
    exact ⟨_, _, rfl, Int.emod_nonneg _ (by omega), Int.emod_lt_of_pos _ hm, _, _, _, rfl, h0, by omega⟩
  · simp only [ha, decide_false]
    rw [if_neg (by decide)]
    simp only [oMS, bdR, L4.ix3_2, L4.ix3_1, L4.put3_2, L4.addI]
    rw [L4.mulL 41 _ (by decide) (by decide), L4.mulL (t + 1) (t + 1) (by omega) (by omega)]
    simp only [oMS, bdR, L4.addI]
    have tb : (t + 1) * (t + 1) ≤ 1000001 * 1000001 := Int.mul_le_mul (by omega) (by omega) (by omega) (by omega)
    have tb0 : 0 ≤ (t + 1) * (t + 1) := Int.mul_nonneg (by omega) (by omega)
    rw [L4.mulR _ ((t + 1) * (t + 1) + 69621) (by omega) (by omega)]
    simp only [oMS, bdR]
    rw [L4.modI _ _ (by decide)]
    simp only [oMS, bdR]
    rw [L4.modI _ _ (by decide)]
    simp only [oMS, bdR, L4.addI]
    have g1 := Int.emod_nonneg ((b + 41 * (t + 1) + 3) * ((t + 1) * (t + 1) + 69621)) (b := (998244353 : Int)) (by decide)
    have g2 := Int.emod_lt_of_pos ((b + 41 * (t + 1) + 3) * ((t + 1) * (t + 1) + 69621)) (b := (998244353 : Int)) (by decide)
    rw [L4.mulL _ _ (by omega) (by omega)]
    simp only [oMS, bdR, L4.addI]
    rw [L4.modI _ _ (by decide)]
    simp only [oMS, bdR]
    rw [L4.divI _ _ (by decide) (by decide)]
    simp only [oMS, bdR]
    rw [L4.modI _ _ hm]
    exact ⟨_, _, rfl, Int.emod_nonneg _ (by omega), Int.emod_lt_of_pos _ hm, _, _, _, rfl, by omega, by omega⟩
theorem next_ok {T : Nat} {f : List D} {m : Nat} (h : Fd T f) (hT : T ≤ 1000000) (hm : 0 < m) (hm2 : m ≤ 1000000000) :
    ∃ (r : Nat) (f' : List D), c__law_next f (.int (m : Int)) = .ret (iN r, f') ∧ r < m ∧ Fd (T + 1) f' := by
  obtain ⟨r, f', e, h1, h2, h3⟩ := next_okI h hT (m := (m : Int)) (by omega) (by omega)
  obtain ⟨n, rfl⟩ := Int.eq_ofNat_of_zero_le h1
  exact ⟨n, f', e, by omega, h3⟩
theorem feed_ok (ns : List Int) (k : Int) (hn : ns.length ≤ 63) : ∃ f, c__law_feed (.list (ns.map PyData.int)) (.int k) = .ret f ∧ Fd 0 f := by
  unfold c__law_feed
  simp only [ixA_L]
  have e1 : fLen [.list (ns.map PyData.int)] = some (.int ns.length) := by rw [L4.lenL, List.length_map]
  have p18 : opPow (.int 10) (.int 18) = some (.int 1000000000000000000) := id rfl
  have tail : ∀ c : Int, ∃ f, (bd (bd (bd (oM (fAbs [.int c])) fun x6 => bd (oM (opPow (.int 10) (.int 18))) fun x7 => oM (opGe x6 x7)) fun b8 => if b8 then oM (fAbs [.int c]) else .ret (.int 0)) fun x9 => bd (bd (bd (oM (opMod (.int c) (.int 1000003))) fun x10 => bd (oM (opMulI (.int 7919) (.int k))) fun x11 => oM (opAdd x10 x11)) fun x12 => .ret [x9, x12, (.int 0)]) fun l13 => M.ret l13) = .ret f ∧ Fd 0 f := fun c => by
    have a1 : fAbs [.int c] = some (.int (if c < 0 then -c else c)) := id rfl
    simp only [a1, p18, oMS, bdR, L4.geI]
    rw [L4.modI _ _ (by decide), L4.mulL _ _ (by decide) (by decide)]
    simp only [oMS, bdR, L4.addI]
    generalize (if c < 0 then -c else c) = A
    generalize decide ((1000000000000000000 : Int) ≤ A) = B
    cases B
    · exact ⟨_, rfl, _, _, _, rfl, Int.le_refl _, Int.le_refl _⟩
    · exact ⟨_, rfl, _, _, _, rfl, Int.le_refl _, Int.le_refl _⟩
  simp only [e1, oMS, bdR, L4.gtI]
  by_cases h : 0 < (ns.length : Int)
  · simp only [h, decide_true, if_true]
    rw [L4.modI _ _ h, oMS, bdR]
    have m1 := Int.emod_nonneg k (b := (ns.length : Int)) (by omega)
    have m2 := Int.emod_lt_of_pos k h
    obtain ⟨x, hx, e⟩ := atI_ok (ns.map PyData.int) (k % ns.length) m1 (by rw [List.length_map]; exact m2)
    obtain ⟨i, hi, rfl⟩ := List.mem_map.mp hx
    have e2 : opIx (.list (ns.map PyData.int)) (.int (k % ns.length)) = some (.int i) := e
    rw [e2, oMS, bdR]
    exact tail i
  · simp only [h, decide_false]
    rw [if_neg (by decide), bdR]
    exact tail 0
theorem one_ok {T : Nat} {f : List D} {m : List D} (hm : 0 < m.length) (hm2 : m.length < 1000) (h : Fd T f) (hT : T ≤ 1000000) :
    ∃ (x : D) (f' : List D), c__law_one f (.list m) = .ret (x, f') ∧ x ∈ m ∧ Fd (T + 1) f' := by
  unfold c__law_one
  simp only [ixA_L]
  obtain ⟨r, f', t1, t2, t3, t4⟩ := next_okI h hT (m := (m.length : Int)) (by omega) (by omega)
  obtain ⟨x, hx, e⟩ := atI_ok m r t2 t3
  have e2 : opIx (.list m) (.int r) = some x := e
  rw [L4.lenL, oMS, bdR, t1, bdR]
  simp only [e2, oMS, bdR]
  exact ⟨x, f', rfl, hx, t4⟩
end K18
set_option Elab.async false
set_option linter.all false
set_option maxRecDepth 100000
namespace K18
open PySem PySem.Spec PyProof.Rows L2 L3 L4
theorem neSame {d : D} (h : d.canLay0 = true) (hd : d.depth ≤ 1000) : opNe d d = some false := by
  unfold opNe eqOk
  rw [if_pos (by simp [h, hd]), SeqAt.eqv_refl d h]
  rfl
abbrev due (a b x : D) : D := .list [.tuple [a, b], .tuple [a], .tuple [x, b], .tuple [], .tuple [x], .tuple [], .tuple []]
structure Sm (d : D) : Prop where
  l : d.canLay0 = true
  p : d.depth ≤ 10
theorem Sm.int (i : Int) : Sm (.int i) := ⟨by simp [PyData.canLay0], by simp [PyData.depth]⟩
theorem ne1 {d : D} (h : Sm d) : opNe (.tuple [d]) (.tuple [d]) = some false := neSame (by simp [PyData.canLay0, PyData.canLayAll0, h.l]) (by have := h.p; simp [PyData.depth, PyData.depthAll]; omega)
theorem ne2 {d e : D} (h : Sm d) (g : Sm e) : opNe (.tuple [d, e]) (.tuple [d, e]) = some false := neSame (by simp [PyData.canLay0, PyData.canLayAll0, h.l, g.l]) (by have := h.p; have := g.p; simp [PyData.depth, PyData.depthAll]; omega)
theorem ne0 : opNe (.tuple []) (.tuple []) = some false := by kernel_rfl
theorem stepOf {a b x : D} {kn : D × D × D × D × Unit → M D} {t : D} {k : Int} (ex : Ex) (e1 : c__law_raised (.int k) a b x = .ret (encX ex)) (e2 : instOf [("NoCrowd", true), ("NoText", true), ("NoMeeting", true), ("NoPaper", true), ("TooMany", true), ("NoLine", true), ("NoRule", true)] (encX ex) = some true)
    (e3 : c__law_fields (encX ex) = .ret t) (e4 : opIxA (due a b x) (.int k) = some t) (e5 : opNe t t = some false) (l : D) (e6 : c__law_sorts (encX ex) = .ret l)
    (e7 : (bd (bd (oM (fRange1 [(.int 7)])) fun l16 => bd (compC (fun d13 => bd (bd (oM (opEq d13 (.int k))) fun b14 => .ret (.bool b14)) fun x15 => .ret (some x15)) l16) fitM) fun l17 => M.ret (PyData.list l17)) = .ret l) (e8 : opNe l l = some false) :
    c_law_s1 a b x (due a b x) (.int k) kn = kn (a, b, x, due a b x, ()) := by
  unfold c_law_s1
  rw [e1, bdR, e2, oMS, bdR, bdR]
  simp only [Bool.not_true, Bool.false_eq_true, if_false]
  rw [e3, bdR, e4, oMS, bdR, e5, oMS, bdR]
  simp only [Bool.false_eq_true, if_false]
  rw [e6, bdR, e7, bdR, e8, oMS, bdR]
  simp only [Bool.false_eq_true, if_false]
theorem step {a b x : D} (ha : Sm a) (hb : Sm b) (hx : Sm x) (kn : D × D × D × D × Unit → M D) : ∀ k : Nat, k < 7 → c_law_s1 a b x (due a b x) (.int (k : Int)) kn = kn (a, b, x, due a b x, ())
  | 0, _ => stepOf ⟨"NoText", [("row", a), ("word", b)]⟩ (by kernel_rfl) (by kernel_rfl) (by kernel_rfl) (by kernel_rfl) (ne2 ha hb) (.list [.bool true, .bool false, .bool false, .bool false, .bool false, .bool false, .bool false]) (by kernel_rfl) (by kernel_rfl) (by kernel_rfl)
  | 1, _ => stepOf ⟨"NoMeeting", [("place", a)]⟩ (by kernel_rfl) (by kernel_rfl) (by kernel_rfl) (by kernel_rfl) (ne1 ha) (.list [.bool false, .bool true, .bool false, .bool false, .bool false, .bool false, .bool false]) (by kernel_rfl) (by kernel_rfl) (by kernel_rfl)
  | 2, _ => stepOf ⟨"NoPaper", [("word", x), ("number", b)]⟩ (by kernel_rfl) (by kernel_rfl) (by kernel_rfl) (by kernel_rfl) (ne2 hx hb) (.list [.bool false, .bool false, .bool true, .bool false, .bool false, .bool false, .bool false]) (by kernel_rfl) (by kernel_rfl) (by kernel_rfl)
  | 3, _ => stepOf ⟨"TooMany", []⟩ (by kernel_rfl) (by kernel_rfl) (by kernel_rfl) (by kernel_rfl) ne0 (.list [.bool false, .bool false, .bool false, .bool true, .bool false, .bool false, .bool false]) (by kernel_rfl) (by kernel_rfl) (by kernel_rfl)
  | 4, _ => stepOf ⟨"NoLine", [("line", x)]⟩ (by kernel_rfl) (by kernel_rfl) (by kernel_rfl) (by kernel_rfl) (ne1 hx) (.list [.bool false, .bool false, .bool false, .bool false, .bool true, .bool false, .bool false]) (by kernel_rfl) (by kernel_rfl) (by kernel_rfl)
  | 5, _ => stepOf ⟨"NoRule", []⟩ (by kernel_rfl) (by kernel_rfl) (by kernel_rfl) (by kernel_rfl) ne0 (.list [.bool false, .bool false, .bool false, .bool false, .bool false, .bool true, .bool false]) (by kernel_rfl) (by kernel_rfl) (by kernel_rfl)
  | 6, _ => stepOf ⟨"NoCrowd", []⟩ (by kernel_rfl) (by kernel_rfl) (by kernel_rfl) (by kernel_rfl) ne0 (.list [.bool false, .bool false, .bool false, .bool false, .bool false, .bool false, .bool true]) (by kernel_rfl) (by kernel_rfl) (by kernel_rfl)
  | k + 7, h => absurd h (by omega)
theorem main : ∀ ns : List Int, ns.length ≤ 63 → c_law (.list (ns.map PyData.int)) = .ret (.bool true) := by
  intro ns hn
  unfold c_law
  obtain ⟨f, e1, hf⟩ := feed_ok ns 0 hn
  obtain ⟨a, f1, e2, _, _, hf1⟩ := next_okI hf (m := 400) (by omega) (by decide) (by decide)
  obtain ⟨b, f2, e3, _, _, hf2⟩ := next_okI hf1 (m := 400) (by omega) (by decide) (by decide)
  obtain ⟨x, f3, e4, hx, _⟩ := one_ok (m := [(.str "shape"), (.str "way"), (.str ""), (.str "meet 3"), (.str "closed")]) (by simp) (by simp) hf2 (by omega)
  have hsx : Sm x := by
    simp only [List.mem_cons, List.mem_nil_iff, or_false] at hx
    rcases hx with rfl | rfl | rfl | rfl | rfl <;> exact ⟨by kernel_rfl, by decide +kernel⟩
  rw [e1, bdR, e2, bdR, e3, bdR, e4, bdR, show fRange1 [PyData.int 7] = some ((List.range 7).map iN) from range1N 7 (by omega), oMS, bdR]
  refine (forS_pre (e := iN) (F := fun _ => (PyData.int a, PyData.int b, x, due (.int a) (.int b) x, ())) (List.range 7) ?_).trans rfl
  intro p k t hpt kn
  have hk : k < 7 := by
    have : k ∈ List.range 7 := by rw [hpt]; simp
    simpa using this
  dsimp only
  exact step (Sm.int a) (Sm.int b) hsx kn k hk
end K18
set_option Elab.async false
set_option linter.all false
set_option maxRecDepth 100000
set_option maxHeartbeats 8000000
namespace K18
open PySem PySem.Spec PyProof.Rows L2 L3 L4
theorem all_mk {l : PySem.W.OpenLaw} {w : World} {K : Fg} {h : Heap} {mg : Str → Option Value} {fa f0 f1 f2 f3 f4 f5 f6 Cl_NoCrowd D_NoCrowd fi_NoCrowd Cl_NoText D_NoText fi_NoText Cl_NoMeeting D_NoMeeting fi_NoMeeting Cl_NoPaper D_NoPaper fi_NoPaper Cl_TooMany D_TooMany fi_TooMany Cl_NoLine D_NoLine fi_NoLine Cl_NoRule D_NoRule fi_NoRule Cl_PassError : Addr} (X : K.In h) (G : h.Ns mainGlobals mg) (hfa : mg "law" = some (.ref fa))
    {oc0 kV0 dc0 pm0 cd0 ct0 : Value} {od0 an0 : Option Addr} {sl0 : Array (Option Value)}
    {oc1 kV1 dc1 pm1 cd1 ct1 : Value} {od1 an1 : Option Addr} {sl1 : Array (Option Value)}
    {oc2 kV2 dc2 pm2 cd2 ct2 : Value} {od2 an2 : Option Addr} {sl2 : Array (Option Value)}
    {oc3 kV3 dc3 pm3 cd3 ct3 : Value} {od3 an3 : Option Addr} {sl3 : Array (Option Value)}
    {oc4 kV4 dc4 pm4 cd4 ct4 : Value} {od4 an4 : Option Addr} {sl4 : Array (Option Value)}
    {oc5 kV5 dc5 pm5 cd5 ct5 : Value} {od5 an5 : Option Addr} {sl5 : Array (Option Value)}
    {oc6 kV6 dc6 pm6 cd6 ct6 : Value} {od6 an6 : Option Addr} {sl6 : Array (Option Value)}
    {oc_NoCrowd kV_NoCrowd dc_NoCrowd pm_NoCrowd cd_NoCrowd ct_NoCrowd : Value} {od_NoCrowd an_NoCrowd : Option Addr} {sl_NoCrowd : Array (Option Value)} {nm_NoCrowd qn_NoCrowd : Str} {N_NoCrowd : Addr} {bs_NoCrowd : List Value} {sn_NoCrowd : List Str} {sb_NoCrowd : List Value} {ab_NoCrowd : Bool} {co_NoCrowd : Option Bool} {dd_NoCrowd : Option Addr} {k0_NoCrowd k1_NoCrowd k2_NoCrowd k3_NoCrowd k5_NoCrowd : Option Value}
    {oc_NoText kV_NoText dc_NoText pm_NoText cd_NoText ct_NoText : Value} {od_NoText an_NoText : Option Addr} {sl_NoText : Array (Option Value)} {nm_NoText qn_NoText : Str} {N_NoText : Addr} {bs_NoText : List Value} {sn_NoText : List Str} {sb_NoText : List Value} {ab_NoText : Bool} {co_NoText : Option Bool} {dd_NoText : Option Addr} {k0_NoText k1_NoText k2_NoText k3_NoText k5_NoText : Option Value}
    {oc_NoMeeting kV_NoMeeting dc_NoMeeting pm_NoMeeting cd_NoMeeting ct_NoMeeting : Value} {od_NoMeeting an_NoMeeting : Option Addr} {sl_NoMeeting : Array (Option Value)} {nm_NoMeeting qn_NoMeeting : Str} {N_NoMeeting : Addr} {bs_NoMeeting : List Value} {sn_NoMeeting : List Str} {sb_NoMeeting : List Value} {ab_NoMeeting : Bool} {co_NoMeeting : Option Bool} {dd_NoMeeting : Option Addr} {k0_NoMeeting k1_NoMeeting k2_NoMeeting k3_NoMeeting k5_NoMeeting : Option Value}
    {oc_NoPaper kV_NoPaper dc_NoPaper pm_NoPaper cd_NoPaper ct_NoPaper : Value} {od_NoPaper an_NoPaper : Option Addr} {sl_NoPaper : Array (Option Value)} {nm_NoPaper qn_NoPaper : Str} {N_NoPaper : Addr} {bs_NoPaper : List Value} {sn_NoPaper : List Str} {sb_NoPaper : List Value} {ab_NoPaper : Bool} {co_NoPaper : Option Bool} {dd_NoPaper : Option Addr} {k0_NoPaper k1_NoPaper k2_NoPaper k3_NoPaper k5_NoPaper : Option Value}
    {oc_TooMany kV_TooMany dc_TooMany pm_TooMany cd_TooMany ct_TooMany : Value} {od_TooMany an_TooMany : Option Addr} {sl_TooMany : Array (Option Value)} {nm_TooMany qn_TooMany : Str} {N_TooMany : Addr} {bs_TooMany : List Value} {sn_TooMany : List Str} {sb_TooMany : List Value} {ab_TooMany : Bool} {co_TooMany : Option Bool} {dd_TooMany : Option Addr} {k0_TooMany k1_TooMany k2_TooMany k3_TooMany k5_TooMany : Option Value}
    {oc_NoLine kV_NoLine dc_NoLine pm_NoLine cd_NoLine ct_NoLine : Value} {od_NoLine an_NoLine : Option Addr} {sl_NoLine : Array (Option Value)} {nm_NoLine qn_NoLine : Str} {N_NoLine : Addr} {bs_NoLine : List Value} {sn_NoLine : List Str} {sb_NoLine : List Value} {ab_NoLine : Bool} {co_NoLine : Option Bool} {dd_NoLine : Option Addr} {k0_NoLine k1_NoLine k2_NoLine k3_NoLine k5_NoLine : Option Value}
    {oc_NoRule kV_NoRule dc_NoRule pm_NoRule cd_NoRule ct_NoRule : Value} {od_NoRule an_NoRule : Option Addr} {sl_NoRule : Array (Option Value)} {nm_NoRule qn_NoRule : Str} {N_NoRule : Addr} {bs_NoRule : List Value} {sn_NoRule : List Str} {sb_NoRule : List Value} {ab_NoRule : Bool} {co_NoRule : Option Bool} {dd_NoRule : Option Addr} {k0_NoRule k1_NoRule k2_NoRule k3_NoRule k5_NoRule : Option Value}
    (a0 : PySem.W.nsIn K mainGlobals "_law_feed" = some (some (.ref f0))) (l0 : K.lookup f0 = some ⟨oc0, od0, .func (PySem.W.fnOf "_law_feed" "_law_feed" (defArgs s__law_feed) (defBody s__law_feed) (defScope s__law_feed) .none kV0 dc0 pm0 an0 cd0 ct0), sl0⟩) (c0 : PySem.W.codeIn K cd0 "_law_feed" = true) (k0 : PySem.W.keepIn K (.ref f0) = true)
    (a1 : PySem.W.nsIn K mainGlobals "_law_next" = some (some (.ref f1))) (l1 : K.lookup f1 = some ⟨oc1, od1, .func (PySem.W.fnOf "_law_next" "_law_next" (defArgs s__law_next) (defBody s__law_next) (defScope s__law_next) .none kV1 dc1 pm1 an1 cd1 ct1), sl1⟩) (c1 : PySem.W.codeIn K cd1 "_law_next" = true) (k1 : PySem.W.keepIn K (.ref f1) = true)
    (a2 : PySem.W.nsIn K mainGlobals "_law_one" = some (some (.ref f2))) (l2 : K.lookup f2 = some ⟨oc2, od2, .func (PySem.W.fnOf "_law_one" "_law_one" (defArgs s__law_one) (defBody s__law_one) (defScope s__law_one) .none kV2 dc2 pm2 an2 cd2 ct2), sl2⟩) (c2 : PySem.W.codeIn K cd2 "_law_one" = true) (k2 : PySem.W.keepIn K (.ref f2) = true)
    (a3 : PySem.W.nsIn K mainGlobals "_law_sorts" = some (some (.ref f3))) (l3 : K.lookup f3 = some ⟨oc3, od3, .func (PySem.W.fnOf "_law_sorts" "_law_sorts" (defArgs s__law_sorts) (defBody s__law_sorts) (defScope s__law_sorts) .none kV3 dc3 pm3 an3 cd3 ct3), sl3⟩) (c3 : PySem.W.codeIn K cd3 "_law_sorts" = true) (k3 : PySem.W.keepIn K (.ref f3) = true)
    (a4 : PySem.W.nsIn K mainGlobals "_law_fields" = some (some (.ref f4))) (l4 : K.lookup f4 = some ⟨oc4, od4, .func (PySem.W.fnOf "_law_fields" "_law_fields" (defArgs s__law_fields) (defBody s__law_fields) (defScope s__law_fields) .none kV4 dc4 pm4 an4 cd4 ct4), sl4⟩) (c4 : PySem.W.codeIn K cd4 "_law_fields" = true) (k4 : PySem.W.keepIn K (.ref f4) = true)
    (a5 : PySem.W.nsIn K mainGlobals "_law_raised" = some (some (.ref f5))) (l5 : K.lookup f5 = some ⟨oc5, od5, .func (PySem.W.fnOf "_law_raised" "_law_raised" (defArgs s__law_raised) (defBody s__law_raised) (defScope s__law_raised) .none kV5 dc5 pm5 an5 cd5 ct5), sl5⟩) (c5 : PySem.W.codeIn K cd5 "_law_raised" = true) (k5 : PySem.W.keepIn K (.ref f5) = true)
    (a6 : PySem.W.nsIn K mainGlobals "law" = some (some (.ref f6))) (l6 : K.lookup f6 = some ⟨oc6, od6, .func (PySem.W.fnOf "law" "law" (defArgs s_law) (defBody s_law) (defScope s_law) .none kV6 dc6 pm6 an6 cd6 ct6), sl6⟩) (c6 : PySem.W.codeIn K cd6 "law" = true) (k6 : PySem.W.keepIn K (.ref f6) = true)
    (xa_NoCrowd : PySem.W.nsIn K mainGlobals "NoCrowd" = some (some (.ref Cl_NoCrowd))) (xb_NoCrowd : K.lookup Cl_NoCrowd = some (excClassObj nm_NoCrowd qn_NoCrowd Cl_NoCrowd N_NoCrowd bs_NoCrowd (.ref D_NoCrowd :: bmV) true sn_NoCrowd sb_NoCrowd ab_NoCrowd co_NoCrowd dd_NoCrowd k0_NoCrowd k1_NoCrowd k2_NoCrowd k3_NoCrowd k5_NoCrowd "ValueError.__new__")) (xc_NoCrowd : PySem.W.findIn K (.ref Cl_NoCrowd) "__init__" = some (some (.ref fi_NoCrowd))) (xd_NoCrowd : K.lookup fi_NoCrowd = some ⟨oc_NoCrowd, od_NoCrowd, .func (PySem.W.fnOf "__init__" "NoCrowd.__init__" (defArgs s_init_NoCrowd) (defBody s_init_NoCrowd) (defScope s_init_NoCrowd) .none kV_NoCrowd dc_NoCrowd pm_NoCrowd an_NoCrowd cd_NoCrowd ct_NoCrowd), sl_NoCrowd⟩) (xe_NoCrowd : PySem.W.codeIn K cd_NoCrowd "NoCrowd.__init__" = true) (xf_NoCrowd : PySem.W.keepIn K (.ref fi_NoCrowd) = true) (xg_NoCrowd : PySem.W.keepIn K (.ref Cl_NoCrowd) = true) (xh_NoCrowd : PySem.W.tailIn K bmV (.ref D_NoCrowd :: bmV) = true) (xi_NoCrowd : PySem.W.typeIn K (.ref fi_NoCrowd) = some (.type "function")) (xj_NoCrowd : PySem.W.findIn K (.ref Cl_NoCrowd) "__setattr__" = some (some (.builtin "object.__setattr__"))) (xk_NoCrowd : PySem.W.findIn K (.ref Cl_NoCrowd) "__getattribute__" = some (some (.builtin "BaseException.__getattribute__"))) (xl_NoCrowd : PySem.W.findIn K (.ref Cl_NoCrowd) "__getattr__" = some none) (xm_NoCrowd : PySem.W.exmOne K (.ref Cl_NoCrowd) (.ref Cl_NoCrowd) = some true) (xp_NoCrowd : PySem.W.findIn K (.ref Cl_NoCrowd) "__class__" = some (some (.builtin "object.__class__"))) (xq_NoCrowd : PySem.W.specialIn K (.builtin "object.__class__") "__get__" = some (some (.builtin "getset_descriptor.__get__"))) (xr_NoCrowd : PySem.W.takesIn K (.builtin "object.__class__") = some true) (xo_NoCrowd : (["bool", "int", "str", "list", "tuple", "dict"].all fun T => PySem.W.kitOne K (.ref Cl_NoCrowd) (.type T) == some false) = true)
    (xa_NoText : PySem.W.nsIn K mainGlobals "NoText" = some (some (.ref Cl_NoText))) (xb_NoText : K.lookup Cl_NoText = some (excClassObj nm_NoText qn_NoText Cl_NoText N_NoText bs_NoText (.ref D_NoText :: bmV) true sn_NoText sb_NoText ab_NoText co_NoText dd_NoText k0_NoText k1_NoText k2_NoText k3_NoText k5_NoText "ValueError.__new__")) (xc_NoText : PySem.W.findIn K (.ref Cl_NoText) "__init__" = some (some (.ref fi_NoText))) (xd_NoText : K.lookup fi_NoText = some ⟨oc_NoText, od_NoText, .func (PySem.W.fnOf "__init__" "NoText.__init__" (defArgs s_init_NoText) (defBody s_init_NoText) (defScope s_init_NoText) .none kV_NoText dc_NoText pm_NoText an_NoText cd_NoText ct_NoText), sl_NoText⟩) (xe_NoText : PySem.W.codeIn K cd_NoText "NoText.__init__" = true) (xf_NoText : PySem.W.keepIn K (.ref fi_NoText) = true) (xg_NoText : PySem.W.keepIn K (.ref Cl_NoText) = true) (xh_NoText : PySem.W.tailIn K bmV (.ref D_NoText :: bmV) = true) (xi_NoText : PySem.W.typeIn K (.ref fi_NoText) = some (.type "function")) (xj_NoText : PySem.W.findIn K (.ref Cl_NoText) "__setattr__" = some (some (.builtin "object.__setattr__"))) (xk_NoText : PySem.W.findIn K (.ref Cl_NoText) "__getattribute__" = some (some (.builtin "BaseException.__getattribute__"))) (xl_NoText : PySem.W.findIn K (.ref Cl_NoText) "__getattr__" = some none) (xm_NoText : PySem.W.exmOne K (.ref Cl_NoText) (.ref Cl_NoText) = some true) (xp_NoText : PySem.W.findIn K (.ref Cl_NoText) "__class__" = some (some (.builtin "object.__class__"))) (xq_NoText : PySem.W.specialIn K (.builtin "object.__class__") "__get__" = some (some (.builtin "getset_descriptor.__get__"))) (xr_NoText : PySem.W.takesIn K (.builtin "object.__class__") = some true) (xo_NoText : (["bool", "int", "str", "list", "tuple", "dict"].all fun T => PySem.W.kitOne K (.ref Cl_NoText) (.type T) == some false) = true) (xn0_NoText : PySem.W.findIn K (.ref Cl_NoText) "row" = some none) (xn1_NoText : PySem.W.findIn K (.ref Cl_NoText) "word" = some none)
    (xa_NoMeeting : PySem.W.nsIn K mainGlobals "NoMeeting" = some (some (.ref Cl_NoMeeting))) (xb_NoMeeting : K.lookup Cl_NoMeeting = some (excClassObj nm_NoMeeting qn_NoMeeting Cl_NoMeeting N_NoMeeting bs_NoMeeting (.ref D_NoMeeting :: bmV) true sn_NoMeeting sb_NoMeeting ab_NoMeeting co_NoMeeting dd_NoMeeting k0_NoMeeting k1_NoMeeting k2_NoMeeting k3_NoMeeting k5_NoMeeting "ValueError.__new__")) (xc_NoMeeting : PySem.W.findIn K (.ref Cl_NoMeeting) "__init__" = some (some (.ref fi_NoMeeting))) (xd_NoMeeting : K.lookup fi_NoMeeting = some ⟨oc_NoMeeting, od_NoMeeting, .func (PySem.W.fnOf "__init__" "NoMeeting.__init__" (defArgs s_init_NoMeeting) (defBody s_init_NoMeeting) (defScope s_init_NoMeeting) .none kV_NoMeeting dc_NoMeeting pm_NoMeeting an_NoMeeting cd_NoMeeting ct_NoMeeting), sl_NoMeeting⟩) (xe_NoMeeting : PySem.W.codeIn K cd_NoMeeting "NoMeeting.__init__" = true) (xf_NoMeeting : PySem.W.keepIn K (.ref fi_NoMeeting) = true) (xg_NoMeeting : PySem.W.keepIn K (.ref Cl_NoMeeting) = true) (xh_NoMeeting : PySem.W.tailIn K bmV (.ref D_NoMeeting :: bmV) = true) (xi_NoMeeting : PySem.W.typeIn K (.ref fi_NoMeeting) = some (.type "function")) (xj_NoMeeting : PySem.W.findIn K (.ref Cl_NoMeeting) "__setattr__" = some (some (.builtin "object.__setattr__"))) (xk_NoMeeting : PySem.W.findIn K (.ref Cl_NoMeeting) "__getattribute__" = some (some (.builtin "BaseException.__getattribute__"))) (xl_NoMeeting : PySem.W.findIn K (.ref Cl_NoMeeting) "__getattr__" = some none) (xm_NoMeeting : PySem.W.exmOne K (.ref Cl_NoMeeting) (.ref Cl_NoMeeting) = some true) (xp_NoMeeting : PySem.W.findIn K (.ref Cl_NoMeeting) "__class__" = some (some (.builtin "object.__class__"))) (xq_NoMeeting : PySem.W.specialIn K (.builtin "object.__class__") "__get__" = some (some (.builtin "getset_descriptor.__get__"))) (xr_NoMeeting : PySem.W.takesIn K (.builtin "object.__class__") = some true) (xo_NoMeeting : (["bool", "int", "str", "list", "tuple", "dict"].all fun T => PySem.W.kitOne K (.ref Cl_NoMeeting) (.type T) == some false) = true) (xn0_NoMeeting : PySem.W.findIn K (.ref Cl_NoMeeting) "place" = some none)
    (xa_NoPaper : PySem.W.nsIn K mainGlobals "NoPaper" = some (some (.ref Cl_NoPaper))) (xb_NoPaper : K.lookup Cl_NoPaper = some (excClassObj nm_NoPaper qn_NoPaper Cl_NoPaper N_NoPaper bs_NoPaper (.ref D_NoPaper :: bmV) true sn_NoPaper sb_NoPaper ab_NoPaper co_NoPaper dd_NoPaper k0_NoPaper k1_NoPaper k2_NoPaper k3_NoPaper k5_NoPaper "ValueError.__new__")) (xc_NoPaper : PySem.W.findIn K (.ref Cl_NoPaper) "__init__" = some (some (.ref fi_NoPaper))) (xd_NoPaper : K.lookup fi_NoPaper = some ⟨oc_NoPaper, od_NoPaper, .func (PySem.W.fnOf "__init__" "NoPaper.__init__" (defArgs s_init_NoPaper) (defBody s_init_NoPaper) (defScope s_init_NoPaper) .none kV_NoPaper dc_NoPaper pm_NoPaper an_NoPaper cd_NoPaper ct_NoPaper), sl_NoPaper⟩) (xe_NoPaper : PySem.W.codeIn K cd_NoPaper "NoPaper.__init__" = true) (xf_NoPaper : PySem.W.keepIn K (.ref fi_NoPaper) = true) (xg_NoPaper : PySem.W.keepIn K (.ref Cl_NoPaper) = true) (xh_NoPaper : PySem.W.tailIn K bmV (.ref D_NoPaper :: bmV) = true) (xi_NoPaper : PySem.W.typeIn K (.ref fi_NoPaper) = some (.type "function")) (xj_NoPaper : PySem.W.findIn K (.ref Cl_NoPaper) "__setattr__" = some (some (.builtin "object.__setattr__"))) (xk_NoPaper : PySem.W.findIn K (.ref Cl_NoPaper) "__getattribute__" = some (some (.builtin "BaseException.__getattribute__"))) (xl_NoPaper : PySem.W.findIn K (.ref Cl_NoPaper) "__getattr__" = some none) (xm_NoPaper : PySem.W.exmOne K (.ref Cl_NoPaper) (.ref Cl_NoPaper) = some true) (xp_NoPaper : PySem.W.findIn K (.ref Cl_NoPaper) "__class__" = some (some (.builtin "object.__class__"))) (xq_NoPaper : PySem.W.specialIn K (.builtin "object.__class__") "__get__" = some (some (.builtin "getset_descriptor.__get__"))) (xr_NoPaper : PySem.W.takesIn K (.builtin "object.__class__") = some true) (xo_NoPaper : (["bool", "int", "str", "list", "tuple", "dict"].all fun T => PySem.W.kitOne K (.ref Cl_NoPaper) (.type T) == some false) = true) (xn0_NoPaper : PySem.W.findIn K (.ref Cl_NoPaper) "word" = some none) (xn1_NoPaper : PySem.W.findIn K (.ref Cl_NoPaper) "number" = some none)
    (xa_TooMany : PySem.W.nsIn K mainGlobals "TooMany" = some (some (.ref Cl_TooMany))) (xb_TooMany : K.lookup Cl_TooMany = some (excClassObj nm_TooMany qn_TooMany Cl_TooMany N_TooMany bs_TooMany (.ref D_TooMany :: bmV) true sn_TooMany sb_TooMany ab_TooMany co_TooMany dd_TooMany k0_TooMany k1_TooMany k2_TooMany k3_TooMany k5_TooMany "ValueError.__new__")) (xc_TooMany : PySem.W.findIn K (.ref Cl_TooMany) "__init__" = some (some (.ref fi_TooMany))) (xd_TooMany : K.lookup fi_TooMany = some ⟨oc_TooMany, od_TooMany, .func (PySem.W.fnOf "__init__" "TooMany.__init__" (defArgs s_init_TooMany) (defBody s_init_TooMany) (defScope s_init_TooMany) .none kV_TooMany dc_TooMany pm_TooMany an_TooMany cd_TooMany ct_TooMany), sl_TooMany⟩) (xe_TooMany : PySem.W.codeIn K cd_TooMany "TooMany.__init__" = true) (xf_TooMany : PySem.W.keepIn K (.ref fi_TooMany) = true) (xg_TooMany : PySem.W.keepIn K (.ref Cl_TooMany) = true) (xh_TooMany : PySem.W.tailIn K bmV (.ref D_TooMany :: bmV) = true) (xi_TooMany : PySem.W.typeIn K (.ref fi_TooMany) = some (.type "function")) (xj_TooMany : PySem.W.findIn K (.ref Cl_TooMany) "__setattr__" = some (some (.builtin "object.__setattr__"))) (xk_TooMany : PySem.W.findIn K (.ref Cl_TooMany) "__getattribute__" = some (some (.builtin "BaseException.__getattribute__"))) (xl_TooMany : PySem.W.findIn K (.ref Cl_TooMany) "__getattr__" = some none) (xm_TooMany : PySem.W.exmOne K (.ref Cl_TooMany) (.ref Cl_TooMany) = some true) (xp_TooMany : PySem.W.findIn K (.ref Cl_TooMany) "__class__" = some (some (.builtin "object.__class__"))) (xq_TooMany : PySem.W.specialIn K (.builtin "object.__class__") "__get__" = some (some (.builtin "getset_descriptor.__get__"))) (xr_TooMany : PySem.W.takesIn K (.builtin "object.__class__") = some true) (xo_TooMany : (["bool", "int", "str", "list", "tuple", "dict"].all fun T => PySem.W.kitOne K (.ref Cl_TooMany) (.type T) == some false) = true)
    (xa_NoLine : PySem.W.nsIn K mainGlobals "NoLine" = some (some (.ref Cl_NoLine))) (xb_NoLine : K.lookup Cl_NoLine = some (excClassObj nm_NoLine qn_NoLine Cl_NoLine N_NoLine bs_NoLine (.ref D_NoLine :: bmV) true sn_NoLine sb_NoLine ab_NoLine co_NoLine dd_NoLine k0_NoLine k1_NoLine k2_NoLine k3_NoLine k5_NoLine "ValueError.__new__")) (xc_NoLine : PySem.W.findIn K (.ref Cl_NoLine) "__init__" = some (some (.ref fi_NoLine))) (xd_NoLine : K.lookup fi_NoLine = some ⟨oc_NoLine, od_NoLine, .func (PySem.W.fnOf "__init__" "NoLine.__init__" (defArgs s_init_NoLine) (defBody s_init_NoLine) (defScope s_init_NoLine) .none kV_NoLine dc_NoLine pm_NoLine an_NoLine cd_NoLine ct_NoLine), sl_NoLine⟩) (xe_NoLine : PySem.W.codeIn K cd_NoLine "NoLine.__init__" = true) (xf_NoLine : PySem.W.keepIn K (.ref fi_NoLine) = true) (xg_NoLine : PySem.W.keepIn K (.ref Cl_NoLine) = true) (xh_NoLine : PySem.W.tailIn K bmV (.ref D_NoLine :: bmV) = true) (xi_NoLine : PySem.W.typeIn K (.ref fi_NoLine) = some (.type "function")) (xj_NoLine : PySem.W.findIn K (.ref Cl_NoLine) "__setattr__" = some (some (.builtin "object.__setattr__"))) (xk_NoLine : PySem.W.findIn K (.ref Cl_NoLine) "__getattribute__" = some (some (.builtin "BaseException.__getattribute__"))) (xl_NoLine : PySem.W.findIn K (.ref Cl_NoLine) "__getattr__" = some none) (xm_NoLine : PySem.W.exmOne K (.ref Cl_NoLine) (.ref Cl_NoLine) = some true) (xp_NoLine : PySem.W.findIn K (.ref Cl_NoLine) "__class__" = some (some (.builtin "object.__class__"))) (xq_NoLine : PySem.W.specialIn K (.builtin "object.__class__") "__get__" = some (some (.builtin "getset_descriptor.__get__"))) (xr_NoLine : PySem.W.takesIn K (.builtin "object.__class__") = some true) (xo_NoLine : (["bool", "int", "str", "list", "tuple", "dict"].all fun T => PySem.W.kitOne K (.ref Cl_NoLine) (.type T) == some false) = true) (xn0_NoLine : PySem.W.findIn K (.ref Cl_NoLine) "line" = some none)
    (xa_NoRule : PySem.W.nsIn K mainGlobals "NoRule" = some (some (.ref Cl_NoRule))) (xb_NoRule : K.lookup Cl_NoRule = some (excClassObj nm_NoRule qn_NoRule Cl_NoRule N_NoRule bs_NoRule (.ref D_NoRule :: bmV) true sn_NoRule sb_NoRule ab_NoRule co_NoRule dd_NoRule k0_NoRule k1_NoRule k2_NoRule k3_NoRule k5_NoRule "ValueError.__new__")) (xc_NoRule : PySem.W.findIn K (.ref Cl_NoRule) "__init__" = some (some (.ref fi_NoRule))) (xd_NoRule : K.lookup fi_NoRule = some ⟨oc_NoRule, od_NoRule, .func (PySem.W.fnOf "__init__" "NoRule.__init__" (defArgs s_init_NoRule) (defBody s_init_NoRule) (defScope s_init_NoRule) .none kV_NoRule dc_NoRule pm_NoRule an_NoRule cd_NoRule ct_NoRule), sl_NoRule⟩) (xe_NoRule : PySem.W.codeIn K cd_NoRule "NoRule.__init__" = true) (xf_NoRule : PySem.W.keepIn K (.ref fi_NoRule) = true) (xg_NoRule : PySem.W.keepIn K (.ref Cl_NoRule) = true) (xh_NoRule : PySem.W.tailIn K bmV (.ref D_NoRule :: bmV) = true) (xi_NoRule : PySem.W.typeIn K (.ref fi_NoRule) = some (.type "function")) (xj_NoRule : PySem.W.findIn K (.ref Cl_NoRule) "__setattr__" = some (some (.builtin "object.__setattr__"))) (xk_NoRule : PySem.W.findIn K (.ref Cl_NoRule) "__getattribute__" = some (some (.builtin "BaseException.__getattribute__"))) (xl_NoRule : PySem.W.findIn K (.ref Cl_NoRule) "__getattr__" = some none) (xm_NoRule : PySem.W.exmOne K (.ref Cl_NoRule) (.ref Cl_NoRule) = some true) (xp_NoRule : PySem.W.findIn K (.ref Cl_NoRule) "__class__" = some (some (.builtin "object.__class__"))) (xq_NoRule : PySem.W.specialIn K (.builtin "object.__class__") "__get__" = some (some (.builtin "getset_descriptor.__get__"))) (xr_NoRule : PySem.W.takesIn K (.builtin "object.__class__") = some true) (xo_NoRule : (["bool", "int", "str", "list", "tuple", "dict"].all fun T => PySem.W.kitOne K (.ref Cl_NoRule) (.type T) == some false) = true)
    (xa_PassError : PySem.W.nsIn K mainGlobals "PassError" = some (some (.ref Cl_PassError)))
    (kt_NoCrowd_NoText : PySem.W.kitOne K (.ref Cl_NoCrowd) (.ref Cl_NoText) = some false)
    (kt_NoText_NoText : PySem.W.kitOne K (.ref Cl_NoText) (.ref Cl_NoText) = some true)
    (kt_NoMeeting_NoText : PySem.W.kitOne K (.ref Cl_NoMeeting) (.ref Cl_NoText) = some false)
    (kt_NoPaper_NoText : PySem.W.kitOne K (.ref Cl_NoPaper) (.ref Cl_NoText) = some false)
    (kt_TooMany_NoText : PySem.W.kitOne K (.ref Cl_TooMany) (.ref Cl_NoText) = some false)
    (kt_NoLine_NoText : PySem.W.kitOne K (.ref Cl_NoLine) (.ref Cl_NoText) = some false)
    (kt_NoRule_NoText : PySem.W.kitOne K (.ref Cl_NoRule) (.ref Cl_NoText) = some false)
    (kt_NoCrowd_NoMeeting : PySem.W.kitOne K (.ref Cl_NoCrowd) (.ref Cl_NoMeeting) = some false)
    (kt_NoText_NoMeeting : PySem.W.kitOne K (.ref Cl_NoText) (.ref Cl_NoMeeting) = some false)
    (kt_NoMeeting_NoMeeting : PySem.W.kitOne K (.ref Cl_NoMeeting) (.ref Cl_NoMeeting) = some true)
    (kt_NoPaper_NoMeeting : PySem.W.kitOne K (.ref Cl_NoPaper) (.ref Cl_NoMeeting) = some false)
    (kt_TooMany_NoMeeting : PySem.W.kitOne K (.ref Cl_TooMany) (.ref Cl_NoMeeting) = some false)
    (kt_NoLine_NoMeeting : PySem.W.kitOne K (.ref Cl_NoLine) (.ref Cl_NoMeeting) = some false)
    (kt_NoRule_NoMeeting : PySem.W.kitOne K (.ref Cl_NoRule) (.ref Cl_NoMeeting) = some false)
    (kt_NoCrowd_NoPaper : PySem.W.kitOne K (.ref Cl_NoCrowd) (.ref Cl_NoPaper) = some false)
    (kt_NoText_NoPaper : PySem.W.kitOne K (.ref Cl_NoText) (.ref Cl_NoPaper) = some false)
    (kt_NoMeeting_NoPaper : PySem.W.kitOne K (.ref Cl_NoMeeting) (.ref Cl_NoPaper) = some false)
    (kt_NoPaper_NoPaper : PySem.W.kitOne K (.ref Cl_NoPaper) (.ref Cl_NoPaper) = some true)
    (kt_TooMany_NoPaper : PySem.W.kitOne K (.ref Cl_TooMany) (.ref Cl_NoPaper) = some false)
    (kt_NoLine_NoPaper : PySem.W.kitOne K (.ref Cl_NoLine) (.ref Cl_NoPaper) = some false)
    (kt_NoRule_NoPaper : PySem.W.kitOne K (.ref Cl_NoRule) (.ref Cl_NoPaper) = some false)
    (kt_NoCrowd_TooMany : PySem.W.kitOne K (.ref Cl_NoCrowd) (.ref Cl_TooMany) = some false)
    (kt_NoText_TooMany : PySem.W.kitOne K (.ref Cl_NoText) (.ref Cl_TooMany) = some false)
    (kt_NoMeeting_TooMany : PySem.W.kitOne K (.ref Cl_NoMeeting) (.ref Cl_TooMany) = some false)
    (kt_NoPaper_TooMany : PySem.W.kitOne K (.ref Cl_NoPaper) (.ref Cl_TooMany) = some false)
    (kt_TooMany_TooMany : PySem.W.kitOne K (.ref Cl_TooMany) (.ref Cl_TooMany) = some true)
    (kt_NoLine_TooMany : PySem.W.kitOne K (.ref Cl_NoLine) (.ref Cl_TooMany) = some false)
    (kt_NoRule_TooMany : PySem.W.kitOne K (.ref Cl_NoRule) (.ref Cl_TooMany) = some false)
    (kt_NoCrowd_NoLine : PySem.W.kitOne K (.ref Cl_NoCrowd) (.ref Cl_NoLine) = some false)
    (kt_NoText_NoLine : PySem.W.kitOne K (.ref Cl_NoText) (.ref Cl_NoLine) = some false)
    (kt_NoMeeting_NoLine : PySem.W.kitOne K (.ref Cl_NoMeeting) (.ref Cl_NoLine) = some false)
    (kt_NoPaper_NoLine : PySem.W.kitOne K (.ref Cl_NoPaper) (.ref Cl_NoLine) = some false)
    (kt_TooMany_NoLine : PySem.W.kitOne K (.ref Cl_TooMany) (.ref Cl_NoLine) = some false)
    (kt_NoLine_NoLine : PySem.W.kitOne K (.ref Cl_NoLine) (.ref Cl_NoLine) = some true)
    (kt_NoRule_NoLine : PySem.W.kitOne K (.ref Cl_NoRule) (.ref Cl_NoLine) = some false)
    (kt_NoCrowd_NoRule : PySem.W.kitOne K (.ref Cl_NoCrowd) (.ref Cl_NoRule) = some false)
    (kt_NoText_NoRule : PySem.W.kitOne K (.ref Cl_NoText) (.ref Cl_NoRule) = some false)
    (kt_NoMeeting_NoRule : PySem.W.kitOne K (.ref Cl_NoMeeting) (.ref Cl_NoRule) = some false)
    (kt_NoPaper_NoRule : PySem.W.kitOne K (.ref Cl_NoPaper) (.ref Cl_NoRule) = some false)
    (kt_TooMany_NoRule : PySem.W.kitOne K (.ref Cl_TooMany) (.ref Cl_NoRule) = some false)
    (kt_NoLine_NoRule : PySem.W.kitOne K (.ref Cl_NoLine) (.ref Cl_NoRule) = some false)
    (kt_NoRule_NoRule : PySem.W.kitOne K (.ref Cl_NoRule) (.ref Cl_NoRule) = some true)
    (kt_NoCrowd_NoCrowd : PySem.W.kitOne K (.ref Cl_NoCrowd) (.ref Cl_NoCrowd) = some true)
    (kt_NoText_NoCrowd : PySem.W.kitOne K (.ref Cl_NoText) (.ref Cl_NoCrowd) = some false)
    (kt_NoMeeting_NoCrowd : PySem.W.kitOne K (.ref Cl_NoMeeting) (.ref Cl_NoCrowd) = some false)
    (kt_NoPaper_NoCrowd : PySem.W.kitOne K (.ref Cl_NoPaper) (.ref Cl_NoCrowd) = some false)
    (kt_TooMany_NoCrowd : PySem.W.kitOne K (.ref Cl_TooMany) (.ref Cl_NoCrowd) = some false)
    (kt_NoLine_NoCrowd : PySem.W.kitOne K (.ref Cl_NoLine) (.ref Cl_NoCrowd) = some false)
    (kt_NoRule_NoCrowd : PySem.W.kitOne K (.ref Cl_NoRule) (.ref Cl_NoCrowd) = some false)
    (kh_NoCrowd_PassError : PySem.W.exmOne K (.ref Cl_NoCrowd) (.ref Cl_PassError) = some true)
    (kh_NoText_PassError : PySem.W.exmOne K (.ref Cl_NoText) (.ref Cl_PassError) = some true)
    (kh_NoMeeting_PassError : PySem.W.exmOne K (.ref Cl_NoMeeting) (.ref Cl_PassError) = some true)
    (kh_NoPaper_PassError : PySem.W.exmOne K (.ref Cl_NoPaper) (.ref Cl_PassError) = some true)
    (kh_TooMany_PassError : PySem.W.exmOne K (.ref Cl_TooMany) (.ref Cl_PassError) = some true)
    (kh_NoLine_PassError : PySem.W.exmOne K (.ref Cl_NoLine) (.ref Cl_PassError) = some true)
    (kh_NoRule_PassError : PySem.W.exmOne K (.ref Cl_NoRule) (.ref Cl_PassError) = some true)
    (kt_NoCrowd_ValueError : PySem.W.kitOne K (.ref Cl_NoCrowd) (.type "ValueError") = some true)
    (kt_NoText_ValueError : PySem.W.kitOne K (.ref Cl_NoText) (.type "ValueError") = some true)
    (kt_NoMeeting_ValueError : PySem.W.kitOne K (.ref Cl_NoMeeting) (.type "ValueError") = some true)
    (kt_NoPaper_ValueError : PySem.W.kitOne K (.ref Cl_NoPaper) (.type "ValueError") = some true)
    (kt_TooMany_ValueError : PySem.W.kitOne K (.ref Cl_TooMany) (.type "ValueError") = some true)
    (kt_NoLine_ValueError : PySem.W.kitOne K (.ref Cl_NoLine) (.type "ValueError") = some true)
    (kt_NoRule_ValueError : PySem.W.kitOne K (.ref Cl_NoRule) (.type "ValueError") = some true)
    (z_range : PySem.W.nsIn K mainGlobals "range" = some none)
    (z_len : PySem.W.nsIn K mainGlobals "len" = some none)
    (z_tuple : PySem.W.nsIn K mainGlobals "tuple" = some none)
    (z_list : PySem.W.nsIn K mainGlobals "list" = some none)
    (z_max : PySem.W.nsIn K mainGlobals "max" = some none)
    (z_min : PySem.W.nsIn K mainGlobals "min" = some none)
    (z_sum : PySem.W.nsIn K mainGlobals "sum" = some none)
    (z_abs : PySem.W.nsIn K mainGlobals "abs" = some none)
    (z_repr : PySem.W.nsIn K mainGlobals "repr" = some none)
    (z_enumerate : PySem.W.nsIn K mainGlobals "enumerate" = some none)
    (z_isinstance : PySem.W.nsIn K mainGlobals "isinstance" = some none)
    (z_all : PySem.W.nsIn K mainGlobals "all" = some none)
    (z_any : PySem.W.nsIn K mainGlobals "any" = some none)
    (z_int : PySem.W.nsIn K mainGlobals "int" = some none)
    (z_str : PySem.W.nsIn K mainGlobals "str" = some none)
    (z_bool : PySem.W.nsIn K mainGlobals "bool" = some none)
    (z_zip : PySem.W.nsIn K mainGlobals "zip" = some none)
    (z_sorted : PySem.W.nsIn K mainGlobals "sorted" = some none)
    (z_set : PySem.W.nsIn K mainGlobals "set" = some none)
    (z_dict : PySem.W.nsIn K mainGlobals "dict" = some none)
    (z_reversed : PySem.W.nsIn K mainGlobals "reversed" = some none)
    (z_ValueError : PySem.W.nsIn K mainGlobals "ValueError" = some none) :
    ∃ fd : FuncData, (∀ (s : Shared) (v : Value), BindsTo s fd ⟨[v], []⟩ [("_law_script", v)]) ∧ ∀ base : Heap, K.In base → base.Ns mainGlobals mg → FnOk l.prog w K mg base (CX1 l.prog w) 4 fa fd ["_law_script"] (spD K 1 mf_law) := by
  have e := hfa.symm.trans (PySem.W.mg_of X G a6)
  cases e
  have B : BN mg := ⟨PySem.W.mg_none_of X G z_range, PySem.W.mg_none_of X G z_len, PySem.W.mg_none_of X G z_tuple, PySem.W.mg_none_of X G z_list, PySem.W.mg_none_of X G z_max, PySem.W.mg_none_of X G z_min, PySem.W.mg_none_of X G z_sum, PySem.W.mg_none_of X G z_abs, PySem.W.mg_none_of X G z_repr, PySem.W.mg_none_of X G z_enumerate, PySem.W.mg_none_of X G z_isinstance, PySem.W.mg_none_of X G z_all, PySem.W.mg_none_of X G z_any, PySem.W.mg_none_of X G z_int, PySem.W.mg_none_of X G z_str, PySem.W.mg_none_of X G z_bool, PySem.W.mg_none_of X G z_zip, PySem.W.mg_none_of X G z_sorted, PySem.W.mg_none_of X G z_set, PySem.W.mg_none_of X G z_dict, PySem.W.mg_none_of X G z_reversed, PySem.W.mg_none_of X G z_ValueError⟩
  have Kn : KN mg := ⟨trivial⟩
  have Kx : KX K mg := ⟨⟨_, PySem.W.mg_of X G xa_NoText, ⟨⟨_, xa_NoCrowd, kt_NoCrowd_NoText⟩, ⟨_, xa_NoText, kt_NoText_NoText⟩, ⟨_, xa_NoMeeting, kt_NoMeeting_NoText⟩, ⟨_, xa_NoPaper, kt_NoPaper_NoText⟩, ⟨_, xa_TooMany, kt_TooMany_NoText⟩, ⟨_, xa_NoLine, kt_NoLine_NoText⟩, ⟨_, xa_NoRule, kt_NoRule_NoText⟩, trivial⟩⟩, ⟨_, PySem.W.mg_of X G xa_NoMeeting, ⟨⟨_, xa_NoCrowd, kt_NoCrowd_NoMeeting⟩, ⟨_, xa_NoText, kt_NoText_NoMeeting⟩, ⟨_, xa_NoMeeting, kt_NoMeeting_NoMeeting⟩, ⟨_, xa_NoPaper, kt_NoPaper_NoMeeting⟩, ⟨_, xa_TooMany, kt_TooMany_NoMeeting⟩, ⟨_, xa_NoLine, kt_NoLine_NoMeeting⟩, ⟨_, xa_NoRule, kt_NoRule_NoMeeting⟩, trivial⟩⟩, ⟨_, PySem.W.mg_of X G xa_NoPaper, ⟨⟨_, xa_NoCrowd, kt_NoCrowd_NoPaper⟩, ⟨_, xa_NoText, kt_NoText_NoPaper⟩, ⟨_, xa_NoMeeting, kt_NoMeeting_NoPaper⟩, ⟨_, xa_NoPaper, kt_NoPaper_NoPaper⟩, ⟨_, xa_TooMany, kt_TooMany_NoPaper⟩, ⟨_, xa_NoLine, kt_NoLine_NoPaper⟩, ⟨_, xa_NoRule, kt_NoRule_NoPaper⟩, trivial⟩⟩, ⟨_, PySem.W.mg_of X G xa_TooMany, ⟨⟨_, xa_NoCrowd, kt_NoCrowd_TooMany⟩, ⟨_, xa_NoText, kt_NoText_TooMany⟩, ⟨_, xa_NoMeeting, kt_NoMeeting_TooMany⟩, ⟨_, xa_NoPaper, kt_NoPaper_TooMany⟩, ⟨_, xa_TooMany, kt_TooMany_TooMany⟩, ⟨_, xa_NoLine, kt_NoLine_TooMany⟩, ⟨_, xa_NoRule, kt_NoRule_TooMany⟩, trivial⟩⟩, ⟨_, PySem.W.mg_of X G xa_NoLine, ⟨⟨_, xa_NoCrowd, kt_NoCrowd_NoLine⟩, ⟨_, xa_NoText, kt_NoText_NoLine⟩, ⟨_, xa_NoMeeting, kt_NoMeeting_NoLine⟩, ⟨_, xa_NoPaper, kt_NoPaper_NoLine⟩, ⟨_, xa_TooMany, kt_TooMany_NoLine⟩, ⟨_, xa_NoLine, kt_NoLine_NoLine⟩, ⟨_, xa_NoRule, kt_NoRule_NoLine⟩, trivial⟩⟩, ⟨_, PySem.W.mg_of X G xa_NoRule, ⟨⟨_, xa_NoCrowd, kt_NoCrowd_NoRule⟩, ⟨_, xa_NoText, kt_NoText_NoRule⟩, ⟨_, xa_NoMeeting, kt_NoMeeting_NoRule⟩, ⟨_, xa_NoPaper, kt_NoPaper_NoRule⟩, ⟨_, xa_TooMany, kt_TooMany_NoRule⟩, ⟨_, xa_NoLine, kt_NoLine_NoRule⟩, ⟨_, xa_NoRule, kt_NoRule_NoRule⟩, trivial⟩⟩, ⟨_, PySem.W.mg_of X G xa_NoCrowd, ⟨⟨_, xa_NoCrowd, kt_NoCrowd_NoCrowd⟩, ⟨_, xa_NoText, kt_NoText_NoCrowd⟩, ⟨_, xa_NoMeeting, kt_NoMeeting_NoCrowd⟩, ⟨_, xa_NoPaper, kt_NoPaper_NoCrowd⟩, ⟨_, xa_TooMany, kt_TooMany_NoCrowd⟩, ⟨_, xa_NoLine, kt_NoLine_NoCrowd⟩, ⟨_, xa_NoRule, kt_NoRule_NoCrowd⟩, trivial⟩⟩, ⟨⟨_, xa_NoText, xn0_NoText⟩, trivial⟩, ⟨⟨_, xa_NoText, xn1_NoText⟩, ⟨_, xa_NoPaper, xn0_NoPaper⟩, trivial⟩, ⟨⟨_, xa_NoPaper, xn1_NoPaper⟩, trivial⟩, ⟨⟨_, xa_NoMeeting, xn0_NoMeeting⟩, trivial⟩, ⟨⟨_, xa_NoLine, xn0_NoLine⟩, trivial⟩, ⟨_, PySem.W.mg_of X G xa_PassError, ⟨⟨_, xa_NoCrowd, kh_NoCrowd_PassError⟩, ⟨_, xa_NoText, kh_NoText_PassError⟩, ⟨_, xa_NoMeeting, kh_NoMeeting_PassError⟩, ⟨_, xa_NoPaper, kh_NoPaper_PassError⟩, ⟨_, xa_TooMany, kh_TooMany_PassError⟩, ⟨_, xa_NoLine, kh_NoLine_PassError⟩, ⟨_, xa_NoRule, kh_NoRule_PassError⟩, trivial⟩⟩, ⟨⟨_, xa_NoCrowd, kt_NoCrowd_ValueError⟩, ⟨_, xa_NoText, kt_NoText_ValueError⟩, ⟨_, xa_NoMeeting, kt_NoMeeting_ValueError⟩, ⟨_, xa_NoPaper, kt_NoPaper_ValueError⟩, ⟨_, xa_TooMany, kt_TooMany_ValueError⟩, ⟨_, xa_NoLine, kt_NoLine_ValueError⟩, ⟨_, xa_NoRule, kt_NoRule_ValueError⟩, trivial⟩⟩
  have F0 := fun_mk (st := s__law_feed) l0 c0 k0
  have F1 := fun_mk (st := s__law_next) l1 c1 k1
  have F2 := fun_mk (st := s__law_one) l2 c2 k2
  have F3 := fun_mk (st := s__law_sorts) l3 c3 k3
  have F4 := fun_mk (st := s__law_fields) l4 c4 k4
  have F5 := fun_mk (st := s__law_raised) l5 c5 k5
  have F6 := fun_mk (st := s_law) l6 c6 k6
  refine ⟨PySem.W.fnOf "law" "law" (defArgs s_law) (defBody s_law) (defScope s_law) .none kV6 dc6 pm6 an6 cd6 ct6, fun s v => .of_eq rfl, fun base _ _ => ?_⟩
  have X_NoCrowd : CCl l.prog w K mg base "NoCrowd" 1 [] := cl_NoCrowd (P := l.prog) (w := w) (base := base) (fun_mk (st := s_init_NoCrowd) xd_NoCrowd xe_NoCrowd xf_NoCrowd) ⟨⟨nm_NoCrowd, qn_NoCrowd, N_NoCrowd, bs_NoCrowd, sn_NoCrowd, sb_NoCrowd, ab_NoCrowd, co_NoCrowd, dd_NoCrowd, k0_NoCrowd, k1_NoCrowd, k2_NoCrowd, k3_NoCrowd, k5_NoCrowd, xb_NoCrowd⟩, xh_NoCrowd, xc_NoCrowd, xi_NoCrowd, xj_NoCrowd, xk_NoCrowd, xl_NoCrowd⟩ (PySem.W.mg_of X G xa_NoCrowd) ⟨xa_NoCrowd, ⟨_, _, ⟨⟨nm_NoCrowd, qn_NoCrowd, N_NoCrowd, bs_NoCrowd, sn_NoCrowd, sb_NoCrowd, ab_NoCrowd, co_NoCrowd, dd_NoCrowd, k0_NoCrowd, k1_NoCrowd, k2_NoCrowd, k3_NoCrowd, k5_NoCrowd, xb_NoCrowd⟩, xh_NoCrowd, xc_NoCrowd, xi_NoCrowd, xj_NoCrowd, xk_NoCrowd, xl_NoCrowd⟩⟩, ⟨xp_NoCrowd, xq_NoCrowd, xr_NoCrowd⟩, xq_no xo_NoCrowd⟩ xg_NoCrowd (by intro f hf; cases hf) xm_NoCrowd
  have X_NoText : CCl l.prog w K mg base "NoText" 1 ["row", "word"] := cl_NoText (P := l.prog) (w := w) (base := base) (fun_mk (st := s_init_NoText) xd_NoText xe_NoText xf_NoText) ⟨⟨nm_NoText, qn_NoText, N_NoText, bs_NoText, sn_NoText, sb_NoText, ab_NoText, co_NoText, dd_NoText, k0_NoText, k1_NoText, k2_NoText, k3_NoText, k5_NoText, xb_NoText⟩, xh_NoText, xc_NoText, xi_NoText, xj_NoText, xk_NoText, xl_NoText⟩ (PySem.W.mg_of X G xa_NoText) ⟨xa_NoText, ⟨_, _, ⟨⟨nm_NoText, qn_NoText, N_NoText, bs_NoText, sn_NoText, sb_NoText, ab_NoText, co_NoText, dd_NoText, k0_NoText, k1_NoText, k2_NoText, k3_NoText, k5_NoText, xb_NoText⟩, xh_NoText, xc_NoText, xi_NoText, xj_NoText, xk_NoText, xl_NoText⟩⟩, ⟨xp_NoText, xq_NoText, xr_NoText⟩, xq_no xo_NoText⟩ xg_NoText (by intro f hf; simp only [List.mem_cons, List.mem_nil_iff, or_false] at hf; rcases hf with rfl | rfl <;> first | exact xn0_NoText | exact xn1_NoText) xm_NoText
  have X_NoMeeting : CCl l.prog w K mg base "NoMeeting" 1 ["place"] := cl_NoMeeting (P := l.prog) (w := w) (base := base) (fun_mk (st := s_init_NoMeeting) xd_NoMeeting xe_NoMeeting xf_NoMeeting) ⟨⟨nm_NoMeeting, qn_NoMeeting, N_NoMeeting, bs_NoMeeting, sn_NoMeeting, sb_NoMeeting, ab_NoMeeting, co_NoMeeting, dd_NoMeeting, k0_NoMeeting, k1_NoMeeting, k2_NoMeeting, k3_NoMeeting, k5_NoMeeting, xb_NoMeeting⟩, xh_NoMeeting, xc_NoMeeting, xi_NoMeeting, xj_NoMeeting, xk_NoMeeting, xl_NoMeeting⟩ (PySem.W.mg_of X G xa_NoMeeting) ⟨xa_NoMeeting, ⟨_, _, ⟨⟨nm_NoMeeting, qn_NoMeeting, N_NoMeeting, bs_NoMeeting, sn_NoMeeting, sb_NoMeeting, ab_NoMeeting, co_NoMeeting, dd_NoMeeting, k0_NoMeeting, k1_NoMeeting, k2_NoMeeting, k3_NoMeeting, k5_NoMeeting, xb_NoMeeting⟩, xh_NoMeeting, xc_NoMeeting, xi_NoMeeting, xj_NoMeeting, xk_NoMeeting, xl_NoMeeting⟩⟩, ⟨xp_NoMeeting, xq_NoMeeting, xr_NoMeeting⟩, xq_no xo_NoMeeting⟩ xg_NoMeeting (by intro f hf; simp only [List.mem_cons, List.mem_nil_iff, or_false] at hf; rcases hf with rfl; exact xn0_NoMeeting) xm_NoMeeting
  have X_NoPaper : CCl l.prog w K mg base "NoPaper" 1 ["word", "number"] := cl_NoPaper (P := l.prog) (w := w) (base := base) (fun_mk (st := s_init_NoPaper) xd_NoPaper xe_NoPaper xf_NoPaper) ⟨⟨nm_NoPaper, qn_NoPaper, N_NoPaper, bs_NoPaper, sn_NoPaper, sb_NoPaper, ab_NoPaper, co_NoPaper, dd_NoPaper, k0_NoPaper, k1_NoPaper, k2_NoPaper, k3_NoPaper, k5_NoPaper, xb_NoPaper⟩, xh_NoPaper, xc_NoPaper, xi_NoPaper, xj_NoPaper, xk_NoPaper, xl_NoPaper⟩ (PySem.W.mg_of X G xa_NoPaper) ⟨xa_NoPaper, ⟨_, _, ⟨⟨nm_NoPaper, qn_NoPaper, N_NoPaper, bs_NoPaper, sn_NoPaper, sb_NoPaper, ab_NoPaper, co_NoPaper, dd_NoPaper, k0_NoPaper, k1_NoPaper, k2_NoPaper, k3_NoPaper, k5_NoPaper, xb_NoPaper⟩, xh_NoPaper, xc_NoPaper, xi_NoPaper, xj_NoPaper, xk_NoPaper, xl_NoPaper⟩⟩, ⟨xp_NoPaper, xq_NoPaper, xr_NoPaper⟩, xq_no xo_NoPaper⟩ xg_NoPaper (by intro f hf; simp only [List.mem_cons, List.mem_nil_iff, or_false] at hf; rcases hf with rfl | rfl <;> first | exact xn0_NoPaper | exact xn1_NoPaper) xm_NoPaper
  have X_TooMany : CCl l.prog w K mg base "TooMany" 1 [] := cl_TooMany (P := l.prog) (w := w) (base := base) (fun_mk (st := s_init_TooMany) xd_TooMany xe_TooMany xf_TooMany) ⟨⟨nm_TooMany, qn_TooMany, N_TooMany, bs_TooMany, sn_TooMany, sb_TooMany, ab_TooMany, co_TooMany, dd_TooMany, k0_TooMany, k1_TooMany, k2_TooMany, k3_TooMany, k5_TooMany, xb_TooMany⟩, xh_TooMany, xc_TooMany, xi_TooMany, xj_TooMany, xk_TooMany, xl_TooMany⟩ (PySem.W.mg_of X G xa_TooMany) ⟨xa_TooMany, ⟨_, _, ⟨⟨nm_TooMany, qn_TooMany, N_TooMany, bs_TooMany, sn_TooMany, sb_TooMany, ab_TooMany, co_TooMany, dd_TooMany, k0_TooMany, k1_TooMany, k2_TooMany, k3_TooMany, k5_TooMany, xb_TooMany⟩, xh_TooMany, xc_TooMany, xi_TooMany, xj_TooMany, xk_TooMany, xl_TooMany⟩⟩, ⟨xp_TooMany, xq_TooMany, xr_TooMany⟩, xq_no xo_TooMany⟩ xg_TooMany (by intro f hf; cases hf) xm_TooMany
  have X_NoLine : CCl l.prog w K mg base "NoLine" 1 ["line"] := cl_NoLine (P := l.prog) (w := w) (base := base) (fun_mk (st := s_init_NoLine) xd_NoLine xe_NoLine xf_NoLine) ⟨⟨nm_NoLine, qn_NoLine, N_NoLine, bs_NoLine, sn_NoLine, sb_NoLine, ab_NoLine, co_NoLine, dd_NoLine, k0_NoLine, k1_NoLine, k2_NoLine, k3_NoLine, k5_NoLine, xb_NoLine⟩, xh_NoLine, xc_NoLine, xi_NoLine, xj_NoLine, xk_NoLine, xl_NoLine⟩ (PySem.W.mg_of X G xa_NoLine) ⟨xa_NoLine, ⟨_, _, ⟨⟨nm_NoLine, qn_NoLine, N_NoLine, bs_NoLine, sn_NoLine, sb_NoLine, ab_NoLine, co_NoLine, dd_NoLine, k0_NoLine, k1_NoLine, k2_NoLine, k3_NoLine, k5_NoLine, xb_NoLine⟩, xh_NoLine, xc_NoLine, xi_NoLine, xj_NoLine, xk_NoLine, xl_NoLine⟩⟩, ⟨xp_NoLine, xq_NoLine, xr_NoLine⟩, xq_no xo_NoLine⟩ xg_NoLine (by intro f hf; simp only [List.mem_cons, List.mem_nil_iff, or_false] at hf; rcases hf with rfl; exact xn0_NoLine) xm_NoLine
  have X_NoRule : CCl l.prog w K mg base "NoRule" 1 [] := cl_NoRule (P := l.prog) (w := w) (base := base) (fun_mk (st := s_init_NoRule) xd_NoRule xe_NoRule xf_NoRule) ⟨⟨nm_NoRule, qn_NoRule, N_NoRule, bs_NoRule, sn_NoRule, sb_NoRule, ab_NoRule, co_NoRule, dd_NoRule, k0_NoRule, k1_NoRule, k2_NoRule, k3_NoRule, k5_NoRule, xb_NoRule⟩, xh_NoRule, xc_NoRule, xi_NoRule, xj_NoRule, xk_NoRule, xl_NoRule⟩ (PySem.W.mg_of X G xa_NoRule) ⟨xa_NoRule, ⟨_, _, ⟨⟨nm_NoRule, qn_NoRule, N_NoRule, bs_NoRule, sn_NoRule, sb_NoRule, ab_NoRule, co_NoRule, dd_NoRule, k0_NoRule, k1_NoRule, k2_NoRule, k3_NoRule, k5_NoRule, xb_NoRule⟩, xh_NoRule, xc_NoRule, xi_NoRule, xj_NoRule, xk_NoRule, xl_NoRule⟩⟩, ⟨xp_NoRule, xq_NoRule, xr_NoRule⟩, xq_no xo_NoRule⟩ xg_NoRule (by intro f hf; cases hf) xm_NoRule
  have C__law_feed := ok__law_feed (P := l.prog) (w := w) (base := base) F0 (PySem.W.mg_of X G a0) B Kn Kx
  have C__law_next := ok__law_next (P := l.prog) (w := w) (base := base) F1 (PySem.W.mg_of X G a1) B Kn Kx
  have C__law_one := ok__law_one (P := l.prog) (w := w) (base := base) F2 (PySem.W.mg_of X G a2) B Kn Kx C__law_next
  have C__law_sorts := ok__law_sorts (P := l.prog) (w := w) (base := base) F3 (PySem.W.mg_of X G a3) B Kn Kx
  have C__law_fields := ok__law_fields (P := l.prog) (w := w) (base := base) F4 (PySem.W.mg_of X G a4) B Kn Kx
  have C__law_raised := ok__law_raised (P := l.prog) (w := w) (base := base) F5 (PySem.W.mg_of X G a5) B Kn Kx X_NoCrowd X_NoText X_NoMeeting X_NoPaper X_TooMany X_NoLine X_NoRule
  exact fn_law F6 B Kn Kx C__law_feed C__law_one C__law_next C__law_raised C__law_sorts C__law_fields
theorem walk {l : PySem.W.OpenLaw} {q : Program} {loose : List Str} {XP : (Str → Option Value) → Heap → Prop} {YP : World → Heap → Prop} {d : DefRec} {K : Params → Fg} (main : ∀ ns : List Int, ns.length ≤ 63 → c_law (.list (ns.map PyData.int)) = .ret (.bool true)) (hn : l.most = some 63) (hdf : d.params.defaults = [])
    (hY : ∀ (w : World) (h : Heap), YP w h → (K w.params).In h)
    (F : ∀ (w : World) (mg : Str → Option Value) (fa : Addr) (h : Heap), (K w.params).In h → h.Ns mainGlobals mg → mg d.name = some (.ref fa) →
      ∃ fd : FuncData, (∀ (s : Shared) (u : Value), BindsTo s fd ⟨[u], []⟩ [("_law_script", u)]) ∧ ∀ base : Heap, (K w.params).In base → base.Ns mainGlobals mg → FnOk l.prog w (K w.params) mg base (CX1 l.prog w) 4 fa fd ["_law_script"] (spD (K w.params) 1 mf_law)) :
    PySem.W.WalkO q loose XP YP l.row.toRowW d [] (fun f vs => PySem.call f vs) :=
  L2.walk_of (n := 63) (k := 4) (x := "_law_script") (CX := fun w => CX1 l.prog w) (sp := fun w => spD (K w.params) 1 mf_law) hn (by decide) hdf ⟨rfl, by decide, by decide, rfl⟩ hY F (fun w H a ns hl _ hS => law_start hS (main ns hl)) fun _ _ _ _ _ ⟨_, _, _, _, _, _, _, _, _, _, z⟩ => z
end K18
open PySem PySem.W PyProof.Rows
set_option maxRecDepth 100000 in
set_option maxHeartbeats 0 in
theorem PySem.Challenge.cw_passersby_k18_refusals_apart_holds : PySem.Challenge.rw_passersby_k18_refusals_apart.Holds := by
  w_on; o_law; k_head; (case hw => w_witness2)
  k_fill
  refine K18.walk (l := PySem.Challenge.rw_passersby_k18_refusals_apart) K18.main rfl rfl (fun w h Y => PySem.W.kIn_of Y) ?F
  case F =>
    intro w mg fa h KX G hmg
    refine' K18.all_mk KX G hmg ?a0 ?l0 ?c0 ?k0 ?a1 ?l1 ?c1 ?k1 ?a2 ?l2 ?c2 ?k2 ?a3 ?l3 ?c3 ?k3 ?a4 ?l4 ?c4 ?k4 ?a5 ?l5 ?c5 ?k5 ?a6 ?l6 ?c6 ?k6 ?xa_NoCrowd ?xb_NoCrowd ?xc_NoCrowd ?xd_NoCrowd ?xe_NoCrowd ?xf_NoCrowd ?xg_NoCrowd ?xh_NoCrowd ?xi_NoCrowd ?xj_NoCrowd ?xk_NoCrowd ?xl_NoCrowd ?xm_NoCrowd ?xp_NoCrowd ?xq_NoCrowd ?xr_NoCrowd ?xo_NoCrowd ?xa_NoText ?xb_NoText ?xc_NoText ?xd_NoText ?xe_NoText ?xf_NoText ?xg_NoText ?xh_NoText ?xi_NoText ?xj_NoText ?xk_NoText ?xl_NoText ?xm_NoText ?xp_NoText ?xq_NoText ?xr_NoText ?xo_NoText ?xn0_NoText ?xn1_NoText ?xa_NoMeeting ?xb_NoMeeting ?xc_NoMeeting ?xd_NoMeeting ?xe_NoMeeting ?xf_NoMeeting ?xg_NoMeeting ?xh_NoMeeting ?xi_NoMeeting ?xj_NoMeeting ?xk_NoMeeting ?xl_NoMeeting ?xm_NoMeeting ?xp_NoMeeting ?xq_NoMeeting ?xr_NoMeeting ?xo_NoMeeting ?xn0_NoMeeting ?xa_NoPaper ?xb_NoPaper ?xc_NoPaper ?xd_NoPaper ?xe_NoPaper ?xf_NoPaper ?xg_NoPaper ?xh_NoPaper ?xi_NoPaper ?xj_NoPaper ?xk_NoPaper ?xl_NoPaper ?xm_NoPaper ?xp_NoPaper ?xq_NoPaper ?xr_NoPaper ?xo_NoPaper ?xn0_NoPaper ?xn1_NoPaper ?xa_TooMany ?xb_TooMany ?xc_TooMany ?xd_TooMany ?xe_TooMany ?xf_TooMany ?xg_TooMany ?xh_TooMany ?xi_TooMany ?xj_TooMany ?xk_TooMany ?xl_TooMany ?xm_TooMany ?xp_TooMany ?xq_TooMany ?xr_TooMany ?xo_TooMany ?xa_NoLine ?xb_NoLine ?xc_NoLine ?xd_NoLine ?xe_NoLine ?xf_NoLine ?xg_NoLine ?xh_NoLine ?xi_NoLine ?xj_NoLine ?xk_NoLine ?xl_NoLine ?xm_NoLine ?xp_NoLine ?xq_NoLine ?xr_NoLine ?xo_NoLine ?xn0_NoLine ?xa_NoRule ?xb_NoRule ?xc_NoRule ?xd_NoRule ?xe_NoRule ?xf_NoRule ?xg_NoRule ?xh_NoRule ?xi_NoRule ?xj_NoRule ?xk_NoRule ?xl_NoRule ?xm_NoRule ?xp_NoRule ?xq_NoRule ?xr_NoRule ?xo_NoRule ?xa_PassError ?kt_NoCrowd_NoText ?kt_NoText_NoText ?kt_NoMeeting_NoText ?kt_NoPaper_NoText ?kt_TooMany_NoText ?kt_NoLine_NoText ?kt_NoRule_NoText ?kt_NoCrowd_NoMeeting ?kt_NoText_NoMeeting ?kt_NoMeeting_NoMeeting ?kt_NoPaper_NoMeeting ?kt_TooMany_NoMeeting ?kt_NoLine_NoMeeting ?kt_NoRule_NoMeeting ?kt_NoCrowd_NoPaper ?kt_NoText_NoPaper ?kt_NoMeeting_NoPaper ?kt_NoPaper_NoPaper ?kt_TooMany_NoPaper ?kt_NoLine_NoPaper ?kt_NoRule_NoPaper ?kt_NoCrowd_TooMany ?kt_NoText_TooMany ?kt_NoMeeting_TooMany ?kt_NoPaper_TooMany ?kt_TooMany_TooMany ?kt_NoLine_TooMany ?kt_NoRule_TooMany ?kt_NoCrowd_NoLine ?kt_NoText_NoLine ?kt_NoMeeting_NoLine ?kt_NoPaper_NoLine ?kt_TooMany_NoLine ?kt_NoLine_NoLine ?kt_NoRule_NoLine ?kt_NoCrowd_NoRule ?kt_NoText_NoRule ?kt_NoMeeting_NoRule ?kt_NoPaper_NoRule ?kt_TooMany_NoRule ?kt_NoLine_NoRule ?kt_NoRule_NoRule ?kt_NoCrowd_NoCrowd ?kt_NoText_NoCrowd ?kt_NoMeeting_NoCrowd ?kt_NoPaper_NoCrowd ?kt_TooMany_NoCrowd ?kt_NoLine_NoCrowd ?kt_NoRule_NoCrowd ?kh_NoCrowd_PassError ?kh_NoText_PassError ?kh_NoMeeting_PassError ?kh_NoPaper_PassError ?kh_TooMany_PassError ?kh_NoLine_PassError ?kh_NoRule_PassError ?kt_NoCrowd_ValueError ?kt_NoText_ValueError ?kt_NoMeeting_ValueError ?kt_NoPaper_ValueError ?kt_TooMany_ValueError ?kt_NoLine_ValueError ?kt_NoRule_ValueError ?z_range ?z_len ?z_tuple ?z_list ?z_max ?z_min ?z_sum ?z_abs ?z_repr ?z_enumerate ?z_isinstance ?z_all ?z_any ?z_int ?z_str ?z_bool ?z_zip ?z_sorted ?z_set ?z_dict ?z_reversed ?z_ValueError
    (case a0 => k_is)
    (case l0 => k_is)
    (case c0 => k_is)
    (case k0 => k_is)
    (case a1 => k_is)
    (case l1 => k_is)
    (case c1 => k_is)
    (case k1 => k_is)
    (case a2 => k_is)
    (case l2 => k_is)
    (case c2 => k_is)
    (case k2 => k_is)
    (case a3 => k_is)
    (case l3 => k_is)
    (case c3 => k_is)
    (case k3 => k_is)
    (case a4 => k_is)
    (case l4 => k_is)
    (case c4 => k_is)
    (case k4 => k_is)
    (case a5 => k_is)
    (case l5 => k_is)
    (case c5 => k_is)
    (case k5 => k_is)
    (case a6 => k_is)
    (case l6 => k_is)
    (case c6 => k_is)
    (case k6 => k_is)
    (case xa_NoCrowd => k_is)
    (case xb_NoCrowd => k_is)
    (case xc_NoCrowd => k_is)
    (case xd_NoCrowd => k_is)
    (case xe_NoCrowd => k_is)
    (case xf_NoCrowd => k_is)
    (case xg_NoCrowd => k_is)
    (case xh_NoCrowd => kernel_rfl)
    (case xi_NoCrowd => k_is)
    (case xj_NoCrowd => k_is)
    (case xk_NoCrowd => k_is)
    (case xl_NoCrowd => k_is)
    (case xm_NoCrowd => kernel_rfl)
    (case xp_NoCrowd => k_is)
    (case xq_NoCrowd => k_is)
    (case xr_NoCrowd => k_is)
    (case xo_NoCrowd => kernel_rfl)
    (case xa_NoText => k_is)
    (case xb_NoText => k_is)
    (case xc_NoText => k_is)
    (case xd_NoText => k_is)
    (case xe_NoText => k_is)
    (case xf_NoText => k_is)
    (case xg_NoText => k_is)
    (case xh_NoText => kernel_rfl)
    (case xi_NoText => k_is)
    (case xj_NoText => k_is)
    (case xk_NoText => k_is)
    (case xl_NoText => k_is)
    (case xm_NoText => kernel_rfl)
    (case xp_NoText => k_is)
    (case xq_NoText => k_is)
    (case xr_NoText => k_is)
    (case xo_NoText => kernel_rfl)
    (case xn0_NoText => k_is)
    (case xn1_NoText => k_is)
    (case xa_NoMeeting => k_is)
    (case xb_NoMeeting => k_is)
    (case xc_NoMeeting => k_is)
    (case xd_NoMeeting => k_is)
    (case xe_NoMeeting => k_is)
    (case xf_NoMeeting => k_is)
    (case xg_NoMeeting => k_is)
    (case xh_NoMeeting => kernel_rfl)
    (case xi_NoMeeting => k_is)
    (case xj_NoMeeting => k_is)
    (case xk_NoMeeting => k_is)
    (case xl_NoMeeting => k_is)
    (case xm_NoMeeting => kernel_rfl)
    (case xp_NoMeeting => k_is)
    (case xq_NoMeeting => k_is)
    (case xr_NoMeeting => k_is)
    (case xo_NoMeeting => kernel_rfl)
    (case xn0_NoMeeting => k_is)
    (case xa_NoPaper => k_is)
    (case xb_NoPaper => k_is)
    (case xc_NoPaper => k_is)
    (case xd_NoPaper => k_is)
    (case xe_NoPaper => k_is)
    (case xf_NoPaper => k_is)
    (case xg_NoPaper => k_is)
    (case xh_NoPaper => kernel_rfl)
    (case xi_NoPaper => k_is)
    (case xj_NoPaper => k_is)
    (case xk_NoPaper => k_is)
    (case xl_NoPaper => k_is)
    (case xm_NoPaper => kernel_rfl)
    (case xp_NoPaper => k_is)
    (case xq_NoPaper => k_is)
    (case xr_NoPaper => k_is)
    (case xo_NoPaper => kernel_rfl)
    (case xn0_NoPaper => k_is)
    (case xn1_NoPaper => k_is)
    (case xa_TooMany => k_is)
    (case xb_TooMany => k_is)
    (case xc_TooMany => k_is)
    (case xd_TooMany => k_is)
    (case xe_TooMany => k_is)
    (case xf_TooMany => k_is)
    (case xg_TooMany => k_is)
    (case xh_TooMany => kernel_rfl)
    (case xi_TooMany => k_is)
    (case xj_TooMany => k_is)
    (case xk_TooMany => k_is)
    (case xl_TooMany => k_is)
    (case xm_TooMany => kernel_rfl)
    (case xp_TooMany => k_is)
    (case xq_TooMany => k_is)
    (case xr_TooMany => k_is)
    (case xo_TooMany => kernel_rfl)
    (case xa_NoLine => k_is)
    (case xb_NoLine => k_is)
    (case xc_NoLine => k_is)
    (case xd_NoLine => k_is)
    (case xe_NoLine => k_is)
    (case xf_NoLine => k_is)
    (case xg_NoLine => k_is)
    (case xh_NoLine => kernel_rfl)
    (case xi_NoLine => k_is)
    (case xj_NoLine => k_is)
    (case xk_NoLine => k_is)
    (case xl_NoLine => k_is)
    (case xm_NoLine => kernel_rfl)
    (case xp_NoLine => k_is)
    (case xq_NoLine => k_is)
    (case xr_NoLine => k_is)
    (case xo_NoLine => kernel_rfl)
    (case xn0_NoLine => k_is)
    (case xa_NoRule => k_is)
    (case xb_NoRule => k_is)
    (case xc_NoRule => k_is)
    (case xd_NoRule => k_is)
    (case xe_NoRule => k_is)
    (case xf_NoRule => k_is)
    (case xg_NoRule => k_is)
    (case xh_NoRule => kernel_rfl)
    (case xi_NoRule => k_is)
    (case xj_NoRule => k_is)
    (case xk_NoRule => k_is)
    (case xl_NoRule => k_is)
    (case xm_NoRule => kernel_rfl)
    (case xp_NoRule => k_is)
    (case xq_NoRule => k_is)
    (case xr_NoRule => k_is)
    (case xo_NoRule => kernel_rfl)
    (case xa_PassError => k_is)
    (case kt_NoCrowd_NoText => kernel_rfl)
    (case kt_NoText_NoText => kernel_rfl)
    (case kt_NoMeeting_NoText => kernel_rfl)
    (case kt_NoPaper_NoText => kernel_rfl)
    (case kt_TooMany_NoText => kernel_rfl)
    (case kt_NoLine_NoText => kernel_rfl)
    (case kt_NoRule_NoText => kernel_rfl)
    (case kt_NoCrowd_NoMeeting => kernel_rfl)
    (case kt_NoText_NoMeeting => kernel_rfl)
    (case kt_NoMeeting_NoMeeting => kernel_rfl)
    (case kt_NoPaper_NoMeeting => kernel_rfl)
    (case kt_TooMany_NoMeeting => kernel_rfl)
    (case kt_NoLine_NoMeeting => kernel_rfl)
    (case kt_NoRule_NoMeeting => kernel_rfl)
    (case kt_NoCrowd_NoPaper => kernel_rfl)
    (case kt_NoText_NoPaper => kernel_rfl)
    (case kt_NoMeeting_NoPaper => kernel_rfl)
    (case kt_NoPaper_NoPaper => kernel_rfl)
    (case kt_TooMany_NoPaper => kernel_rfl)
    (case kt_NoLine_NoPaper => kernel_rfl)
    (case kt_NoRule_NoPaper => kernel_rfl)
    (case kt_NoCrowd_TooMany => kernel_rfl)
    (case kt_NoText_TooMany => kernel_rfl)
    (case kt_NoMeeting_TooMany => kernel_rfl)
    (case kt_NoPaper_TooMany => kernel_rfl)
    (case kt_TooMany_TooMany => kernel_rfl)
    (case kt_NoLine_TooMany => kernel_rfl)
    (case kt_NoRule_TooMany => kernel_rfl)
    (case kt_NoCrowd_NoLine => kernel_rfl)
    (case kt_NoText_NoLine => kernel_rfl)
    (case kt_NoMeeting_NoLine => kernel_rfl)
    (case kt_NoPaper_NoLine => kernel_rfl)
    (case kt_TooMany_NoLine => kernel_rfl)
    (case kt_NoLine_NoLine => kernel_rfl)
    (case kt_NoRule_NoLine => kernel_rfl)
    (case kt_NoCrowd_NoRule => kernel_rfl)
    (case kt_NoText_NoRule => kernel_rfl)
    (case kt_NoMeeting_NoRule => kernel_rfl)
    (case kt_NoPaper_NoRule => kernel_rfl)
    (case kt_TooMany_NoRule => kernel_rfl)
    (case kt_NoLine_NoRule => kernel_rfl)
    (case kt_NoRule_NoRule => kernel_rfl)
    (case kt_NoCrowd_NoCrowd => kernel_rfl)
    (case kt_NoText_NoCrowd => kernel_rfl)
    (case kt_NoMeeting_NoCrowd => kernel_rfl)
    (case kt_NoPaper_NoCrowd => kernel_rfl)
    (case kt_TooMany_NoCrowd => kernel_rfl)
    (case kt_NoLine_NoCrowd => kernel_rfl)
    (case kt_NoRule_NoCrowd => kernel_rfl)
    (case kh_NoCrowd_PassError => kernel_rfl)
    (case kh_NoText_PassError => kernel_rfl)
    (case kh_NoMeeting_PassError => kernel_rfl)
    (case kh_NoPaper_PassError => kernel_rfl)
    (case kh_TooMany_PassError => kernel_rfl)
    (case kh_NoLine_PassError => kernel_rfl)
    (case kh_NoRule_PassError => kernel_rfl)
    (case kt_NoCrowd_ValueError => kernel_rfl)
    (case kt_NoText_ValueError => kernel_rfl)
    (case kt_NoMeeting_ValueError => kernel_rfl)
    (case kt_NoPaper_ValueError => kernel_rfl)
    (case kt_TooMany_ValueError => kernel_rfl)
    (case kt_NoLine_ValueError => kernel_rfl)
    (case kt_NoRule_ValueError => kernel_rfl)
    (case z_range => k_is)
    (case z_len => k_is)
    (case z_tuple => k_is)
    (case z_list => k_is)
    (case z_max => k_is)
    (case z_min => k_is)
    (case z_sum => k_is)
    (case z_abs => k_is)
    (case z_repr => k_is)
    (case z_enumerate => k_is)
    (case z_isinstance => k_is)
    (case z_all => k_is)
    (case z_any => k_is)
    (case z_int => k_is)
    (case z_str => k_is)
    (case z_bool => k_is)
    (case z_zip => k_is)
    (case z_sorted => k_is)
    (case z_set => k_is)
    (case z_dict => k_is)
    (case z_reversed => k_is)
    (case z_ValueError => k_is)
