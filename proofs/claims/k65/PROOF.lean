import PyProof.Rows.All
import Wide.All
import OpenK.AllK
import Wide.FinOn
import Lean
import PyProof.EqAt
import PyProof.EqKinds
import PyProof.TupleCall
import PySem.Challenge.RW_passersby_k65_rows_of_questions
set_option Elab.async false
set_option linter.all false
set_option maxRecDepth 100000
namespace L2
open PySem PySem.Spec PyProof.Rows
abbrev Key := Sum Int Str
def keyIs : Key → Value → Bool
  | .inl k, v => Value.isInt k v
  | .inr x, v => Value.isStrOf x v
def keyH (w : World) : Key → Int
  | .inl k => hashInt k
  | .inr x => hashStr w x
theorem keyIs_shape : ∀ {k : Key} {v : Value}, keyIs k v = true → (∃ i t, k = Sum.inl i ∧ v = Value.int i t) ∨ (∃ x t, k = Sum.inr x ∧ v = Value.str x t)
  | .inl i, v, h => by
    obtain ⟨t, e⟩ := Value.isInt_shape (k := i) (v := v) h
    exact .inl ⟨i, t, rfl, e⟩
  | .inr x, v, h => by
    obtain ⟨t, e⟩ := Value.isStrOf_shape (x := x) (v := v) h
    exact .inr ⟨x, t, rfl, e⟩
theorem key_ll (a b : Int) : decide ((Sum.inl a : Key) = Sum.inl b) = (a == b) := by
  by_cases e : a = b
  · subst e; simp
  · have h : ¬ (Sum.inl a : Key) = Sum.inl b := fun q => e (Sum.inl.inj q)
    rw [decide_eq_false h]
    exact (beq_eq_false_iff_ne.mpr e).symm
theorem key_rr (a b : Str) : decide ((Sum.inr a : Key) = Sum.inr b) = decide (a = b) := by
  by_cases e : a = b
  · subst e; simp
  · have h : ¬ (Sum.inr a : Key) = Sum.inr b := fun q => e (Sum.inr.inj q)
    rw [decide_eq_false h, decide_eq_false e]
theorem key_lr (a : Int) (b : Str) : decide ((Sum.inl a : Key) = Sum.inr b) = false := decide_eq_false (fun q => nomatch q)
theorem key_rl (a : Str) (b : Int) : decide ((Sum.inr a : Key) = Sum.inl b) = false := decide_eq_false (fun q => nomatch q)
def mixKind (prog : Program) (w : World) : PySem.KeyKind prog w Key where
  is := keyIs
  hash := keyH w
  inj := fun v a b ha hb => by
    rcases keyIs_shape ha with ⟨i, t, rfl, rfl⟩ | ⟨x, t, rfl, rfl⟩
    · rcases keyIs_shape hb with ⟨j, u, rfl, e⟩ | ⟨y, u, rfl, e⟩
      · injection e with e1 _; rw [e1]
      · exact nomatch e
    · rcases keyIs_shape hb with ⟨j, u, rfl, e⟩ | ⟨y, u, rfl, e⟩
      · exact nomatch e
      · injection e with e1 _; rw [e1]
  byValue := fun k v h => by
    rcases keyIs_shape h with ⟨i, t, rfl, rfl⟩ | ⟨x, t, rfl, rfl⟩ <;> rfl
  pyHash := fun hv h => by
    rcases keyIs_shape hv with ⟨i, t, rfl, rfl⟩ | ⟨x, t, rfl, rfl⟩
    · exact wpAny_pyHash_int h
    · exact wpAny_pyHash_str h
  eqBool := fun hu hv h => by
    rcases keyIs_shape hu with ⟨i, t, rfl, rfl⟩ | ⟨x, t, rfl, rfl⟩
    · rcases keyIs_shape hv with ⟨j, u, rfl, rfl⟩ | ⟨y, u, rfl, rfl⟩
      · rw [key_ll] at h; exact wpAny_eqBool_int h
      · rw [key_lr] at h; exact SeqAt.EqAt.int_str i t y u _ _ _ _ h
    · rcases keyIs_shape hv with ⟨j, u, rfl, rfl⟩ | ⟨y, u, rfl, rfl⟩
      · rw [key_rl] at h; exact SeqAt.EqAt.str_int x t j u _ _ _ _ h
      · rw [key_rr] at h; exact wpAny_eqBool_str h
  «strs» := fun k x t v h => by
    rcases keyIs_shape h with ⟨i, u, rfl, e⟩ | ⟨y, u, rfl, e⟩
    · exact nomatch e
    · injection e with e1 _
      subst e1
      cases v <;> rfl
end L2
namespace L2
open PySem PySem.Spec PyProof.Rows
inductive V where
  | non | bl (b : Bool) | int (i : Int) | str (x : Str) | byt (b : Array UInt8) | flt (b : UInt64) | ref (a : Addr) | ty (n : String)
  deriving DecidableEq
def RelV : V → Value → Prop
  | .non, u => u = Value.none
  | .bl b, u => u = Value.bool b
  | .int i, u => ∃ t, u = Value.int i t
  | .str x, u => ∃ t, u = Value.str x t
  | .byt b, u => ∃ t, u = Value.bytes b t
  | .flt b, u => ∃ t, u = Value.float b t
  | .ref a, u => u = Value.ref a
  | .ty n, u => u = Value.type n
abbrev Vals : List V → List Value → Prop := Paired RelV
theorem Vals.length {xs : List V} {us : List Value} (r : Vals xs us) : xs.length = us.length := Paired.length r
theorem Vals.get : ∀ {xs : List V} {us : List Value} {i : Nat} {x : V}, Vals xs us → xs[i]? = some x → ∃ u, us[i]? = some u ∧ RelV x u
  | _, _, _, _, .nil, e => by simp at e
  | _, _, 0, _, .cons r _, e => by simp at e; subst e; exact ⟨_, rfl, r⟩
  | _, _, i + 1, x, .cons _ t, e => by
    obtain ⟨u, h1, h2⟩ := Vals.get (i := i) (x := x) t (by simpa using e)
    exact ⟨u, by simpa using h1, h2⟩
theorem Vals.set {x : V} {u : Value} (r : RelV x u) : ∀ {xs : List V} {us : List Value} (i : Nat), Vals xs us → Vals (xs.set i x) (us.set i u)
  | _, _, _, .nil => .nil
  | _, _, 0, .cons _ t => .cons r t
  | _, _, i + 1, .cons q t => .cons q (Vals.set r i t)
theorem Vals.append : ∀ {xs ys : List V} {us ws : List Value}, Vals xs us → Vals ys ws → Vals (xs ++ ys) (us ++ ws)
  | _, _, _, _, .nil, s => s
  | _, _, _, _, .cons r t, s => .cons r (Vals.append t s)
theorem Vals.take : ∀ {xs : List V} {us : List Value} (n : Nat), Vals xs us → Vals (xs.take n) (us.take n)
  | _, _, 0, _ => .nil
  | _, _, _ + 1, .nil => .nil
  | _, _, n + 1, .cons r t => .cons r (Vals.take n t)
theorem Vals.drop : ∀ {xs : List V} {us : List Value} (n : Nat), Vals xs us → Vals (xs.drop n) (us.drop n)
  | _, _, 0, r => r
  | _, _, _ + 1, .nil => .nil
  | _, _, n + 1, .cons _ t => Vals.drop n t
def RelO : Option V → Option Value → Prop
  | some v, some u => RelV v u
  | none, none => True
  | _, _ => False
def KV {κ : Type} : List (κ × V) → List (κ × Value) → Prop := Paired fun (p : κ × V) (q : κ × Value) => p.1 = q.1 ∧ RelV p.2 q.2
def kV : Key → V
  | .inl i => .int i
  | .inr x => .str x
inductive HO where
    | lst (xs : List V)
    | tup (xs : List V)
    | dK (kvs : List (Key × V)) | dT (kvs : List (List Key × V))
    | set (S : Int → Bool) (n : Nat)
    | ins (C dx : Addr) (fs : List (Str × V))
    | own (x : Addr)
    | xd (fs : List (Str × V))
    | met (f x : Addr)
    | rng (lo hi : Int)
    | frz (o : Obj) (u : HO)
    | tbl (ps : Array Value)
    | ext (φ : Heap → Prop)
abbrev Hp := Addr → Option HO
def upd (H : Hp) (a : Addr) (o : HO) : Hp := fun b => if b = a then some o else H b
theorem upd_same {H : Hp} {a : Addr} {o : HO} : upd H a o a = some o := by unfold upd; rw [if_pos rfl]
theorem upd_ne {H : Hp} {a b : Addr} {o : HO} (h : b ≠ a) : upd H a o b = H b := by unfold upd; rw [if_neg h]
theorem ne_of_none {H : Hp} {a b : Addr} {o : HO} (h : H a = some o) (h' : H b = none) : a ≠ b := by
  intro e; subst e; rw [h] at h'; cases h'
section
variable (P : Program) (w : World)
def ObjOk (H : Hp) (h : Heap) (a : Addr) : HO → Prop
  | .lst xs => xs.length ≤ sizeLine ∧ ∃ (its : List Value) (n : Nat), Vals xs its ∧ h.get? a = some { cls := .type "list", data := .seq its.toArray n }
  | .tup xs => xs.length ≤ sizeLine ∧ ∃ its : List Value, Vals xs its ∧ IsTup h a its.toArray
  | .dK kvs => kvs.length ≤ sizeLine ∧ (a == sysModules) = false ∧ ∃ vs, KV kvs vs ∧ h.DictOf (mixKind P w) a vs
  | .dT kvs => kvs.length ≤ sizeLine ∧ (a == sysModules) = false ∧ ∃ xs : List (List Key × Addr × Value),
      Paired (fun (p : List Key × V) (q : List Key × Addr × Value) => p.1 = q.1 ∧ H q.2.1 = some (.tup (p.1.map kV)) ∧ RelV p.2 q.2.2) kvs xs ∧
      ∃ o es ep, h.get? a = some o ∧ o.ExactDict ∧ o.data = .dict es ep ∧ es.toList = xs.map (entryOfKey (tupleKind (mixKind P w))) ∧ (xs.map (·.1)).Nodup
  | .set S n => h.SetOf (intKind P w) a S n
  | .ins C dx fs => H dx = some (.own a) ∧ fs.length ≤ 1000 ∧ dx ≠ a ∧ h.get? a = some (PySem.W.instObj C dx) ∧
      ∃ mA, h.Ns1 dx mA ∧ (∀ f, RelO (fs.lookup f) (mA f)) ∧ PySem.Within mA (fs.map (·.1))
  | .own _ => ∃ o, h.get? a = some o
  | .xd fs => ∃ mA, h.Ns1 a mA ∧ ∀ f, RelO (fs.lookup f) (mA f)
  | .rng lo hi => ∃ t u v, h.get? a = some { cls := .type "range", data := .fields #[.int lo t, .int hi u, .int 1 v] }
  | .frz o u => h.get? a = some o ∧ ObjOk H h a u
  | .tbl ps => h.get? a = some { cls := .none, data := .fields ps }
  | .met f x => h.get? a = some (PySem.W.methodObj (.ref f) (.ref x))
  | .ext φ => φ h ∧ (∃ o, h.get? a = some o) ∧ ∀ h1 h2 : Heap, φ h1 → (∀ o, h1.get? a = some o → h2.get? a = some o) → φ h2
def HOk (H : Hp) (h : Heap) : Prop := ∀ a o, H a = some o → ObjOk P w H h a o
end
section
variable {P : Program} {w : World} {H H' : Hp} {h h' : Heap} {a : Addr} {o : HO}
theorem ObjOk.lt (x : ObjOk P w H h a o) : a < h.objs.size := by
  cases o with
  | lst xs => obtain ⟨_, _, _, _, e⟩ := x; exact Heap.lt_size e
  | tup xs => obtain ⟨_, _, _, p⟩ := x; exact p.lt
  | dK kvs => obtain ⟨_, _, _, _, o, _, _, e, _⟩ := x; exact Heap.lt_size e
  | dT kvs => obtain ⟨_, _, _, _, o, _, _, e, _⟩ := x; exact Heap.lt_size e
  | set S n => obtain ⟨o, _, _, _, e, _⟩ := x; exact Heap.lt_size e
  | ins C dx fs => obtain ⟨_, _, _, e, _⟩ := x; exact Heap.lt_size e
  | own y => obtain ⟨_, e⟩ := x; exact Heap.lt_size e
  | xd fs => obtain ⟨_, ⟨_, _, _, e, _⟩, _⟩ := x; exact Heap.lt_size e
  | rng lo hi => obtain ⟨_, _, _, e⟩ := x; exact Heap.lt_size e
  | frz ob u => obtain ⟨e, _⟩ := x; exact Heap.lt_size e
  | tbl ps => exact Heap.lt_size (show h.get? a = some _ from x)
  | met f y => exact Heap.lt_size (show h.get? a = some _ from x)
  | ext φ => obtain ⟨_, ⟨_, e⟩, _⟩ := x; exact Heap.lt_size e
theorem Paired.mapP {α β : Type} {F G : α → β → Prop} : ∀ {l₁ : List α} {l₂ : List β}, Paired F l₁ l₂ → (∀ a b, F a b → G a b) → Paired G l₁ l₂
  | _, _, .nil, _ => .nil
  | _, _, .cons r t, f => .cons (f _ _ r) (Paired.mapP t f)
theorem ObjOk.stay (x : ObjOk P w H h a o) (k : ∀ b u, (b = a ∨ H b = some (.own a)) → h.get? b = some u → h'.get? b = some u)
    (ho : ∀ b, H b = some (.own a) → H' b = some (.own a)) (ht : ∀ b xs, H b = some (.tup xs) → H' b = some (.tup xs)) : ObjOk P w H' h' a o := by
  induction o with
  | lst xs => obtain ⟨z, its, n, r, e⟩ := x; exact ⟨z, its, n, r, k _ _ (.inl rfl) e⟩
  | tup xs => obtain ⟨z, its, r, ob, e, c⟩ := x; exact ⟨z, its, r, ob, k _ _ (.inl rfl) e, c⟩
  | dK kvs => obtain ⟨z, y, vs, r, ob, es, ep, e, c⟩ := x; exact ⟨z, y, vs, r, ob, es, ep, k _ _ (.inl rfl) e, c⟩
  | dT kvs =>
    obtain ⟨z, y, xs, r, ob, es, ep, e, c⟩ := x
    exact ⟨z, y, xs, Paired.mapP r fun p q z => ⟨z.1, ht _ _ z.2.1, z.2.2⟩, ob, es, ep, k _ _ (.inl rfl) e, c⟩
  | set S n => obtain ⟨ob, es, ep, t, e, c⟩ := x; exact ⟨ob, es, ep, t, k _ _ (.inl rfl) e, c⟩
  | ins C dx fs =>
    obtain ⟨d, z, ne, e, mA, ⟨od, es, ep, e2, c⟩, r⟩ := x
    exact ⟨ho _ d, z, ne, k _ _ (.inl rfl) e, mA, ⟨od, es, ep, k _ _ (.inr d) e2, c⟩, r⟩
  | own y => obtain ⟨ob, e⟩ := x; exact ⟨ob, k _ _ (.inl rfl) e⟩
  | xd fs => obtain ⟨mA, ⟨od, es, ep, e, c⟩, r⟩ := x; exact ⟨mA, ⟨od, es, ep, k _ _ (.inl rfl) e, c⟩, r⟩
  | rng lo hi => obtain ⟨t, u, v, e⟩ := x; exact ⟨t, u, v, k _ _ (.inl rfl) e⟩
  | frz ob u ih => obtain ⟨e, q⟩ := x; exact ⟨k _ _ (.inl rfl) e, ih q⟩
  | tbl ps =>
    have e : h.get? a = some { cls := .none, data := .fields ps } := x
    show h'.get? a = some { cls := .none, data := .fields ps }
    exact k a _ (.inl rfl) e
  | met f y =>
    have e : h.get? a = some (PySem.W.methodObj (.ref f) (.ref y)) := x
    show h'.get? a = some (PySem.W.methodObj (.ref f) (.ref y))
    exact k a _ (.inl rfl) e
  | ext φ => obtain ⟨p, ⟨o, e⟩, st⟩ := x; exact ⟨st _ _ p fun o q => k _ _ (.inl rfl) q, ⟨o, k _ _ (.inl rfl) e⟩, st⟩
theorem HOk.lt (x : HOk P w H h) (e : H a = some o) : a < h.objs.size := (x a o e).lt
theorem HOk.fresh (x : HOk P w H h) (e : h.objs.size ≤ a) : H a = none := by
  cases q : H a with
  | none => rfl
  | some u => exact absurd (Nat.lt_of_lt_of_le (x.lt q) e) (Nat.lt_irrefl _)
theorem HOk.kept (x : HOk P w H h) (k : ∀ b u, h.get? b = some u → h'.get? b = some u) : HOk P w H h' := fun a o e =>
  (x a o e).stay (fun b u _ q => k b u q) (fun _ q => q) fun _ _ q => q
theorem HOk.laid (x : HOk P w H h) (k : ∀ b u, h.get? b = some u → h'.get? b = some u) (hp : h.objs.size ≤ a) (new : ObjOk P w (upd H a o) h' a o) : HOk P w (upd H a o) h' := fun b u e => by
  have hn := x.fresh hp
  by_cases hb : b = a
  · subst hb; rw [upd_same] at e; cases e; exact new
  · rw [upd_ne hb] at e
    exact (x b u e).stay (fun c v _ q => k c v q) (fun c q => by rw [upd_ne (ne_of_none q hn)]; exact q) fun c xs q => by rw [upd_ne (ne_of_none q hn)]; exact q
end
def Rd (H : Hp) (a : Addr) (u : HO) : Prop := H a = some u ∨ ∃ o, H a = some (.frz o u)
theorem Rd.ok {P : Program} {w : World} {H : Hp} {h : Heap} {a : Addr} {u : HO} (r : Rd H a u) (x : HOk P w H h) : ObjOk P w H h a u := by
  rcases r with r | ⟨o, r⟩
  · exact x a u r
  · obtain ⟨_, q⟩ := x a _ r
    exact q
def Mut : Option HO → Prop
  | some (.lst _) => True
  | some (.dK _) => True
  | some (.dT _) => True
  | some (.set _ _) => True
  | some (.ins _ _ _) => True
  | some (.ext _) => True
  | _ => False
section
variable {P : Program} {w : World} {H : Hp} {h h' : Heap} {x e : Addr} {o' : HO}
theorem HOk.write (ok : HOk P w H h) (mu : Mut (H x)) (he : e = x ∨ H e = some (.own x)) (k : ∀ b u, b ≠ e → h.get? b = some u → h'.get? b = some u) (heo : ∃ u, h'.get? e = some u)
    (new : ObjOk P w (upd H x o') h' x o') : HOk P w (upd H x o') h' := fun b u q => by
  have nown : ∀ c y, H c = some (.own y) → c ≠ x := fun c y r z => by subst z; rw [r] at mu; exact mu
  have ntup : ∀ c xs, H c = some (.tup xs) → c ≠ x := fun c xs r z => by subst z; rw [r] at mu; exact mu
  by_cases hb : b = x
  · subst hb; rw [upd_same] at q; cases q; exact new
  · rw [upd_ne hb] at q
    by_cases hbe : b = e
    · have q' : H b = some (.own x) := by
        rcases he with z | z
        · exact absurd (hbe.trans z) hb
        · rw [hbe]; exact z
      rw [q] at q'; cases q'
      obtain ⟨v, hv⟩ := heo
      exact ⟨v, by rw [hbe]; exact hv⟩
    · refine (ok b u q).stay (fun c v hc r => k c v ?_ r) (fun c r => by rw [upd_ne (nown c b r)]; exact r) fun c xs r => by rw [upd_ne (ntup c xs r)]; exact r
      rcases hc with rfl | hc
      · exact hbe
      · rintro rfl
        rcases he with z | z
        · exact nown c b hc z
        · rw [hc] at z; cases z; exact hb rfl
end
structure Un (fs ex : List Addr) (H H' : Hp) (h h' : Heap) : Prop where
  keep : ∀ b o, h.get? b = some o → H b = none → b ∉ fs → b ∉ ex → h'.get? b = some o
  slot : ∀ b o, h.get? b = some o → H b = none → b ∈ fs → b ∉ ex → ∃ sl, h'.get? b = some { o with slots := sl }
  free : ∀ b o, h.get? b = some o → H b = none → b ∉ ex → H' b = none
  there : ∀ b o, h.get? b = some o → b ∉ ex → ∃ o', h'.get? b = some o'
  tups : ∀ b xs, H b = some (.tup xs) → H' b = some (.tup xs)
  frzs : ∀ b o u, H b = some (.frz o u) → H' b = some (.frz o u)
  tbls : ∀ b ps, H b = some (.tbl ps) → ∃ more, H' b = some (.tbl (ps ++ more))
section
variable {fs fs' ex ex' : List Addr} {H H1 H2 : Hp} {h h1 h2 h' : Heap} {a x e : Addr} {o : HO}
theorem Un.any (u : Un fs ex H H1 h h1) {b : Addr} {ob : Obj} (q : h.get? b = some ob) (n : H b = none) (hx : b ∉ ex) : ∃ sl, h1.get? b = some { ob with slots := sl } := by
  by_cases hb : b ∈ fs
  · exact u.slot b ob q n hb hx
  · exact ⟨ob.slots, u.keep b ob q n hb hx⟩
theorem Un.kept (k : ∀ b u, h.get? b = some u → h'.get? b = some u) : Un fs ex H H h h' :=
  ⟨fun b ob q _ _ _ => k b ob q, fun b ob q _ _ _ => ⟨ob.slots, k b ob q⟩, fun _ _ _ n _ => n, fun b ob q _ => ⟨ob, k b ob q⟩, fun _ _ q => q, fun _ _ _ q => q, fun _ ps q => ⟨#[], by rw [q]; simp⟩⟩
theorem Un.refl : Un fs ex H H h h := Un.kept fun _ _ q => q
theorem Un.laid (k : ∀ b u, h.get? b = some u → h'.get? b = some u) (hp : h.objs.size ≤ a) (hn : H a = none) : Un fs ex H (upd H a o) h h' where
  keep := fun b u q _ _ _ => k b u q
  slot := fun b u q _ _ _ => ⟨u.slots, k b u q⟩
  free := fun b u q n _ => by rw [upd_ne (Nat.ne_of_lt (Nat.lt_of_lt_of_le (Heap.lt_size q) hp))]; exact n
  there := fun b u q _ => ⟨u, k b u q⟩
  tups := fun b xs q => by rw [upd_ne (ne_of_none q hn)]; exact q
  frzs := fun b u xs q => by rw [upd_ne (ne_of_none q hn)]; exact q
  tbls := fun b ps q => ⟨#[], by rw [upd_ne (ne_of_none q hn), q]; simp⟩
theorem Un.write (mu : Mut (H x)) (he : e = x ∨ H e = some (.own x)) (k : ∀ b u, b ≠ e → h.get? b = some u → h'.get? b = some u) (heo : ∃ u, h'.get? e = some u) : Un fs ex H (upd H x o) h h' := by
  have hx : ∀ b, H b = none → b ≠ x := fun b n z => by subst z; rw [n] at mu; exact mu
  have hb : ∀ b, H b = none → b ≠ e := fun b n z => by
    subst z
    rcases he with r | r
    · exact hx b n r
    · rw [n] at r; cases r
  have hm : ∀ b u, H b = some u → ¬ Mut (some u) → b ≠ x := fun b u q nm z => by subst z; rw [q] at mu; exact nm mu
  refine ⟨fun b u q n _ _ => k b u (hb b n) q, fun b u q n _ _ => ⟨u.slots, k b u (hb b n) q⟩, fun b u q n _ => by rw [upd_ne (hx b n)]; exact n, fun b u q _ => ?_,
    fun b xs q => by rw [upd_ne (hm b _ q fun z => z)]; exact q, fun b u xs q => by rw [upd_ne (hm b _ q fun z => z)]; exact q, fun b ps q => ⟨#[], by rw [upd_ne (hm b _ q fun z => z), q]; simp⟩⟩
  by_cases hbe : b = e
  · subst hbe; exact heo
  · exact ⟨u, k b u hbe q⟩
end
def trk (h : Heap) (H : Hp) : List Addr := (List.range h.objs.size).filter fun a => (H a).isSome
def hidT (h : Heap) (H : Hp) : Heap := PySem.W.hideAll h (trk h H)
theorem hidT_size (h : Heap) (H : Hp) : (hidT h H).objs.size = h.objs.size := PySem.W.hideAll_size _ _
theorem hidT_get {h : Heap} {H : Hp} {b : Addr} {o : Obj} (e : h.get? b = some o) (n : H b = none) : (hidT h H).get? b = some o :=
  PySem.W.hideAll_get _ e fun hm => by
    have q : (H b).isSome = true := (List.mem_filter.mp hm).2
    rw [n] at q; simp at q
theorem of_hidT {h : Heap} {H : Hp} {b : Addr} {o : Obj} (e : (hidT h H).get? b = some o) : h.get? b = some o ∧ H b = none := by
  have e' : h.get? b = some o := PySem.W.of_hideAll (trk h H) e
  refine ⟨e', ?_⟩
  cases q : H b with
  | none => rfl
  | some x =>
    have hm : b ∈ trk h H := List.mem_filter.mpr ⟨List.mem_range.mpr (Heap.lt_size e'), by simp [q]⟩
    have z : (hidT h H).get? b = none := PySem.W.hideAll_none (trk h H) hm
    rw [z] at e; cases e
end L2
namespace L2
open PySem PySem.Spec PyProof.Rows
structure Mod (K : PySem.W.Frag) (mg : Str → Option Value) (base : Heap) : Prop where
  kin : K.In base
  glob : base.Ns mainGlobals mg
  blt : ∃ mb, base.Ns builtinsNs mb ∧ ∀ x : Str, x ≠ "__name__" → mb x = bootBuiltins x
  nolimit : base.NoLimit
structure Cx where
  prog : Program
  w : World
  K : PySem.W.Frag
  mg : Str → Option Value
  base : Heap
  A : Around
  N : List Str
  s₀ : Shared
  H₀ : Hp
  env : Env
  outer : List Env
  stack : List Env
  ex : List Addr
  fn : Str → Bool
  calm : Bool
  pn : List (Addr × Obj)
  xe : Value → Shared → Prop
def frs (l : List Env) : List Addr := l.filterMap (·.frame)
abbrev Cx.fs (X : Cx) : List Addr := frs X.outer
def Vis (sc : Scope) (x : Str) : Prop := sc.names.lookup x = some .local ∨ sc.names.lookup x = some .cell ∨ sc.names.lookup x = some .free
def Loc (sc : Scope) (x : Str) : Prop := sc.names.lookup x = some .local ∨ sc.names.lookup x = some .cell
def Look (env : Env) (h : Heap) (m : Str → Option Value) (x : Str) (u : Value) : Prop :=
  (env.kindOf x = some .local ∧ m x = some u) ∨ ((env.kindOf x = some .cell ∨ env.kindOf x = some .free) ∧ ∃ c, env.cells.lookup x = some c ∧ h.IsCell c (some u))
structure Cx.Ok (X : Cx) : Prop where
  mod : Mod X.K X.mg X.base
  kind : X.env.scope.kind = .function
  glob : X.env.globals = mainGlobals
  blt : X.env.builtins = builtinsNs
  above : X.s₀.heap.objs.size ≤ X.env.locals
  inj : ∀ x y c, X.env.cells.lookup x = some c → X.env.cells.lookup y = some c → x = y
  has : ∀ x, (X.env.kindOf x = some .cell ∨ X.env.kindOf x = some .free) → ∃ c, X.env.cells.lookup x = some c
  cab : ∀ x c, X.fn x = true → X.env.cells.lookup x = some c → X.s₀.heap.objs.size ≤ c
  hd : X.calm = true → X.A.handled = none
  frames : X.A.frames = some X.stack
  stk : X.stack = X.outer ∨ (X.stack = X.env :: X.outer ∧ X.env.frame = some X.env.locals)
  exf : ∀ b ∈ X.ex, b ≠ X.env.locals ∧ ∀ x c, X.env.cells.lookup x = some c → c ≠ b
  bs : ∀ b o, X.base.get? b = some o → X.s₀.heap.get? b = some o ∧ X.H₀ b = none
  bsz : X.base.objs.size ≤ X.s₀.heap.objs.size
  noex : ∀ b o, X.base.get? b = some o → b ∉ X.ex
  exfs : ∀ b ∈ X.ex, b ∉ X.fs
  funs : X.s₀.heap.FunFrames X.base X.outer
  frf : ∀ b ∈ X.fs, X.H₀ b = none
structure Inv (X : Cx) (pins : List (Addr × Obj)) (σ : List (Option V)) (H : Hp) (s : Shared) : Prop where
  ok : X.Ok
  os : s.os = X.s₀.os
  bare : AllBare s.gens
  base : Un X.fs X.ex X.H₀ H X.s₀.heap s.heap
  loc : ∃ m, s.heap.Ns X.env.locals m ∧ ∀ (i : Nat) (x : Str) (v : V), X.N[i]? = some x → σ[i]? = some (some v) → Vis X.env.scope x → ∃ u, RelV v u ∧ Look X.env s.heap m x u
  cell : ∀ x c, X.env.cells.lookup x = some c → ∃ v, s.heap.IsCell c v
  free : H X.env.locals = none
  freeC : ∀ x c, X.env.cells.lookup x = some c → H c = none
  pin : ∀ p ∈ X.pn ++ pins, s.heap.get? p.1 = some p.2 ∧ H p.1 = none ∧ p.1 ≠ X.env.locals ∧ p.1 ∉ X.fs ∧ ∀ v, p.2.data ≠ .cell v
  hok : HOk X.prog X.w H s.heap
  len : σ.length = X.N.length
section
variable {X : Cx} {pins : List (Addr × Obj)} {σ : List (Option V)} {H H' : Hp} {s : Shared} {h' : Heap}
theorem Cx.Ok.nofr (ok : X.Ok) {b : Addr} {o : Obj} (e : X.base.get? b = some o) : b ∉ X.fs := fun hb => by
  have := (ok.funs.mem hb).1
  rw [e] at this; cases this
theorem Inv.bs (I : Inv X pins σ H s) : ∀ b o, X.base.get? b = some o → s.heap.get? b = some o ∧ H b = none := fun b o e =>
  ⟨I.base.keep b o (I.ok.bs b o e).1 (I.ok.bs b o e).2 (I.ok.nofr e) (I.ok.noex b o e), I.base.free b o (I.ok.bs b o e).1 (I.ok.bs b o e).2 (I.ok.noex b o e)⟩
theorem Inv.bk (I : Inv X pins σ H s) : ∀ b o, X.base.get? b = some o → s.heap.get? b = some o := fun b o e => (I.bs b o e).1
theorem Inv.mod (I : Inv X pins σ H s) : Mod X.K X.mg X.base := I.ok.mod
theorem Inv.kIn (I : Inv X pins σ H s) : X.K.In s.heap := I.ok.mod.kin.keeps I.bk
theorem Inv.lt (I : Inv X pins σ H s) : X.env.locals < s.heap.objs.size := let ⟨_, hn, _⟩ := I.loc; hn.lt
theorem Inv.sz (I : Inv X pins σ H s) : X.s₀.heap.objs.size ≤ s.heap.objs.size := Nat.le_trans I.ok.above (Nat.le_of_lt I.lt)
theorem Inv.nofs (I : Inv X pins σ H s) {a : Addr} (h : s.heap.objs.size ≤ a) : a ∉ X.fs := fun hb => by
  obtain ⟨_, o, ho, _⟩ := I.ok.funs.mem hb
  exact absurd (Nat.lt_of_lt_of_le (Heap.lt_size ho) (Nat.le_trans I.sz h)) (Nat.lt_irrefl _)
theorem Inv.cne (I : Inv X pins σ H s) : ∀ x c, X.env.cells.lookup x = some c → c ≠ X.env.locals := fun x c e z => by
  obtain ⟨v, o, ho, hd⟩ := I.cell x c e
  obtain ⟨m, ⟨o', es, ep, ho', hd', _⟩, _⟩ := I.loc
  rw [z, ho'] at ho; cases ho; rw [hd'] at hd; cases hd
theorem Inv.funs (I : Inv X pins σ H s) : s.heap.FunFrames X.base X.outer := by
  have all : ∀ (l : List Env), (∀ b ∈ frs l, b ∈ X.fs) → X.s₀.heap.FunFrames X.base l → s.heap.FunFrames X.base l := by
    intro l
    induction l with
    | nil => intro _ _; trivial
    | cons env r ih =>
      intro hs hl
      obtain ⟨hk, ⟨L, o, hf, hn, ho, hd⟩, hr⟩ := hl
      have hL : L ∈ X.fs := hs L (by unfold frs; rw [List.filterMap_cons, hf]; exact List.mem_cons_self)
      obtain ⟨sl, e⟩ := I.base.slot L o ho (I.ok.frf L hL) hL fun z => I.ok.exfs L z hL
      exact ⟨hk, ⟨L, _, hf, hn, e, hd⟩, ih (fun b hb => hs b (by unfold frs; rw [List.filterMap_cons, hf]; exact List.mem_cons_of_mem _ hb)) hr⟩
  exact all X.outer (fun _ hb => hb) I.ok.funs
theorem Inv.stack (I : Inv X pins σ H s) : s.heap.FunFrames X.base X.stack := by
  rcases I.ok.stk with e | ⟨e, hf⟩
  · rw [e]; exact I.funs
  · rw [e]
    obtain ⟨m, hn, _⟩ := I.loc
    refine .cons (by rw [I.ok.kind]; decide) hf hn ?_ I.funs
    exact Heap.get?_none_of_le (Nat.le_trans I.ok.bsz I.ok.above)
theorem Inv.stkSub (I : Inv X pins σ H s) : ∀ b ∈ frs X.stack, b ∈ X.env.locals :: X.fs := fun b hb => by
  rcases I.ok.stk with e | ⟨e, hf⟩
  · rw [e] at hb; exact List.mem_cons_of_mem _ hb
  · rw [e] at hb
    unfold frs at hb
    rw [List.filterMap_cons, hf] at hb
    exact hb
theorem Inv.stkFree (I : Inv X pins σ H s) : ∀ b ∈ frs X.stack, H b = none := fun b hb => by
  rcases List.mem_cons.mp (I.stkSub b hb) with e | hb
  · rw [e]; exact I.free
  · obtain ⟨_, o, ho, _⟩ := I.ok.funs.mem hb
    exact I.base.free b o ho (I.ok.frf b hb) fun z => I.ok.exfs b z hb
theorem Inv.step {g' : Array GenState} {t' : Nat} {d' : Drawn} {ch : List Addr} (I : Inv X pins σ H s)
    (hch : ∀ b ∈ ch, (b ∈ X.ex ∨ X.s₀.heap.objs.size ≤ b) ∧ b ≠ X.env.locals ∧ (∀ x c, X.env.cells.lookup x = some c → c ≠ b) ∧ ∀ p ∈ X.pn ++ pins, p.1 ≠ b)
    (keep : ∀ b o, b ≠ X.env.locals → b ∉ X.fs → b ∉ ch → s.heap.get? b = some o → H b = none → h'.get? b = some o)
    (slot : ∀ b o, b ≠ X.env.locals → b ∈ X.fs → b ∉ ch → s.heap.get? b = some o → H b = none → ∃ sl, h'.get? b = some { o with slots := sl }) (free : ∀ b o, b ∉ ch → s.heap.get? b = some o → H b = none → H' b = none)
    (there : ∀ b o, b ∉ ch → s.heap.get? b = some o → ∃ o', h'.get? b = some o')
    (tups : ∀ b xs, H b = some (.tup xs) → H' b = some (.tup xs)) (frzs : ∀ b o u, H b = some (.frz o u) → H' b = some (.frz o u)) (tbls : ∀ b ps, H b = some (.tbl ps) → ∃ more, H' b = some (.tbl (ps ++ more)))
    (ns : ∀ m, s.heap.Ns X.env.locals m → h'.Ns X.env.locals m) (hok : HOk X.prog X.w H' h') (hg : AllBare g') :
    Inv X pins σ H' { s with heap := h', gens := g', drawn := d', toks := t' } := by
  have neL : ∀ b o, X.s₀.heap.get? b = some o → b ≠ X.env.locals := fun b o e => Nat.ne_of_lt (Nat.lt_of_lt_of_le (Heap.lt_size e) I.ok.above)
  have neC : ∀ b o, X.s₀.heap.get? b = some o → b ∉ X.ex → b ∉ ch := fun b o e hx hb => by
    rcases (hch b hb).1 with z | z
    · exact hx z
    · exact absurd (Nat.lt_of_lt_of_le (Heap.lt_size e) z) (Nat.lt_irrefl _)
  have cellK : ∀ x c, X.env.cells.lookup x = some c → ∀ v, s.heap.IsCell c v → h'.IsCell c v := fun x c e v ⟨o, ho, hd⟩ => by
    have nch : c ∉ ch := fun z => (hch c z).2.2.1 x c e rfl
    by_cases hc : c ∈ X.fs
    · obtain ⟨sl, q⟩ := slot c o (I.cne x c e) hc nch ho (I.freeC x c e)
      exact ⟨_, q, hd⟩
    · exact ⟨o, keep c o (I.cne x c e) hc nch ho (I.freeC x c e), hd⟩
  refine ⟨I.ok, I.os, hg, ⟨fun b o e n hb hx => ?_, fun b o e n hb hx => ?_, fun b o e n hx => ?_, fun b o e hx => ?_, fun b xs e => tups b xs (I.base.tups b xs e), fun b o xs e => frzs b o xs (I.base.frzs b o xs e), fun b ps e => ?_⟩, ?_, fun x c e => ?_, ?_, fun x c e => ?_, fun p hp => ?_, hok, I.len⟩
  · exact keep b o (neL b o e) hb (neC b o e hx) (I.base.keep b o e n hb hx) (I.base.free b o e n hx)
  · obtain ⟨sl, e1⟩ := I.base.slot b o e n hb hx
    obtain ⟨sl', e2⟩ := slot b _ (neL b o e) hb (neC b o e hx) e1 (I.base.free b o e n hx)
    exact ⟨sl', e2⟩
  · obtain ⟨o', e1⟩ := I.base.there b o e hx
    exact free b o' (neC b o e hx) e1 (I.base.free b o e n hx)
  · obtain ⟨o', e1⟩ := I.base.there b o e hx
    exact there b o' (neC b o e hx) e1
  · obtain ⟨m1, e1⟩ := I.base.tbls b ps e
    obtain ⟨m2, e2⟩ := tbls b _ e1
    exact ⟨m1 ++ m2, by rw [e2, Array.append_assoc]⟩
  · obtain ⟨m, hn, hl⟩ := I.loc
    refine ⟨m, ns m hn, fun i x v e1 e2 e3 => ?_⟩
    obtain ⟨u, r, l⟩ := hl i x v e1 e2 e3
    refine ⟨u, r, ?_⟩
    rcases l with l | ⟨k, c, e, z⟩
    · exact .inl l
    · exact .inr ⟨k, c, e, cellK x c e _ z⟩
  · obtain ⟨v, z⟩ := I.cell x c e
    exact ⟨v, cellK x c e v z⟩
  · obtain ⟨m, ⟨o, _, _, ho, _⟩, _⟩ := I.loc
    exact free _ o (fun z => (hch _ z).2.1 rfl) ho I.free
  · obtain ⟨v, o, ho, hd⟩ := I.cell x c e
    exact free c o (fun z => (hch c z).2.2.1 x c e rfl) ho (I.freeC x c e)
  · obtain ⟨e, n, ne, nf, d⟩ := I.pin p hp
    have nch : p.1 ∉ ch := fun z => (hch p.1 z).2.2.2 p hp rfl
    exact ⟨keep p.1 p.2 ne nf nch e n, free p.1 p.2 nch e n, ne, nf, d⟩
theorem Inv.un {t' : Nat} (I : Inv X pins σ H s) (u : Un X.fs [] H H' s.heap h') (hok : HOk X.prog X.w H' h') : Inv X pins σ H' { s with heap := h', toks := t' } := by
  obtain ⟨m, ⟨o, es, ep, ho, r⟩, _⟩ := id I.loc
  obtain ⟨sl, hL⟩ := u.any ho I.free (by simp)
  exact I.step (g' := s.gens) (d' := s.drawn) (ch := []) (fun _ z => nomatch z) (fun b o _ hb _ e n => u.keep b o e n hb (by simp)) (fun b o _ hb _ e n => u.slot b o e n hb (by simp)) (fun b o _ e n => u.free b o e n (by simp)) (fun b o _ e => u.there b o e (by simp)) u.tups u.frzs u.tbls (fun m' hm => by
    obtain ⟨o', es', ep', ho', r'⟩ := hm
    rw [ho] at ho'; cases ho'
    exact ⟨_, es', ep', hL, r'⟩) hok I.bare
theorem Inv.call {g' : Array GenState} {t' : Nat} {d' : Drawn} {ch : List Addr} (I : Inv X pins σ H s) (u : Un (frs X.stack) ch H H' s.heap h') (hok : HOk X.prog X.w H' h') (hg : AllBare g')
    (hch : ∀ b ∈ ch, (b ∈ X.ex ∨ X.s₀.heap.objs.size ≤ b) ∧ b ≠ X.env.locals ∧ (∀ x c, X.env.cells.lookup x = some c → c ≠ b) ∧ ∀ p ∈ X.pn ++ pins, p.1 ≠ b) :
    Inv X pins σ H' { s with heap := h', gens := g', drawn := d', toks := t' } := by
  obtain ⟨m, ⟨o, es, ep, ho, r⟩, _⟩ := id I.loc
  obtain ⟨sl, hL⟩ := u.any ho I.free fun z => (hch _ z).2.1 rfl
  exact I.step (ch := ch) hch (fun b o hL hb hc e n => u.keep b o e n (fun z => (List.mem_cons.mp (I.stkSub b z)).elim hL hb) hc) (fun b o _ _ hc e n => u.any e n hc) (fun b o hc e n => u.free b o e n hc) (fun b o hc e => u.there b o e hc) u.tups u.frzs u.tbls (fun m' hm => by
    obtain ⟨o', es', ep', ho', r'⟩ := hm
    rw [ho] at ho'; cases ho'
    exact ⟨_, es', ep', hL, r'⟩) hok hg
theorem Inv.turned {t' : Nat} {it : Addr} (I : Inv X pins σ H s) (k : ∀ b o, b ≠ it → s.heap.get? b = some o → h'.get? b = some o) (hn : H it = none) (hL : it ≠ X.env.locals)
    (h1 : it ∈ X.ex ∨ X.s₀.heap.objs.size ≤ it) (h2 : ∀ x c, X.env.cells.lookup x = some c → c ≠ it) (h3 : ∀ p ∈ X.pn ++ pins, p.1 ≠ it) : Inv X pins σ H { s with heap := h', toks := t' } := by
  have nit : ∀ b u, H b = some u → b ≠ it := fun b u e z => by rw [z, hn] at e; cases e
  refine I.step (g' := s.gens) (d' := s.drawn) (ch := [it]) (fun b hb => ?_) (fun b o _ _ hc e _ => k b o (fun z => hc (by simp [z])) e) (fun b o _ _ hc e _ => ⟨o.slots, k b o (fun z => hc (by simp [z])) e⟩) (fun _ _ _ _ n => n)
    (fun b o hc e => ⟨o, k b o (fun z => hc (by simp [z])) e⟩) (fun _ _ e => e) (fun _ _ _ e => e) (fun b ps e => ⟨#[], by rw [e]; simp⟩) (fun m hm => ?_) (fun b u e => ?_) I.bare
  · have e : b = it := by simpa using hb
    subst e
    exact ⟨h1, hL, h2, h3⟩
  · obtain ⟨o, es, ep, ho, r⟩ := hm
    exact ⟨o, es, ep, k _ o (Ne.symm hL) ho, r⟩
  · refine (I.hok b u e).stay (fun c v hc q => k c v ?_ q) (fun _ q => q) fun _ _ q => q
    rcases hc with z | z
    · rw [z]; exact nit b u e
    · exact nit c _ z
theorem Inv.tok (I : Inv X pins σ H s) (t : Nat) : Inv X pins σ H { s with toks := t } := I.un (h' := s.heap) (t' := t) Un.refl I.hok
theorem Inv.kept {t' : Nat} (I : Inv X pins σ H s) (k : ∀ b u, s.heap.get? b = some u → h'.get? b = some u) : Inv X pins σ H { s with heap := h', toks := t' } := I.un (Un.kept k) (I.hok.kept k)
theorem Inv.laid {a : Addr} {o : HO} {t' : Nat} (I : Inv X pins σ H s) (k : ∀ b u, s.heap.get? b = some u → h'.get? b = some u) (hp : s.heap.objs.size ≤ a) (new : ObjOk X.prog X.w (upd H a o) h' a o) :
    Inv X pins σ (upd H a o) { s with heap := h', toks := t' } := I.un (Un.laid k hp (I.hok.fresh hp)) (I.hok.laid k hp new)
theorem Inv.write {x e : Addr} {o : HO} {t' : Nat} (I : Inv X pins σ H s) (mu : Mut (H x)) (he : e = x ∨ H e = some (.own x)) (k : ∀ b u, b ≠ e → s.heap.get? b = some u → h'.get? b = some u) (heo : ∃ u, h'.get? e = some u)
    (new : ObjOk X.prog X.w (upd H x o) h' x o) : Inv X pins σ (upd H x o) { s with heap := h', toks := t' } := I.un (Un.write mu he k heo) (I.hok.write mu he k heo new)
theorem Inv.pins_of {pins' : List (Addr × Obj)} (I : Inv X pins σ H s) (h : ∀ p ∈ pins', s.heap.get? p.1 = some p.2 ∧ H p.1 = none ∧ p.1 ≠ X.env.locals ∧ p.1 ∉ X.fs ∧ ∀ v, p.2.data ≠ .cell v) : Inv X pins' σ H s :=
  ⟨I.ok, I.os, I.bare, I.base, I.loc, I.cell, I.free, I.freeC, fun p hp => (List.mem_append.mp hp).elim (fun z => I.pin p (List.mem_append_left _ z)) (h p), I.hok, I.len⟩
theorem nodup_ix {N : List Str} (hN : N.Nodup) {i j : Nat} {x : Str} (a : N[i]? = some x) (b : N[j]? = some x) : i = j := by
  obtain ⟨h1, e1⟩ := List.getElem?_eq_some_iff.mp a
  obtain ⟨h2, e2⟩ := List.getElem?_eq_some_iff.mp b
  exact (List.getElem_inj hN).mp (e1.trans e2.symm)
theorem store_ok2 {M : Model} {A : Around} {E : Value → Shared → Prop} {i : Nat} {x : Str} {v : V} {u : Value} {Q : Unit → Shared → Prop} (I : Inv X pins σ H s) (hN : X.N.Nodup) (hi : X.N[i]? = some x) (hx : Loc X.env.scope x) (r : RelV v u)
    (h : ∀ s', Inv X pins (σ.set i (some v)) H s' → (∃ a, Heap.SameBut a s.heap s'.heap ∧ (a = X.env.locals ∨ X.env.cells.lookup x = some a)) → Q () s') (hf : X.fn x = true ∨ X.env.scope.names.lookup x = some .local := by first | exact .inl rfl | exact .inr rfl | assumption) : wpAny M A (storeName X.env x u) Q E s := by
  obtain ⟨m, hn, hl⟩ := id I.loc
  have hcls : (X.env.scope.kind == .class || (X.env.scope.kind == .module && X.env.locals != X.env.globals)) = false := by rw [I.ok.kind]; rfl
  have hiσ : i < σ.length := by rw [I.len]; exact (List.getElem?_eq_some_iff.mp hi).1
  have cne := I.cne
  have tracked : ∀ {a : Addr} {h' : Heap}, (∃ o, s.heap.get? a = some o ∧ H a = none) → Heap.SameBut a s.heap h' → HOk X.prog X.w H h' := fun {a h'} ha hs b ob e => by
    obtain ⟨_, _, hfree⟩ := ha
    refine (I.hok b ob e).stay (fun c w' hc q => (hs.2 c ?_).trans q) (fun _ q => q) fun _ _ q => q
    rintro rfl
    rcases hc with rfl | hc
    · rw [hfree] at e; cases e
    · rw [hfree] at hc; cases hc
  rcases hx with hk | hk
  · refine wpAny_storeName_local hk hn (fun h' hn' hs => ?_) hcls
    obtain ⟨oL, _, _, hoL, _⟩ := id hn
    refine h _ ⟨I.ok, I.os, I.bare, ⟨fun b o e n hb hx => ?_, fun b o e n hb hx => ?_, I.base.free, fun b o e hx => ?_, I.base.tups, I.base.frzs, I.base.tbls⟩, ⟨_, hn', fun j y v' e1 e2 e3 => ?_⟩, fun y c e => ?_, I.free, I.freeC, fun p hp => ?_, tracked ⟨oL, hoL, I.free⟩ hs, by simpa using I.len⟩ ⟨_, hs, .inl rfl⟩
    · exact (hs.2 b (Nat.ne_of_lt (Nat.lt_of_lt_of_le (Heap.lt_size e) I.ok.above))).trans (I.base.keep b o e n hb hx)
    · obtain ⟨sl, e1⟩ := I.base.slot b o e n hb hx
      exact ⟨sl, (hs.2 b (Nat.ne_of_lt (Nat.lt_of_lt_of_le (Heap.lt_size e) I.ok.above))).trans e1⟩
    · obtain ⟨o', e1⟩ := I.base.there b o e hx
      exact ⟨o', (hs.2 b (Nat.ne_of_lt (Nat.lt_of_lt_of_le (Heap.lt_size e) I.ok.above))).trans e1⟩
    · by_cases hj : j = i
      · subst hj
        rw [hi] at e1; cases e1
        rw [List.getElem?_set_self hiσ] at e2
        cases e2
        exact ⟨u, r, .inl ⟨hk, by simp⟩⟩
      · rw [List.getElem?_set_ne (Ne.symm hj)] at e2
        obtain ⟨u', r', q⟩ := hl j y v' e1 e2 e3
        refine ⟨u', r', ?_⟩
        rcases q with ⟨k, e⟩ | ⟨k, c, e, z⟩
        · refine .inl ⟨k, ?_⟩
          have : y ≠ x := fun e => hj (nodup_ix hN e1 (e ▸ hi))
          simp [this, e]
        · exact .inr ⟨k, c, e, z.sameBut hs (cne y c e)⟩
    · obtain ⟨w', z⟩ := I.cell y c e
      exact ⟨w', z.sameBut hs (cne y c e)⟩
    · obtain ⟨e, n, ne, nf, d⟩ := I.pin p hp
      exact ⟨(hs.2 p.1 ne).trans e, n, ne, nf, d⟩
  · have hfn : X.fn x = true := by
      rcases hf with z | z
      · exact z
      · rw [z] at hk; cases hk
    obtain ⟨c, hc⟩ := I.ok.has x (.inl hk)
    obtain ⟨w', z⟩ := I.cell x c hc
    refine wpAny_storeName_cell I.ok.kind hk hc z (fun h' hc' hs => ?_)
    obtain ⟨oc, hoc, hocd⟩ := id z
    refine h { s with heap := h' } ⟨I.ok, I.os, I.bare, ⟨fun b o e n hb hx => ?_, fun b o e n hb hx => ?_, I.base.free, fun b o e hx => ?_, I.base.tups, I.base.frzs, I.base.tbls⟩, ⟨m, hn.sameBut hs (Ne.symm (cne x c hc)), fun j y v' e1 e2 e3 => ?_⟩, fun y c' e => ?_, I.free, I.freeC, fun p hp => ?_, tracked ⟨oc, hoc, I.freeC x c hc⟩ hs, by simpa using I.len⟩ ⟨c, hs, .inr hc⟩
    · exact (hs.2 b (Nat.ne_of_lt (Nat.lt_of_lt_of_le (Heap.lt_size e) (I.ok.cab x c hfn hc)))).trans (I.base.keep b o e n hb hx)
    · obtain ⟨sl, e1⟩ := I.base.slot b o e n hb hx
      exact ⟨sl, (hs.2 b (Nat.ne_of_lt (Nat.lt_of_lt_of_le (Heap.lt_size e) (I.ok.cab x c hfn hc)))).trans e1⟩
    · obtain ⟨o', e1⟩ := I.base.there b o e hx
      exact ⟨o', (hs.2 b (Nat.ne_of_lt (Nat.lt_of_lt_of_le (Heap.lt_size e) (I.ok.cab x c hfn hc)))).trans e1⟩
    · by_cases hj : j = i
      · subst hj
        rw [hi] at e1; cases e1
        rw [List.getElem?_set_self hiσ] at e2
        cases e2
        exact ⟨u, r, .inr ⟨.inl hk, c, hc, hc'⟩⟩
      · rw [List.getElem?_set_ne (Ne.symm hj)] at e2
        obtain ⟨u', r', q⟩ := hl j y v' e1 e2 e3
        refine ⟨u', r', ?_⟩
        rcases q with q | ⟨k, c', e, z'⟩
        · exact .inl q
        · refine .inr ⟨k, c', e, z'.sameBut hs ?_⟩
          rintro rfl
          exact hj (nodup_ix hN e1 (I.ok.inj _ _ _ e hc ▸ hi))
    · by_cases hcc : c' = c
      · subst hcc; exact ⟨_, hc'⟩
      · obtain ⟨w2, z2⟩ := I.cell y c' e
        exact ⟨w2, z2.sameBut hs hcc⟩
    · obtain ⟨e, n, ne, nf, d⟩ := I.pin p hp
      refine ⟨(hs.2 p.1 ?_).trans e, n, ne, nf, d⟩
      intro q
      rw [q, hoc] at e
      have q' : oc = p.2 := Option.some.inj e
      exact d w' (by rw [← q']; exact hocd)
theorem store_ok {M : Model} {A : Around} {E : Value → Shared → Prop} {i : Nat} {x : Str} {v : V} {u : Value} {Q : Unit → Shared → Prop} (I : Inv X pins σ H s) (hN : X.N.Nodup) (hi : X.N[i]? = some x) (hx : Loc X.env.scope x) (r : RelV v u)
    (h : ∀ s', Inv X pins (σ.set i (some v)) H s' → Q () s') (hf : X.fn x = true ∨ X.env.scope.names.lookup x = some .local := by first | exact .inl rfl | exact .inr rfl | assumption) : wpAny M A (storeName X.env x u) Q E s :=
  store_ok2 I hN hi hx r (fun s' I' _ => h s' I') hf
theorem Inv.call' {s' : Shared} {ch : List Addr} (I : Inv X pins σ H s) (ho : s'.os = s.os) (u : Un (frs X.stack) ch H H' s.heap s'.heap) (hok : HOk X.prog X.w H' s'.heap) (hg : AllBare s'.gens)
    (hch : ∀ b ∈ ch, (b ∈ X.ex ∨ X.s₀.heap.objs.size ≤ b) ∧ b ≠ X.env.locals ∧ (∀ x c, X.env.cells.lookup x = some c → c ≠ b) ∧ ∀ p ∈ X.pn ++ pins, p.1 ≠ b) : Inv X pins σ H' s' := by
  obtain ⟨h', g', d', t', o'⟩ := s'
  have e : o' = s.os := ho
  subst e
  exact I.call (g' := g') (t' := t') (d' := d') u hok hg hch
end
abbrev XK := Value → Option Addr → Hp → Prop
abbrev St := List (Option V)
abbrev VK := V → Hp → Prop
abbrev TE := St → Hp → VK → Prop
abbrev TT := St → Hp → (Bool → Hp → Prop) → Prop
abbrev TA := St → Hp → (List V → Hp → Prop) → Prop
structure Ends where
  nx : St → Hp → Prop
  rt : VK
  bk : St → Hp → Prop := fun _ _ => False
  ct : St → Hp → Prop := fun _ _ => False
abbrev TS := Ends → St → Hp → Prop
def EP (X : Cx) (pins : List (Addr × Obj)) (σ : St) (Q : VK) (u : Value) (s' : Shared) : Prop := ∃ v H', Inv X pins σ H' s' ∧ RelV v u ∧ Q v H'
def TP (X : Cx) (pins : List (Addr × Obj)) (σ : St) (Q : Bool → Hp → Prop) (b : Bool) (s' : Shared) : Prop := ∃ H', Inv X pins σ H' s' ∧ Q b H'
def AP (X : Cx) (pins : List (Addr × Obj)) (σ : St) (Q : List V → Hp → Prop) (us : List Value) (s' : Shared) : Prop := ∃ vs H', Inv X pins σ H' s' ∧ Vals vs us ∧ Q vs H'
def SP (X : Cx) (pins : List (Addr × Obj)) (D : Ends) (f : Flow) (s' : Shared) : Prop :=
  match f with
  | .next => ∃ σ' H', Inv X pins σ' H' s' ∧ D.nx σ' H'
  | .brk => ∃ σ' H', Inv X pins σ' H' s' ∧ D.bk σ' H'
  | .cont => ∃ σ' H', Inv X pins σ' H' s' ∧ D.ct σ' H'
  | .ret u => ∃ v σ' H', Inv X pins σ' H' s' ∧ RelV v u ∧ D.rt v H'
def PE (X : Cx) (e : Expr) (t : TE) : Prop :=
  ∀ (pins : List (Addr × Obj)) (s : Shared) (σ : St) (H : Hp) (Q : VK), Inv X pins σ H s → t σ H Q → wpAny (model X.prog X.w) X.A (eval e X.env) (EP X pins σ Q) X.xe s
def PT (X : Cx) (e : Expr) (t : TT) : Prop :=
  ∀ (pins : List (Addr × Obj)) (s : Shared) (σ : St) (H : Hp) (Q : Bool → Hp → Prop), Inv X pins σ H s → t σ H Q → wpAny (model X.prog X.w) X.A (isTrue e X.env (eval e X.env)) (TP X pins σ Q) X.xe s
def PW (X : Cx) (e : Expr) (t : TT) : Prop :=
  ∀ (whole : Sem Value) (pins : List (Addr × Obj)) (s : Shared) (σ : St) (H : Hp) (Q : Bool → Hp → Prop), Inv X pins σ H s → t σ H Q → wpAny (model X.prog X.w) X.A (isTrue e X.env whole) (TP X pins σ Q) X.xe s
def PA (X : Cx) (es : List Expr) (t : TA) : Prop :=
  ∀ (pos : Pos) (pins : List (Addr × Obj)) (s : Shared) (σ : St) (H : Hp) (Q : List V → Hp → Prop), Inv X pins σ H s → t σ H Q → wpAny (model X.prog X.w) X.A (spliced (backTo pos (starEach es X.env))) (AP X pins σ Q) X.xe s
def PS (X : Cx) (st : Stmt) (t : TS) : Prop :=
  ∀ (pins : List (Addr × Obj)) (s : Shared) (σ : St) (H : Hp) (D : Ends), Inv X pins σ H s → t D σ H → wpAny (model X.prog X.w) X.A (exec st X.env) (SP X pins D) X.xe s
def PSs (X : Cx) (st : List Stmt) (t : TS) : Prop :=
  ∀ (pins : List (Addr × Obj)) (s : Shared) (σ : St) (H : Hp) (D : Ends), Inv X pins σ H s → t D σ H → wpAny (model X.prog X.w) X.A (execs st X.env) (SP X pins D) X.xe s
theorem thn {α : Type} {t : Sem α} {Q Q' : α → Shared → Prop} {M : Model} {A : Around} {E : Value → Shared → Prop} {s : Shared} (h : wpAny M A t Q E s) (hQ : ∀ a s, Q a s → Q' a s) : wpAny M A t Q' E s := wpAny_mono h hQ fun _ _ x => x
end L2
namespace L2
open PySem PySem.Spec PyProof.Rows
section
variable {X : Cx}
theorem bin {a b : Expr} {ta tb : TE} (ha : PE X a ta) (hb : PE X b tb) {pins : List (Addr × Obj)} {s : Shared} {σ : St} {H : Hp} {R : V → V → Hp → Prop} (I : Inv X pins σ H s) (h : ta σ H fun x H1 => tb σ H1 fun y H2 => R x y H2)
    {α : Type} {Q : α → Shared → Prop} {f : Value → Value → Sem α}
    (hf : ∀ v u s2 x y H2, Inv X pins σ H2 s2 → RelV x v → RelV y u → R x y H2 → wpAny (model X.prog X.w) X.A (f v u) Q X.xe s2) :
    wpAny (model X.prog X.w) X.A (eval a X.env) (fun v s₁ => wpAny (model X.prog X.w) X.A (eval b X.env) (fun u s₂ => wpAny (model X.prog X.w) X.A (f v u) Q X.xe s₂) X.xe s₁) X.xe s := by
  refine thn (ha pins s σ H _ I h) fun v s1 ⟨x, H1, I1, r1, q1⟩ => ?_
  refine thn (hb pins s1 σ H1 _ I1 q1) fun u s2 ⟨y, H2, I2, r2, q2⟩ => ?_
  exact hf v u s2 x y H2 I2 r1 r2 q2
def tVar (i : Nat) : TE := fun σ H Q => ∃ v, σ[i]? = some (some v) ∧ Q v H
def tC (v : V) : TE := fun _ H Q => Q v H
theorem pe_var {i : Nat} {x : Str} {pos : Pos} (hN : X.N[i]? = some x) (hv : Vis X.env.scope x) (hd : (x == ("__debug__" : Str)) = false := by decide) (hcd : (x == ("__classdict__" : Str)) = false := by decide) : PE X (.Name x pos) (tVar i) := by
  intro pins s σ H Q I h
  obtain ⟨v, e, h⟩ := h
  obtain ⟨m, hn, hl⟩ := I.loc
  obtain ⟨u, r, l⟩ := hl i x v hN e hv
  have fin : EP X pins σ Q u s := ⟨v, H, I, r, h⟩
  rcases l with ⟨hk, hm⟩ | ⟨hk, c, hc, hcell⟩
  · exact wpAny_Name (wpAny_loadName_local I.ok.kind hk hn hm fin) hd
  · rcases hk with hk | hk
    · exact wpAny_Name (wpAny_loadName_cell I.ok.kind hk hc hcell fin) hd
    · exact wpAny_Name (wpAny_loadName_free I.ok.kind hk hc hcell fin hcd) hd
theorem pe_int {i j pos} : PE X (.Constant (.int i) j pos) (tC (.int i)) := fun _ _ _ H _ I h => wpAny_Constant_int ⟨.int i, H, I.tok _, ⟨_, rfl⟩, h⟩
theorem pe_bl {b j pos} : PE X (.Constant (.bool b) j pos) (tC (.bl b)) := fun _ _ _ H _ I h => Constant_bool ⟨.bl b, H, I, rfl, h⟩
theorem pe_str {x j pos} : PE X (.Constant (.str x) j pos) (tC (.str x)) := fun _ _ _ H _ I h => Calls.Constant_str ⟨.str x, H, I.tok _, ⟨_, rfl⟩, h⟩
def Gl (X : Cx) (x : Str) : Prop := X.env.kindOf x = some .globalImplicit
theorem ld_glob {E : Value → Shared → Prop} {pins : List (Addr × Obj)} {s : Shared} {σ : St} {H : Hp} {x : Str} {u : Value} {pos : Pos} {Q : Value → Shared → Prop} (I : Inv X pins σ H s) (hg : Gl X x) (hm : X.mg x = some u) (h : Q u s)
    (hd : (x == ("__debug__" : Str)) = false := by decide) : wpAny (model X.prog X.w) X.A (eval (.Name x pos) X.env) Q E s :=
  Calls.Name_function_global I.ok.kind hg (Calls.loadGlobal_global (by rw [I.ok.glob]; exact I.mod.glob.keeps I.bk) hm h) hd
theorem ld_blt {E : Value → Shared → Prop} {pins : List (Addr × Obj)} {s : Shared} {σ : St} {H : Hp} {x : Str} {u : Value} {pos : Pos} {Q : Value → Shared → Prop} (I : Inv X pins σ H s) (hg : Gl X x) (hm : X.mg x = none) (hv : bootBuiltins x = some u) (h : Q u s)
    (hn : x ≠ "__name__" := by decide) (hd : (x == ("__debug__" : Str)) = false := by decide) : wpAny (model X.prog X.w) X.A (eval (.Name x pos) X.env) Q E s := by
  obtain ⟨mb, h1, h2⟩ := I.mod.blt
  exact Calls.Name_function_global I.ok.kind hg (Calls.loadGlobal_builtin (by rw [I.ok.glob]; exact I.mod.glob.keeps I.bk) hm (by rw [I.ok.blt]; exact h1.keeps I.bk) ((h2 x hn).trans hv) h) hd
theorem pe_glob {x : Str} {v : V} {u : Value} {pos : Pos} (hg : Gl X x) (hm : X.mg x = some u) (r : RelV v u) (hd : (x == ("__debug__" : Str)) = false := by decide) : PE X (.Name x pos) (tC v) :=
  fun _ _ _ H _ I h => ld_glob I hg hm ⟨v, H, I, r, h⟩ hd
theorem pe_bltn {x : Str} {v : V} {u : Value} {pos : Pos} (hg : Gl X x) (hm : X.mg x = none) (hv : bootBuiltins x = some u) (r : RelV v u) (hn : x ≠ "__name__" := by decide) (hd : (x == ("__debug__" : Str)) = false := by decide) : PE X (.Name x pos) (tC v) :=
  fun _ _ _ H _ I h => ld_blt I hg hm hv ⟨v, H, I, r, h⟩ hn hd
variable {a b : Expr} {ta tb : TE} {pos : Pos}
variable {tA tB' : TT} {rest : List Expr}
def tAnd (t u : TT) : TT := fun σ H Q => t σ H fun c H1 => if c = true then u σ H1 Q else Q false H1
def tOr (t u : TT) : TT := fun σ H Q => t σ H fun c H1 => if c = true then Q true H1 else u σ H1 Q
def tNot (t : TT) : TT := fun σ H Q => t σ H fun c H1 => Q (!c) H1
theorem pw_and1 (ha : PT X a tA) : PW X (.BoolOp .And [a] pos) tA := by
  intro wh pins s σ H Q I h
  refine isTrue_and (thn (ha pins s σ H Q I h) fun c s1 e => ?_)
  cases c with
  | true => exact isTrue_and_nil e
  | false => exact e
theorem pw_or1 (ha : PT X a tA) : PW X (.BoolOp .Or [a] pos) tA := by
  intro wh pins s σ H Q I h
  refine isTrue_or (thn (ha pins s σ H Q I h) fun c s1 e => ?_)
  cases c with
  | false => exact isTrue_or_nil e
  | true => exact e
theorem pw_and (ha : PT X a tA) (hb : PW X (.BoolOp .And (b :: rest) pos) tB') : PW X (.BoolOp .And (a :: b :: rest) pos) (tAnd tA tB') := by
  intro wh pins s σ H Q I h
  refine isTrue_and (thn (ha pins s σ H _ I h) fun c s1 ⟨H1, I1, q1⟩ => ?_)
  cases c with
  | true => exact hb wh pins s1 σ H1 Q I1 q1
  | false => exact ⟨H1, I1, q1⟩
theorem pw_or (ha : PT X a tA) (hb : PW X (.BoolOp .Or (b :: rest) pos) tB') : PW X (.BoolOp .Or (a :: b :: rest) pos) (tOr tA tB') := by
  intro wh pins s σ H Q I h
  refine isTrue_or (thn (ha pins s σ H _ I h) fun c s1 ⟨H1, I1, q1⟩ => ?_)
  cases c with
  | true => exact ⟨H1, I1, q1⟩
  | false => exact hb wh pins s1 σ H1 Q I1 q1
theorem pt_not (ha : PT X a tA) : PT X (.UnaryOp .Not a pos) (tNot tA) := by
  intro pins s σ H Q I h
  exact isTrue_not (ha pins s σ H (fun c H1 => Q (!c) H1) I h)
def tAndV (ta tb : TE) : TE := fun σ H Q => ta σ H fun x H1 => ∃ c, x = .bl c ∧ if c = true then tb σ H1 Q else Q (.bl false) H1
def tOrV (ta tb : TE) : TE := fun σ H Q => ta σ H fun x H1 => ∃ c, x = .bl c ∧ if c = true then Q (.bl true) H1 else tb σ H1 Q
def tNotV (ta : TE) : TE := fun σ H Q => ta σ H fun x H1 => ∃ c, x = .bl c ∧ Q (.bl (!c)) H1
theorem pe_one {op} {t : TE} (h : PE X a t) : PE X (.BoolOp op [a] pos) t := fun pins s σ H Q I hw => BoolOp_one (h pins s σ H Q I hw)
theorem pe_and (ha : PE X a ta) (hb : PE X (.BoolOp .And (b :: rest) pos) tb) : PE X (.BoolOp .And (a :: b :: rest) pos) (tAndV ta tb) := by
  intro pins s σ H Q I h
  refine BoolOp_and (thn (ha pins s σ H _ I h) fun v s1 ⟨x, H1, I1, r1, q1⟩ => ?_)
  obtain ⟨c, rfl, q1⟩ := q1
  cases r1
  refine wpAny_truthy_bool ?_
  cases c with
  | true => exact hb pins s1 σ H1 Q I1 q1
  | false => exact ⟨.bl false, H1, I1, rfl, q1⟩
theorem pe_or (ha : PE X a ta) (hb : PE X (.BoolOp .Or (b :: rest) pos) tb) : PE X (.BoolOp .Or (a :: b :: rest) pos) (tOrV ta tb) := by
  intro pins s σ H Q I h
  refine BoolOp_or (thn (ha pins s σ H _ I h) fun v s1 ⟨x, H1, I1, r1, q1⟩ => ?_)
  obtain ⟨c, rfl, q1⟩ := q1
  cases r1
  refine wpAny_truthy_bool ?_
  cases c with
  | false => exact hb pins s1 σ H1 Q I1 q1
  | true => exact ⟨.bl true, H1, I1, rfl, q1⟩
theorem pe_not (ha : PE X a ta) : PE X (.UnaryOp .Not a pos) (tNotV ta) := by
  intro pins s σ H Q I h
  refine UnaryOp_ (thn (ha pins s σ H _ I h) fun v s1 ⟨x, H1, I1, r1, q1⟩ => ?_)
  obtain ⟨c, rfl, q1⟩ := q1
  cases r1
  exact not_of (wpAny_truthy_bool ⟨.bl (!c), H1, I1, rfl, q1⟩)
def tIf (t : TT) (ta tb : TE) : TE := fun σ H Q => t σ H fun c H1 => if c = true then ta σ H1 Q else tb σ H1 Q
theorem pe_ifExp {c : Expr} (hc : PT X c tA) (ha : PE X a ta) (hb : PE X b tb) : PE X (.IfExp c a b pos) (tIf tA ta tb) := by
  intro pins s σ H Q I h
  refine wpAny_IfExp (thn (hc pins s σ H _ I h) fun d s1 ⟨H1, I1, q1⟩ => ?_)
  cases d with
  | true => exact ha pins s1 σ H1 Q I1 q1
  | false => exact hb pins s1 σ H1 Q I1 q1
end
end L2
namespace L2
open PySem PySem.Spec PyProof.Rows
def SqL (K : PySem.W.Frag) (H : Hp) (a : Addr) (xs : List V) : Prop :=
  Rd H a (.lst xs) ∨
    ∃ (o : Obj) (its : Array Value) (n : Nat), K.lookup a = some o ∧ o.cls = .type "list" ∧ o.dict = none ∧ o.data = .seq its n ∧ its.size ≤ sizeLine ∧ Vals xs its.toList
def SqT (K : PySem.W.Frag) (H : Hp) (a : Addr) (xs : List V) : Prop :=
  Rd H a (.tup xs) ∨
    ∃ (o : Obj) (its : Array Value) (n : Nat), K.lookup a = some o ∧ o.cls = .type "tuple" ∧ o.data = .seq its n ∧ its.size ≤ sizeLine ∧ Vals xs its.toList
def absV : Value → Option V
  | .none => some .non
  | .bool b => some (.bl b)
  | .int i _ => some (.int i)
  | .str x _ => some (.str x)
  | .bytes b _ => some (.byt b)
  | .float b _ => some (.flt b)
  | .ref a => some (.ref a)
  | .type n => some (.ty n)
  | _ => none
theorem RelV.abs {x : V} {u : Value} (r : RelV x u) : absV u = some x := by
  cases x with
  | non => cases r; rfl
  | bl _ => cases r; rfl
  | int _ => obtain ⟨t, rfl⟩ := r; rfl
  | str _ => obtain ⟨t, rfl⟩ := r; rfl
  | byt _ => obtain ⟨t, rfl⟩ := r; rfl
  | flt _ => obtain ⟨t, rfl⟩ := r; rfl
  | ref _ => cases r; rfl
  | ty _ => cases r; rfl
theorem RelV.inj {x y : V} {u : Value} (r : RelV x u) (q : RelV y u) : x = y := Option.some.inj (r.abs.symm.trans q.abs)
theorem Vals.inj : ∀ {xs ys : List V} {us : List Value}, Vals xs us → Vals ys us → xs = ys
  | _, _, _, .nil, .nil => rfl
  | _, _, _, .cons r t, .cons r' t' => by rw [r.inj r', Vals.inj t t']
section
variable {X : Cx} {pins : List (Addr × Obj)} {σ : St} {H : Hp} {s : Shared} {a : Addr} {xs ys : List V}
theorem Inv.list (I : Inv X pins σ H s) (h : SqL X.K H a xs) : ∃ its : List Value, Vals xs its ∧ PlainL s.heap a its.toArray ∧ xs.length ≤ sizeLine := by
  rcases h with h | ⟨o, its, n, hk, hc, hd, hs, hz, r⟩
  · obtain ⟨z, its, n, r, e⟩ := h.ok I.hok
    exact ⟨its, r, ⟨_, n, e, rfl, rfl, rfl⟩, z⟩
  · refine ⟨its.toList, r, ⟨o, n, I.kIn a o hk, hc, hd, by simpa using hs⟩, ?_⟩
    have e := r.length
    simp only [Array.length_toList] at e
    omega
theorem Inv.tuple (I : Inv X pins σ H s) (h : SqT X.K H a xs) : ∃ its : List Value, Vals xs its ∧ IsTup s.heap a its.toArray ∧ xs.length ≤ sizeLine := by
  rcases h with h | ⟨o, its, n, hk, hc, hs, hz, r⟩
  · obtain ⟨z, its, r, p⟩ := h.ok I.hok
    exact ⟨its, r, p, z⟩
  · refine ⟨its.toList, r, ⟨o, I.kIn a o hk, hc, n, by simpa using hs⟩, ?_⟩
    have e := r.length
    simp only [Array.length_toList] at e
    omega
theorem Inv.list_inj (I : Inv X pins σ H s) (h : SqL X.K H a xs) (h' : SqL X.K H a ys) : xs = ys := by
  obtain ⟨its, r, ⟨o, n, e, _, _, d⟩, _⟩ := I.list h
  obtain ⟨its', r', ⟨o', n', e', _, _, d'⟩, _⟩ := I.list h'
  rw [e] at e'; cases e'
  rw [d] at d'
  injection d' with d1 _
  have : its = its' := by simpa using congrArg Array.toList d1
  subst this
  exact r.inj r'
theorem Inv.tuple_inj (I : Inv X pins σ H s) (h : SqT X.K H a xs) (h' : SqT X.K H a ys) : xs = ys := by
  obtain ⟨its, r, ⟨o, e, _, n, d⟩, _⟩ := I.tuple h
  obtain ⟨its', r', ⟨o', e', _, n', d'⟩, _⟩ := I.tuple h'
  rw [e] at e'; cases e'
  rw [d] at d'
  injection d' with d1 _
  have : its = its' := by simpa using congrArg Array.toList d1
  subst this
  exact r.inj r'
end
abbrev Cx.wish (X : Cx) (E : Value → Shared → Prop) : Cx := { X with xe := E }
abbrev Cx.nox (X : Cx) : Cx := X.wish fun _ _ => False
theorem Cx.Ok.wish {X : Cx} (ok : X.Ok) (E : Value → Shared → Prop) : (X.wish E).Ok :=
  ⟨ok.mod, ok.kind, ok.glob, ok.blt, ok.above, ok.inj, ok.has, ok.cab, ok.hd, ok.frames, ok.stk, ok.exf, ok.bs, ok.bsz, ok.noex, ok.exfs, ok.funs, ok.frf⟩
theorem Cx.Ok.unwish {X : Cx} {E : Value → Shared → Prop} (ok : (X.wish E).Ok) : X.Ok :=
  ⟨ok.mod, ok.kind, ok.glob, ok.blt, ok.above, ok.inj, ok.has, ok.cab, ok.hd, ok.frames, ok.stk, ok.exf, ok.bs, ok.bsz, ok.noex, ok.exfs, ok.funs, ok.frf⟩
section
variable {X : Cx} {pins : List (Addr × Obj)} {σ : St} {H : Hp} {s : Shared} {E : Value → Shared → Prop}
theorem Inv.wish (I : Inv X pins σ H s) (E : Value → Shared → Prop) : Inv (X.wish E) pins σ H s := ⟨I.ok.wish E, I.os, I.bare, I.base, I.loc, I.cell, I.free, I.freeC, I.pin, I.hok, I.len⟩
theorem Inv.unwish (I : Inv (X.wish E) pins σ H s) : Inv X pins σ H s := ⟨I.ok.unwish, I.os, I.bare, I.base, I.loc, I.cell, I.free, I.freeC, I.pin, I.hok, I.len⟩
theorem SP.unwish {D : Ends} {f : Flow} {s' : Shared} (h : SP (X.wish E) pins D f s') : SP X pins D f s' := by
  cases f with
  | next => obtain ⟨σ', H', I, q⟩ := h; exact ⟨σ', H', I.unwish, q⟩
  | brk => obtain ⟨σ', H', I, q⟩ := h; exact ⟨σ', H', I.unwish, q⟩
  | cont => obtain ⟨σ', H', I, q⟩ := h; exact ⟨σ', H', I.unwish, q⟩
  | ret u => obtain ⟨v, σ', H', I, r, q⟩ := h; exact ⟨v, σ', H', I.unwish, r, q⟩
theorem PSs.nox {st : List Stmt} {t : TS} (h : PSs X.nox st t) : PSs X st t := fun pins s σ H D I hw =>
  wpAny_mono (h pins s σ H D (I.wish _) hw) (fun _ _ q => q.unwish) fun _ _ z => False.elim z
end
section
variable {X : Cx} {st : Stmt} {rest : List Stmt} {t u : TS} {e : Expr} {te : TE} {pos : Pos}
def tNext : TS := fun D σ H => D.nx σ H
def tSeq (t u : TS) : TS := fun D σ H => t { D with nx := u D } σ H
theorem pss_nil : PSs X [] tNext := fun _ _ σ H _ I h => wpAny_execs_nil ⟨σ, H, I, h⟩
theorem pss_cons (h1 : PS X st t) (h2 : PSs X rest u) : PSs X (st :: rest) (tSeq t u) := by
  intro pins s σ H D I h
  refine wpAny_execs_cons (thn (h1 pins s σ H { D with nx := u D } I h) fun f s1 q => ?_)
  cases f with
  | next =>
    obtain ⟨σ', H', I', q⟩ := q
    exact h2 pins s1 σ' H' D I' q
  | ret v => exact q
  | brk => exact q
  | cont => exact q
theorem pss_one (h1 : PS X st t) : PSs X [st] t := by
  intro pins s σ H D I h
  refine wpAny_execs_cons (thn (h1 pins s σ H D I h) fun f s1 q => ?_)
  cases f with
  | next => exact wpAny_execs_nil q
  | ret v => exact q
  | brk => exact q
  | cont => exact q
theorem Inv.quiet {pins : List (Addr × Obj)} {σ : St} {H : Hp} {s : Shared} (I : Inv X pins σ H s) : interactive X.env = false := by simp [interactive, I.ok.kind]
def tDrop (te : TE) : TS := fun D σ H => te σ H fun _ H1 => D.nx σ H1
theorem ps_expr (he : PE X e te) (hs : swapsWith e none pos.line X.env = pure false := by rfl) : PS X (.Expr e pos) (tDrop te) := by
  intro pins s σ H D I h
  exact wpAny_Expr_any (thn (he pins s σ H _ I h) fun v s1 ⟨x, H1, I1, r1, q1⟩ => ⟨σ, H1, I1, q1⟩) I.quiet hs
def tRet (te : TE) : TS := fun D σ H => te σ H D.rt
theorem ps_ret (he : PE X e te) : PS X (.Return (some e) pos) (tRet te) := by
  intro pins s σ H D I h
  exact wpAny_Return_some (thn (he pins s σ H _ I h) fun v s1 ⟨x, H1, I1, r1, q1⟩ => ⟨x, σ, H1, I1, r1, q1⟩)
def tIfS (c : TT) (t u : TS) : TS := fun D σ H => c σ H fun b H1 => if b = true then t D σ H1 else u D σ H1
theorem ps_if {c : Expr} {a b : List Stmt} {tc : TT} (hc : PT X c tc) (ha : PSs X a t) (hb : PSs X b u) : PS X (.If c a b pos) (tIfS tc t u) := by
  intro pins s σ H D I h
  refine wpAny_If (thn (hc pins s σ H _ I h) fun d s1 ⟨H1, I1, q1⟩ => ?_)
  cases d with
  | true => exact ha pins s1 σ H1 D I1 q1
  | false => exact hb pins s1 σ H1 D I1 q1
end
abbrev TG := V → St → Hp → (St → Hp → Prop) → Prop
abbrev TGs := List V → St → Hp → (St → Hp → Prop) → Prop
def PG (X : Cx) (target : Expr) (t : TG) : Prop :=
  ∀ (pins : List (Addr × Obj)) (s : Shared) (σ : St) (H : Hp) (v : V) (u : Value) (Q : St → Hp → Prop), Inv X pins σ H s → RelV v u → t v σ H Q →
    wpAny (model X.prog X.w) X.A (assign target X.env u) (fun _ s' => ∃ σ' H', Inv X pins σ' H' s' ∧ Q σ' H') X.xe s
def PGs (X : Cx) (ts : List Expr) (t : TGs) : Prop :=
  ∀ (pins : List (Addr × Obj)) (s : Shared) (σ : St) (H : Hp) (vs : List V) (us : List Value) (Q : St → Hp → Prop), Inv X pins σ H s → Vals vs us → t vs σ H Q →
    wpAny (model X.prog X.w) X.A (assignInOrder ((assignEach ts X.env).map (·.2)) us) (fun _ s' => ∃ σ' H', Inv X pins σ' H' s' ∧ Q σ' H') X.xe s
abbrev TSet := V → V → V → Hp → (Hp → Prop) → Prop
def PSet (X : Cx) (t : TSet) : Prop :=
  ∀ (pins : List (Addr × Obj)) (s : Shared) (σ : St) (H : Hp) (o i v : V) (ov iv u : Value) (Q : Hp → Prop), Inv X pins σ H s → RelV o ov → RelV i iv → RelV v u → t o i v H Q →
    wpAny (model X.prog X.w) X.A (setItem ov iv u) (fun _ s' => ∃ H', Inv X pins σ H' s' ∧ Q H') X.xe s
abbrev TIp := V → V → Hp → VK → Prop
def PIp (X : Cx) (op : Operator) (t : TIp) : Prop :=
  ∀ (pins : List (Addr × Obj)) (s : Shared) (σ : St) (H : Hp) (x y : V) (v u : Value) (Q : VK), Inv X pins σ H s → RelV x v → RelV y u → t x y H Q →
    wpAny (model X.prog X.w) X.A (inplaceOp op v u) (EP X pins σ Q) X.xe s
section
variable {X : Cx} {pos : Pos}
def gName (i : Nat) : TG := fun v σ H Q => Q (σ.set i (some v)) H
theorem pg_name {i : Nat} {x : Str} (hN : X.N.Nodup) (hi : X.N[i]? = some x) (hx : Loc X.env.scope x) (hf : X.fn x = true ∨ X.env.scope.names.lookup x = some .local := by first | exact .inl rfl | exact .inr rfl | assumption) : PG X (.Name x pos) (gName i) := by
  intro pins s σ H v u Q I r h
  exact wpAny_assign_Name (store_ok I hN hi hx r (fun s' I' => ⟨_, H, I', h⟩) hf)
def gNil : TGs := fun vs σ H Q => vs = [] ∧ Q σ H
def gCons (t : TG) (u : TGs) : TGs := fun vs σ H Q => ∃ v r, vs = v :: r ∧ t v σ H fun σ' H' => u r σ' H' Q
theorem pgs_nil : PGs X [] gNil := by
  intro pins s σ H vs us Q I r h
  obtain ⟨e, h⟩ := h
  subst e
  cases r
  exact assignInOrder_nil ⟨σ, H, I, h⟩
theorem pgs_cons {e : Expr} {es : List Expr} {t : TG} {u : TGs} (h1 : PG X e t) (h2 : PGs X es u)
    (hs : (assignEach (e :: es) X.env).map (·.2) = assign e X.env :: (assignEach es X.env).map (·.2) := by rfl) : PGs X (e :: es) (gCons t u) := by
  intro pins s σ H vs us Q I r h
  obtain ⟨v, vr, e1, h⟩ := h
  subst e1
  cases r with
  | cons r rr =>
    rw [hs]
    refine assignInOrder_cons (thn (h1 pins s σ H _ _ _ I r h) fun _ s1 ⟨σ1, H1, I1, q1⟩ => ?_)
    exact h2 pins s1 σ1 H1 _ _ Q I1 rr q1
def gTup (K : PySem.W.Frag) (n : Nat) (t : TGs) : TG := fun v σ H Q => ∃ a xs, v = .ref a ∧ SqT K H a xs ∧ xs.length = n ∧ t xs σ H Q
theorem pg_tup {es : List Expr} {k : Nat} {t : TGs} {n : Nat} (hc : X.calm = true) (h : PGs X es t)
    (hn : (assignEach es X.env).length = n := by rfl) (hst : (assignEach es X.env).findIdx? (·.1) = none := by rfl) : PG X (.Tuple es k pos) (gTup X.K n t) := by
  intro pins s σ H v u Q I r hw
  obtain ⟨a, xs, e1, hq, hl, hw⟩ := hw
  subst e1
  cases r
  obtain ⟨its, rv, ht, hz⟩ := I.tuple hq
  refine assign_Tuple_tuple (I.ok.hd hc) ht (by simp [hn, ← hl, rv.length]) hst fun h' hx => ?_
  have I1 : Inv X pins σ H { s with heap := h' } := I.kept (t' := s.toks) fun b o e => hx b o (Nat.ne_of_lt (Heap.lt_size e)) e
  exact h pins _ σ H xs _ Q I1 (by simpa using rv) hw
def gSub (to ti : TE) (t : TSet) : TG := fun v σ H Q => to σ H fun o H1 => ti σ H1 fun i H2 => t o i v H2 fun H3 => Q σ H3
theorem pg_sub {o i : Expr} {to ti : TE} {t : TSet} (ho : PE X o to) (hi : PE X i ti) (hs : PSet X t)
    (ha : ∀ v, assign (.Subscript o i pos) X.env v = (do
      let ov ← holding [v] (eval o X.env)
      let iv ← holding [v, ov] (eval i X.env)
      standAt pos
      holding [v, ov, iv] (setItem ov iv v)
      release [v, ov, iv] []) := by intro _; rfl) : PG X (.Subscript o i pos) (gSub to ti t) := by
  intro pins s σ H v u Q I r h
  rw [ha]
  refine wpAny_bind (wpAny_holding (thn (ho pins s σ H _ I h) fun ov s1 ⟨x, H1, I1, r1, q1⟩ => ?_))
  refine wpAny_bind (wpAny_holding (thn (hi pins s1 σ H1 _ I1 q1) fun iv s2 ⟨y, H2, I2, r2, q2⟩ => ?_))
  refine wpAny_bind (wpAny_standAt (wpAny_bind (wpAny_holding (thn (hs pins s2 σ H2 x y v ov iv u _ I2 r1 r2 r q2) fun _ s3 ⟨H3, I3, q3⟩ => ?_))))
  exact wpAny_release ⟨σ, H3, I3, q3⟩
def tAsg (te : TE) (g : TG) : TS := fun D σ H => te σ H fun x H1 => g x σ H1 D.nx
theorem ps_asg {tg e : Expr} {te : TE} {g : TG} (he : PE X e te) (hg : PG X tg g) (hs : swapsWithSole [tg] e pos.line X.env = pure false := by rfl) (hw : swappedStores [tg] e X.env = pure none := by rfl)
    (h1 : (assignEach [tg] X.env).map (·.2) = [assign tg X.env] := by rfl) : PS X (.Assign [tg] e pos) (tAsg te g) := by
  intro pins s σ H D I h
  refine wpAny_Assign_stores (thn (he pins s σ H _ I h) fun v s1 ⟨x, H1, I1, r1, q1⟩ => ?_) hs hw
  rw [h1]
  exact thn (hg pins s1 σ H1 x v _ I1 r1 q1) fun _ s2 q => q
theorem ps_set {i : Nat} {x : Str} {e : Expr} {te : TE} {pos' : Pos} (hN : X.N.Nodup) (hi : X.N[i]? = some x) (hx : Loc X.env.scope x) (he : PE X e te) (hs : swapsWith e (some (.Name x pos')) pos.line X.env = pure false := by rfl) (hf : X.fn x = true ∨ X.env.scope.names.lookup x = some .local := by first | exact .inl rfl | exact .inr rfl | assumption) :
    PS X (.Assign [.Name x pos'] e pos) (tAsg te (gName i)) := by
  intro pins s σ H D I h
  refine wpAny_Assign_Name (thn (he pins s σ H _ I h) fun v s1 ⟨y, H1, I1, r1, q1⟩ => ?_) hs
  exact store_ok I1 hN hi hx r1 (fun s2 I2 => ⟨_, H1, I2, q1⟩) hf
def tAug (i : Nat) (te : TE) (ti : TIp) : TS := fun D σ H => ∃ x, σ[i]? = some (some x) ∧ te σ H fun y H1 => ti x y H1 fun z H2 => D.nx (σ.set i (some z)) H2
theorem ps_aug {i : Nat} {x : Str} {e : Expr} {te : TE} {op : Operator} {ti : TIp} {pos' : Pos} (hN : X.N.Nodup) (hi : X.N[i]? = some x) (hx : Loc X.env.scope x) (he : PE X e te) (ho : PIp X op ti) (hf : X.fn x = true ∨ X.env.scope.names.lookup x = some .local := by first | exact .inl rfl | exact .inr rfl | assumption) :
    PS X (.AugAssign (.Name x pos') op e pos) (tAug i te ti) := by
  intro pins s σ H D I h
  obtain ⟨v, e1, h⟩ := h
  obtain ⟨m, hn, hl⟩ := I.loc
  have vis : Vis X.env.scope x := by rcases hx with k | k; exact .inl k; exact .inr (.inl k)
  obtain ⟨u, r, l⟩ := hl i x v hi e1 vis
  refine wpAny_AugAssign_Name ?_
  have go : wpAny (model X.prog X.w) X.A (eval e X.env) (fun w s₂ => wpAny (model X.prog X.w) X.A (inplaceOp op u w) (fun r s₃ => wpAny (model X.prog X.w) X.A (storeName X.env x r) (fun _ => SP X pins D .next) X.xe s₃) X.xe s₂) X.xe s := by
    refine thn (he pins s σ H _ I h) fun w s1 ⟨y, H1, I1, r1, q1⟩ => ?_
    refine thn (ho pins s1 σ H1 v y u w _ I1 r r1 q1) fun z s2 ⟨zv, H2, I2, r2, q2⟩ => ?_
    exact store_ok I2 hN hi hx r2 (fun s3 I3 => ⟨_, H2, I3, q2⟩) hf
  rcases l with ⟨hk, hm⟩ | ⟨hk, c, hc, hcell⟩
  · exact wpAny_loadName_local I.ok.kind hk hn hm go
  · rcases hk with hk | hk
    · exact wpAny_loadName_cell I.ok.kind hk hc hcell go
    · rcases hx with k | k
      · have : X.env.scope.names.lookup x = some .free := hk
        rw [k] at this; cases this
      · have : X.env.scope.names.lookup x = some .free := hk
        rw [k] at this; cases this
def ipI (f : Int → Int → Int) : TIp := fun x y H Q => ∃ i j, x = .int i ∧ y = .int j ∧ Q (.int (f i j)) H
theorem ip_add : PIp X .Add (ipI fun i j => i + j) := by
  intro pins s σ H x y v u Q I r1 r2 h
  obtain ⟨i, j, e1, e2, q⟩ := h
  subst e1; subst e2
  obtain ⟨t, rfl⟩ := r1
  obtain ⟨t', rfl⟩ := r2
  exact iadd_int ⟨.int _, H, I.tok _, ⟨_, rfl⟩, q⟩
end
section
variable {X : Cx} {pos : Pos}
end
structure It where
  go : Nat → Hp → Prop
  yld : Nat → Hp → V → Hp → Prop
  stop : Nat → Hp → Prop
def FpOk (X : Cx) (pins : List (Addr × Obj)) (H : Hp) (b : Addr) : Prop :=
  H b = none ∧ b ≠ X.env.locals ∧ b ∉ X.fs ∧ (b ∈ X.ex ∨ X.s₀.heap.objs.size ≤ b) ∧ (∀ x c, X.env.cells.lookup x = some c → c ≠ b) ∧ ∀ p ∈ X.pn ++ pins, p.1 ≠ b
theorem Inv.fpOk {X : Cx} {pins : List (Addr × Obj)} {σ : St} {H H' : Hp} {s : Shared} {b : Addr} (I : Inv X pins σ H s) (hb : s.heap.objs.size ≤ b) (hn : H' b = none) : FpOk X pins H' b := by
  refine ⟨hn, Nat.ne_of_gt (Nat.lt_of_lt_of_le I.lt hb), I.nofs hb, .inr (Nat.le_trans I.sz hb), fun x c e z => ?_, fun p hp z => ?_⟩
  · obtain ⟨v, q⟩ := I.cell x c e
    exact absurd (Nat.lt_of_lt_of_le q.lt (by rw [z]; exact hb)) (Nat.lt_irrefl _)
  · exact absurd (Nat.lt_of_lt_of_le (Heap.lt_size (I.pin p hp).1) (by rw [z]; exact hb)) (Nat.lt_irrefl _)
structure Turn (P : Program) (w : World) (K : PySem.W.Frag) (tg : Expr) (J : It) (fp : List Addr) (it : Addr) (tn : Nat → Heap → Prop) : Prop where
  mem : it ∈ fp
  obj : ∀ i h, tn i h → ∀ b ∈ fp, ∃ o, h.get? b = some o ∧ ∀ v, o.data ≠ .cell v
  keep : ∀ i h h', tn i h → (∀ b ∈ fp, ∀ o, h.get? b = some o → h'.get? b = some o) → tn i h'
  item : ∀ (X : Cx), X.prog = P → X.w = w → X.K = K → X.calm = true → ∀ (i : Nat) (pins : List (Addr × Obj)) (s : Shared) (σ : St) (H : Hp) (E : Value → Shared → Prop), Inv X pins σ H s → (∀ b ∈ fp, FpOk X pins H b) → tn i s.heap → J.go i H →
    wpAny (model P w) X.A (pyNext (.ref it)) (fun r s1 => ∃ u, r = some u ∧
      wpAny (model P w) X.A (letOwnedTupleGo tg (.ref it) u) (fun _ s2 => ∃ x H', Inv X pins σ H' s2 ∧ RelV x u ∧ J.yld i H x H' ∧ tn (i + 1) s2.heap ∧ ∀ b ∈ fp, H' b = none) E s1) E s
  done : ∀ (X : Cx), X.prog = P → X.w = w → X.K = K → X.calm = true → ∀ (i : Nat) (pins : List (Addr × Obj)) (s : Shared) (σ : St) (H : Hp) (E : Value → Shared → Prop), Inv X pins σ H s → (∀ b ∈ fp, FpOk X pins H b) → tn i s.heap → J.stop i H →
    wpAny (model P w) X.A (pyNext (.ref it)) (fun r s1 => r = none ∧ Inv X pins σ H s1) E s
  self : ∀ (A : Around) (i : Nat) (s : Shared) (Q : Value → Shared → Prop) (E : Value → Shared → Prop), tn i s.heap → Q (.ref it) s → wpAny (model P w) A (pyIter (.ref it)) Q E s
abbrev TI := St → Hp → (It → Hp → Prop) → Prop
def PIE (X : Cx) (pins : List (Addr × Obj)) (σ : St) (tg : Expr) (R : It → Hp → Prop) (itv : Value) (s2 : Shared) : Prop :=
  ∃ (it : Addr) (fp : List Addr) (tn : Nat → Heap → Prop) (J : It) (H' : Hp), itv = .ref it ∧ Inv X pins σ H' s2 ∧ Turn X.prog X.w X.K tg J fp it tn ∧ tn 0 s2.heap ∧ (∀ b ∈ fp, FpOk X pins H' b) ∧ R J H'
def PI (X : Cx) (tg iter : Expr) (wi : TI) : Prop :=
  ∀ (pins : List (Addr × Obj)) (s : Shared) (σ : St) (H : Hp) (R : It → Hp → Prop), Inv X pins σ H s → wi σ H R →
    wpAny (model X.prog X.w) X.A (eval iter X.env) (fun v s1 => wpAny (model X.prog X.w) X.A (pyIter v) (PIE X pins σ tg R) X.xe s1) X.xe s
theorem go_of {M : Model} {A : Around} {E : Value → Shared → Prop} {s : Shared} {tg : Expr} {it : Addr} {u : Value} {o : Obj} {n : String} {vs : Array Value} {Q : Unit → Shared → Prop} (ho : s.heap.get? it = some o) (hc : o.cls = .type n) (hd : o.data = .fields vs)
    (hn : ["enumerate", "zip", "dict_itemiterator", "dict_reverseitemiterator", "odict_iterator", "itertools.zip_longest", "itertools.pairwise"].contains n = false) (hQ : Q () s) : wpAny M A (letOwnedTupleGo tg (.ref it) u) Q E s := by
  unfold letOwnedTupleGo
  cases tg <;> first
    | exact wpAny_pure hQ
    | (cases u <;> first
        | exact wpAny_pure hQ
        | (refine wpAny_bind (wpAny_load ho ?_)
           rw [hc, hd]
           show wpAny M A (if (["enumerate", "zip", "dict_itemiterator", "dict_reverseitemiterator", "odict_iterator", "itertools.zip_longest", "itertools.pairwise"].contains n && vs[0]? == some (rawInt _)) = true then _ else _) Q E s
           rw [if_neg (by intro h; rw [hn, Bool.false_and] at h; cases h)]
           exact wpAny_pure hQ))
def Itl (K : PySem.W.Frag) (a : Addr) : It :=
  ⟨fun i H => ∃ xs x, SqL K H a xs ∧ xs[i]? = some x, fun i H x H' => H' = H ∧ ∀ xs, SqL K H a xs → xs[i]? = some x, fun i H => ∃ xs, SqL K H a xs ∧ xs.length ≤ i⟩
def Itt (K : PySem.W.Frag) (a : Addr) : It :=
  ⟨fun i H => ∃ xs x, SqT K H a xs ∧ xs[i]? = some x, fun i H x H' => H' = H ∧ ∀ xs, SqT K H a xs → xs[i]? = some x, fun i H => ∃ xs, SqT K H a xs ∧ xs.length ≤ i⟩
def Itr (lo : Int) (n : Nat) : It := ⟨fun i _ => i < n, fun i H x H' => H' = H ∧ x = .int (lo + i), fun i _ => n ≤ i⟩
theorem turn_list {P : Program} {w : World} {K : PySem.W.Frag} {tg : Expr} (a it : Addr) : Turn P w K tg (Itl K a) [it] it (fun i h => h.IsListIter it a i) where
  mem := by simp
  obj := fun i h st b hb => by
    have e : b = it := by simpa using hb
    subst e
    obtain ⟨o, e, c, d⟩ := st
    exact ⟨o, e, fun v z => by rw [d] at z; cases z⟩
  keep := fun i h h' st k => st.at fun o e => k it (by simp) o e
  item := by
    intro X hP hw hK hc i pins s σ H E I hf st hg
    subst hP hw hK
    obtain ⟨xs, x, hq, hx⟩ := hg
    obtain ⟨its, rv, p, hz⟩ := I.list hq
    obtain ⟨u, hu, ru⟩ := rv.get hx
    obtain ⟨f0, f1, f2, f3, f4, f5⟩ := hf it (by simp)
    refine wpAny_pyNext_list_item st p.isList (x := u) (by simpa using hu) fun h' st' sb => ?_
    have I1 : Inv X pins σ H { s with heap := h' } := I.turned (t' := s.toks) (fun b o hb e => (sb.2 b hb).trans e) f0 f1 f3 f4 f5
    obtain ⟨o, e, c, d⟩ := id st'
    exact ⟨u, rfl, go_of (s := { s with heap := h' }) e c d (by decide) ⟨x, H, I1, ru, ⟨rfl, fun ys hy => by rw [I.list_inj hy hq]; exact hx⟩, st', fun b hb => (hf b hb).1⟩⟩
  done := by
    intro X hP hw hK hc i pins s σ H E I hf st hg
    subst hP hw hK
    obtain ⟨xs, hq, hx⟩ := hg
    obtain ⟨its, rv, p, hz⟩ := I.list hq
    obtain ⟨f0, f1, f2, f3, f4, f5⟩ := hf it (by simp)
    have hl := rv.length
    exact wpAny_pyNext_list_end (I.ok.hd hc) st p.isList (by simp; omega) fun h' eb => ⟨rfl, I.turned (t' := s.toks) (fun b o hb e => eb b o hb e) f0 f1 f3 f4 f5⟩
  self := fun _ _ _ _ _ st h => wpAny_pyIter_listiter st h
theorem turn_tuple {P : Program} {w : World} {K : PySem.W.Frag} {tg : Expr} (a it : Addr) : Turn P w K tg (Itt K a) [it] it (fun i h => h.IsTupleIter it a i) where
  mem := by simp
  obj := fun i h st b hb => by
    have e : b = it := by simpa using hb
    subst e
    obtain ⟨o, e, c, d⟩ := st
    exact ⟨o, e, fun v z => by rw [d] at z; cases z⟩
  keep := fun i h h' st k => st.at fun o e => k it (by simp) o e
  item := by
    intro X hP hw hK hc i pins s σ H E I hf st hg
    subst hP hw hK
    obtain ⟨xs, x, hq, hx⟩ := hg
    obtain ⟨its, rv, p, hz⟩ := I.tuple hq
    obtain ⟨u, hu, ru⟩ := rv.get hx
    obtain ⟨f0, f1, f2, f3, f4, f5⟩ := hf it (by simp)
    refine wpAny_pyNext_tuple_item st (show s.heap.IsTuple a its.toArray from p) (x := u) (by simpa using hu) fun h' st' sb => ?_
    have I1 : Inv X pins σ H { s with heap := h' } := I.turned (t' := s.toks) (fun b o hb e => (sb.2 b hb).trans e) f0 f1 f3 f4 f5
    obtain ⟨o, e, c, d⟩ := id st'
    exact ⟨u, rfl, go_of (s := { s with heap := h' }) e c d (by decide) ⟨x, H, I1, ru, ⟨rfl, fun ys hy => by rw [I.tuple_inj hy hq]; exact hx⟩, st', fun b hb => (hf b hb).1⟩⟩
  done := by
    intro X hP hw hK hc i pins s σ H E I hf st hg
    subst hP hw hK
    obtain ⟨xs, hq, hx⟩ := hg
    obtain ⟨its, rv, p, hz⟩ := I.tuple hq
    obtain ⟨f0, f1, f2, f3, f4, f5⟩ := hf it (by simp)
    have hl := rv.length
    exact wpAny_pyNext_tuple_end (I.ok.hd hc) st (show s.heap.IsTuple a its.toArray from p) (by simp; omega) fun h' eb => ⟨rfl, I.turned (t' := s.toks) (fun b o hb e => eb b o hb e) f0 f1 f3 f4 f5⟩
  self := fun _ _ _ _ _ st h => wpAny_pyIter_tupleiter st h
theorem turn_range {P : Program} {w : World} {K : PySem.W.Frag} {tg : Expr} (it : Addr) (lo : Int) (n : Nat) : Turn P w K tg (Itr lo n) [it] it (fun i h => IsRangeIter h it (lo + (i : Nat) * 1) ((n : Int) - (i : Nat)) 1) where
  mem := by simp
  obj := fun i h st b hb => by
    have e : b = it := by simpa using hb
    subst e
    exact ⟨_, st, fun v z => by
      have z' : Data.fields _ = Data.cell v := z
      cases z'⟩
  keep := fun i h h' st k => k it (by simp) _ st
  item := by
    intro X hP hw hK hc i pins s σ H E I hf st hg
    subst hP hw hK
    obtain ⟨f0, f1, f2, f3, f4, f5⟩ := hf it (by simp)
    have W := Walks.range (prog := X.prog) (w := X.w) (I.ok.hd hc) it lo 1 n
    refine W.item i s _ _ hg st fun v h' tk hv st' kk => ?_
    obtain ⟨t, rfl⟩ := hv
    have I1 : Inv X pins σ H { s with heap := h', toks := tk } := I.turned (fun b o hb e => kk b o (by simpa using hb) e) f0 f1 f3 f4 f5
    refine ⟨_, rfl, go_of (s := { s with heap := h', toks := tk }) (n := "range_iterator") st' rfl rfl (by decide) ⟨.int (lo + i), H, I1, ⟨t, ?_⟩, ⟨rfl, rfl⟩, st', fun b hb => (hf b hb).1⟩⟩
    rw [Int.mul_one]
  done := by
    intro X hP hw hK hc i pins s σ H E I hf st hg
    subst hP hw hK
    obtain ⟨f0, f1, f2, f3, f4, f5⟩ := hf it (by simp)
    exact wpAny_pyNext_range_end (I.ok.hd hc) st (by have : n ≤ i := hg; omega) fun h' eb => ⟨rfl, I.turned (t' := s.toks) (fun b o hb e => eb b o hb e) f0 f1 f3 f4 f5⟩
  self := fun _ _ _ _ _ st h => wpAny_pyIter_rangeiter st h
end L2
namespace L2
open PySem PySem.Spec PyProof.Rows
section
variable {X : Cx} {tg : Expr}
theorem range_it {pins : List (Addr × Obj)} {σ : St} {H : Hp} {s : Shared} {R : It → Hp → Prop} {E : Value → Shared → Prop} {lo hi : Int} {t u v : Tok} {tk : Nat} (I : Inv X pins σ H s) (h1 : -(2 ^ 62) ≤ lo) (h2 : lo < 2 ^ 62) (h3 : -(2 ^ 62) ≤ hi) (h4 : hi < 2 ^ 62)
    (q : R (Itr lo (hi - lo).toNat) H) : wpAny (model X.prog X.w) X.A (pyIter (.ref s.heap.objs.size)) (PIE X pins σ tg R) E { s with heap := s.heap.push { cls := .type "range", data := .fields #[.int lo t, .int hi u, .int 1 v] }, toks := tk } := by
  refine wpAny_pyIter_range (IsRange.new ..) (small_one h1 h2 h3 h4) ?_
  have I1 : Inv X pins σ H { s with heap := s.heap.push { cls := .type "range", data := .fields #[.int lo t, .int hi u, .int 1 v] }, toks := tk } := I.kept fun b o e => Heap.get?_push_of_some _ e
  refine ⟨(s.heap.push { cls := .type "range", data := .fields #[.int lo t, .int hi u, .int 1 v] }).objs.size, [(s.heap.push { cls := .type "range", data := .fields #[.int lo t, .int hi u, .int 1 v] }).objs.size], _, _, H, rfl,
    I1.kept (t' := tk) fun b o e => Heap.get?_push_of_some _ e, turn_range _ lo (hi - lo).toNat, ?_, fun b hb => ?_, q⟩
  · have e1 : lo + ((0 : Nat) : Int) * 1 = lo := by simp
    have e2 : (((hi - lo).toNat : Nat) : Int) - ((0 : Nat) : Int) = Builtin.Range.rangeSize lo hi 1 := by rw [rangeSize_one]; split <;> omega
    show IsRangeIter _ _ (lo + ((0 : Nat) : Int) * 1) ((((hi - lo).toNat : Nat) : Int) - ((0 : Nat) : Int)) 1
    rw [e1, e2]
    exact Heap.get?_push_size _ rfl
  · have e : b = (s.heap.push { cls := .type "range", data := .fields #[.int lo t, .int hi u, .int 1 v] }).objs.size := by simpa using hb
    subst e
    exact I1.fpOk (Nat.le_refl _) (I1.hok.fresh (Nat.le_refl _))
def iRng1 (ta : TA) : TI := fun σ H R => ta σ H fun vs H1 => ∃ j : Int, vs = [.int j] ∧ -(2 ^ 62) ≤ j ∧ j < 2 ^ 62 ∧ R (Itr 0 j.toNat) H1
theorem pi_range1 {a : Expr} {ta : TA} {p pos : Pos} (hg : Gl X "range") (hm : X.mg "range" = none) (ha : PA X [a] ta) (hs : starEach [a] X.env = [(false, eval a X.env)] := by rfl) : PI X tg (.Call (.Name "range" p) [a] [] pos) (iRng1 ta) := by
  intro pins s σ H R I h
  refine Call_ (ld_blt I hg hm boot_range (PyProof.Rows.callWith_type1 (thn (ha pos pins s σ H _ I h) fun us s1 ⟨vs, H1, I1, r1, q1⟩ => ?_) hs rfl))
  obtain ⟨j, e, q1, q2, q⟩ := q1
  subst e
  cases r1 with
  | cons r rr =>
    cases rr
    obtain ⟨t, rfl⟩ := r
    exact call_range_1 (range_it I1 (by omega) (by omega) q1 q2 (by simpa using q))
def tFor (wi : TI) (g : TG) (tb : TS) : TS := fun D σ H => wi σ H fun J H1 => ∃ W : Nat → Nat → St → Hp → Prop, (∃ m, W 0 m σ H1) ∧ ∀ i m σ H, W i m σ H →
  (J.stop i H ∧ D.nx σ H) ∨ (J.go i H ∧ ∃ N : St → Hp → Prop, (∀ σ' H', N σ' H' → ∃ m', m' < m ∧ W (i + 1) m' σ' H') ∧ ∀ x H', J.yld i H x H' → g x σ H' fun σ2 H2 => tb { D with nx := N, ct := N, bk := D.nx } σ2 H2)
def pinsAt (fp : List Addr) (h : Heap) : List (Addr × Obj) := fp.filterMap fun b => (h.get? b).map fun o => (b, o)
theorem mem_pinsAt {fp : List Addr} {h : Heap} {b : Addr} {o : Obj} (hb : b ∈ fp) (e : h.get? b = some o) : (b, o) ∈ pinsAt fp h := List.mem_filterMap.mpr ⟨b, hb, by rw [e]; rfl⟩
theorem of_pinsAt {fp : List Addr} {h : Heap} {p : Addr × Obj} (hp : p ∈ pinsAt fp h) : p.1 ∈ fp ∧ h.get? p.1 = some p.2 := by
  obtain ⟨b, hb, e⟩ := List.mem_filterMap.mp hp
  cases q : h.get? b with
  | none => rw [q] at e; cases e
  | some o =>
    rw [q] at e
    have e' : (b, o) = p := Option.some.inj e
    subst e'
    exact ⟨hb, q⟩
theorem Inv.pinned {pins : List (Addr × Obj)} {σ : St} {H : Hp} {s : Shared} {fp : List Addr} (I : Inv X pins σ H s) (hf : ∀ b ∈ fp, FpOk X pins H b) (ho : ∀ b ∈ fp, ∃ o, s.heap.get? b = some o ∧ ∀ v, o.data ≠ .cell v) : Inv X (pins ++ pinsAt fp s.heap) σ H s :=
  I.pins_of fun p hp => (List.mem_append.mp hp).elim (fun z => I.pin p (List.mem_append_right _ z)) fun z => by
    obtain ⟨hb, e⟩ := of_pinsAt z
    obtain ⟨f0, f1, f2, _⟩ := hf p.1 hb
    obtain ⟨o, e', d⟩ := ho p.1 hb
    rw [e] at e'; cases e'
    exact ⟨e, f0, f1, f2, d⟩
theorem Inv.unpinned {pins pl : List (Addr × Obj)} {σ : St} {H : Hp} {s : Shared} (I : Inv X (pins ++ pl) σ H s) : Inv X pins σ H s := I.pins_of fun p hp => I.pin p (List.mem_append_right _ (List.mem_append_left _ hp))
theorem ps_for {iter : Expr} {body : List Stmt} {wi : TI} {g : TG} {tb : TS} {pos : Pos} (hp : PassesOwn (model X.prog X.w) X.A X.env X.xe) (hc : X.calm = true) (hi : PI X tg iter wi) (hg : PG X tg g) (hb : PSs X body tb)
    (hs : ∀ x, foldedSetIterable iter X.env x = pure x := by intro _; rfl) : PS X (.For tg iter body [] pos) (tFor wi g tb) := by
  intro pins s σ H D I h
  refine wpAny_For (thn (hi pins s σ H _ I h) fun v s1 h1 => thn h1 fun itv s2 h2 => ?_) hs
  obtain ⟨it, fp, tn, J, H2, e, I2, T, st2, f2, W, ⟨m0, w0⟩, turn⟩ := h2
  subst e
  have stat : ∀ {H' : Hp}, (∀ b ∈ fp, H' b = none) → ∀ b ∈ fp, FpOk X pins H' b := fun hn b hb => ⟨hn b hb, (f2 b hb).2⟩
  refine codeAny_forLoop_any (fun n s' => ∃ i σ' H', Inv X pins σ' H' s' ∧ tn i s'.heap ∧ (∀ b ∈ fp, H' b = none) ∧ W i n σ' H') ?_ m0 ⟨0, σ, H2, I2, st2, fun b hb => (f2 b hb).1, w0⟩
  rintro n s3 ⟨i, σ3, H3, I3, st3, fr3, w3⟩
  rcases turn i n σ3 H3 w3 with ⟨stop, qn⟩ | ⟨go, N, hN, step⟩
  · refine wpAny_passesOwn hp (thn (T.done X rfl rfl rfl hc i pins s3 σ3 H3 X.xe I3 (stat fr3) st3 stop) fun r s4 ⟨hr, I4⟩ => ?_)
    subst hr
    exact wpAny_execs_nil ⟨σ3, H3, I4, qn⟩
  · refine wpAny_passesOwn hp (thn (T.item X rfl rfl rfl hc i pins s3 σ3 H3 X.xe I3 (stat fr3) st3 go) fun r s4 ⟨u, hr, h4⟩ => ?_)
    subst hr
    refine wpAny_passesOwn hp (thn h4 fun _ s5 ⟨x, H5, I5, r5, y5, st5, fr5⟩ => ?_)
    have I5' := I5.pinned (stat fr5) (T.obj _ _ st5)
    refine wpAny_passesOwn hp (thn (hg _ s5 σ3 H5 x u _ I5' r5 (step x H5 y5)) fun _ s6 ⟨σ6, H6, I6, q6⟩ => ?_)
    refine wpAny_passesOwn hp (thn (hb _ s6 σ6 H6 _ I6 q6) fun f s7 q7 => ?_)
    have again : ∀ {σ7 : St} {H7 : Hp}, Inv X (pins ++ pinsAt fp s5.heap) σ7 H7 s7 → N σ7 H7 → ∃ m, m < n ∧ ∃ i σ' H', Inv X pins σ' H' s7 ∧ tn i s7.heap ∧ (∀ b ∈ fp, H' b = none) ∧ W i m σ' H' := fun {σ7 H7} I7 n7 => by
      obtain ⟨m', hm, w7⟩ := hN σ7 H7 n7
      refine ⟨m', hm, i + 1, σ7, H7, I7.unpinned, T.keep _ _ _ st5 fun b hb o e => (I7.pin (b, o) (List.mem_append_right _ (List.mem_append_right _ (mem_pinsAt hb e)))).1, fun b hb => ?_, w7⟩
      obtain ⟨o, e, d⟩ := T.obj _ _ st5 b hb
      exact (I7.pin (b, o) (List.mem_append_right _ (List.mem_append_right _ (mem_pinsAt hb e)))).2.1
    cases f with
    | next => obtain ⟨σ7, H7, I7, n7⟩ := q7; exact again I7 n7
    | cont => obtain ⟨σ7, H7, I7, n7⟩ := q7; exact again I7 n7
    | brk => obtain ⟨σ7, H7, I7, q7⟩ := q7; exact ⟨σ7, H7, I7.unpinned, q7⟩
    | ret v => obtain ⟨x7, σ7, H7, I7, r7, q7⟩ := q7; exact ⟨x7, σ7, H7, I7.unpinned, r7, q7⟩
end
end L2
namespace L2
open PySem PySem.Spec PyProof.Rows
abbrev R2 := V → V → Hp → VK → Prop
def OpR (X : Cx) (f : Value → Value → Sem Value) (r : R2) : Prop :=
  ∀ (pins : List (Addr × Obj)) (s : Shared) (σ : St) (H : Hp) (x y : V) (v u : Value) (Q : VK), Inv X pins σ H s → RelV x v → RelV y u → r x y H Q →
    wpAny (model X.prog X.w) X.A (f v u) (EP X pins σ Q) X.xe s
def UnR (X : Cx) (f : Value → Sem Value) (r : V → Hp → VK → Prop) : Prop :=
  ∀ (pins : List (Addr × Obj)) (s : Shared) (σ : St) (H : Hp) (x : V) (v : Value) (Q : VK), Inv X pins σ H s → RelV x v → r x H Q →
    wpAny (model X.prog X.w) X.A (f v) (EP X pins σ Q) X.xe s
def CallR (X : Cx) (f : Value) (r : List V → Hp → VK → Prop) : Prop :=
  ∀ (pins : List (Addr × Obj)) (s : Shared) (σ : St) (H : Hp) (xs : List V) (us : List Value) (Q : VK), Inv X pins σ H s → Vals xs us → r xs H Q →
    wpAny (model X.prog X.w) X.A (call f us) (EP X pins σ Q) X.xe s
def TruR (X : Cx) (r : V → Hp → (Bool → Hp → Prop) → Prop) : Prop :=
  ∀ (pins : List (Addr × Obj)) (s : Shared) (σ : St) (H : Hp) (x : V) (v : Value) (Q : Bool → Hp → Prop), Inv X pins σ H s → RelV x v → r x H Q →
    wpAny (model X.prog X.w) X.A (truthy v) (TP X pins σ Q) X.xe s
def tOp (r : R2) (ta tb : TE) : TE := fun σ H Q => ta σ H fun x H1 => tb σ H1 fun y H2 => r x y H2 Q
def tUn (r : V → Hp → VK → Prop) (ta : TE) : TE := fun σ H Q => ta σ H fun x H1 => r x H1 Q
def rI (C : Int → Int → Prop) (g : Int → Int → V) : R2 := fun x y H Q => ∃ i j, x = .int i ∧ y = .int j ∧ C i j ∧ Q (g i j) H
def rI0 (g : Int → Int → V) : R2 := fun x y H Q => ∃ i j, x = .int i ∧ y = .int j ∧ Q (g i j) H
def rU (g : Int → V) : V → Hp → VK → Prop := fun x H Q => ∃ i, x = .int i ∧ Q (g i) H
section
variable {X : Cx} {a b c : Expr} {ta tb tc : TE} {pos : Pos}
theorem binT (ha : PE X a ta) (hb : PE X b tb) {pins : List (Addr × Obj)} {s : Shared} {σ : St} {H : Hp} {R : V → V → Hp → Prop} (I : Inv X pins σ H s)
    (h : ta σ H fun x H1 => tb σ H1 fun y H2 => R x y H2) {Q : Value → Shared → Prop} {f : Value → Value → Sem Value}
    (hf : ∀ v u s2 x y H2, Inv X pins σ H2 s2 → RelV x v → RelV y u → R x y H2 → wpAny (model X.prog X.w) X.A (f v u) Q X.xe s2) :
    wpAny (model X.prog X.w) X.A (eval a X.env) (fun v s₁ => wpAny (model X.prog X.w) X.A (eval b X.env) (fun u s₂ => wpAny (model X.prog X.w) X.A (f v u) Q X.xe s₂) X.xe s₁) X.xe s := by
  refine thn (ha pins s σ H _ I h) fun v s1 ⟨x, H1, I1, r1, q1⟩ => ?_
  refine thn (hb pins s1 σ H1 _ I1 q1) fun u s2 ⟨y, H2, I2, r2, q2⟩ => ?_
  exact hf v u s2 x y H2 I2 r1 r2 q2
theorem pe_op {op : Operator} {r : R2} (ho : OpR X (binaryOp op) r) (ha : PE X a ta) (hb : PE X b tb) : PE X (.BinOp a op b pos) (tOp r ta tb) := by
  intro pins s σ H Q I h
  exact wpAny_BinOp (binT ha hb I h fun v u s2 x y H2 I2 rx ry q => ho pins s2 σ H2 x y v u Q I2 rx ry q)
theorem pe_un {op : UnaryOp} {r : V → Hp → VK → Prop} (ho : UnR X (unaryOp op) r) (ha : PE X a ta) : PE X (.UnaryOp op a pos) (tUn r ta) := by
  intro pins s σ H Q I h
  exact UnaryOp_ (thn (ha pins s σ H _ I h) fun v s1 ⟨x, H1, I1, r1, q1⟩ => ho pins s1 σ H1 x v Q I1 r1 q1)
theorem opI {f : Value → Value → Sem Value} {C : Int → Int → Prop} {g : Int → Int → Int}
    (rule : ∀ (i j : Int) (t u : Tok) (s : Shared) (Q : Value → Shared → Prop) (E : Value → Shared → Prop), C i j → Q (.int (g i j) s.toks) { s with toks := s.toks + 1 } → wpAny (model X.prog X.w) X.A (f (.int i t) (.int j u)) Q E s) :
    OpR X f (rI C fun i j => .int (g i j)) := by
  intro pins s σ H x y v u Q I rx ry h
  obtain ⟨i, j, rfl, rfl, hc, q⟩ := h
  obtain ⟨t, rfl⟩ := rx
  obtain ⟨t', rfl⟩ := ry
  exact rule i j t t' s _ _ hc ⟨.int (g i j), H, I.tok _, ⟨_, rfl⟩, q⟩
theorem opI0 {f : Value → Value → Sem Value} {g : Int → Int → Int}
    (rule : ∀ (i j : Int) (t u : Tok) (s : Shared) (Q : Value → Shared → Prop) (E : Value → Shared → Prop), Q (.int (g i j) s.toks) { s with toks := s.toks + 1 } → wpAny (model X.prog X.w) X.A (f (.int i t) (.int j u)) Q E s) :
    OpR X f (rI0 fun i j => .int (g i j)) := by
  intro pins s σ H x y v u Q I rx ry h
  obtain ⟨i, j, rfl, rfl, q⟩ := h
  obtain ⟨t, rfl⟩ := rx
  obtain ⟨t', rfl⟩ := ry
  exact rule i j t t' s _ _ ⟨.int (g i j), H, I.tok _, ⟨_, rfl⟩, q⟩
theorem opB0 {f : Value → Value → Sem Value} {g : Int → Int → Bool}
    (rule : ∀ (i j : Int) (t u : Tok) (s : Shared) (Q : Value → Shared → Prop) (E : Value → Shared → Prop), Q (.bool (g i j)) s → wpAny (model X.prog X.w) X.A (f (.int i t) (.int j u)) Q E s) :
    OpR X f (rI0 fun i j => .bl (g i j)) := by
  intro pins s σ H x y v u Q I rx ry h
  obtain ⟨i, j, rfl, rfl, q⟩ := h
  obtain ⟨t, rfl⟩ := rx
  obtain ⟨t', rfl⟩ := ry
  exact rule i j t t' s _ _ ⟨.bl (g i j), H, I, rfl, q⟩
def CDiv (i j : Int) : Prop := 0 < j ∧ j < 1073741824
def CPow (i j : Int) : Prop := 0 ≤ j ∧ j ≤ 1000000 ∧ i.natAbs < 2 ^ 64
def CMul (i j : Int) : Prop := (-(2 ^ 64) < i ∧ i < 2 ^ 64) ∨ (-(2 ^ 64) < j ∧ j < 2 ^ 64)
theorem CMul.ok {i j : Int} (h : CMul i j) : IntMulOk i j := by
  rcases h with ⟨h1, h2⟩ | ⟨h1, h2⟩
  · exact .of_left (intBits_le_64 h1 h2)
  · exact .of_right (intBits_le_64 h1 h2)
theorem op_add : OpR X (binaryOp .Add) (rI0 fun i j => .int (i + j)) := opI0 fun _ _ _ _ _ _ _ q => add_int q
theorem op_sub : OpR X (binaryOp .Sub) (rI0 fun i j => .int (i - j)) := opI0 fun _ _ _ _ _ _ _ q => sub_int q
theorem op_mul : OpR X (binaryOp .Mult) (rI CMul fun i j => .int (i * j)) := opI fun _ _ _ _ _ _ _ hc q => mul_int q hc.ok
theorem op_fdiv : OpR X (binaryOp .FloorDiv) (rI CDiv fun i j => .int (i / j)) := opI fun i j _ _ _ _ _ hc q => by
  have h1 : (0 : Int) < j := hc.1
  have h2 : j < 1073741824 := hc.2
  exact floordiv_int (by omega) (by rw [Int.fdiv_eq_ediv_of_nonneg i (by omega)]; exact q) (.inl (PyProof.noPylong_small (by omega)))
theorem op_mod : OpR X (binaryOp .Mod) (rI (fun _ j => 0 < j) fun i j => .int (i % j)) := opI fun i j _ _ _ _ _ hc q => by
  have h1 : (0 : Int) < j := hc
  exact mod_int' (by omega) (by rw [Int.fmod_eq_emod_of_nonneg i (by omega)]; exact q)
theorem op_pow : OpR X (binaryOp .Pow) (rI CPow fun i j => .int (i ^ j.toNat)) := opI fun _ _ _ _ _ _ _ hc q => pow_int_small hc.1 hc.2.1 hc.2.2 q
theorem unI {f : Value → Sem Value} {g : Int → Int}
    (rule : ∀ (i : Int) (t : Tok) (s : Shared) (Q : Value → Shared → Prop) (E : Value → Shared → Prop), Q (.int (g i) s.toks) { s with toks := s.toks + 1 } → wpAny (model X.prog X.w) X.A (f (.int i t)) Q E s) :
    UnR X f (rU fun i => .int (g i)) := by
  intro pins s σ H x v Q I rx h
  obtain ⟨i, rfl, q⟩ := h
  obtain ⟨t, rfl⟩ := rx
  exact rule i t s _ _ ⟨.int (g i), H, I.tok _, ⟨_, rfl⟩, q⟩
theorem un_neg : UnR X (unaryOp .USub) (rU fun i => .int (-i)) := unI fun _ _ _ _ _ q => neg_int q
end
section
variable {X : Cx} {a b c : Expr} {ta tb tc : TE} {pos : Pos}
theorem fin_bl {pins : List (Addr × Obj)} {σ : St} {H : Hp} {s : Shared} {Q : VK} {k k' : Bool} (I : Inv X pins σ H s) (q : Q (.bl k) H) (e : k = k') : EP X pins σ Q (.bool k') s := by
  subst e
  exact ⟨.bl k, H, I, rfl, q⟩
theorem op_lt : OpR X (compareOp .Lt) (rI0 fun i j => .bl (decide (i < j))) := opB0 fun _ _ _ _ _ _ _ q => lt_int q
theorem op_le : OpR X (compareOp .LtE) (rI0 fun i j => .bl (decide (i ≤ j))) := opB0 fun _ _ _ _ _ _ _ q => le_int q
theorem op_gt : OpR X (compareOp .Gt) (rI0 fun i j => .bl (decide (j < i))) := opB0 fun _ _ _ _ _ _ _ q => gt_int q
theorem op_ge : OpR X (compareOp .GtE) (rI0 fun i j => .bl (decide (j ≤ i))) := opB0 fun _ _ _ _ _ _ _ q => ge_int q
theorem op_in_str : OpR X (compareOp .In) (fun x y H Q => ∃ i j, x = .str i ∧ y = .str j ∧ Q (.bl (!(Builtin.Str.occurrences j i 0 j.length 1).isEmpty)) H) := by
  intro pins s σ H x y v u Q I rx ry h
  obtain ⟨i, j, rfl, rfl, q⟩ := h
  obtain ⟨t, rfl⟩ := rx
  obtain ⟨t', rfl⟩ := ry
  exact in_str (fin_bl I q rfl)
theorem op_notN : OpR X (compareOp .IsNot) (fun x y H Q => y = .non ∧ Q (.bl (!decide (x = .non))) H) := by
  intro pins s σ H x y v u Q I rx ry h
  obtain ⟨rfl, q⟩ := h
  cases ry
  refine isnot_none_gen (fin_bl I q ?_)
  cases x <;> first
    | (cases rx; rfl)
    | (obtain ⟨t, rfl⟩ := rx; rfl)
theorem op_notin_str : OpR X (compareOp .NotIn) (fun x y H Q => ∃ i j, x = .str i ∧ y = .str j ∧ Q (.bl (!(!(Builtin.Str.occurrences j i 0 j.length 1).isEmpty))) H) := by
  intro pins s σ H x y v u Q I rx ry h
  obtain ⟨i, j, rfl, rfl, q⟩ := h
  obtain ⟨t, rfl⟩ := rx
  obtain ⟨t', rfl⟩ := ry
  exact notIn_str (fin_bl I q rfl)
theorem OpR.or {f : Value → Value → Sem Value} {r r' : R2} (h : OpR X f r) (h' : OpR X f r') : OpR X f (fun x y H Q => r x y H Q ∨ r' x y H Q) := by
  intro pins s σ H x y v u Q I rx ry q
  rcases q with q | q
  · exact h pins s σ H x y v u Q I rx ry q
  · exact h' pins s σ H x y v u Q I rx ry q
theorem pe_cmpR {op : CmpOp} {r : R2} (ho : OpR X (compareOp op) r) (ha : PE X a ta) (hb : PE X b tb) (hm : behindInMarks op b = false) : PE X (.Compare a [op] [b] pos) (tOp r ta tb) := by
  intro pins s σ H Q I h
  exact wpAny_Compare1 (binT ha hb I h fun v u s2 x y H2 I2 rx ry q => ho pins s2 σ H2 x y v u Q I2 rx ry q) hm
def tTest (t : TE) : TT := fun σ H Q => t σ H fun x H' => ∃ k, x = .bl k ∧ Q k H'
theorem pt_cmpR {op : CmpOp} {r : R2} (ho : OpR X (compareOp op) r) (ha : PE X a ta) (hb : PE X b tb) (hm : behindInMarks op b = false) : PT X (.Compare a [op] [b] pos) (tTest (tOp r ta tb)) := by
  intro pins s σ H Q I h
  refine wpAny_isTrue_Compare1 (thn (ha pins s σ H _ I h) fun v s1 ⟨x, H1, I1, r1, q1⟩ => thn (hb pins s1 σ H1 _ I1 q1) fun u s2 ⟨y, H2, I2, r2, q2⟩ =>
    thn (ho pins s2 σ H2 x y v u _ I2 r1 r2 q2) fun c s3 ⟨z, H3, I3, r3, k, e, q3⟩ => ?_) hm
  subst e
  cases r3
  exact wpAny_truthy_bool ⟨H3, I3, q3⟩
def tChain (r r' : R2) (ta tb tc : TE) : TE := fun σ H Q => ta σ H fun x H1 => tb σ H1 fun y H2 => r x y H2 fun z H3 => ∃ k, z = .bl k ∧
  (if k = true then tc σ H3 fun w' H4 => r' y w' H4 Q else Q (.bl false) H3)
theorem pe_chain {op op' : CmpOp} {r r' : R2} (ho : OpR X (compareOp op) r) (ho' : OpR X (compareOp op') r') (ha : PE X a ta) (hb : PE X b tb) (hc : PE X c tc)
    (hm : lastMarks [op, op'] [b, c] = false := by with_unfolding_all rfl) : PE X (.Compare a [op, op'] [b, c] pos) (tChain r r' ta tb tc) := by
  intro pins s σ H Q I h
  refine Compare_chain (thn (ha pins s σ H _ I h) fun v s1 ⟨x, H1, I1, r1, q1⟩ => chain_link (thn (hb pins s1 σ H1 _ I1 q1) fun u s2 ⟨y, H2, I2, r2, q2⟩ =>
    thn (ho pins s2 σ H2 x y v u _ I2 r1 r2 q2) fun d s3 ⟨z, H3, I3, r3, k, e, q3⟩ => ?_)) hm
  subst e
  cases r3
  refine wpAny_truthy_bool ?_
  cases k with
  | false => exact ite_ff ⟨.bl false, H3, I3, rfl, q3⟩
  | true => exact ite_tt (chain_last (thn (hc pins s3 σ H3 _ I3 q3) fun w' s4 ⟨z', H4, I4, r4, q4⟩ => ho' pins s4 σ H4 y z' u w' Q I4 r2 r4 q4))
def TruV (K : PySem.W.Frag) (x : V) (H : Hp) (k : Bool) : Prop :=
  match x with
  | .non => k = false
  | .bl b => k = b
  | .int i => k = (i != 0)
  | .str y => y.length ≤ sizeLine ∧ k = ((y.length : Int) != 0)
  | .byt y => y.size ≤ sizeLine ∧ k = ((y.size : Int) != 0)
  | .ref p => (∃ xs, SqL K H p xs ∧ k = !xs.isEmpty) ∨ (∃ xs, SqT K H p xs ∧ k = !xs.isEmpty) ∨ ∃ kvs, H p = some (.dK kvs) ∧ k = !kvs.isEmpty
  | _ => False
theorem isEmpty_kv {κ : Type} {kvs : List (κ × V)} {vs : List (κ × Value)} (r : KV kvs vs) : (!vs.isEmpty) = !kvs.isEmpty := by
  cases r <;> rfl
theorem isEmpty_of {xs : List V} {its : List Value} (r : Vals xs its) : (!its.toArray.isEmpty) = !xs.isEmpty := by
  cases r <;> simp
theorem line63 : (sizeLine : Nat) < 2 ^ 63 := by rw [sizeLine_eq]; decide
theorem tru_ok : TruR X (fun x H Q => ∃ k, TruV X.K x H k ∧ Q k H) := by
  intro pins s σ H x v Q I rx h
  obtain ⟨k, e, q⟩ := h
  have hl := line63
  have hs : sizeLine = 16777216 := sizeLine_eq
  cases x with
  | non =>
    cases rx
    have e' : k = false := e
    subst e'
    exact truthy_none ⟨H, I, q⟩
  | bl b =>
    cases rx
    have e' : k = b := e
    subst e'
    exact wpAny_truthy_bool ⟨H, I, q⟩
  | int i =>
    obtain ⟨t, rfl⟩ := rx
    have e' : k = (i != 0) := e
    subst e'
    exact PySem.P.truthy_int ⟨H, I, q⟩
  | str y =>
    obtain ⟨t, rfl⟩ := rx
    obtain ⟨hy, e'⟩ : y.length ≤ sizeLine ∧ k = ((y.length : Int) != 0) := e
    subst e'
    exact PySem.P.truthy_str (by omega) ⟨H, I.tok _, q⟩
  | byt y =>
    obtain ⟨t, rfl⟩ := rx
    obtain ⟨hy, e'⟩ : y.size ≤ sizeLine ∧ k = ((y.size : Int) != 0) := e
    subst e'
    exact PySem.W.truthy_bytes (by omega) ⟨H, I.tok _, q⟩
  | ref p =>
    cases rx
    have e' : (∃ xs, SqL X.K H p xs ∧ k = !xs.isEmpty) ∨ (∃ xs, SqT X.K H p xs ∧ k = !xs.isEmpty) ∨ ∃ kvs, H p = some (.dK kvs) ∧ k = !kvs.isEmpty := e
    rcases e' with ⟨xs, hx, e'⟩ | ⟨xs, hx, e'⟩ | ⟨kvs, hx, e'⟩
    · subst e'
      obtain ⟨its, r, pl, hz⟩ := I.list hx
      have hlen := r.length
      exact wpAny_truthy_list pl.isList (by simp only [List.size_toArray]; omega) ⟨H, I.tok _, by rw [isEmpty_of r]; exact q⟩
    · subst e'
      obtain ⟨its, r, pl, hz⟩ := I.tuple hx
      have hlen := r.length
      exact truthy_tuple pl (by simp only [List.size_toArray]; omega) ⟨H, I.tok _, by rw [isEmpty_of r]; exact q⟩
    · subst e'
      obtain ⟨hz, hS, vs, r, m⟩ : kvs.length ≤ sizeLine ∧ (p == sysModules) = false ∧ ∃ vs, KV kvs vs ∧ s.heap.DictOf (mixKind X.prog X.w) p vs := I.hok p _ hx
      have hlen : kvs.length = vs.length := Paired.length r
      exact wpAny_truthy_dict hS m (by omega) ⟨H, I.tok _, by rw [isEmpty_kv r]; exact q⟩
  | _ => exact (show False from e).elim
theorem pt_truth (ha : PE X a ta) (he : ∀ whole, isTrue a X.env whole = (do let v ← whole; standAt a.pos; holding [v] (truthy v))) :
    PT X a (fun σ H Q => ta σ H fun x H' => ∃ k, TruV X.K x H' k ∧ Q k H') := by
  intro pins s σ H Q I h
  exact isTrue_plain (thn (ha pins s σ H _ I h) fun v s1 ⟨x, H1, I1, r1, q1⟩ => tru_ok pins s1 σ H1 x v Q I1 r1 q1) (he _)
theorem op_add_str : OpR X (binaryOp .Add) (fun x y H Q => ∃ i j, x = .str i ∧ y = .str j ∧ i.length + j.length ≤ sizeLine ∧ Q (.str (i ++ j)) H) := by
  intro pins s σ H x y v u Q I rx ry h
  obtain ⟨i, j, rfl, rfl, hz, q⟩ := h
  obtain ⟨t, rfl⟩ := rx
  obtain ⟨t', rfl⟩ := ry
  exact add_str (fun t' tk => ⟨.str (i ++ j), H, I.tok _, ⟨_, rfl⟩, q⟩) hz
theorem vals1 {x : V} {us : List Value} (r : Vals [x] us) : ∃ u, us = [u] ∧ RelV x u := by
  cases r with
  | cons r1 r2 => cases r2; exact ⟨_, rfl, r1⟩
theorem vals2 {x y : V} {us : List Value} (r : Vals [x, y] us) : ∃ u w', us = [u, w'] ∧ RelV x u ∧ RelV y w' := by
  cases r with
  | cons r1 r2 =>
    cases r2 with
    | cons r3 r4 => cases r4; exact ⟨_, _, rfl, r1, r3⟩
theorem call_max2 (hc : X.calm = true) : CallR X (.builtin "max") (fun xs H Q => ∃ i j, xs = [.int i, .int j] ∧ Q (.int (if j > i then j else i)) H) := by
  intro pins s σ H xs us Q I r h
  obtain ⟨i, j, rfl, q⟩ := h
  obtain ⟨u, w', rfl, ⟨t, rfl⟩, ⟨t', rfl⟩⟩ := vals2 r
  refine max_two_ints (I.ok.hd hc) fun h' tk k => ⟨_, H, I.kept k, ?_, q⟩
  by_cases hj : j > i
  · rw [if_pos hj, if_pos hj]; exact ⟨_, rfl⟩
  · rw [if_neg hj, if_neg hj]; exact ⟨_, rfl⟩
theorem call_int1 : CallR X (.type "int") (fun xs H Q => (∃ i, xs = [.int i] ∧ Q (.int i) H) ∨ ∃ k, xs = [.bl k] ∧ Q (.int (if k then 1 else 0)) H) := by
  intro pins s σ H xs us Q I r h
  rcases h with ⟨i, rfl, q⟩ | ⟨k, rfl, q⟩
  · obtain ⟨u, rfl, t, rfl⟩ := vals1 r
    exact call_int_int ⟨.int i, H, I, ⟨_, rfl⟩, q⟩
  · obtain ⟨u, rfl, r1⟩ := vals1 r
    cases r1
    exact call_int_bool ⟨.int (if k then 1 else 0), H, I.tok _, ⟨_, rfl⟩, q⟩
end
end L2
namespace L2
open PySem PySem.Spec PyProof.Rows
section
variable {prog : Program} {w : World} {A : Around} {E : Value → Shared → Prop} {s : Shared} {K : PySem.W.Frag} {x dx C f : Addr} {mA : Str → Option Value} {name : Str} {v : Value}
end
section
variable {P : Program} {w : World} {H H' : Hp} {h h' : Heap} {a C dx : Addr} {fs fs' : List (Str × V)}
end
section
variable {X : Cx} {pins : List (Addr × Obj)} {σ : St} {H : Hp} {s : Shared} {a C dx : Addr} {fs : List (Str × V)} {f : Str} {v : V} {A : Around} {E : Value → Shared → Prop}
end
section
variable {X : Cx} {o e value : Expr} {f : Str} {pos pos' tpos : Pos} {ta tv : TE}
end
section
variable {X : Cx} {pins : List (Addr × Obj)} {σ : St} {H : Hp} {s : Shared} {A : Around} {E : Value → Shared → Prop} {Q : Value → Shared → Prop} {c : Value} {b : Bool}
end
end L2
namespace L2
open PySem PySem.Spec PyProof.Rows
structure Room (k : Nat) (A : Around) : Prop where
  hd : A.handled = none
  dp : A.depth + 3 * k + 5 < recursionLimit
  un : A.units + 16 * k + 1200 < cLine
  gd : A.guards = some []
theorem Room.mono {j k : Nat} {A : Around} (r : Room k A) (h : j ≤ k) : Room j A := ⟨r.hd, by have := r.dp; omega, by have := r.un; omega, r.gd⟩
theorem Room.deeper {k : Nat} {A : Around} (r : Room (k + 1) A) (env : Env) : Room k (A.deeper env) :=
  ⟨r.hd, by have := r.dp; show A.depth + 1 + 3 * k + 5 < _; omega, by have := r.un; show A.units + 3 + 16 * k + 1200 < _; omega, r.gd⟩
theorem Room.depth {k : Nat} {A : Around} (r : Room k A) : A.depth < recursionLimit := by have := r.dp; omega
def tNil : TA := fun _ H Q => Q [] H
def tCons (ta : TE) (tr : TA) : TA := fun σ H Q => ta σ H fun x H1 => tr σ H1 fun xs H2 => Q (x :: xs) H2
section
variable {X : Cx} {e : Expr} {es : List Expr} {te : TE} {t : TA} {pos : Pos}
theorem pa_nil : PA X [] tNil := fun _ _ _ _ H Q I h => Calls.spliced_nil ⟨[], H, I, .nil, h⟩
theorem pa_cons (ha : PE X e te) (hr : PA X es t) (hs : starEach (e :: es) X.env = (false, eval e X.env) :: starEach es X.env := by rfl) : PA X (e :: es) (tCons te t) := by
  intro pos pins s σ H Q I h
  rw [hs]
  show wpAny _ _ (spliced ((false, eval e X.env) :: backTo pos (starEach es X.env))) _ _ s
  refine Calls.spliced_cons (thn (ha pins s σ H _ I h) fun u s1 ⟨x, H1, I1, r1, q1⟩ => ?_)
  exact thn (hr pos pins s1 σ H1 _ I1 q1) fun us s2 ⟨xs, H2, I2, r2, q2⟩ => ⟨x :: xs, H2, I2, .cons r1 r2, q2⟩
def tTup (t : TA) : TE := fun σ H Q => t σ H fun xs H1 => xs.length ≤ sizeLine ∧ ∀ p, H1 p = none → Q (.ref p) (upd H1 p (.tup xs))
def tLst (t : TA) : TE := fun σ H Q => t σ H fun xs H1 => xs.length ≤ sizeLine ∧ ∀ p, H1 p = none → Q (.ref p) (upd H1 p (.lst xs))
theorem pe_tup {x1} (h : PA X es t) : PE X (.Tuple es x1 pos) (tTup t) := by
  intro pins s σ H Q I hq
  refine wpAny_Tuple_spliced (thn (h pos pins s σ H _ I hq) fun us s1 ⟨xs, H1, I1, r, z, q⟩ => ⟨by rw [← r.length]; exact z, ?_⟩)
  have hf : H1 s1.heap.objs.size = none := I1.hok.fresh (Nat.le_refl _)
  refine ⟨.ref s1.heap.objs.size, upd H1 s1.heap.objs.size (.tup xs), I1.laid (t' := s1.toks) (fun b u e => Heap.get?_push_of_some _ e) (Nat.le_refl _) ?_, rfl, q _ hf⟩
  exact ⟨z, us, r, ⟨_, Heap.get?_push_size _ rfl, rfl, _, rfl⟩⟩
theorem pe_lst (h : PA X es t) : PE X (.List es pos) (tLst t) := by
  intro pins s σ H Q I hq
  refine wpAny_List_spliced (thn (h pos pins s σ H _ I hq) fun us s1 ⟨xs, H1, I1, r, z, q⟩ => ⟨by rw [← r.length]; exact z, ?_⟩)
  have hf : H1 s1.heap.objs.size = none := I1.hok.fresh (Nat.le_refl _)
  refine ⟨.ref s1.heap.objs.size, upd H1 s1.heap.objs.size (.lst xs), I1.laid (t' := s1.toks) (fun b u e => Heap.get?_push_of_some _ e) (Nat.le_refl _) ?_, rfl, q _ hf⟩
  exact ⟨z, us, 0, r, Heap.get?_push_size _ rfl⟩
end
abbrev Sp := List V → Hp → VK → XK → Prop
abbrev CXT := List Env → Hp → Shared → XK → Value → Shared → Prop
structure Env0 (P : Program) (w : World) (K : PySem.W.Frag) (mg : Str → Option Value) (base : Heap) (A : Around) (outer : List Env) (s : Shared) (H : Hp) : Prop where
  frames : A.frames = some outer
  mod : Mod K mg base
  bs : ∀ b o, base.get? b = some o → s.heap.get? b = some o ∧ H b = none
  bsz : base.objs.size ≤ s.heap.objs.size
  funs : s.heap.FunFrames base outer
  frf : ∀ b ∈ frs outer, H b = none
  hok : HOk P w H s.heap
  bare : AllBare s.gens
def CE (outer : List Env) (P : Program) (w : World) (H : Hp) (s : Shared) (Q : VK) (u : Value) (s' : Shared) : Prop :=
  ∃ v H', s'.os = s.os ∧ AllBare s'.gens ∧ Un (frs outer) [] H H' s.heap s'.heap ∧ HOk P w H' s'.heap ∧ RelV v u ∧ Q v H'
def CR (CX : CXT) (outer : List Env) (P : Program) (w : World) (H : Hp) (s : Shared) (Q : VK) (E : XK) (r : Result) (s' : Shared) : Prop :=
  match r with
  | .ok (.ret u) => CE outer P w H s Q u s'
  | .ok _ => False
  | .error e => CX outer H s E e s'
structure FnOk (P : Program) (w : World) (K : PySem.W.Frag) (mg : Str → Option Value) (base : Heap) (CX : CXT) (k : Nat) (f : Addr) (fd : FuncData) (ps : List Str) (sp : Sp) : Prop where
  len : ∀ vs H Q E, sp vs H Q E → vs.length = ps.length
  run : ∀ (A : Around) (outer : List Env) (s : Shared) (H : Hp) (args : Args) (us : List Value) (vs : List V) (Q : VK) (E : XK), Room k A → Env0 P w K mg base A outer s H → BindsTo s fd args (ps.zip us) → Vals vs us → sp vs H Q E →
    codeAny (model P w) A (.call (.ref f) args) (CR CX outer P w H s Q E) s
section
variable {X : Cx} {pins : List (Addr × Obj)} {σ : St} {H : Hp} {s s' : Shared}
theorem Inv.env0 (I : Inv X pins σ H s) : Env0 X.prog X.w X.K X.mg X.base X.A X.stack s H :=
  ⟨I.ok.frames, I.ok.mod, I.bs, Nat.le_trans I.ok.bsz I.sz, I.stack, I.stkFree, I.hok, I.bare⟩
theorem Inv.after {Q : VK} {u : Value} (I : Inv X pins σ H s) (h : CE X.stack X.prog X.w H s Q u s') : EP X pins σ Q u s' := by
  obtain ⟨v, H', os, bare, un, hok, r, q⟩ := h
  obtain ⟨hh, g, d, t, os'⟩ := s'
  obtain rfl : os' = s.os := os
  exact ⟨v, H', I.call (h' := hh) (g' := g) (d' := d) (t' := t) (ch := []) un hok bare (fun b z => absurd z (by simp)), r, q⟩
end
def tCall (sp : Sp) (dvs : List V) (E : XK) (t : TA) : TE := fun σ H Q => t σ H fun vs H1 => sp (vs ++ dvs) H1 Q E
def Binds (K : PySem.W.Frag) (fd : FuncData) (ps : List Str) (ds : List Value) : Prop :=
  ∀ (s : Shared) (us : List Value), K.In s.heap → (us ++ ds).length = ps.length → BindsTo s fd ⟨us, []⟩ (ps.zip (us ++ ds))
theorem Binds.all {K : PySem.W.Frag} {fd : FuncData} {ps : List Str} (h : ∀ us : List Value, us.length = ps.length → bindArgs fd ⟨us, []⟩ = pure (ps.zip us)) : Binds K fd ps [] := fun s us _ hl => by
  rw [List.append_nil] at hl ⊢
  exact .of_eq (h us hl)
def Passes (CX : CXT) (X : Cx) (E : XK) : Prop := ∀ (pins : List (Addr × Obj)) (σ : St) (H : Hp) (s : Shared) (e : Value) (s' : Shared), Inv X pins σ H s → CX X.stack H s E e s' → X.xe e s'
section
variable {X : Cx} {CX : CXT} {k : Nat} {f C : Addr} {fd : FuncData} {ps : List Str} {sp : Sp} {dvs : List V} {ds : List Value} {E : XK} {x m : Str} {p pos apos : Pos} {e o : Expr} {es : List Expr} {ta : TE} {t : TA}
theorem run_fn {pins : List (Addr × Obj)} {σ : St} {H : Hp} {s : Shared} {Q : VK} {us : List Value} {vs : List V} (F : FnOk X.prog X.w X.K X.mg X.base CX k f fd ps sp) (hr : Room k X.A) (hb : Binds X.K fd ps ds) (hd : Vals dvs ds) (hx : Passes CX X E)
    (I : Inv X pins σ H s) (r : Vals vs us) (h : sp (vs ++ dvs) H Q E) : wpAny (model X.prog X.w) X.A (call (.ref f) us) (EP X pins σ Q) X.xe s := by
  have r2 : Vals (vs ++ dvs) (us ++ ds) := r.append hd
  have hl : (us ++ ds).length = ps.length := by rw [← r2.length]; exact F.len _ _ _ _ h
  refine wpAny_call (codeAny_mono (F.run X.A X.stack s H ⟨us, []⟩ (us ++ ds) (vs ++ dvs) Q E hr I.env0 (hb s us I.kIn hl) r2 h) fun r s' hq => ?_)
  cases r with
  | error e => exact hx pins σ H s e s' I hq
  | ok fl =>
    cases fl with
    | ret u => exact I.after hq
    | next => exact False.elim hq
    | brk => exact False.elim hq
    | cont => exact False.elim hq
theorem pe_call (F : FnOk X.prog X.w X.K X.mg X.base CX k f fd ps sp) (hr : Room k X.A) (hg : Gl X x) (hm : X.mg x = some (.ref f)) (hk : PySem.W.keepIn X.K (.ref f) = true) (hb : Binds X.K fd ps ds) (hd : Vals dvs ds) (hx : Passes CX X E)
    (ha : PA X (e :: es) t) (hdb : (x == ("__debug__" : Str)) = false := by decide) (he : starEach (e :: es) X.env = (false, eval e X.env) :: starEach es X.env := by rfl) (hpl : (backTo pos (starEach es X.env)).any (·.1) = false := by rfl) :
    PE X (.Call (.Name x p) (e :: es) [] pos) (tCall sp dvs E t) := by
  intro pins s σ H Q I h
  refine wpAny_Call_Name_kw (ld_glob I hg hm ?_ hdb)
  refine PySem.W.callWith_K (h₀ := X.base) I.ok.mod.kin hk (thn (ha pos pins s σ H _ I h) fun us s1 ⟨vs, H1, I1, r, q⟩ => ⟨I1.kIn, ?_⟩) he hpl
  exact run_fn F hr hb hd hx I1 r q
end
section
variable {X : Cx} {CX : CXT} {k : Nat} {f C : Addr} {fd : FuncData} {ps ks : List Str} {sp : Sp} {E : XK} {x m : Str} {p pos apos kpos : Pos} {e o : Expr} {es : List Expr} {kws : List Keyword} {te ta : TE} {t tk : TA} {nm : Option Str}
variable {g : List Value → List Value → List Value} {gV : List V → List V → List V}
end
structure FnScope (N P : List Str) (sc : Scope) : Prop where
  kind : sc.kind = .function
  co : sc.isCoroutine = false
  gen : sc.isGenerator = false
  nd : N.Nodup
  pre : N.take P.length = P
  par : ∀ x ∈ P, sc.names.lookup x = some .local ∨ sc.names.lookup x = some .cell
  nofree : ∀ y ∈ sc.names, y.2 ≠ .free
theorem bindL_out {kindOf : Str → Option NameKind} {x : Str} : ∀ {binds : List (Str × Value)} {m : Str → Option Value}, (∀ v, (x, v) ∉ binds) → bindL kindOf binds m x = m x
  | [], _, _ => rfl
  | (n, v) :: r, m, h => by
    unfold bindL
    rw [bindL_out fun w hw => h w (List.mem_cons_of_mem _ hw)]
    split
    · have : x ≠ n := by rintro rfl; exact h v List.mem_cons_self
      simp [this]
    · rfl
theorem bindC_out {kindOf : Str → Option NameKind} {x : Str} : ∀ {binds : List (Str × Value)} {m : Str → Option Value}, (∀ v, (x, v) ∉ binds) → bindC kindOf binds m x = m x
  | [], _, _ => rfl
  | (n, v) :: r, m, h => by
    unfold bindC
    rw [bindC_out fun w hw => h w (List.mem_cons_of_mem _ hw)]
    split
    · rfl
    · have : x ≠ n := by rintro rfl; exact h v List.mem_cons_self
      simp [this]
theorem bindL_get {kindOf : Str → Option NameKind} {x : Str} {v : Value} : ∀ {P : List Str} {vs : List Value} {i : Nat} {m : Str → Option Value}, P.Nodup → P[i]? = some x → vs[i]? = some v → kindOf x = some .local →
    bindL kindOf (P.zip vs) m x = some v
  | [], _, _, _, _, h, _, _ => by simp at h
  | _ :: _, [], _, _, _, _, h, _ => by simp at h
  | p :: P, w :: vs, 0, m, nd, h1, h2, hk => by
    simp at h1 h2; subst h1; subst h2
    show bindL kindOf ((p, w) :: P.zip vs) m p = _
    unfold bindL
    rw [bindL_out fun v hv => (List.nodup_cons.mp nd).1 (List.of_mem_zip hv).1, if_pos hk]
    simp
  | p :: P, w :: vs, i + 1, m, nd, h1, h2, hk => by
    show bindL kindOf ((p, w) :: P.zip vs) m x = _
    unfold bindL
    exact bindL_get (i := i) (List.nodup_cons.mp nd).2 (by simpa using h1) (by simpa using h2) hk
theorem bindC_get {kindOf : Str → Option NameKind} {x : Str} {v : Value} : ∀ {P : List Str} {vs : List Value} {i : Nat} {m : Str → Option Value}, P.Nodup → P[i]? = some x → vs[i]? = some v → kindOf x ≠ some .local →
    bindC kindOf (P.zip vs) m x = some v
  | [], _, _, _, _, h, _, _ => by simp at h
  | _ :: _, [], _, _, _, _, h, _ => by simp at h
  | p :: P, w :: vs, 0, m, nd, h1, h2, hk => by
    simp at h1 h2; subst h1; subst h2
    show bindC kindOf ((p, w) :: P.zip vs) m p = _
    unfold bindC
    rw [bindC_out fun v hv => (List.nodup_cons.mp nd).1 (List.of_mem_zip hv).1, if_neg hk]
    simp
  | p :: P, w :: vs, i + 1, m, nd, h1, h2, hk => by
    show bindC kindOf ((p, w) :: P.zip vs) m x = _
    unfold bindC
    exact bindC_get (i := i) (List.nodup_cons.mp nd).2 (by simpa using h1) (by simpa using h2) hk
def start (N : List Str) (vs : List V) : St := vs.map some ++ List.replicate (N.length - vs.length) none
def cxOf (CX : CXT) (P : Program) (w : World) (K : PySem.W.Frag) (mg : Str → Option Value) (base : Heap) (N : List Str) (qual : Str) (scope : Scope) (f : Addr) (cd : Value) (A : Around) (outer : List Env) (s : Shared) (H : Hp) (E : XK) : Cx where
  prog := P
  w := w
  K := K
  mg := mg
  base := base
  A := A.deeper (envOfC qual scope s.heap.objs.size f cd)
  N := N
  s₀ := s
  H₀ := H
  env := envOfC qual scope s.heap.objs.size f cd
  outer := outer
  stack := envOfC qual scope s.heap.objs.size f cd :: outer
  ex := []
  calm := true
  fn := fun _ => true
  pn := []
  xe := fun e s' => wpAny (model P w) (A.deeper (envOfC qual scope s.heap.objs.size f cd)) (leaving (envOfC qual scope s.heap.objs.size f cd) e) (fun _ s'' => CX outer H s E e s'') (fun e' s'' => CX outer H s E e' s'') s'
theorem cell_has {sc : Scope} {n : Nat} {x : Str} (h : sc.names.lookup x = some .cell) : ∃ c, (cellsFrom n sc.names []).lookup x = some c := by
  have q := PySem.W.cellsFrom_some sc.names n [] (.inl h)
  exact Option.isSome_iff_exists.mp q
theorem inv_start {CX : CXT} {P : Program} {w : World} {K : PySem.W.Frag} {mg : Str → Option Value} {base : Heap} {N ps : List Str} {qual : Str} {scope : Scope} {f : Addr} {cd : Value} {A : Around} {outer : List Env} {s s1 : Shared} {H : Hp} {E : XK} {us : List Value} {vs : List V}
    (S : FnScope N ps scope) (hd : A.handled = none) (e0 : Env0 P w K mg base A outer s H) (hl : vs.length = ps.length) (r : Vals vs us)
    (x : InCallC s s.heap.objs.size (bindL (envOfC qual scope s.heap.objs.size f cd).kindOf (ps.zip us) fun _ => none) (cellsFrom (s.heap.objs.size + 1) scope.names []) (bindC (envOfC qual scope s.heap.objs.size f cd).kindOf (ps.zip us) fun _ => none) s1) :
    Inv (cxOf CX P w K mg base N qual scope f cd A outer s H E) [] (start N vs) H s1 := by
  have hpl : ps.length ≤ N.length := by have := congrArg List.length S.pre; rw [List.length_take] at this; omega
  obtain ⟨h1, tk, rfl, hk⟩ := x.done
  have noA : ∀ b : Addr, b ∉ (cxOf CX P w K mg base N qual scope f cd A outer s H E).ex := fun b z => absurd (show b ∈ ([] : List Addr) from z) (by simp)
  refine ⟨⟨e0.mod, S.kind, rfl, rfl, Nat.le_refl _, fun y z c h1 h2 => ?_, fun y hy => ?_, fun y c _ h => ?_, fun _ => hd, Around.frames_deeper e0.frames, .inr ⟨rfl, rfl⟩, fun b z => absurd z (noA b), e0.bs, e0.bsz, fun b _ _ => noA b, fun b z => absurd z (noA b), e0.funs, e0.frf⟩,
    rfl, e0.bare, Un.kept hk, ⟨_, x.toInCall.ns, fun i y v h1 h2 h3 => ?_⟩, fun y c h => ⟨_, x.cell y c h⟩, e0.hok.fresh (Nat.le_refl _), fun y c h => ?_, fun p hp => absurd (show p ∈ ([] : List (Addr × Obj)) from hp) (by simp), e0.hok.kept hk, ?_⟩
  · exact name_of_addr x.apart (PySem.mem_of_lookup h1) (PySem.mem_of_lookup h2)
  · have hy : scope.names.lookup y = some .cell ∨ scope.names.lookup y = some .free := hy
    rcases hy with hy | hy
    · exact cell_has hy
    · exact absurd rfl (S.nofree _ (PySem.mem_of_lookup hy))
  · exact Nat.le_of_lt (x.above y c (PySem.mem_of_lookup h))
  · have hi : i < vs.length := by
      unfold start at h2
      by_cases hi : i < vs.length
      · exact hi
      · rw [List.getElem?_append_right (by simpa using hi)] at h2
        rw [List.getElem?_replicate] at h2
        split at h2 <;> cases h2
    have ha : vs[i]? = some v := by
      unfold start at h2
      rw [List.getElem?_append_left (by simpa using hi), List.getElem?_map] at h2
      cases e : vs[i]? with
      | none => rw [e] at h2; cases h2
      | some a => rw [e] at h2; cases h2; rfl
    obtain ⟨u, hu, rv⟩ := r.get ha
    have hp : ps[i]? = some y := by
      rw [← S.pre, List.getElem?_take_of_lt (by omega)]; exact h1
    have ndP : ps.Nodup := by rw [← S.pre]; exact S.nd.sublist (List.take_sublist _ _)
    refine ⟨u, rv, ?_⟩
    rcases S.par y (List.mem_of_getElem? hp) with k | k
    · exact .inl ⟨k, bindL_get ndP hp hu k⟩
    · obtain ⟨c, e⟩ := cell_has (n := s.heap.objs.size + 1) k
      refine .inr ⟨.inl k, c, e, ?_⟩
      have q := x.cell y c e
      rw [bindC_get ndP hp hu (by show scope.names.lookup y ≠ _; rw [k]; decide)] at q
      exact q
  · exact e0.hok.fresh (Nat.le_of_lt (x.above y c (PySem.mem_of_lookup h)))
  · unfold start
    show _ = N.length
    rw [List.length_append, List.length_map, List.length_replicate]
    omega
theorem fn_of {CX : CXT} {P : Program} {w : World} {K : PySem.W.Frag} {mg : Str → Option Value} {base : Heap} {k : Nat} {f : Addr} {name qual : Str} {params : Arguments} {body : List Stmt} {scope : Scope} {dV kV doc pm cdv ct oc : Value} {an od : Option Addr}
    {osl : Array (Option Value)} {N ps : List Str} {sp : Sp} (lk : K.lookup f = some ⟨oc, od, .func (PySem.W.fnOf name qual params body scope dV kV doc pm an cdv ct), osl⟩) (hcd : PySem.W.codeIn K cdv qual = true) (S : FnScope N ps scope)
    (len : ∀ vs H Q E, sp vs H Q E → vs.length = ps.length)
    (hbody : ∀ (A : Around) (outer : List Env) (s : Shared) (H : Hp) (vs : List V) (Q : VK) (E : XK), Room k (A.deeper (envOfC qual scope s.heap.objs.size f cdv)) → sp vs H Q E →
      ∃ t, PSs (cxOf CX P w K mg base N qual scope f cdv A outer s H E) body t ∧ t { nx := fun _ H' => Q .non H', rt := Q } (start N vs) H) :
    FnOk P w K mg base CX (k + 1) f (PySem.W.fnOf name qual params body scope dV kV doc pm an cdv ct) ps sp := by
  refine ⟨len, fun A outer s H args us vs Q E hr e0 hb r hsp => ?_⟩
  have hl := len _ _ _ _ hsp
  have KX : K.In s.heap := e0.mod.kin.keeps fun b o e => (e0.bs b o e).1
  have lim : s.heap.NoLimit := e0.mod.nolimit.keeps fun b o e => (e0.bs b o e).1
  have hkind : ∀ y ∈ ps.zip us, scope.names.lookup y.1 = some .local ∨ (scope.names.lookup y.1 = some .cell ∧ ((cellsFrom (s.heap.objs.size + 1) scope.names []).lookup y.1).isSome = true) := fun ⟨n, v⟩ hy => by
    rcases S.par n (List.of_mem_zip hy).1 with q | q
    · exact .inl q
    · exact .inr ⟨q, PySem.W.cellsFrom_some _ _ _ (.inl q)⟩
  refine codeAny_call_function hr.depth (KX _ _ lk) rfl S.co S.gen rfl (PySem.W.codeRec_of KX hcd) (hb _ _ _ _ ?_)
  refine wpAny_newFunctionEnv_cells S.kind hkind fun env he s1 x => ?_
  subst he
  refine ⟨lim.keeps x.toInCall.keep, codeAny_func ?_⟩
  obtain ⟨t, ht, hq⟩ := hbody A outer s H vs Q E (hr.deeper _) hsp
  have I : Inv (cxOf CX P w K mg base N qual scope f cdv A outer s H E) [] (start N vs) H s1 := inv_start S hr.hd e0 hl r x
  refine wpAny_mono (ht [] s1 (start N vs) H _ I hq) (fun fl s' hs => ?_) fun e s' hs => hs
  have fin : ∀ {σ' : St} {H' : Hp} {v : V} {u : Value}, Inv (cxOf CX P w K mg base N qual scope f cdv A outer s H E) [] σ' H' s' → RelV v u → Q v H' → CE outer P w H s Q u s' :=
    fun {σ' H' v u} J rv q => ⟨v, H', J.os, J.bare, J.base, J.hok, rv, q⟩
  cases fl with
  | ret u =>
    obtain ⟨v, σ', H', J, rv, q⟩ := hs
    exact fin J rv q
  | next =>
    obtain ⟨σ', H', J, q⟩ := hs
    exact fin (v := V.non) (u := Value.none) J rfl q
  | brk =>
    obtain ⟨_, _, _, q⟩ := hs
    exact False.elim q
  | cont =>
    obtain ⟨_, _, _, q⟩ := hs
    exact False.elim q
end L2
namespace L2
open PySem PySem.Spec PyProof.Rows
section
variable {X : Cx} {x : Str} {p pos : Pos} {e : Expr} {es : List Expr} {t : TA} {id T : String} {r : List V → Hp → VK → Prop}
def tCB (r : List V → Hp → VK → Prop) (t : TA) : TE := fun σ H Q => t σ H fun vs H1 => r vs H1 Q
theorem pe_callB (hc : CallR X (.builtin id) r) (hg : Gl X x) (hm : X.mg x = none) (hv : bootBuiltins x = some (.builtin id)) (ha : PA X (e :: es) t) (hn : x ≠ "__name__" := by decide) (hdb : (x == ("__debug__" : Str)) = false := by decide)
    (he : starEach (e :: es) X.env = (false, eval e X.env) :: starEach es X.env := by rfl) (hpl : (backTo pos (starEach es X.env)).any (·.1) = false := by rfl) : PE X (.Call (.Name x p) (e :: es) [] pos) (tCB r t) := by
  intro pins s σ H Q I h
  refine wpAny_Call_Name_kw (ld_blt I hg hm hv ?_ hn hdb)
  exact PyProof.Rows.callWith_builtin1 (thn (ha pos pins s σ H _ I h) fun us s1 ⟨vs, H1, I1, r1, q1⟩ => hc pins s1 σ H1 vs us Q I1 r1 q1) he hpl
theorem pe_callTy (hc : CallR X (.type T) r) (hg : Gl X x) (hm : X.mg x = none) (hv : bootBuiltins x = some (.type T)) (ha : PA X (e :: es) t) (hn : x ≠ "__name__" := by decide) (hdb : (x == ("__debug__" : Str)) = false := by decide)
    (he : starEach (e :: es) X.env = (false, eval e X.env) :: starEach es X.env := by rfl) (hpl : (backTo pos (starEach es X.env)).any (·.1) = false := by rfl) : PE X (.Call (.Name x p) (e :: es) [] pos) (tCB r t) := by
  intro pins s σ H Q I h
  refine wpAny_Call_Name_kw (ld_blt I hg hm hv ?_ hn hdb)
  exact PyProof.Rows.callWith_type1 (thn (ha pos pins s σ H _ I h) fun us s1 ⟨vs, H1, I1, r1, q1⟩ => hc pins s1 σ H1 vs us Q I1 r1 q1) he hpl
end
end L2
namespace HT
open PySem PyProof.Rows
section
open PySem.SeqAt
open PySem.AutoSeq1 (wpAny_loadPart')
open PySem.MeetsSeq PySem.MeetsSeq2 PySem.MeetsSeq3
end
section
variable {prog : Program} {w : World} {A : Around} {E : Value → Shared → Prop} {s : Shared}
theorem cat_tup {t b : Addr} {vs ws : List Value} {Q : Value → Shared → Prop} (ht : IsTup s.heap t vs.toArray) (hb : IsTup s.heap b ws.toArray) (hv : vs ≠ [])
    (h1 : ws = [] → Q (.ref t) s) (h2 : ws ≠ [] → Q (.ref s.heap.objs.size) { s with heap := s.heap.push { cls := .type "tuple", data := .seq (vs ++ ws).toArray } })
    (hsz : vs.length + ws.length ≤ sizeLine) : wpAny (model prog w) A (binaryOp .Add (.ref t) (.ref b)) Q E s := by
  obtain ⟨⟨cls, dd, data, sl⟩, ho, hc, n, hd⟩ := id ht
  obtain ⟨⟨cls2, dd2, data2, sl2⟩, ho2, hc2, n2, hd2⟩ := id hb
  simp only at hc hd hc2 hd2
  subst hc hd hc2 hd2
  have e : vs.toArray ++ ws.toArray = (vs ++ ws).toArray := by simp
  by_cases hw : ws = []
  · exact concat_meets ⟨_, ho, rfl⟩ ⟨_, ho2, rfl⟩ noFill_tuple_add seq_tuple_add PySem.F.slot_tuple_add PySem.F.entry_tuple_add (PySem.F.args_tuple_add_2 _ _)
      (tuple_addW1 t b vs.toArray ws.toArray n n2 dd dd2 sl sl2 (by simpa using hv) (by simp [hw])) ⟨ho, ho2, h1 hw⟩
  · refine concat_meets ⟨_, ho, rfl⟩ ⟨_, ho2, rfl⟩ noFill_tuple_add seq_tuple_add PySem.F.slot_tuple_add PySem.F.entry_tuple_add (PySem.F.args_tuple_add_2 _ _)
      (tuple_addW2 t b vs.toArray ws.toArray n n2 dd dd2 sl sl2 (by simpa using hv) (by simpa using hw) (by rw [List.size_toArray, List.size_toArray]; exact hsz)) ⟨ho, ho2, ?_⟩
    rw [e]
    exact h2 hw
def sIx (n d : Nat) : Option Int → Nat
  | none => d
  | some v => if v < 0 then (v + (n : Int)).toNat else min v.toNat n
theorem sIx_none (n d : Nat) : sIx n d none = d := rfl
theorem sIx_nat (n d k : Nat) : sIx n d (some (k : Int)) = min k n := by
  show (if (k : Int) < 0 then ((k : Int) + (n : Int)).toNat else min (k : Int).toNat n) = min k n
  rw [if_neg (by omega), Int.toNat_natCast]
theorem sIx_le (n d : Nat) (hd : d ≤ n) (o : Option Int) : sIx n d o ≤ n := by
  cases o with
  | none => exact hd
  | some v =>
    show (if v < 0 then (v + (n : Int)).toNat else min v.toNat n) ≤ n
    by_cases hv : v < 0
    · rw [if_pos hv]; omega
    · rw [if_neg hv]; exact Nat.min_le_right _ _
theorem clip_eq (v : Int) (n d : Nat) : (if v < 0 then max (v + (n : Int)) 0 else min v (n : Int)) = ((sIx n d (some v) : Nat) : Int) := by
  show (if v < 0 then max (v + (n : Int)) 0 else min v (n : Int)) = (((if v < 0 then (v + (n : Int)).toNat else min v.toNat n) : Nat) : Int)
  by_cases hv : v < 0
  · simp only [if_pos hv]; omega
  · simp only [if_neg hv]; omega
theorem adjust_gen (lo hi : Option Int) (n : Nat) : Builtin.Slice.sliceAdjust lo hi 1 (n : Int) = (((sIx n 0 lo : Nat) : Int), ((sIx n n hi : Nat) : Int)) := by
  have h1 : ¬ ((1 : Int) < 0) := by omega
  unfold Builtin.Slice.sliceAdjust
  simp only [h1, if_false]
  refine Prod.ext ?_ ?_
  · cases lo with
    | none => rfl
    | some v => exact clip_eq v n 0
  · cases hi with
    | none => rfl
    | some v => exact clip_eq v n n
theorem places_gen (i j : Nat) : Builtin.Slice.slicePlaces (i : Int) (j : Int) 1 = j - i := by
  unfold Builtin.Slice.slicePlaces
  have h1 : (1 : Int) > 0 := by omega
  simp only [h1, if_true, Int.ediv_one]
  split <;> omega
theorem slicePart_ {v : Value} {o : Option Int} {Q : Option Int → Shared → Prop} (p : IsPart v o) (h : Q o s) : wpAny (model prog w) A (Builtin.Slice.slicePartIndex v) Q E s := by
  cases p with
  | none => exact slicePart_none h
  | int i t => exact slicePart_int h
theorem sliceApplied_gen {sl : Addr} {vl vu : Value} {lo hi : Option Int} {n : Nat} {Q : Int × Int × Nat → Shared → Prop} (hs : s.heap.IsSliceOf sl vl vu .none) (pl : IsPart vl lo) (pu : IsPart vu hi)
    (h : Q (((sIx n 0 lo : Nat) : Int), 1, sIx n n hi - sIx n 0 lo) s) : wpAny (model prog w) A (Builtin.Slice.sliceApplied (.ref sl) (pure (n : Int))) Q E s := by
  obtain ⟨os, hos, hcs, hds⟩ := id hs
  unfold Builtin.Slice.sliceApplied Builtin.Slice.sliceFields
  refine wpAny_bind (wpAny_bind (wpAny_field hos hds (x := vl) rfl (wpAny_bind (wpAny_field hos hds (x := vu) rfl (wpAny_bind (wpAny_field hos hds (x := .none) rfl (wpAny_pure ?_)))))))
  refine wpAny_bind (slicePart_none ?_)
  show wpAny _ _ (if ((1 : Int) == 0) = true then _ else _) _ _ s
  rw [if_neg (by decide)]
  refine wpAny_bind (slicePart_ pl (wpAny_bind (slicePart_ pu (wpAny_bind (wpAny_pure ?_)))))
  show wpAny _ _ (match Builtin.Slice.sliceAdjust lo hi 1 (n : Int) with | (lo, hi) => pure (lo, (1 : Int), Builtin.Slice.slicePlaces lo hi 1)) _ _ s
  rw [adjust_gen lo hi n]
  show wpAny _ _ (pure (((sIx n 0 lo : Nat) : Int), (1 : Int), Builtin.Slice.slicePlaces ((sIx n 0 lo : Nat) : Int) ((sIx n n hi : Nat) : Int) 1)) _ _ s
  rw [places_gen]
  exact wpAny_pure h
theorem pick_gen (xs : Array Value) (i k : Nat) : ((List.range k).filterMap fun (m : Nat) => xs[((i : Int) + (m : Int) * 1).toNat]?).toArray = ((xs.toList.drop i).take k).toArray := by
  have e : (fun (m : Nat) => xs[((i : Int) + (m : Int) * 1).toNat]?) = fun m => xs[i + m]? := by
    funext m
    have : ((i : Int) + (m : Int) * 1).toNat = i + m := by omega
    rw [this]
  rw [e]
  have := pick_run xs i k
  rw [List.filterMap_map] at this
  have e2 : ((fun x => xs[x]?) ∘ fun x => i + x) = fun m => xs[i + m]? := rfl
  rw [e2] at this
  rw [this]
theorem getItem_tuple_cut {t sl : Addr} {items : Array Value} {vl vu : Value} {lo hi : Option Int} {Q : Value → Shared → Prop} (ht : IsTup s.heap t items) (hs : s.heap.IsSliceOf sl vl vu .none) (pl : IsPart vl lo) (pu : IsPart vu hi)
    (hw : ¬ (sIx items.size 0 lo = 0 ∧ sIx items.size items.size hi = items.size))
    (h : Q (.ref s.heap.objs.size) { s with heap := s.heap.push { cls := .type "tuple", data := .seq ((items.toList.drop (sIx items.size 0 lo)).take (sIx items.size items.size hi - sIx items.size 0 lo)).toArray } })
    (hsz : items.size ≤ sizeLine) : wpAny (model prog w) A (getItem (.ref t) (.ref sl)) Q E s := by
  have htake : sizeOk (.seq ((items.toList.drop (sIx items.size 0 lo)).take (sIx items.size items.size hi - sIx items.size 0 lo)).toArray) := by
    show ((items.toList.drop (sIx items.size 0 lo)).take (sIx items.size items.size hi - sIx items.size 0 lo)).toArray.size ≤ sizeLine
    rw [List.size_toArray, List.length_take, List.length_drop, Array.length_toList]
    omega
  have hj : sIx items.size items.size hi ≤ items.size := sIx_le _ _ (Nat.le_refl _) hi
  obtain ⟨os, hos, hcs, hds⟩ := id hs
  have hTs : s.TypeIs (.ref sl) "slice" := ⟨os, hos, hcs⟩
  unfold getItem
  try with_reducible refine wpAny_holding ?_
  first | refine wpAny_bind (wpAny_pure ?_) | skip
  refine wpAny_bind (wpAny_sequenceKey ht.typeIs (by decide) ?_)
  refine wpAny_bind (wpAny_callSpecial?_slot (name := Str.ofString "__getitem__") ht.typeIs PyProof.Rows.slot_tuple_getitem
    (wpAny_call_entry PyProof.Rows.slot_tuple_getitem ht.typeIs entry_tuple_getitem ?_ (args_tuple_getitem _ _)))
  show wpAny _ _ (Builtin.Tuple.tupleItemsOf (.ref t) >>= _) _ _ s
  refine wpAny_bind (tupleItemsOf_ ht ?_)
  refine wpAny_bind (wpAny_typeOf hTs ?_)
  rw [if_pos (by decide)]
  refine wpAny_bind (sliceApplied_gen hs pl pu ?_)
  have hno : ¬ ((((sIx items.size 0 lo : Nat) : Int) == 0 && (1 : Int) == 1 && (sIx items.size items.size hi - sIx items.size 0 lo) == items.size) = true) := by
    intro q
    rw [Bool.and_eq_true, Bool.and_eq_true] at q
    have q1 : ((sIx items.size 0 lo : Nat) : Int) = 0 := eq_of_beq q.1.1
    have q2 : sIx items.size items.size hi - sIx items.size 0 lo = items.size := eq_of_beq q.2
    exact hw ⟨by omega, by omega⟩
  show wpAny _ _ (if (((sIx items.size 0 lo : Nat) : Int) == 0 && (1 : Int) == 1 && (sIx items.size items.size hi - sIx items.size 0 lo) == items.size) = true then _ else _) _ _ s
  rw [if_neg hno, pick_gen]
  first
    | exact wpAny_bind (m := Builtin.Tuple.tupleExact _) (wpAny_newObj_type (wpAny_pure ⟨_, rfl, wpAny_pure h⟩) htake)
    | exact wpAny_bind (m := Builtin.Tuple.tupleExact _) (wpAny_newObj_type (wpAny_bind (wpAny_pure (wpAny_pure ⟨_, rfl, wpAny_pure h⟩))) htake)
    | exact wpAny_bind (wpAny_bind (m := Builtin.Tuple.tupleExact _) (wpAny_newObj_type (wpAny_pure (wpAny_pure ⟨_, rfl, wpAny_pure h⟩)) htake))
    | exact wpAny_bind (wpAny_bind (m := Builtin.Tuple.tupleExact _) (wpAny_newObj_type (wpAny_pure ⟨_, rfl, wpAny_pure h⟩) htake))
end
end HT
namespace L2
open PySem PySem.Spec PyProof.Rows
abbrev TO := St → Hp → (Option Int → Hp → Prop) → Prop
def PO (X : Cx) (e : Option Expr) (t : TO) : Prop :=
  ∀ (pins : List (Addr × Obj)) (s : Shared) (σ : St) (H : Hp) (Q : Option Int → Hp → Prop), Inv X pins σ H s → t σ H Q →
    wpAny (model X.prog X.w) X.A (evalPart e X.env) (fun u s' => ∃ o H', Inv X pins σ H' s' ∧ IsPart u o ∧ Q o H') X.xe s
def tNoPart : TO := fun _ H Q => Q none H
def tPart (t : TE) : TO := fun σ H Q => t σ H fun x H1 => ∃ i, x = .int i ∧ Q (some i) H1
section
variable {X : Cx} {e : Expr} {te : TE} {lo hi : Option Expr} {tl th : TO} {pos p2 : Pos}
theorem po_none : PO X none tNoPart := by
  intro pins s σ H Q I h
  rw [evalPart_none]
  exact wpAny_pure ⟨none, H, I, .none, h⟩
theorem po_some (h : PE X e te) : PO X (some e) (tPart te) := by
  intro pins s σ H Q I hw
  rw [evalPart_some]
  refine thn (h pins s σ H _ I hw) fun u s1 ⟨x, H1, I1, r1, q1⟩ => ?_
  obtain ⟨i, rfl, q⟩ := q1
  obtain ⟨t, rfl⟩ := r1
  exact ⟨some i, H1, I1, .int i t, q⟩
def SlR (X : Cx) (r : V → Option Int → Option Int → Hp → VK → Prop) : Prop :=
  ∀ (pins : List (Addr × Obj)) (s : Shared) (σ : St) (H : Hp) (x : V) (v vl vu : Value) (lo hi : Option Int) (sl : Addr) (Q : VK), Inv X pins σ H s → RelV x v → s.heap.IsSliceOf sl vl vu .none → IsPart vl lo → IsPart vu hi → r x lo hi H Q →
    ∃ T id, typeLookup (.type T) "__getitem__" = pure (some (.builtin id)) ∧ s.TypeIs v T ∧ wpAny (model X.prog X.w) X.A (getItem v (.ref sl)) (EP X pins σ Q) X.xe s
theorem SlR.or {r r' : V → Option Int → Option Int → Hp → VK → Prop} (h : SlR X r) (h' : SlR X r') : SlR X (fun x lo hi H Q => r x lo hi H Q ∨ r' x lo hi H Q) := by
  intro pins s σ H x v vl vu lo hi sl Q I rx hs pl pu q
  rcases q with q | q
  · exact h pins s σ H x v vl vu lo hi sl Q I rx hs pl pu q
  · exact h' pins s σ H x v vl vu lo hi sl Q I rx hs pl pu q
def tSl (r : V → Option Int → Option Int → Hp → VK → Prop) (te : TE) (tl th : TO) : TE := fun σ H Q => te σ H fun x H1 => tl σ H1 fun l H2 => th σ H2 fun u H3 => r x l u H3 Q
theorem pe_slice {r : V → Option Int → Option Int → Hp → VK → Prop} (hr : SlR X r) (he : PE X e te) (hl : PO X lo tl) (hu : PO X hi th) : PE X (.Subscript e (.Slice lo hi none p2) pos) (tSl r te tl th) := by
  intro pins s σ H Q I h
  refine Subscript_ (thn (he pins s σ H _ I h) fun v s1 ⟨x, H1, I1, r1, q1⟩ => ?_)
  refine wpAny_Slice (thn (hl pins s1 σ H1 _ I1 q1) fun vl s2 ⟨l, H2, I2, pl, q2⟩ => thn (hu pins s2 σ H2 _ I2 q2) fun vu s3 ⟨u, H3, I3, pu, q3⟩ => ?_)
  rw [evalPart_none]
  refine wpAny_pure ?_
  have I4 : Inv X pins σ H3 { s3 with heap := s3.heap.push { cls := .type "slice", data := .fields #[vl, vu, .none] } } := I3.kept (t' := s3.toks) fun b ob q => Heap.get?_push_of_some _ q
  obtain ⟨T, id, hT, ht, hg⟩ := hr pins { s3 with heap := s3.heap.push { cls := .type "slice", data := .fields #[vl, vu, .none] } } σ H3 x v vl vu l u s3.heap.objs.size Q I4 r1 (Heap.IsSliceOf.new ..) pl pu q3
  show wpAny (model X.prog X.w) X.A (subscriptTail e (.Slice lo hi none p2) v (.ref s3.heap.objs.size)) (EP X pins σ Q) X.xe { s3 with heap := s3.heap.push { cls := .type "slice", data := .fields #[vl, vu, .none] } }
  exact tail_any (ops := [.ref s3.heap.objs.size, v]) ht hT hg (by with_unfolding_all rfl)
def cutV (xs : List V) (lo hi : Option Int) : List V := (xs.drop (HT.sIx xs.length 0 lo)).take (HT.sIx xs.length xs.length hi - HT.sIx xs.length 0 lo)
theorem cutV_length (xs : List V) (lo hi : Option Int) : (cutV xs lo hi).length ≤ xs.length := by
  unfold cutV
  rw [List.length_take, List.length_drop]
  omega
def rSlT (K : PySem.W.Frag) : V → Option Int → Option Int → Hp → VK → Prop := fun x lo hi H Q => ∃ a xs, x = .ref a ∧ SqT K H a xs ∧
  ¬ (HT.sIx xs.length 0 lo = 0 ∧ HT.sIx xs.length xs.length hi = xs.length) ∧ ∀ p, H p = none → Q (.ref p) (upd H p (.tup (cutV xs lo hi)))
theorem sl_tup : SlR X (rSlT X.K) := by
  intro pins s σ H x v vl vu lo hi sl Q I rx hs pl pu h
  obtain ⟨a, xs, rfl, hx, hw, q⟩ := h
  cases rx
  obtain ⟨its, r, ht, hz⟩ := I.tuple hx
  have hlen : its.toArray.size = xs.length := by rw [List.size_toArray]; exact r.length.symm
  refine ⟨"tuple", _, PyProof.Rows.slot_tuple_getitem.lookup, ht.typeIs, ?_⟩
  refine HT.getItem_tuple_cut ht hs pl pu (by rw [hlen]; exact hw) ?_ (by rw [hlen]; exact hz)
  rw [hlen]
  refine ⟨.ref s.heap.objs.size, _, I.laid (t' := s.toks) (o := .tup (cutV xs lo hi)) (fun b ob q => Heap.get?_push_of_some _ q) (Nat.le_refl _) ?_, rfl, q _ (I.hok.fresh (Nat.le_refl _))⟩
  exact ⟨Nat.le_trans (cutV_length xs lo hi) hz, _, (r.drop (HT.sIx xs.length 0 lo)).take (HT.sIx xs.length xs.length hi - HT.sIx xs.length 0 lo), IsTup.new _ _⟩
def rCatT (K : PySem.W.Frag) : R2 := fun x y H Q => ∃ a b xs ys, x = .ref a ∧ y = .ref b ∧ SqT K H a xs ∧ SqT K H b ys ∧ xs ≠ [] ∧ xs.length + ys.length ≤ sizeLine ∧
  (ys = [] → Q (.ref a) H) ∧ (ys ≠ [] → ∀ p, H p = none → Q (.ref p) (upd H p (.tup (xs ++ ys))))
theorem Vals.nil_iff {xs : List V} {us : List Value} (r : Vals xs us) : us = [] ↔ xs = [] := by
  cases r with
  | nil => simp
  | cons _ _ => simp
theorem op_catT : OpR X (binaryOp .Add) (rCatT X.K) := by
  intro pins s σ H x y v u Q I rx ry h
  obtain ⟨a, b, xs, ys, rfl, rfl, ha, hb, hx, hz, q1, q2⟩ := h
  cases rx
  cases ry
  obtain ⟨its, r1, p1, _⟩ := I.tuple ha
  obtain ⟨its2, r2, p2, _⟩ := I.tuple hb
  refine HT.cat_tup p1 p2 (fun z => hx (r1.nil_iff.mp z)) (fun z => ⟨.ref a, H, I, rfl, q1 (r2.nil_iff.mp z)⟩) (fun z => ?_) (by rw [← r1.length, ← r2.length]; exact hz)
  refine ⟨.ref s.heap.objs.size, _, I.laid (t' := s.toks) (o := .tup (xs ++ ys)) (fun b ob q => Heap.get?_push_of_some _ q) (Nat.le_refl _) ?_, rfl, q2 (fun w => z (r2.nil_iff.mpr w)) _ (I.hok.fresh (Nat.le_refl _))⟩
  exact ⟨by rw [List.length_append]; exact hz, _, r1.append r2, IsTup.new _ _⟩
end
end L2
namespace L2
open PySem PySem.Spec PyProof.Rows
def ixN (n : Nat) (i : Int) : Option Nat := if 0 ≤ i then (if i < n then some i.toNat else none) else if -(n : Int) ≤ i then some (i + n).toNat else none
def atI {α : Type} (xs : List α) (i : Int) : Option α := (ixN xs.length i).bind fun j => xs[j]?
theorem ixN_seq {n : Nat} {i : Int} {j : Nat} (h : ixN n i = some j) : seqIndex? i n = some j ∧ j < n ∧ -(n : Int) ≤ i ∧ i < n := by
  unfold ixN at h
  by_cases h0 : 0 ≤ i
  · rw [if_pos h0] at h
    by_cases h1 : i < n
    · rw [if_pos h1] at h
      have e : i.toNat = j := Option.some.inj h
      exact ⟨by rw [seqIndex_of h0 h1, e], by omega, by omega, h1⟩
    · rw [if_neg h1] at h; cases h
  · rw [if_neg h0] at h
    by_cases h1 : -(n : Int) ≤ i
    · rw [if_pos h1] at h
      have e : (i + n).toNat = j := Option.some.inj h
      exact ⟨by rw [seqIndex_neg (by omega) h1, e], by omega, h1, by omega⟩
    · rw [if_neg h1] at h; cases h
theorem atI_get {α : Type} {xs : List α} {i : Int} {v : α} (h : atI xs i = some v) : ∃ j, seqIndex? i xs.length = some j ∧ xs[j]? = some v ∧ j < xs.length ∧ -(xs.length : Int) ≤ i ∧ i < xs.length := by
  unfold atI at h
  cases e : ixN xs.length i with
  | none => rw [e] at h; cases h
  | some j =>
    rw [e] at h
    obtain ⟨h1, h2, h3, h4⟩ := ixN_seq e
    exact ⟨j, h1, h, h2, h3, h4⟩
def PlainIx (b : Expr) : Prop := ∀ o i, subscripted b false o i = operate [o, i] (getItem o i)
def IxR (X : Cx) (r : R2) : Prop :=
  ∀ (value slice : Expr) (pins : List (Addr × Obj)) (s : Shared) (σ : St) (H : Hp) (x y : V) (v u : Value) (Q : VK), Inv X pins σ H s → RelV x v → RelV y u → r x y H Q →
    subscripted slice false v u = operate [v, u] (getItem v u) → wpAny (model X.prog X.w) X.A (subscriptTail value slice v u) (EP X pins σ Q) X.xe s
def MtR (X : Cx) (id : String) (r : V → List V → Hp → VK → Prop) : Prop :=
  ∀ (pins : List (Addr × Obj)) (s : Shared) (σ : St) (H : Hp) (x : V) (xs : List V) (v : Value) (us : List Value) (Q : VK), Inv X pins σ H s → RelV x v → Vals xs us → r x xs H Q →
    wpAny (model X.prog X.w) X.A (call (.builtin id) (v :: us)) (EP X pins σ Q) X.xe s
section
variable {X : Cx} {a b : Expr} {ta tb : TE} {pos : Pos}
theorem IxR.or {r r' : R2} (h : IxR X r) (h' : IxR X r') : IxR X (fun x y H Q => r x y H Q ∨ r' x y H Q) := by
  intro value slice pins s σ H x y v u Q I rx ry q hs
  rcases q with q | q
  · exact h value slice pins s σ H x y v u Q I rx ry q hs
  · exact h' value slice pins s σ H x y v u Q I rx ry q hs
theorem pe_ix {r : R2} (hr : IxR X r) (ha : PE X a ta) (hb : PE X b tb) (hs : PlainIx b) : PE X (.Subscript a b pos) (tOp r ta tb) := by
  intro pins s σ H Q I h
  exact Subscript_ (binT ha hb I h fun v u s2 x y H2 I2 rx ry q => hr a b pins s2 σ H2 x y v u Q I2 rx ry q (hs _ _))
def rIxL (K : PySem.W.Frag) : R2 := fun x y H Q => ∃ p xs i v, x = .ref p ∧ y = .int i ∧ SqL K H p xs ∧ atI xs i = some v ∧ Q v H
def rIxT (K : PySem.W.Frag) : R2 := fun x y H Q => ∃ p xs i v, x = .ref p ∧ y = .int i ∧ SqT K H p xs ∧ atI xs i = some v ∧ Q v H
def rIxS : R2 := fun x y H Q => ∃ z i c, x = .str z ∧ y = .int i ∧ z.length ≤ sizeLine ∧ atI z.cps.toList i = some c ∧ Q (.str ⟨#[c]⟩) H
theorem ix_list : IxR X (rIxL X.K) := by
  intro value slice pins s σ H x y v u Q I rx ry h hs
  obtain ⟨p, xs, i, z, rfl, rfl, hq, he, q⟩ := h
  cases rx
  obtain ⟨t, rfl⟩ := ry
  obtain ⟨its, r, pl, hz⟩ := I.list hq
  obtain ⟨j, h1, h2, h3, h4, h5⟩ := atI_get he
  obtain ⟨w, ew, rw'⟩ := r.get h2
  have hl := r.length
  have hn := line63
  have fin : EP X pins σ Q w s := ⟨z, H, I, rw', q⟩
  by_cases h0 : 0 ≤ i
  · have hj : i.toNat = j := by
      rw [seqIndex_of h0 h5] at h1
      exact Option.some.inj h1
    exact item_listR pl.isList h0 (by omega) (by rw [hj]; simpa using ew) fin hs
  · have hj : (i + (its.toArray.size : Int)).toNat = j := by
      rw [seqIndex_neg (by omega) h4] at h1
      rw [List.size_toArray, ← hl]
      exact Option.some.inj h1
    exact subscriptTail_builtinR (x := w) pl.isList.typeIs slot_list_getitem.lookup
      (wpAny_getItem_list_neg (Q := fun r s' => r = w ∧ EP X pins σ Q r s') pl.isList (by omega) (by rw [List.size_toArray] <;> omega) (by omega) (by rw [hj]; simpa using ew) ⟨rfl, fin⟩) hs
theorem ix_tup : IxR X (rIxT X.K) := by
  intro value slice pins s σ H x y v u Q I rx ry h hs
  obtain ⟨p, xs, i, z, rfl, rfl, hq, he, q⟩ := h
  cases rx
  obtain ⟨t, rfl⟩ := ry
  obtain ⟨its, r, pl, hz⟩ := I.tuple hq
  obtain ⟨j, h1, h2, h3, h4, h5⟩ := atI_get he
  obtain ⟨w, ew, rw'⟩ := r.get h2
  have hl := r.length
  have hn := line63
  have fin : EP X pins σ Q w s := ⟨z, H, I, rw', q⟩
  exact subscriptTail_builtinR (x := w) pl.typeIs slot_tuple_getitem.lookup
    (getItem_tuple (j := j) (Q := fun r s' => r = w ∧ EP X pins σ Q r s') pl (by omega) (by omega) (by rw [List.size_toArray, ← hl]; exact h1) (by simpa using ew) ⟨rfl, fin⟩) hs
theorem ix_str : IxR X rIxS := by
  intro value slice pins s σ H x y v u Q I rx ry h hs
  obtain ⟨z, i, c, rfl, rfl, hz, he, q⟩ := h
  obtain ⟨t, rfl⟩ := rx
  obtain ⟨t', rfl⟩ := ry
  obtain ⟨j, h1, h2, h3, h4, h5⟩ := atI_get he
  have hl : z.cps.toList.length = z.length := by simp [Str.length]
  rw [hl] at h1 h4 h5
  have hn := line63
  exact tail_any (typeIs_str s z t) slot_str_getitem.lookup (getItem_str (c := c) (by
    have e1 : decide (i < -(2 ^ 63 : Int)) = false := decide_eq_false (by omega)
    have e2 : decide (i ≥ 2 ^ 63) = false := decide_eq_false (by omega)
    rw [e1, e2, Bool.or_false]) (by rw [h1]; simpa using h2) ⟨.str ⟨#[c]⟩, H, I.tok _, ⟨_, rfl⟩, q⟩) hs
def rIx (K : PySem.W.Frag) : R2 := fun x y H Q => rIxL K x y H Q ∨ rIxT K x y H Q ∨ rIxS x y H Q
theorem ix_seq : IxR X (rIx X.K) := ix_list.or (ix_tup.or ix_str)
theorem mapSeq_set (its : List Value) (n j : Nat) (u : Value) : Obj.mapSeq (·.setIfInBounds j u) { cls := .type "list", data := .seq its.toArray n } = { cls := .type "list", data := .seq (its.set j u).toArray n } := by
  simp [Obj.mapSeq]
theorem Inv.lst {pins : List (Addr × Obj)} {σ : St} {H : Hp} {s : Shared} {p : Addr} {xs : List V} (I : Inv X pins σ H s) (h : H p = some (.lst xs)) :
    ∃ (its : List Value) (n : Nat), Vals xs its ∧ s.heap.get? p = some { cls := .type "list", data := .seq its.toArray n } ∧ xs.length ≤ sizeLine := by
  obtain ⟨z, its, n, r, e⟩ := I.hok p _ h
  exact ⟨its, n, r, e, z⟩
theorem Inv.lstUpd {pins : List (Addr × Obj)} {σ : St} {H : Hp} {s : Shared} {p : Addr} {xs ys : List V} {its its' : List Value} {n n' : Nat} {f : Obj → Obj} (I : Inv X pins σ H s) (h : H p = some (.lst xs))
    (ho : s.heap.get? p = some { cls := .type "list", data := .seq its.toArray n }) (hf : f { cls := .type "list", data := .seq its.toArray n } = { cls := .type "list", data := .seq its'.toArray n' }) (r : Vals ys its') (hz : ys.length ≤ sizeLine) (t : Nat) :
    Inv X pins σ (upd H p (.lst ys)) { s with heap := s.heap.update p f, toks := t } := by
  have e : (s.heap.update p f).get? p = some { cls := .type "list", data := .seq its'.toArray n' } := by
    rw [Heap.get?_update_self f ho (by rw [hf] <;> rfl), hf]
  refine I.write (x := p) (e := p) (by rw [h]; trivial) (.inl rfl) (fun b u hb q => (Heap.get?_update_other _ _ (Ne.symm hb)).trans q) ⟨_, e⟩ ?_
  exact ⟨hz, its', n', r, e⟩
def rSetL : V → V → V → Hp → (Hp → Prop) → Prop := fun o i v H Q => ∃ p xs k j, o = .ref p ∧ i = .int k ∧ H p = some (.lst xs) ∧ ixN xs.length k = some j ∧ Q (upd H p (.lst (xs.set j v)))
theorem set_list : PSet X rSetL := by
  intro pins s σ H o i v ov iv u Q I ro ri rv h
  obtain ⟨p, xs, k, j, rfl, rfl, hp, hj, q⟩ := h
  cases ro
  obtain ⟨t, rfl⟩ := ri
  obtain ⟨its, n, r, ho, hz⟩ := I.lst hp
  obtain ⟨h1, h2, h3, h4⟩ := ixN_seq hj
  have hl := r.length
  have hn := line63
  have I' : Inv X pins σ (upd H p (.lst (xs.set j v))) { s with heap := s.heap.update p (Obj.mapSeq (·.setIfInBounds j u)) } :=
    I.lstUpd hp ho (mapSeq_set its n j u) (r.set rv j) (by rw [List.length_set]; exact hz) s.toks
  by_cases h0 : 0 ≤ k
  · have hk : k.toNat = j := by
      rw [seqIndex_of h0 h4] at h1
      exact Option.some.inj h1
    exact PySem.W.ki_setAt ho h0 (by omega) (by rw [List.size_toArray, ← hl]; exact h4) (by rw [hk]; exact ⟨_, I', q⟩)
  · have hk : (k + (its.toArray.size : Int)).toNat = j := by
      rw [seqIndex_neg (by omega) h3] at h1
      rw [List.size_toArray, ← hl]
      exact Option.some.inj h1
    exact PySem.W.ki_setBack ho (by omega) (by rw [List.size_toArray, ← hl]; exact h3) (by omega) (by rw [hk]; exact ⟨_, I', q⟩)
theorem slice_bounds (lo hi : Option Int) (n : Nat) : (sliceBounds lo hi none n).1 = ((HT.sIx n 0 lo : Nat) : Int) ∧ (sliceBounds lo hi none n).2.1 = ((HT.sIx n n hi : Nat) : Int) ∧ (sliceBounds lo hi none n).2.2 = 1 := by
  refine ⟨?_, ?_, rfl⟩
  · cases lo with
    | none => simp [sliceBounds, HT.sIx]
    | some i =>
      simp only [sliceBounds, HT.sIx, Option.getD_none, show (1 : Int) > 0 by decide, if_true]
      by_cases h : i < 0
      · simp only [h, if_true] <;> omega
      · simp only [h, if_false] <;> omega
  · cases hi with
    | none => simp [sliceBounds, HT.sIx]
    | some i =>
      simp only [sliceBounds, HT.sIx, Option.getD_none, show (1 : Int) > 0 by decide, if_true]
      by_cases h : i < 0
      · simp only [h, if_true] <;> omega
      · simp only [h, if_false] <;> omega
theorem slicePick_cut (its : List Value) (lo hi : Option Int) : slicePick its.toArray lo hi none = ((its.drop (HT.sIx its.length 0 lo)).take (HT.sIx its.length its.length hi - HT.sIx its.length 0 lo)).toArray := by
  obtain ⟨h1, h2, h3⟩ := slice_bounds lo hi its.toArray.size
  unfold slicePick
  rw [h1, h2, h3]
  simp only [sliceRange_one, pick_run, List.size_toArray] <;> rfl
def rSlL (K : PySem.W.Frag) : V → Option Int → Option Int → Hp → VK → Prop := fun x lo hi H Q => ∃ a xs, x = .ref a ∧ SqL K H a xs ∧ ∀ p, H p = none → Q (.ref p) (upd H p (.lst (cutV xs lo hi)))
theorem sl_list : SlR X (rSlL X.K) := by
  intro pins s σ H x v vl vu lo hi sl Q I rx hs pl pu h
  obtain ⟨a, xs, rfl, hx, q⟩ := h
  cases rx
  obtain ⟨its, r, ht, hz⟩ := I.list hx
  have hlen := r.length
  refine ⟨"list", _, slot_list_getitem.lookup, ht.isList.typeIs, ?_⟩
  refine wpAny_getItem_list_slice ht.isList hs pl pu .none (by simp) ?_ (by rw [List.size_toArray] <;> omega)
  rw [slicePick_cut, ← hlen]
  refine ⟨.ref s.heap.objs.size, _, I.laid (t' := s.toks) (o := .lst (cutV xs lo hi)) (fun b ob q => Heap.get?_push_of_some _ q) (Nat.le_refl _) ?_, rfl, q _ (I.hok.fresh (Nat.le_refl _))⟩
  exact ⟨Nat.le_trans (cutV_length xs lo hi) hz, _, 0, (r.drop (HT.sIx xs.length 0 lo)).take (HT.sIx xs.length xs.length hi - HT.sIx xs.length 0 lo), Heap.get?_push_size _ rfl⟩
theorem call_len_seq : CallR X (.builtin "len") (fun xs H Q => ∃ p ys, xs = [.ref p] ∧ (SqL X.K H p ys ∨ SqT X.K H p ys) ∧ Q (.int ys.length) H) := by
  intro pins s σ H xs us Q I r h
  obtain ⟨p, ys, rfl, hq, q⟩ := h
  obtain ⟨u, rfl, rx⟩ := vals1 r
  cases rx
  have hn := line63
  rcases hq with hq | hq
  · obtain ⟨its, r', pl, hz⟩ := I.list hq
    have hlen := r'.length
    exact Calls.call_len_list pl.isList (by simp only [List.size_toArray] <;> omega) ⟨.int ys.length, H, I.tok _, ⟨s.toks + 1, by rw [List.size_toArray, hlen]⟩, q⟩
  · obtain ⟨its, r', pl, hz⟩ := I.tuple hq
    have hlen := r'.length
    exact len_tuple pl (by simp only [List.size_toArray] <;> omega) ⟨.int ys.length, H, I.tok _, ⟨s.toks + 1, by rw [List.size_toArray, hlen]⟩, q⟩
theorem call_len_str : CallR X (.builtin "len") (fun xs H Q => ∃ z, xs = [.str z] ∧ z.length ≤ sizeLine ∧ Q (.int z.length) H) := by
  intro pins s σ H xs us Q I r h
  obtain ⟨z, rfl, hz, q⟩ := h
  obtain ⟨u, rfl, t, rfl⟩ := vals1 r
  have hn := line63
  exact len_str (by omega) ⟨.int z.length, H, I.tok _, ⟨_, rfl⟩, q⟩
theorem CallR.or {f : Value} {r r' : List V → Hp → VK → Prop} (h : CallR X f r) (h' : CallR X f r') : CallR X f (fun xs H Q => r xs H Q ∨ r' xs H Q) := by
  intro pins s σ H xs us Q I rs q
  rcases q with q | q
  · exact h pins s σ H xs us Q I rs q
  · exact h' pins s σ H xs us Q I rs q
theorem call_tuple_of : CallR X (.type "tuple") (fun xs H Q => ∃ p ys, xs = [.ref p] ∧ ((SqL X.K H p ys ∧ ∀ l, H l = none → Q (.ref l) (upd H l (.tup ys))) ∨ (SqT X.K H p ys ∧ Q (.ref p) H))) := by
  intro pins s σ H xs us Q I r h
  obtain ⟨p, ys, rfl, h⟩ := h
  obtain ⟨u, rfl, rx⟩ := vals1 r
  cases rx
  rcases h with ⟨hq, q⟩ | ⟨hq, q⟩
  · obtain ⟨its, r', pl, hz⟩ := I.list hq
    have hlen := r'.length
    refine call_tuple_list pl.isList (fun h' kp => ?_) (by simp only [List.size_toArray] <;> omega)
    have I1 : Inv X pins σ H { s with heap := h' } := I.kept (t' := s.toks) kp
    have I2 : Inv X pins σ (upd H h'.objs.size (.tup ys)) { s with heap := h'.push { cls := .type "tuple", data := .seq its.toArray } } :=
      I1.laid (t' := s.toks) (fun b o e => Heap.get?_push_of_some _ e) (Nat.le_refl _) (show ObjOk X.prog X.w _ _ _ (.tup ys) from ⟨hz, its, r', IsTup.new _ _⟩)
    exact ⟨.ref h'.objs.size, _, I2, rfl, q _ (I1.hok.fresh (Nat.le_refl _))⟩
  · obtain ⟨its, r', pl, hz⟩ := I.tuple hq
    exact call_tuple_same pl ⟨.ref p, H, I, rfl, q⟩
def tyV (K : PySem.W.Frag) (T : String) (x : V) (H : Hp) : Prop := match x with
  | .str _ => T = "str"
  | .int _ => T = "int"
  | .ref p => (T = "list" ∧ ∃ xs, SqL K H p xs) ∨ (T = "tuple" ∧ ∃ o, K.lookup p = some o ∧ o.cls = .type "tuple" ∧ o.dict = none) ∨
      (T = "dict" ∧ ((∃ kvs, H p = some (.dK kvs)) ∨ ∃ kvs, H p = some (.dT kvs))) ∨ (T = "set" ∧ ∃ S n, H p = some (.set S n))
  | _ => False
theorem tyV_is {pins : List (Addr × Obj)} {σ : St} {H : Hp} {s : Shared} {T : String} {x : V} {v : Value} (I : Inv X pins σ H s) (r : RelV x v) (ty : tyV X.K T x H) :
    s.TypeIs v T ∧ ∀ a, v = .ref a → ∃ ob, s.heap.get? a = some ob ∧ ob.dict = none := by
  cases x with
  | str z =>
    obtain ⟨t, rfl⟩ := r
    cases (show T = "str" from ty)
    exact ⟨typeIs_str s z t, fun _ e => nomatch e⟩
  | int i =>
    obtain ⟨t, rfl⟩ := r
    cases (show T = "int" from ty)
    exact ⟨typeIs_int s i t, fun _ e => nomatch e⟩
  | ref p =>
    cases r
    rcases ty with ⟨rfl, xs, hq⟩ | ⟨rfl, o, hk, hc, hd⟩ | ⟨rfl, hk⟩ | ⟨rfl, S, n, hk⟩
    · obtain ⟨its, _, pl, _⟩ := I.list hq
      refine ⟨pl.isList.typeIs, fun a e => ?_⟩
      cases e
      obtain ⟨o, n, e, c, hd, _⟩ := pl
      exact ⟨o, e, hd⟩
    · refine ⟨⟨o, I.kIn p o hk, hc⟩, fun a e => ?_⟩
      cases e
      exact ⟨o, I.kIn _ o hk, hd⟩
    · have z : ∃ o, s.heap.get? p = some o ∧ o.ExactDict := by
        rcases hk with ⟨kvs, hk⟩ | ⟨kvs, hk⟩
        · obtain ⟨_, _, _, _, o, _, _, e, ex, _⟩ := I.hok p _ hk
          exact ⟨o, e, ex⟩
        · obtain ⟨_, _, _, _, o, _, _, e, ex, _⟩ := I.hok p _ hk
          exact ⟨o, e, ex⟩
      obtain ⟨o, e, ex⟩ := z
      refine ⟨⟨o, e, ex.1⟩, fun a e2 => ?_⟩
      cases e2
      exact ⟨o, e, ex.2.1⟩
    · obtain ⟨o, _, _, _, e, ex, _⟩ := I.hok p _ hk
      refine ⟨⟨o, e, ex.1⟩, fun a e2 => ?_⟩
      cases e2
      exact ⟨o, e, ex.2.1⟩
  | _ => exact False.elim ty
def tBM (K : PySem.W.Frag) (T : String) (r : V → List V → Hp → VK → Prop) (to : TE) (t : TA) : TE := fun σ H Q => to σ H fun x H1 => tyV K T x H1 ∧ t σ H1 fun xs H2 => r x xs H2 Q
variable {o e : Expr} {es : List Expr} {to : TE} {t : TA} {name : Str} {apos cpos : Pos} {T id : String} {r : V → List V → Hp → VK → Prop}
theorem pe_bm (pa : PlainAttrs T) (slot : Slot T name id) (hty : typeOf (.builtin id) = pure (.type "method_descriptor")) (hm : MtR X id r) (ho : PE X o to) (ha : PA X (e :: es) t)
    (hbase : attributeBase o name X.env (eval o X.env) = eval o X.env := by rfl)
    (hfew : ((backTo cpos (starEach (e :: es) X.env)).all (fun x => !x.1) && (backToKw cpos (keywordEach [] X.env)).all (fun x => x.1.isSome)
      && decide ((e :: es).length + ([] : List Keyword).length + (if ([] : List Keyword).isEmpty then 0 else 1) < 30)) = true := by rfl)
    (hline : (apos.endLine == cpos.line) = true := by rfl) (hs : starEach (e :: es) X.env = (false, eval e X.env) :: starEach es X.env := by rfl) (hplain : (backTo cpos (starEach es X.env)).any (·.1) = false := by rfl) :
    PE X (.Call (.Attribute o name apos) (e :: es) [] cpos) (tBM X.K T r to t) := by
  intro pins s σ H Q I h
  refine wpAny_Call_method_late hbase hfew hline rfl (thn (ho pins s σ H _ I h) fun v s1 ⟨x, H1, I1, r1, ty, q1⟩ => ?_)
  obtain ⟨h1, h2⟩ := tyV_is I1 r1 ty
  refine ⟨T, id, pa, slot, hty, h1, h2, ?_⟩
  have hA := ha cpos pins s1 σ H1 _ I1 q1
  rw [hs] at hA ⊢
  refine Calls.callWith_builtin (by show (false || (backTo cpos (starEach es X.env)).any (·.1)) = false; rw [hplain] <;> rfl) (Calls.evalArgs_plain ?_)
  exact thn hA fun us s2 ⟨vs, H2, I2, r2, q2⟩ => hm pins s2 σ H2 x vs v us Q I2 r1 r2 q2
/- xs.append(e), list.index on a module's tuple .. are MtR facts of 06m -/
end
end L2
namespace L2
open PySem PySem.Spec PyProof.Rows
def MtM (X : Cx) (id : String) (r : V → List V → Hp → VK → Prop) : Prop :=
  ∀ (pins : List (Addr × Obj)) (s : Shared) (σ : St) (H : Hp) (x : V) (xs : List V) (v : Value) (us : List Value) (Q : VK), Inv X pins σ H s → RelV x v → Vals xs us → r x xs H Q →
    wpAny (model X.prog X.w) X.A (call (.builtin id) (v :: us)) (EP X pins σ Q) X.xe s
theorem Vals.one : ∀ {x : V} {us : List Value}, Vals [x] us → ∃ u, us = [u] ∧ RelV x u
  | _, _, .cons r .nil => ⟨_, rfl, r⟩
theorem Vals.rep {xs : List V} {us : List Value} (h : Vals xs us) : ∀ k : Nat, Vals (List.replicate k xs).flatten (List.replicate k us).flatten
  | 0 => .nil
  | k + 1 => by
    rw [List.replicate_succ, List.replicate_succ, List.flatten_cons, List.flatten_cons]
    exact Vals.append h (Vals.rep h k)
theorem foldl_rep (its : List Value) : ∀ (k : Nat) (acc : List Value),
    List.foldl (fun x1 x2 => x1 ++ x2) acc.toArray (List.replicate k its.toArray) = (acc ++ (List.replicate k its).flatten).toArray
  | 0, acc => by simp
  | k + 1, acc => by
    have e : acc.toArray ++ its.toArray = (acc ++ its).toArray := by simp
    have e2 : (acc ++ its) ++ (List.replicate k its).flatten = acc ++ (List.replicate (k + 1) its).flatten := by
      rw [List.replicate_succ, List.flatten_cons, List.append_assoc]
    rw [← e2, ← foldl_rep its k (acc ++ its), ← e, List.replicate_succ, List.foldl_cons]
section
variable {X : Cx} {pins : List (Addr × Obj)} {σ : St} {H : Hp} {s : Shared} {l b : Addr} {xs ys zs : List V}
theorem Inv.lset {its its' : List Value} {n : Nat} {f : Array Value → Array Value} {t' : Nat} (I : Inv X pins σ H s) (hH : H l = some (.lst xs))
    (e : s.heap.get? l = some { cls := .type "list", data := .seq its.toArray n }) (hf : f its.toArray = its'.toArray) (hv : Vals ys its') (hz : ys.length ≤ sizeLine) :
    Inv X pins σ (upd H l (.lst ys)) { s with heap := s.heap.update l (Obj.mapSeq f), toks := t' } := by
  have q := PySem.IsL.update e f
  rw [hf] at q
  refine I.write (x := l) (e := l) (by rw [hH]; exact trivial) (.inl rfl) (fun b' u hb hu => (Heap.get?_update_other s.heap (Obj.mapSeq f) (Ne.symm hb)).trans hu) ⟨_, q⟩ ?_
  exact ⟨hz, its', _, hv, q⟩
theorem Inv.lnew {its : List Value} {t' : Nat} (I : Inv X pins σ H s) (hv : Vals ys its) (hz : ys.length ≤ sizeLine) :
    Inv X pins σ (upd H s.heap.objs.size (.lst ys)) { s with heap := s.heap.push { cls := .type "list", data := .seq its.toArray }, toks := t' } :=
  I.laid (fun _ _ q => Heap.get?_push_of_some _ q) (Nat.le_refl _) ⟨hz, its, 0, hv, Heap.get?_push_size _ rfl⟩
theorem Inv.fresh (I : Inv X pins σ H s) : H s.heap.objs.size = none := I.hok.fresh (Nat.le_refl _)
theorem Inv.lstM (I : Inv X pins σ H s) (hH : H l = some (.lst xs)) : xs.length ≤ sizeLine ∧ ∃ (its : List Value) (n : Nat), Vals xs its ∧ xs.length = its.length ∧ s.heap.get? l = some { cls := .type "list", data := .seq its.toArray n } := by
  obtain ⟨z, its, n, r, e⟩ := I.hok l _ hH
  exact ⟨z, its, n, r, r.length, e⟩
theorem notLongL {n : Nat} (h : n ≤ sizeLine) : Builtin.List.listTooLong n = false := by
  unfold Builtin.List.listTooLong
  exact decide_eq_false (by omega)
end
section
variable {X : Cx}
def rAppend : V → List V → Hp → VK → Prop := fun x vs H Q => ∃ l xs y, x = .ref l ∧ vs = [y] ∧ H l = some (.lst xs) ∧ xs.length < sizeLine ∧ Q .non (upd H l (.lst (xs ++ [y])))
theorem mt_append : MtM X "list.append" rAppend := by
  intro pins s σ H x vs v us Q I rx rv h
  obtain ⟨l, xs, y, rfl, rfl, hH, hz, q⟩ := h
  cases rx
  obtain ⟨u, rfl, ru⟩ := rv.one
  obtain ⟨z, its, n, r, hl, e⟩ := I.lstM hH
  refine call_meets F.slot_list_append ⟨_, e, rfl⟩ F.entry_list_append (F.args_list_append_2 _ _) (PySem.list_append l its.toArray n u (by rw [List.size_toArray]; omega)) ⟨e, ?_⟩
  refine ⟨.non, _, I.lset (its' := its ++ [u]) hH e (by simp) (r.append (.cons ru .nil)) ?_, rfl, q⟩
  rw [List.length_append, List.length_singleton]
  omega
def rExtend : V → List V → Hp → VK → Prop := fun x vs H Q => ∃ l b xs zs, x = .ref l ∧ vs = [.ref b] ∧ H l = some (.lst xs) ∧ H b = some (.lst zs) ∧ xs.length + zs.length ≤ sizeLine ∧ Q .non (upd H l (.lst (xs ++ zs)))
theorem mt_extend : MtM X "list.extend" rExtend := by
  intro pins s σ H x vs v us Q I rx rv h
  obtain ⟨l, b, xs, zs, rfl, rfl, hH, hB, hz, q⟩ := h
  cases rx
  obtain ⟨u, rfl, ru⟩ := rv.one
  cases ru
  obtain ⟨z, its, n, r, hl, e⟩ := I.lstM hH
  obtain ⟨z2, its2, n2, r2, hl2, e2⟩ := I.lstM hB
  have hsz : its.toArray.size + its2.toArray.size ≤ sizeLine := by rw [List.size_toArray, List.size_toArray]; omega
  have hlong : ¬ (!its.toArray.isEmpty && Builtin.List.listTooLong (its.toArray.size + its2.toArray.size)) = true := by
    rw [notLongL hsz, Bool.and_false]
    exact Bool.false_ne_true
  refine call_meets F.slot_list_extend ⟨_, e, rfl⟩ F.entry_list_extend (F.args_list_extend_2 _ _)
    (AutoSeq1.list_extend_list_list_0 l its.toArray n b its2.toArray n2 hlong (by rw [List.size_toArray]; omega) (by omega)) ⟨e, e2, ?_⟩
  refine ⟨.non, _, I.lset (its' := its ++ its2) hH e (by simp) (r.append r2) ?_, rfl, q⟩
  rw [List.length_append]
  omega
def rRep : R2 := fun x y H Q => ∃ l k xs, x = .ref l ∧ y = .int k ∧ H l = some (.lst xs) ∧ -(2 ^ 63) ≤ k ∧ k < 2 ^ 63 ∧ xs.length * k.toNat ≤ sizeLine ∧
  ∀ p, H p = none → Q (.ref p) (upd H p (.lst (List.replicate k.toNat xs).flatten))
theorem len_rep {α : Type} (xs : List α) (k : Nat) : (List.replicate k xs).flatten.length = k * xs.length := by
  induction k with
  | zero => simp
  | succ k ih => rw [List.replicate_succ, List.flatten_cons, List.length_append, ih, Nat.succ_mul, Nat.add_comm]
theorem op_rep : OpR X (binaryOp .Mult) rRep := by
  intro pins s σ H x y v u Q I rx ry h
  obtain ⟨l, k, xs, rfl, rfl, hH, h1, h2, hz, q⟩ := h
  cases rx
  obtain ⟨t, rfl⟩ := ry
  obtain ⟨z, its, n, r, hl, e⟩ := I.lstM hH
  have hlen : its.toArray.size * k.toNat ≤ sizeLine := by rw [List.size_toArray, ← hl]; exact hz
  have hcap : ¬ its.toArray.size * k.toNat > (2 ^ 63 - 1) / 8 := by
    have : (sizeLine : Nat) ≤ (2 ^ 63 - 1) / 8 := by decide
    omega
  have hfit : ¬ (!Builtin.List.listFitsIndex k) = true := by
    rw [fitsIndex_both h1 h2]
    exact Bool.false_ne_true
  have hlong : ¬ Builtin.List.listTooLong (its.toArray.size * k.toNat) = true := by
    rw [notLongL hlen]
    exact Bool.false_ne_true
  have hnew : List.foldl (fun x1 x2 => x1 ++ x2) #[] (List.replicate (if its.toArray.isEmpty = true then 0 else k.toNat) its.toArray) = (List.replicate k.toNat its).flatten.toArray := by
    have f0 : ∀ m : Nat, List.foldl (fun x1 x2 => x1 ++ x2) #[] (List.replicate m its.toArray) = (List.replicate m its).flatten.toArray := fun m => by
      have := foldl_rep its m []
      rw [List.nil_append] at this
      exact this
    rw [f0]
    cases its with
    | nil => simp
    | cons a r' => rw [if_neg (by simp)]
  refine wpAny_binaryOp_repeat_ref (T := "list") (U := "int") (by decide) ⟨_, e, rfl⟩ (fun s' => typeIs_int s' k t) noFill_list_mul F.fills_int_mul F.slot_int_rmul repeat_list F.slot_int_index.lookup
    (call_meets F.slot_int_rmul (typeIs_int s k t) F.entry_int_rmul (F.args_int_rmul_2 _ _) (int___rmul___int_list k t l its.toArray n)
      ⟨e, rfl, ⟨_, e, rfl⟩, call_meets F.slot_list_mul ⟨_, e, rfl⟩ F.entry_list_mul (F.args_list_mul_2 _ _) (AutoListH.list___mul___list_int_3 l its.toArray n k t hfit hcap hlong) ⟨e, ?_⟩⟩)
  rw [hnew]
  exact ⟨.ref _, _, I.lnew (t' := s.toks) (r.rep k.toNat) (by rw [len_rep, Nat.mul_comm]; exact hz), rfl, q _ I.fresh⟩
end
section
variable {prog : Program} {w : World} {A : Around} {E : Value → Shared → Prop} {s : Shared}
end
section
variable {X : Cx}
end
end L2
namespace Att
open PySem PySem.W PySem.Calls PyProof.Rows
theorem ints_of_wellAll {P : Params} {h : Heap} : ∀ (ns : List Int) (vs : List Value), WellAll P h vs (ns.map WData.int) → IntsAre vs ns := by
  intro ns
  induction ns with
  | nil =>
    intro vs w
    rw [List.map_nil] at w
    cases w
    exact .nil
  | cons n ns ih =>
    intro vs w
    rw [List.map_cons] at w
    cases w with
    | cons a b =>
      cases a
      exact .cons _ _ (ih _ b)
theorem script_of {l : OpenLaw} {n : Nat} (hn : l.most = some n) {P : Params} {h : Heap} {args : List WData} {vals : List Value}
    (hpre : l.row.toRowW.claim.pre args = true) (hwl : WellAll P h vals args) :
    ∃ a vs ns, vals = [Value.ref a] ∧ args = [WData.list (ns.map WData.int)] ∧ h.get? a = some { cls := .type "list", data := .seq vs.toArray } ∧ IntsAre vs ns ∧ ns.length ≤ n := by
  have hsh : WShape.hasAll [] args [.list .int] = true := (pre_splitW hpre).1
  have hc : l.pre.holds [] { args := args } = true := (pre_splitW hpre).2
  obtain ⟨d, r, rfl, h1, h2⟩ := hasAllW_cons hsh
  obtain rfl := hasAllW_nil h2
  obtain ⟨xs, rfl, h3⟩ := hasW_list h1
  obtain ⟨ns, rfl⟩ := items_int h3
  have hlen : ns.length ≤ n := by
    unfold OpenLaw.pre at hc
    have h4 : (WTm.not (.lt (.lit (.int (n : Int))) (.len (.arg 0)))).holds [] { args := [.list (ns.map .int)] } = true := by
      have h4 := (holds_andW hc).1
      rw [hn] at h4
      exact h4
    have h5 := condW_of h4 (w_not (w_lt w_lit (w_len_list (w_arg rfl))))
    rw [List.length_map] at h5
    refine Nat.le_of_not_lt fun q => ?_
    have q' : (n : Int) < ((ns.length : Nat) : Int) := by omega
    first
      | (rw [decide_eq_true q'] at h5; exact absurd h5 (by decide))
      | (simp at h5; omega)
  cases hwl with
  | cons w1 w2 =>
    cases w2
    cases w1 with
    | list ho hall => exact ⟨_, _, ns, rfl, rfl, ho, ints_of_wellAll ns _ hall, hlen⟩
theorem post_true (l : OpenLaw) (args : List WData) : l.row.toRowW.claim.post args (.bool true) args = true :=
  postW_of (r := l.row.toRowW) (X := (true == true))
    (show WShape.has [] (.bool true) .bool = true by first | rfl | decide | simp [WShape.has, WShape.arms, WShape.armsAll])
    (show (WTm.eq .res (.lit (.bool true))).value [] { args := args, res := some (.bool true), after := args } = some (.bool (true == true)) from w_eq_bool (w_res rfl) w_lit) rfl
theorem attach_call {l : OpenLaw} {n : Nat} {q : Program} {loose : List Str} {XP : (Str → Option Value) → Heap → Prop} {YP : World → Heap → Prop} {d : DefRec}
    (hn : l.most = some n) (hdf : d.params.defaults = [])
    (call : ∀ (w : World) (s₀ s₁ : Shared) (mg mb : Str → Option Value) (fa : Addr) (o : Obj) (pm cd doc : Value) (a : Addr) (vs : List Value) (ns : List Int),
      Ground q loose [] XP w s₀ mg mb s₁.heap → YP w s₁.heap →
      s₁.heap.get? fa = some o → o.data = .func (docDef d.name d.params d.body d.scope pm cd doc) → s₁.heap.CodeRec cd d.name → mg d.name = some (.ref fa) →
      s₁.heap.get? a = some { cls := .type "list", data := .seq vs.toArray } → IntsAre vs ns → ns.length ≤ n → s₁.gens = #[] →
      codeAny (model l.prog w) callerA (.call (.ref fa) ⟨[.ref a], []⟩) (fun r s' => r = .ok (.ret (.bool true)) ∧ OldK s₁.heap s'.heap ∧ s'.os = s₁.os ∧ AllBare s'.gens) s₁) :
    WalkO q loose XP YP l.row.toRowW d [] (fun f vs => PySem.call f vs) := by
  intro w s₀ s₁ mg mb G Y fa o pm cd doc dV kV ho hd hcd hD hmg hg args vals as hpre hlay hrd hwl hlo
  obtain rfl : dV = .none := Dflts.none hD hdf
  obtain rfl : kV = .none := Dflts.noKw hD
  obtain ⟨a, vs, ns, rfl, rfl, hobj, hints, hlen⟩ := script_of hn hpre hwl
  refine enter_call (codeAny_mono (call w s₀ s₁ mg mb fa o pm cd doc a vs ns G Y ho (fd_plain hd) hcd hmg hobj hints hlen hg) fun r s' hq => ?_)
  obtain ⟨rfl, h2, h3, h4⟩ := hq
  exact ⟨.inl ⟨.bool true, .bool true, [], rfl, fun _ => rfl, .bool true, post_true l _, fun _ => ⟨List.Pairwise.nil, fun _ hm => (nomatch hm)⟩⟩, h2, h3, h4⟩
section
variable {prog : Program} {w : World} {A : Around} {E : Value → Shared → Prop} {s : Shared} {K : Frag}
end
end Att
namespace L2
open PySem PySem.Spec PyProof.Rows
theorem vals_ints : ∀ {vs : List Value} {ns : List Int}, IntsAre vs ns → Vals (ns.map V.int) vs
  | _, _, .nil => .nil
  | _, _, .cons n t h => .cons ⟨t, rfl⟩ (vals_ints h)
def Only (H : Hp) : Prop := ∀ b, H b = none ∨ ∃ o xs, H b = some (.frz o (.lst xs))
theorem law_call {P : Program} {w : World} {K : PySem.W.Frag} {mg mb : Str → Option Value} {CX : CXT} {k : Nat} {fa a : Addr} {fd : FuncData} {x : Str} {sp : Sp} {s₁ : Shared} {vs : List Value} {ns : List Int}
    (KX : K.In s₁.heap) (hns : s₁.heap.Ns mainGlobals mg) (hb : s₁.heap.Ns builtinsNs mb) (hbb : ∀ x : Str, x ≠ "__name__" → mb x = bootBuiltins x) (hlim : s₁.heap.NoLimit) (hg : s₁.gens = #[])
    (ha : s₁.heap.get? a = some { cls := .type "list", data := .seq vs.toArray }) (hi : IntsAre vs ns) (hl : ns.length ≤ sizeLine) (hr : Room k callerA)
    (F : ∀ base : Heap, K.In base → base.Ns mainGlobals mg → FnOk P w K mg base CX k fa fd [x] sp) (hbind : ∀ (s : Shared) (u : Value), BindsTo s fd ⟨[u], []⟩ [(x, u)])
    (hsp : ∀ H : Hp, Only H → SqL K H a (ns.map V.int) → sp [.ref a] H (fun v _ => v = .bl true) fun _ _ _ => False)
    (hCX : ∀ H e s', CX [] H s₁ (fun _ _ _ => False) e s' → False) :
    codeAny (model P w) callerA (.call (.ref fa) ⟨[.ref a], []⟩) (fun r s' => r = .ok (.ret (.bool true)) ∧ OldK s₁.heap s'.heap ∧ s'.os = s₁.os ∧ AllBare s'.gens) s₁ := by
  have rv := vals_ints hi
  have lenV := hi.length
  have core : ∀ H : Hp, Only H → SqL K H a (ns.map V.int) → HOk P w H s₁.heap → (∀ b, H b ≠ none → b = a) → (H a ≠ none → K.lookup a = none) →
      codeAny (model P w) callerA (.call (.ref fa) ⟨[.ref a], []⟩) (fun r s' => r = .ok (.ret (.bool true)) ∧ OldK s₁.heap s'.heap ∧ s'.os = s₁.os ∧ AllBare s'.gens) s₁ := by
    intro H hO hS hok hA hK
    have base_of : ∀ {b : Addr} {o : Obj}, s₁.heap.get? b = some o → H b = none → (hidT s₁.heap H).get? b = some o := fun e n => hidT_get e n
    have noA : ∀ {b : Addr} {o : Obj} {es : Array DictEntry} {ep : Nat}, s₁.heap.get? b = some o → o.data = .dict es ep → H b = none := fun {b o es ep} e d => by
      cases q : H b with
      | none => rfl
      | some u =>
        have e' : b = a := hA b (by rw [q]; simp)
        subst e'
        rw [ha] at e; cases e
        have d' : Data.seq vs.toArray _ = Data.dict es ep := d
        cases d'
    have nsK : ∀ {b : Addr} {m : Str → Option Value}, s₁.heap.Ns b m → (hidT s₁.heap H).Ns b m := fun {b m} ⟨o, es, ep, e, d, r⟩ => ⟨o, es, ep, base_of e (noA e d), d, r⟩
    have hKb : K.In (hidT s₁.heap H) := fun b o e => base_of (KX b o e) (by
      cases q : H b with
      | none => rfl
      | some u =>
        have e' : b = a := hA b (by rw [q]; simp)
        subst e'
        rw [hK (by rw [q]; simp)] at e; cases e)
    have hM : Mod K mg (hidT s₁.heap H) := ⟨hKb, nsK hns, ⟨mb, nsK hb, hbb⟩, let ⟨mc, h1, h2⟩ := hlim; ⟨mc, nsK h1, h2⟩⟩
    have e0 : Env0 P w K mg (hidT s₁.heap H) callerA [] s₁ H := ⟨rfl, hM, fun b o e => of_hidT e, Nat.le_of_eq (hidT_size _ _), trivial, fun b hb => absurd (show b ∈ ([] : List Addr) from hb) (by simp), hok, .of_eq hg⟩
    refine codeAny_mono ((F _ hKb (nsK hns)).run callerA [] s₁ H ⟨[.ref a], []⟩ [.ref a] [.ref a] _ _ hr e0 (hbind s₁ (.ref a)) (.cons rfl .nil) (hsp H hO hS)) fun r s' h => ?_
    cases r with
    | error e => exact (hCX H e s' h).elim
    | ok fl =>
      cases fl with
      | next => exact False.elim h
      | brk => exact False.elim h
      | cont => exact False.elim h
      | ret u =>
        obtain ⟨v, H', os, bare, un, hok', r', q⟩ := h
        have q' : v = .bl true := q
        subst q'
        obtain rfl : u = Value.bool true := r'
        refine ⟨rfl, OldK.of_keep fun b o e => ?_, os, bare⟩
        cases q : H b with
        | none => exact un.keep b o e q (by intro z; exact absurd (show b ∈ ([] : List Addr) from z) (by simp)) (by simp)
        | some u =>
          rcases hO b with z | ⟨ob, xs, z⟩
          · rw [q] at z; cases z
          · have z2 := un.frzs b ob _ z
            obtain ⟨e1, _⟩ := hok b _ z
            obtain ⟨e2, _⟩ := hok' b _ z2
            rw [e] at e1; cases e1
            exact e2
  cases hk : K.lookup a with
  | some o =>
    have e := KX a o hk
    rw [ha] at e
    cases e
    refine core (fun _ => none) (fun _ => .inl rfl) (.inr ⟨_, vs.toArray, _, hk, rfl, rfl, rfl, by rw [List.size_toArray, lenV]; exact hl, by simpa using rv⟩) (fun b u z => by have z' : (none : Option HO) = some u := z; cases z') (fun b z => absurd rfl z) fun z => absurd rfl z
  | none =>
    refine core (fun b => if b = a then some (.frz { cls := .type "list", data := .seq vs.toArray } (.lst (ns.map V.int))) else none) (fun b => ?_) (.inl (.inr ⟨{ cls := .type "list", data := .seq vs.toArray }, if_pos rfl⟩)) (fun b u z => ?_) (fun b z => ?_) fun _ => hk
    · by_cases hb : b = a
      · exact .inr ⟨_, _, if_pos hb⟩
      · exact .inl (if_neg hb)
    · by_cases hb : b = a
      · have z' := (if_pos hb).symm.trans z
        cases z'
        subst hb
        exact ⟨ha, by rw [List.length_map]; exact hl, vs, _, rv, ha⟩
      · have z' := (if_neg hb).symm.trans z
        cases z'
    · by_cases hb : b = a
      · exact hb
      · exact absurd (if_neg hb) z
end L2
namespace L2
open PySem PySem.Spec PyProof.Rows
theorem walk_of {l : PySem.W.OpenLaw} {n k : Nat} {q : Program} {loose : List Str} {XP : (Str → Option Value) → Heap → Prop} {YP : World → Heap → Prop} {d : DefRec} {K : Params → PySem.W.Frag} {CX : World → CXT} {sp : World → Sp} {x : Str}
    (hn : l.most = some n) (hn2 : n ≤ sizeLine) (hdf : d.params.defaults = []) (hr : Room k callerA)
    (hY : ∀ (w : World) (h : Heap), YP w h → (K w.params).In h)
    (F : ∀ (w : World) (mg : Str → Option Value) (fa : Addr) (h : Heap), (K w.params).In h → h.Ns mainGlobals mg → mg d.name = some (.ref fa) →
      ∃ fd : FuncData, (∀ (s : Shared) (u : Value), BindsTo s fd ⟨[u], []⟩ [(x, u)]) ∧
        ∀ base : Heap, (K w.params).In base → base.Ns mainGlobals mg → FnOk l.prog w (K w.params) mg base (CX w) k fa fd [x] (sp w))
    (hsp : ∀ (w : World) (H : Hp) (a : Addr) (ns : List Int), ns.length ≤ n → Only H → SqL (K w.params) H a (ns.map V.int) → sp w [.ref a] H (fun v _ => v = .bl true) fun _ _ _ => False)
    (hCX : ∀ (w : World) (H : Hp) (s : Shared) (e : Value) (s' : Shared), CX w [] H s (fun _ _ _ => False) e s' → False) :
    PySem.W.WalkO q loose XP YP l.row.toRowW d [] (fun f vs => PySem.call f vs) := by
  refine Att.attach_call hn hdf fun w s₀ s₁ mg mb fa o pm cd doc a vs ns G Y ho hd hcd hmg hobj hints hlen hg => ?_
  have KX := hY w _ Y
  obtain ⟨fd, hb, hF⟩ := F w mg fa _ KX G.T.g hmg
  exact law_call KX G.T.g G.T.b G.T.builtins G.T.nolimit hg hobj hints (Nat.le_trans hlen hn2) hr hF hb (fun H hO hS => hsp w H a ns hlen hO hS) fun H e s' => hCX w H s₁ e s'
end L2
/- THE LAST THEOREM (shape; LID, My.* are yours):
   My.Adr: a structure of the addresses that your layer names (classes, functions); My.Txt K t: a structure (Prop) of the equations over K;
   My.txt_mk : {K} {implicit addresses ..} (e1 : nsIn K mainGlobals "law" = some (some (.ref f))) (e2 : K.lookup f = some ⟨oc, od, .func (fnOf "law" "law" params body scope dV kV doc pm an cdv ct), sl⟩) (e3 : codeIn K cdv "law" = true) .. : ∃ t, My.Txt K t
set_option maxRecDepth 100000 in
set_option maxHeartbeats 0 in
theorem PySem.Challenge.cw_LID_holds : PySem.Challenge.rw_LID.Holds := by
  w_on; o_law; k_head; (case hw => w_witness2)
  k_fill
  refine L2.walk_of (l := PySem.Challenge.rw_LID) (n := 63) (k := 40) (x := "script") (CX := fun w => ..) (sp := fun _ => My.sp_law) rfl (by decide) rfl ⟨rfl, by decide, by decide⟩ (fun w h Y => PySem.W.kIn_of Y) ?F ?S ?C
  case F =>
    intro w mg fa h KX G hmg
    have T : ∃ t, My.Txt (L2.KOf KX) t := by
      dsimp only [L2.KOf]                          -- K must stand as «<heap const> w.params» for k_is
      refine' My.txt_mk ?e1 ?e2 ?e3 ..
      (case e1 => PySem.W.k_is)                    -- in the order: a name -> its address -> its object -> its parts
      (case e2 => PySem.W.k_is)
      ..
    obtain ⟨t, T⟩ := T
    have e0 := hmg.symm.trans (PySem.W.mg_of KX G T.law)
    cases e0                                       -- fa is the law's own address
    exact ⟨_, fun s u => .of_eq rfl, fun base kb nb => My.law_fn T kb nb⟩     -- if «.of_eq rfl» comes too early: refine' ⟨_, ?b, fun base kb nb => My.law_fn T kb nb⟩; exact fun s u => .of_eq rfl
  case S => exact fun w H a ns hl hO hS => ..
  case C => exact ..
(the tactic k_is has no namespace: write k_is) -/
namespace L2
open PySem PySem.Spec PyProof.Rows
def defArgs (s : Stmt) : Arguments := match s with
  | .FunctionDef _ a _ _ _ _ _ _ _ _ => a
  | _ => { posonlyargs := [], args := [], vararg := none, kwonlyargs := [], kw_defaults := [], kwarg := none, defaults := [] }
def defBody (s : Stmt) : List Stmt := match s with
  | .FunctionDef _ _ b _ _ _ _ _ _ _ => b
  | _ => []
def defScope (s : Stmt) : Scope := match s with
  | .FunctionDef _ _ _ _ _ _ sc _ _ _ => sc
  | _ => { kind := .function, names := [], isGenerator := false, isCoroutine := false }
abbrev CX0 : CXT := fun _ _ _ _ _ _ => False
abbrev E0 : XK := fun _ _ _ => False
theorem pass0 {X : Cx} : Passes CX0 X E0 := fun _ _ _ _ _ _ _ h => h.elim
structure Fun (K : PySem.W.Frag) (x qual : Str) (st : Stmt) (f : Addr) (fd : FuncData) : Prop where
  ex : ∃ (oc : Value) (od : Option Addr) (kV doc pm : Value) (an : Option Addr) (cdv ct : Value) (osl : Array (Option Value)),
    fd = PySem.W.fnOf x qual (defArgs st) (defBody st) (defScope st) .none kV doc pm an cdv ct ∧ K.lookup f = some ⟨oc, od, .func fd, osl⟩ ∧ PySem.W.codeIn K cdv qual = true
  kp : PySem.W.keepIn K (.ref f) = true
section
variable {P : Program} {w : World} {K : PySem.W.Frag} {mg : Str → Option Value} {base : Heap}
theorem Fun.ok {x qual : Str} {st : Stmt} {f : Addr} {fd : FuncData} {N ps : List Str} {k : Nat} {sp : Sp} (F : Fun K x qual st f fd) (S : FnScope N ps (defScope st)) (len : ∀ vs H Q E, sp vs H Q E → vs.length = ps.length)
    (hbody : ∀ (cdv : Value) (A : Around) (outer : List Env) (s : Shared) (H : Hp) (vs : List V) (Q : VK) (E : XK), Room k (A.deeper (envOfC qual (defScope st) s.heap.objs.size f cdv)) → sp vs H Q E →
      ∃ t, PSs (cxOf CX0 P w K mg base N qual (defScope st) f cdv A outer s H E).nox (defBody st) t ∧ t { nx := fun _ H' => Q .non H', rt := Q } (start N vs) H) : FnOk P w K mg base CX0 (k + 1) f fd ps sp := by
  obtain ⟨oc, od, kV, doc, pm, an, cdv, ct, osl, rfl, lk, hcd⟩ := F.ex
  refine fn_of lk hcd S len fun A outer s H vs Q E hr hsp => ?_
  obtain ⟨t, h, q⟩ := hbody cdv A outer s H vs Q E hr hsp
  exact ⟨t, h.nox, q⟩
theorem Fun.binds {x qual : Str} {st : Stmt} {f : Addr} {fd : FuncData} {ps : List Str} (F : Fun K x qual st f fd)
    (h : ∀ (kV doc pm : Value) (an : Option Addr) (cdv ct : Value) (us : List Value), us.length = ps.length → bindArgs (PySem.W.fnOf x qual (defArgs st) (defBody st) (defScope st) .none kV doc pm an cdv ct) ⟨us, []⟩ = pure (ps.zip us)) : Binds K fd ps [] := by
  obtain ⟨oc, od, kV, doc, pm, an, cdv, ct, osl, rfl, lk, hcd⟩ := F.ex
  exact .all (h kV doc pm an cdv ct)
theorem fun_mk {x qual : Str} {st : Stmt} {f : Addr} {oc : Value} {od an : Option Addr} {osl : Array (Option Value)} {kV doc pm cdv ct : Value} (l : K.lookup f = some ⟨oc, od, .func (PySem.W.fnOf x qual (defArgs st) (defBody st) (defScope st) .none kV doc pm an cdv ct), osl⟩)
    (c : PySem.W.codeIn K cdv qual = true) (k : PySem.W.keepIn K (.ref f) = true) : Fun K x qual st f (PySem.W.fnOf x qual (defArgs st) (defBody st) (defScope st) .none kV doc pm an cdv ct) := ⟨⟨oc, od, kV, doc, pm, an, cdv, ct, osl, rfl, l, c⟩, k⟩
end
section
variable {X : Cx}
end
theorem iteF {A B : Prop} (h : B) : if false = true then A else B := by
  rw [if_neg Bool.false_ne_true]
  exact h
theorem iteT {A B : Prop} (h : A) : if true = true then A else B := by
  rw [if_pos rfl]
  exact h
def Same (H H' : Hp) : Prop := ∀ b o, H b = some o → H' b = some o
theorem Same.refl (H : Hp) : Same H H := fun _ _ h => h
theorem Same.trans {H H1 H2 : Hp} (a : Same H H1) (b : Same H1 H2) : Same H H2 := fun c o h => b c o (a c o h)
theorem Same.free {H H' : Hp} (e : Same H H') {l : Addr} (h : H' l = Option.none) : H l = Option.none := by
  cases q : H l with
  | none => rfl
  | some o =>
    rw [e l o q] at h
    cases h
theorem Same.seq {K : PySem.W.Frag} {H H' : Hp} {a : Addr} {xs : List V} (e : Same H H') (h : SqL K H a xs) : SqL K H' a xs := by
  rcases h with (h | ⟨o, h⟩) | h
  · exact .inl (.inl (e _ _ h))
  · exact .inl (.inr ⟨o, e _ _ h⟩)
  · exact .inr h
end L2
set_option Elab.async false
set_option linter.all false
set_option maxRecDepth 100000
namespace L2
open PySem PySem.Spec PyProof.Rows
def compCx (X : Cx) (N' : List Str) (scope : Scope) (cl : List (Str × Addr)) (s₂ : Shared) (H₂ : Hp) (fp : List Addr) (C : Addr) : Cx :=
  { X with N := N', s₀ := s₂, H₀ := H₂, env := compEnvC scope cl C X.env, outer := X.stack, ex := fp, fn := fun _ => false, pn := [], xe := fun _ _ => False }
def lobj (ys : List Value) (k : Nat) : Obj := { cls := .type "list", data := .seq ys.toArray k }
section
variable {prog : Program} {w : World} {A : Around} {R : Result → Shared → Prop} {s : Shared}
theorem codeAny_compLoop_own {elt target iter : Expr} {ifs : List Expr} {scope : Scope} {pos : Pos} {it acc : Value} {env : Env} (I : Nat → Shared → Prop)
    (turn : ∀ n s, I n s → wpAny (model prog w) A (pyNext it) (fun r s₁ => match r with
      | none => R (.ok .next) s₁
      | some v => wpAny (model prog w) A (letOwnedTupleGo target it v) (fun _ s₁' => wpAny (model prog w) A (assign target env v) (fun _ s₂ =>
          wpAny (model prog w) A (forIn ifs true fun c r => if r = true then do let ok ← isTrue c env (eval c env); pure (ForInStep.yield ok) else pure (ForInStep.yield r)) (fun ok s₃ =>
            if ok = true then wpAny (model prog w) A (eval elt env) (fun x s₄ =>
              wpAny (model prog w) A (call (.builtin "list.append") [acc, x]) (fun _ s₅ => ∃ m, m < n ∧ I m s₅) (fun _ _ => False) s₄) (fun _ _ => False) s₃
            else ∃ m, m < n ∧ I m s₃) (fun _ _ => False) s₂) (fun _ _ => False) s₁') (fun _ _ => False) s₁) (fun _ _ => False) s)
    (n : Nat) (h : I n s) :
    codeAny (model prog w) A (.compLoop (.ListComp elt [⟨target, iter, ifs, 0⟩] scope pos) 0 it acc env) R s := by
  refine codeAny_loop rfl I (fun n s hI => ?_) n h
  show wpAny _ A ((compTurn (.ListComp elt [⟨target, iter, ifs, 0⟩] scope pos) 0 it acc env).onRaise (fun x => do noteFrame x env; theTreesLotGoes x)) _ _ s
  refine wpAny_noted ?_
  rw [compTurn_list]
  refine wpAny_bind (wpAny_standAt (wpAny_bind (wpAny_mono (turn n s hI) (fun r s₁ h₁ => ?_) fun _ _ h' => h'.elim)))
  cases r with
  | none => exact wpAny_pure h₁
  | some v =>
    refine wpAny_bind (wpAny_mono h₁ (fun _ s₁' h₁' => ?_) fun _ _ h' => h'.elim)
    refine wpAny_bind (wpAny_mono h₁' (fun _ s₂ h₂ => wpAny_bind (wpAny_mono h₂ (fun ok s₃ h₃ => ?_) fun _ _ h' => h'.elim)) fun _ _ h' => h'.elim)
    cases ok with
    | false => exact wpAny_pure ⟨rfl, h₃⟩
    | true =>
      exact wpAny_bind (wpAny_bind (wpAny_mono h₃ (fun x s₄ h₄ => wpAny_bind (wpAny_mono h₄ (fun _ s₅ h₅ => wpAny_pure (wpAny_pure ⟨rfl, h₅⟩)) fun _ _ h' => h'.elim)) fun _ _ h' => h'.elim))
end
def PTs (X : Cx) (ifs : List Expr) (t : TT) : Prop :=
  ∀ (pins : List (Addr × Obj)) (s : Shared) (σ : St) (H : Hp) (Q : Bool → Hp → Prop), Inv X pins σ H s → t σ H Q →
    wpAny (model X.prog X.w) X.A (forIn ifs true fun c r => if r = true then do let ok ← isTrue c X.env (eval c X.env); pure (ForInStep.yield ok) else pure (ForInStep.yield r)) (TP X pins σ Q) X.xe s
theorem pts_nil {X : Cx} : PTs X [] (fun _ H Q => Q true H) := fun _ _ _ H _ I h => wpAny_tests_nil ⟨H, I, h⟩
theorem pts_one {X : Cx} {c : Expr} {t : TT} (h : PT X c t) : PTs X [c] t := fun pins s σ H Q I q => wpAny_tests_one (h pins s σ H Q I q)
theorem lookup_relabel {env : Env} : ∀ {names : List (Str × NameKind)} {x : Str},
    (names.map fun (n, k) => if (k == NameKind.free && env.scope.kind == .function && env.kindOf n == some .cell) then (n, NameKind.cell) else (n, k)).lookup x
      = (names.lookup x).map fun k => if (k == NameKind.free && env.scope.kind == .function && env.kindOf x == some .cell) then NameKind.cell else k
  | [], _ => rfl
  | (n, k) :: r, x => by
    have ih := @lookup_relabel env r x
    show List.lookup x ((if (k == NameKind.free && env.scope.kind == .function && env.kindOf n == some .cell) = true then (n, NameKind.cell) else (n, k)) :: _) = _
    cases hx : x == n with
    | true =>
      have e : x = n := by simpa using hx
      subst e
      by_cases hc : (k == NameKind.free && env.scope.kind == .function && env.kindOf x == some .cell) = true
      · rw [if_pos hc]; simp only [List.lookup_cons, hx, Option.map_some, if_pos hc]
      · rw [if_neg hc]; simp only [List.lookup_cons, hx, Option.map_some, if_neg hc]
    | false =>
      by_cases hc : (k == NameKind.free && env.scope.kind == .function && env.kindOf n == some .cell) = true
      · rw [if_pos hc]; simp only [List.lookup_cons, hx]; exact ih
      · rw [if_neg hc]; simp only [List.lookup_cons, hx]; exact ih
theorem closure_of {env : Env} : ∀ (names : List (Str × NameKind)) (acc : List (Str × Addr)), (∀ x ∈ names, x.2 = .free → ∃ c, env.cells.lookup x.1 = some c) →
    (∀ x c, acc.lookup x = some c → env.cells.lookup x = some c) →
    ∃ cl, (forIn names acc fun (x : Str × NameKind) (cs : List (Str × Addr)) => (if (x.2 == NameKind.free) = true then (do let c ← cellOf env x.1; pure (ForInStep.yield ((x.1, c) :: cs))) else pure (ForInStep.yield cs) : Sem (ForInStep (List (Str × Addr))))) = pure cl ∧
      (∀ x c, cl.lookup x = some c → env.cells.lookup x = some c) ∧ (∀ x, (acc.lookup x).isSome → (cl.lookup x).isSome) ∧ ∀ x ∈ names, x.2 = .free → (cl.lookup x.1).isSome
  | [], acc, _, ha => ⟨acc, rfl, ha, fun _ h => h, fun _ h => nomatch h⟩
  | (n, k) :: r, acc, hn, ha => by
    cases hk : (k == NameKind.free) with
    | true =>
      obtain ⟨c, hc⟩ := hn (n, k) List.mem_cons_self (by simpa using hk)
      have ha' : ∀ x d, ((n, c) :: acc).lookup x = some d → env.cells.lookup x = some d := fun x d e => by
        rw [List.lookup_cons] at e
        cases q : x == n with
        | true => rw [q] at e; have : x = n := by simpa using q
                  subst this; exact hc.trans e
        | false => rw [q] at e; exact ha x d e
      obtain ⟨cl, e, h1, h2, h3⟩ := closure_of r ((n, c) :: acc) (fun x hx => hn x (List.mem_cons_of_mem _ hx)) ha'
      have grow : ∀ x, (acc.lookup x).isSome → (((n, c) :: acc).lookup x).isSome := fun x hx => by
        rw [List.lookup_cons]
        cases q : x == n with
        | true => rfl
        | false => exact hx
      refine ⟨cl, ?_, h1, fun x hx => h2 x (grow x hx), fun x hx hf => ?_⟩
      · rw [List.forIn_cons]
        have q : cellOf env n = pure c := by
          unfold cellOf
          rw [hc]
        simp only [hk, if_true, q]
        exact e
      · rcases List.mem_cons.mp hx with rfl | hx
        · exact h2 _ (by simp [List.lookup_cons])
        · exact h3 x hx hf
    | false =>
      obtain ⟨cl, e, h1, h2, h3⟩ := closure_of r acc (fun x hx => hn x (List.mem_cons_of_mem _ hx)) ha
      refine ⟨cl, ?_, h1, h2, fun x hx hf => ?_⟩
      · rw [List.forIn_cons]
        simp only [hk, Bool.false_eq_true, if_false]
        exact e
      · rcases List.mem_cons.mp hx with rfl | hx
        · exfalso; have : k = .free := hf; subst this; simp at hk
        · exact h3 x hx hf
theorem closure_ex {env : Env} {scope : Scope} (h : ∀ x ∈ scope.names, x.2 = .free → ∃ c, env.cells.lookup x.1 = some c) :
    ∃ cl, closureFor scope env = pure cl ∧ (∀ x c, cl.lookup x = some c → env.cells.lookup x = some c) ∧ ∀ x ∈ scope.names, x.2 = .free → (cl.lookup x.1).isSome := by
  obtain ⟨cl, e, h1, _, h3⟩ := closure_of (env := env) scope.names [] h (fun x c e => by simp at e)
  refine ⟨cl, ?_, h1, h3⟩
  unfold closureFor
  have q : (forIn scope.names [] fun (x : Str × NameKind) (cs : List (Str × Addr)) => (match x with | (name, kind) => if (kind == NameKind.free) = true then (do let c ← cellOf env name; pure (ForInStep.yield ((name, c) :: cs))) else pure (ForInStep.yield cs) : Sem (ForInStep (List (Str × Addr))))) = pure cl := e
  first
    | (simp only [] ; rw [q]; rfl)
    | (show (do let cs ← _; pure cs) = _; rw [q]; rfl)
    | (rw [show (forIn scope.names [] _) = pure cl from q]; rfl)
structure CompOk (X : Cx) (N' : List Str) (k : Nat) (scope : Scope) : Prop where
  kind : scope.kind = .function
  len : N'.length = X.N.length + k
  nocell : ∀ y ∈ scope.names, y.2 ≠ .cell
  names : ∀ y ∈ scope.names, y.2 = .local → scope.names.lookup y.1 = some .local
  outer : ∀ (i : Nat) x, i < X.N.length → N'[i]? = some x → (scope.names.lookup x).isSome → (scope.names.lookup x = some .free ∨ scope.names.lookup x = some .local ∨ scope.names.lookup x = some .cell) → X.N[i]? = some x ∧ scope.names.lookup x = some .free
  free : ∀ y ∈ scope.names, y.2 = .free → X.env.kindOf y.1 = some .cell ∨ X.env.kindOf y.1 = some .free
end L2
set_option Elab.async false
set_option linter.all false
set_option maxRecDepth 100000
namespace L2
open PySem PySem.Spec PyProof.Rows
def tComp (wi : TI) (k : Nat) (g : TG) (tc : TT) (te : TE) : TE := fun σ H Q => wi σ H fun J H1 => ∃ W : Nat → Nat → List V → St → Hp → Prop, (∃ m, W 0 m [] (σ ++ List.replicate k none) H1) ∧
  ∀ i m vs σ' H', W i m vs σ' H' → vs.length ≤ sizeLine ∧
    ((J.stop i H' ∧ ∀ p, H' p = none → Q (.ref p) (upd H' p (.lst vs))) ∨
     (J.go i H' ∧ ∀ x H2, J.yld i H' x H2 → g x σ' H2 fun σ3 H3 => tc σ3 H3 fun b H4 => if b = true then te σ3 H4 fun y H5 => ∃ m', m' < m ∧ W (i + 1) m' (vs ++ [y]) σ3 H5 else ∃ m', m' < m ∧ W (i + 1) m' vs σ3 H4))
section
variable {X : Cx} {pins : List (Addr × Obj)} {σ : St} {H2 : Hp} {s2 : Shared}
theorem HOk.track {P : Program} {w : World} {H : Hp} {h : Heap} {D : Addr} {vs : List V} {ys : List Value} {k : Nat} (x : HOk P w H h) (hn : H D = none) (hl : vs.length ≤ sizeLine) (r : Vals vs ys) (e : h.get? D = some (lobj ys k)) :
    HOk P w (upd H D (.lst vs)) h := fun b u q => by
  by_cases hb : b = D
  · subst hb
    rw [upd_same] at q
    cases q
    exact ⟨hl, ys, k, r, e⟩
  · rw [upd_ne hb] at q
    exact (x b u q).stay (fun _ _ _ z => z) (fun c z => by rw [upd_ne (ne_of_none z hn)]; exact z) fun c xs z => by rw [upd_ne (ne_of_none z hn)]; exact z
theorem comp_core {elt tg iter : Expr} {ifs : List Expr} {scope : Scope} {pos : Pos} {N' : List Str} {k : Nat} {cl : List (Str × Addr)} {J : It} {fp : List Addr} {it : Addr} {tn : Nat → Heap → Prop} {g : TG} {tc : TT} {te : TE} {E : Value → Shared → Prop}
    {RR : Value → Addr → Result → Shared → Prop} {Q : VK}
    (hc : X.calm = true) (S : CompOk X N' k scope) (hcl : ∀ x c, cl.lookup x = some c → X.env.cells.lookup x = some c) (hcf : ∀ x ∈ scope.names, x.2 = .free → (cl.lookup x.1).isSome)
    (I : Inv X pins σ H2 s2) (T : Turn X.prog X.w X.K tg J fp it tn) (st : tn 0 s2.heap) (ff : ∀ b ∈ fp, FpOk X pins H2 b)
    (hg : ∀ C, PG (compCx X N' scope cl s2 H2 fp C) tg g) (ht : ∀ C, PTs (compCx X N' scope cl s2 H2 fp C) ifs tc) (he : ∀ C, PE (compCx X N' scope cl s2 H2 fp C) elt te)
    (rd : ∃ W : Nat → Nat → List V → St → Hp → Prop, (∃ m, W 0 m [] (σ ++ List.replicate k none) H2) ∧
      ∀ i m vs σ' H', W i m vs σ' H' → vs.length ≤ sizeLine ∧
        ((J.stop i H' ∧ ∀ p, H' p = none → Q (.ref p) (upd H' p (.lst vs))) ∨
         (J.go i H' ∧ ∀ x H2, J.yld i H' x H2 → g x σ' H2 fun σ3 H3 => tc σ3 H3 fun b H4 => if b = true then te σ3 H4 fun y H5 => ∃ m', m' < m ∧ W (i + 1) m' (vs ++ [y]) σ3 H5 else ∃ m', m' < m ∧ W (i + 1) m' vs σ3 H4)))
    (hRR : ∀ D C s' H', Inv X pins σ H' s' → (∃ m, s'.heap.Ns C m) → FpOk X pins H' C → Q (.ref D) H' → RR (.ref D) C (.ok .next) s') :
    wpAny (model X.prog X.w) X.A (newList []) (fun acc s₃ => wpAny (model X.prog X.w) X.A (newFunctionEnv scope X.env.globals cl [] X.env.qual none .none (some X.env)) (fun cenv s₄ =>
      codeAny (model X.prog X.w) X.A (.compStart (.ListComp elt [⟨tg, iter, ifs, 0⟩] scope pos) 0 (.ref it) acc { cenv with scope := relabel scope X.env }) (RR acc cenv.locals) s₄) E s₃) E s2 := by
  obtain ⟨W, ⟨m0, w0⟩, turn⟩ := rd
  refine wpAny_newObj_type (wpAny_newFunctionEnv S.nocell (by intro y hy; simp at hy) (fun h₁ hns₁ hsb₁ => ?_) S.kind)
  dsimp only at hns₁ hsb₁ ⊢
  generalize hH2 : s2.heap.push { cls := .type "list", dict := none, data := .seq ([] : List Value).toArray } = G2 at hns₁ hsb₁ ⊢
  have hCs : G2.objs.size = s2.heap.objs.size + 1 := by rw [← hH2, Heap.size_push]
  have hDC : s2.heap.objs.size ≠ G2.objs.size := by rw [hCs]; exact Nat.ne_of_lt (Nat.lt_succ_self _)
  have hCle : s2.heap.objs.size ≤ G2.objs.size := by rw [hCs]; exact Nat.le_succ _
  have below : ∀ b, b < s2.heap.objs.size → b ≠ G2.objs.size ∧ b ≠ s2.heap.objs.size := fun b hb => ⟨by rw [hCs]; exact Nat.ne_of_lt (Nat.lt_succ_of_lt hb), Nat.ne_of_lt hb⟩
  have old : ∀ b o, s2.heap.get? b = some o → h₁.get? b = some o := fun b o e => hsb₁.extBut b o (below b (Heap.lt_size e)).1 (Heap.get?_push_of_some _ (hH2 ▸ Heap.get?_push_of_some _ e))
  have hacc : h₁.get? s2.heap.objs.size = some (lobj [] 0) := hsb₁.extBut _ _ hDC (Heap.get?_push_of_some _ (hH2 ▸ Heap.get?_push_size _ rfl))
  generalize hDe : s2.heap.objs.size = D at *
  generalize hCe : G2.objs.size = C at *
  have fpD : FpOk X pins H2 D := I.fpOk (by rw [hDe]; exact Nat.le_refl _) (I.hok.fresh (by rw [hDe]; exact Nat.le_refl _))
  have fpC : ∀ H', H' C = none → FpOk X pins H' C := fun H' hn => I.fpOk (by rw [hDe]; exact hCle) hn
  have hfpD : ∀ b ∈ fp, b < D := fun b hb => by
    obtain ⟨o, e, _⟩ := T.obj _ _ st b hb
    rw [← hDe]; exact Heap.lt_size e
  have nofr : ∀ b, D ≤ b → b ∉ frs X.stack := fun b hb hm => by
    rcases List.mem_cons.mp (I.stkSub b hm) with e | hm
    · have := I.lt; rw [hDe] at this; rw [e] at hb; exact absurd (Nat.lt_of_lt_of_le this hb) (Nat.lt_irrefl _)
    · exact I.nofs (by rw [hDe]; exact hb) hm
  let X' := compCx X N' scope cl s2 H2 fp C
  have cellLt : ∀ x c, cl.lookup x = some c → c < D := fun x c e => by
    obtain ⟨v, z⟩ := I.cell x c (hcl x c e)
    rw [← hDe]; exact z.lt
  have ok' : X'.Ok := by
    refine ⟨I.ok.mod, S.kind, I.ok.glob, I.ok.blt, ?_, fun x y c e1 e2 => I.ok.inj x y c (hcl _ _ e1) (hcl _ _ e2), fun x hx => ?_, fun x c hf _ => (nomatch hf), I.ok.hd, I.ok.frames, .inl rfl, fun b hb => ⟨?_, fun x c e z => ?_⟩, I.bs, ?_, fun b o e hb => ?_, fun b hb hm => ?_, I.stack, I.stkFree⟩
    · show s2.heap.objs.size ≤ C
      rw [hDe]; exact hCle
    · have hx' : (relabel scope X.env).names.lookup x = some .cell ∨ (relabel scope X.env).names.lookup x = some .free := hx
      have e := lookup_relabel (env := X.env) (names := scope.names) (x := x)
      have e' : (relabel scope X.env).names.lookup x = (scope.names.lookup x).map fun k => if (k == NameKind.free && X.env.scope.kind == .function && X.env.kindOf x == some .cell) then NameKind.cell else k := e
      rw [e'] at hx'
      cases q : scope.names.lookup x with
      | none => rw [q] at hx'; rcases hx' with z | z <;> cases z
      | some kd =>
        have hmem := PySem.mem_of_lookup q
        rw [q] at hx'
        have hkd : kd = .free := by
          by_cases hz : kd = .free
          · exact hz
          · exfalso
            have hb : (kd == NameKind.free) = false := by simpa using hz
            simp only [hb, Bool.false_and, Bool.false_eq_true, if_false, Option.map_some] at hx'
            rcases hx' with z | z
            · exact S.nocell _ hmem (Option.some.inj z)
            · exact hz (Option.some.inj z)
        exact Option.isSome_iff_exists.mp (hcf _ hmem hkd)
    · exact Nat.ne_of_lt (Nat.lt_of_lt_of_le (hfpD b hb) hCle)
    · exact (ff b hb).2.2.2.2.1 x c (hcl x c e) z
    · exact Nat.le_trans I.ok.bsz I.sz
    · obtain ⟨_, _, _, hx, _⟩ := ff b hb
      rcases hx with hx | hx
      · exact I.ok.noex b o e hx
      · exact absurd (Nat.lt_of_lt_of_le (Heap.lt_size (I.ok.bs b o e).1) hx) (Nat.lt_irrefl _)
    · obtain ⟨_, hl, hfs, _⟩ := ff b hb
      rcases List.mem_cons.mp (I.stkSub b hm) with e | hm
      · exact hl e
      · exact hfs hm
  have lenσ : (σ ++ List.replicate k none).length = N'.length := by rw [List.length_append, List.length_replicate, I.len, S.len]
  have I0 : Inv X' [(D, lobj [] 0)] (σ ++ List.replicate k none) H2 { s2 with heap := h₁, toks := s2.toks + ([] : List (Str × Value)).length } := by
    refine ⟨ok', rfl, I.bare, Un.kept old, ⟨_, hns₁, fun i x v e1 e2 e3 => ?_⟩, fun x c e => ?_, I.hok.fresh (by rw [hDe]; exact hCle), fun x c e => I.freeC x c (hcl x c e), fun p hp => ?_, I.hok.kept old, lenσ⟩
    · have hi : i < σ.length := by
        by_cases hi : i < σ.length
        · exact hi
        · rw [List.getElem?_append_right (Nat.not_lt.mp hi), List.getElem?_replicate] at e2
          split at e2 <;> cases e2
      rw [List.getElem?_append_left hi] at e2
      have e' : (relabel scope X.env).names.lookup x = (scope.names.lookup x).map fun k => if (k == NameKind.free && X.env.scope.kind == .function && X.env.kindOf x == some .cell) then NameKind.cell else k := lookup_relabel (env := X.env) (names := scope.names) (x := x)
      have hsome : ∃ kd, scope.names.lookup x = some kd ∧ (kd = .free ∨ kd = .local ∨ kd = .cell) := by
        have e3' : (relabel scope X.env).names.lookup x = some .local ∨ (relabel scope X.env).names.lookup x = some .cell ∨ (relabel scope X.env).names.lookup x = some .free := e3
        rw [e'] at e3'
        cases q : scope.names.lookup x with
        | none => rw [q] at e3'; rcases e3' with z | z | z <;> cases z
        | some kd =>
          refine ⟨kd, rfl, ?_⟩
          rw [q] at e3'
          by_cases hz : kd = .free
          · exact .inl hz
          · have hb : (kd == NameKind.free) = false := by simpa using hz
            simp only [hb, Bool.false_and, Bool.false_eq_true, if_false, Option.map_some, Option.some.injEq] at e3'
            rcases e3' with z | z | z
            · exact .inr (.inl z)
            · exact .inr (.inr z)
            · exact .inl z
      obtain ⟨kd, hk1, hk2⟩ := hsome
      obtain ⟨hN, hfree⟩ := S.outer i x (by rw [← I.len]; exact hi) e1 (by rw [hk1]; rfl) (by rcases hk2 with z | z | z <;> subst z <;> simp [hk1])
      have hmem := PySem.mem_of_lookup hfree
      have hko := S.free _ hmem rfl
      have hkx : X.env.kindOf x = some .cell ∨ X.env.kindOf x = some .free := hko
      obtain ⟨m, hn, hl⟩ := I.loc
      obtain ⟨u, r, lk⟩ := hl i x v hN e2 (by rcases hkx with z | z; exact .inr (.inl z); exact .inr (.inr z))
      refine ⟨u, r, .inr ⟨?_, ?_⟩⟩
      · show (relabel scope X.env).names.lookup x = some .cell ∨ (relabel scope X.env).names.lookup x = some .free
        rw [e', hfree, Option.map_some]
        split
        · exact .inl rfl
        · exact .inr rfl
      · rcases lk with ⟨kl, _⟩ | ⟨_, c, ec, hcell⟩
        · rcases hkx with z | z <;> (rw [z] at kl; cases kl)
        · obtain ⟨c', ec'⟩ := Option.isSome_iff_exists.mp (hcf _ hmem rfl)
          have q := hcl _ _ ec'
          rw [ec] at q
          cases q
          exact ⟨c, ec', hcell.keeps old⟩
    · obtain ⟨v, z⟩ := I.cell x c (hcl x c e)
      exact ⟨v, z.keeps old⟩
    · have hp' : p ∈ ([] : List (Addr × Obj)) ++ [(D, lobj [] 0)] := hp
      have ep : p = (D, lobj [] 0) := by simpa using hp'
      subst ep
      exact ⟨hacc, fpD.1, hDC, nofr D (Nat.le_refl _), fun v z => nomatch z⟩
  have stat : ∀ {H' : Hp} {o : Obj}, (∀ b ∈ fp, H' b = none) → ∀ b ∈ fp, FpOk X' [(D, o)] H' b := fun {H' o} hn b hb => by
    refine ⟨hn b hb, Nat.ne_of_lt (Nat.lt_of_lt_of_le (hfpD b hb) hCle), ok'.exfs b hb, .inl hb, fun x c e z => (ff b hb).2.2.2.2.1 x c (hcl x c e) z, fun p hp => ?_⟩
    have hp' : p ∈ ([] : List (Addr × Obj)) ++ [(D, o)] := hp
    have ep : p = (D, o) := by simpa using hp'
    subst ep
    exact Nat.ne_of_gt (hfpD b hb)
  have loop : ∀ s₃ : Shared, s₃ = { s2 with heap := h₁, toks := s2.toks + ([] : List (Str × Value)).length } →
      codeAny (model X.prog X.w) X.A (.compLoop (.ListComp elt [⟨tg, iter, ifs, 0⟩] scope pos) 0 (.ref it) (.ref D) (compEnvC scope cl C X.env)) (RR (.ref D) C) s₃ := by
    rintro s₃ rfl
    refine codeAny_compLoop_own (fun n s' => ∃ i vs ys kk σ' H', Inv X' [(D, lobj ys kk)] σ' H' s' ∧ tn i s'.heap ∧ (∀ b ∈ fp, H' b = none) ∧ Vals vs ys ∧ W i n vs σ' H') ?_ m0
      ⟨0, [], [], 0, _, H2, I0, T.keep _ _ _ st fun b _ o e => old b o e, fun b hb => (ff b hb).1, .nil, w0⟩
    rintro n s3 ⟨i, vs, ys, kk, σ3, H3, I3, st3, fr3, rv, w3⟩
    obtain ⟨hvl, hcase⟩ := turn i n vs σ3 H3 w3
    have pinD : ∀ {o : Obj} {σ' H' s'}, Inv X' [(D, o)] σ' H' s' → s'.heap.get? D = some o ∧ H' D = none := fun J => ⟨(J.pin _ (List.mem_append_right _ List.mem_cons_self)).1, (J.pin _ (List.mem_append_right _ List.mem_cons_self)).2.1⟩
    rcases hcase with ⟨stop, qn⟩ | ⟨go, step⟩
    · refine thn (T.done X' rfl rfl rfl hc i _ s3 σ3 H3 (fun _ _ => False) I3 (stat fr3) st3 stop) fun r s4 ⟨hr, I4⟩ => ?_
      subst hr
      obtain ⟨gD, nD⟩ := pinD I4
      obtain ⟨m', hm', _⟩ := I4.loc
      have hC4 : H3 C = none := I4.free
      have u0 : Un (frs X.stack) fp H2 H3 s2.heap s4.heap := I4.base
      have neD : ∀ b o, s2.heap.get? b = some o → b ≠ D := fun b o e => by rw [← hDe]; exact Nat.ne_of_lt (Heap.lt_size e)
      have u1 : Un (frs X.stack) fp H2 (upd H3 D (.lst vs)) s2.heap s4.heap :=
        ⟨u0.keep, u0.slot, fun b o e n hx => by rw [upd_ne (neD b o e)]; exact u0.free b o e n hx, u0.there,
          fun b xs e => by have q := u0.tups b xs e; rw [upd_ne (ne_of_none q nD)]; exact q,
          fun b o u e => by have q := u0.frzs b o u e; rw [upd_ne (ne_of_none q nD)]; exact q,
          fun b ps e => by obtain ⟨more, q⟩ := u0.tbls b ps e; exact ⟨more, by rw [upd_ne (ne_of_none q nD)]; exact q⟩⟩
      have I5 : Inv X pins σ (upd H3 D (.lst vs)) s4 := I.call' I4.os u1 (I4.hok.track nD hvl rv gD) I4.bare fun b hb => ⟨(ff b hb).2.2.2.1, (ff b hb).2.1, (ff b hb).2.2.2.2.1, (ff b hb).2.2.2.2.2⟩
      exact hRR D C s4 _ I5 ⟨m', hm'⟩ (fpC _ (by rw [upd_ne (Ne.symm hDC)]; exact hC4)) (qn D nD)
    · refine thn (T.item X' rfl rfl rfl hc i _ s3 σ3 H3 (fun _ _ => False) I3 (stat fr3) st3 go) fun r s4 ⟨u, hr, h4⟩ => ?_
      subst hr
      refine thn h4 fun _ s5 ⟨x, H5, I5, r5, y5, st5, fr5⟩ => ?_
      have I5' := I5.pinned (stat fr5) (T.obj _ _ st5)
      refine thn (hg C _ s5 σ3 H5 x u _ I5' r5 (step x H5 y5)) fun _ s6 ⟨σ6, H6, I6, q6⟩ => ?_
      refine thn (ht C _ s6 σ6 H6 _ I6 q6) fun ok s7 ⟨H7, I7, q7⟩ => ?_
      have unpin : ∀ {σ' H' s'}, Inv X' ([(D, lobj ys kk)] ++ pinsAt fp s5.heap) σ' H' s' → Inv X' [(D, lobj ys kk)] σ' H' s' ∧ tn (i + 1) s'.heap ∧ ∀ b ∈ fp, H' b = none := fun {σ' H' s'} J =>
        ⟨J.unpinned, T.keep _ _ _ st5 fun b hb o e => (J.pin (b, o) (List.mem_append_right _ (List.mem_append_right _ (mem_pinsAt hb e)))).1, fun b hb => by
          obtain ⟨o, e, d⟩ := T.obj _ _ st5 b hb
          exact (J.pin (b, o) (List.mem_append_right _ (List.mem_append_right _ (mem_pinsAt hb e)))).2.1⟩
      cases ok with
      | false =>
        rw [if_neg Bool.false_ne_true]
        rw [if_neg Bool.false_ne_true] at q7
        obtain ⟨m', hm', w7⟩ := q7
        obtain ⟨J1, J2, J3⟩ := unpin I7
        exact ⟨m', hm', i + 1, vs, ys, kk, σ6, H7, J1, J2, J3, rv, w7⟩
      | true =>
        rw [if_pos rfl]
        rw [if_pos rfl] at q7
        refine thn (he C _ s7 σ6 H7 _ I7 q7) fun uy s8 ⟨y, H8, I8, r8, m', hm', w8⟩ => ?_
        obtain ⟨J1, J2, J3⟩ := unpin I8
        obtain ⟨gD, nD⟩ := pinD J1
        refine append_at (hsz := by show ys.toArray.size ≤ sizeLine; rw [List.size_toArray, ← rv.length]; exact hvl) gD fun h9 hs9 hD9 => ?_
        have J1' : Inv X' [] σ6 H8 s8 := J1.pins_of fun p hp => nomatch hp
        have J9 : Inv X' [] σ6 H8 { s8 with heap := h9 } := J1'.turned (t' := s8.toks) (it := D) (fun b o hb e => hs9.extBut b o hb e) nD hDC (.inr (by show s2.heap.objs.size ≤ D; rw [hDe]; exact Nat.le_refl _)) (fun x c e => Nat.ne_of_lt (cellLt x c e)) fun p hp => nomatch hp
        have eo : ({ cls := .type "list", data := .seq (ys.toArray.push uy) (kk + 1) } : Obj) = lobj (ys ++ [uy]) (kk + 1) := by
          unfold lobj
          rw [List.push_toArray]
        refine ⟨m', hm', i + 1, vs ++ [y], ys ++ [uy], kk + 1, σ6, H8, J9.pins_of fun p hp => ?_, T.keep _ _ _ J2 fun b hb o e => hs9.extBut b o (Nat.ne_of_lt (hfpD b hb)) e, J3, rv.append (.cons r8 .nil), w8⟩
        have ep : p = (D, lobj (ys ++ [uy]) (kk + 1)) := by simpa using hp
        subst ep
        exact ⟨by show h9.get? D = _; rw [hD9, eo], nD, hDC, nofr D (Nat.le_refl _), fun v z => nomatch z⟩
  exact codeAny_compStart_list (loop _ rfl) (T.self _ 0 _ _ _ (T.keep _ _ _ st fun b _ o e => old b o e) (loop _ rfl))
end
section
variable {X : Cx}
theorem pe_comp {elt tg iter : Expr} {ifs : List Expr} {scope : Scope} {pos : Pos} {N' : List Str} {k : Nat} {wi : TI} {g : TG} {tc : TT} {te : TE}
    (hc : X.calm = true) (S : CompOk X N' k scope) (hcells : ∀ x ∈ scope.names, x.2 = .free → ∃ c, X.env.cells.lookup x.1 = some c) (hi : PI X tg iter wi)
    (hg : ∀ cl s H fp C, PG (compCx X N' scope cl s H fp C) tg g) (ht : ∀ cl s H fp C, PTs (compCx X N' scope cl s H fp C) ifs tc) (he : ∀ cl s H fp C, PE (compCx X N' scope cl s H fp C) elt te)
    (hs : ∀ x, foldedSetIterable iter X.env x = pure x := by intro _; rfl) :
    PE X (.ListComp elt [⟨tg, iter, ifs, 0⟩] scope pos) (tComp wi k g tc te) := by
  intro pins s σ H Q I h
  obtain ⟨cl, hclos, h1, h2⟩ := closure_ex (env := X.env) (scope := scope) hcells
  rw [eval_ListComp]
  refine wpAny_comprehension_free (use := none) rfl hs hclos S.kind S.names (thn (hi pins s σ H _ I h) fun xv s1 h1' => thn h1' fun itv s2 h2' => ?_)
  obtain ⟨it, fp, tn, J, H2, e, I2, T, st2, f2, rd⟩ := h2'
  subst e
  refine comp_core hc S h1 h2 I2 T st2 f2 (fun C => hg _ _ _ _ C) (fun C => ht _ _ _ _ C) (fun C => he _ _ _ _ C) rd fun D C s' H' I' ⟨m, hm⟩ fC q => ?_
  refine ⟨m, hm, fun h' hs' => ⟨.ref D, H', ?_, rfl, q⟩⟩
  exact I'.turned (t' := s'.toks) (it := C) (fun b o hb e => hs'.extBut b o hb e) fC.1 fC.2.1 fC.2.2.2.1 fC.2.2.2.2.1 fC.2.2.2.2.2
theorem ps_setComp {elt tg iter : Expr} {ifs : List Expr} {scope : Scope} {pos pos' spos : Pos} {N' : List Str} {k i : Nat} {y : Str} {wi : TI} {g : TG} {tc : TT} {te : TE}
    (hN : X.N.Nodup) (hy : X.N[i]? = some y) (hly : Loc X.env.scope y) (hfn : X.fn y = true ∨ X.env.scope.names.lookup y = some .local)
    (hc : X.calm = true) (S : CompOk X N' k scope) (hcells : ∀ x ∈ scope.names, x.2 = .free → ∃ c, X.env.cells.lookup x.1 = some c) (hi : PI X tg iter wi)
    (hg : ∀ cl s H fp C, PG (compCx X N' scope cl s H fp C) tg g) (ht : ∀ cl s H fp C, PTs (compCx X N' scope cl s H fp C) ifs tc) (he : ∀ cl s H fp C, PE (compCx X N' scope cl s H fp C) elt te)
    (hsw : swapsWith (.ListComp elt [⟨tg, iter, ifs, 0⟩] scope pos) (some (.Name y pos')) spos.line X.env = pure true)
    (hs : ∀ x, foldedSetIterable iter X.env x = pure x := by intro _; rfl) :
    PS X (.Assign [.Name y pos'] (.ListComp elt [⟨tg, iter, ifs, 0⟩] scope pos) spos) (tAsg (tComp wi k g tc te) (gName i)) := by
  intro pins s σ H D₀ I h
  obtain ⟨cl, hclos, h1, h2⟩ := closure_ex (env := X.env) (scope := scope) hcells
  rw [exec_Assign_Name_used _ _ _ _ hsw]
  refine wpAny_bind (wpAny_standAt (wpAny_bind ?_))
  show wpAny _ X.A (do let _ ← comprehension (.ListComp elt [⟨tg, iter, ifs, 0⟩] scope pos) scope X.env _ (newList []) false (eval iter X.env) (some (assign (.Name y pos') X.env))) _ _ s
  refine wpAny_bind (wpAny_mono (wpAny_comprehension_free (use := some (assign (.Name y pos') X.env)) (Q := fun _ s' => SP X pins D₀ .next s') rfl hs hclos S.kind S.names
    (thn (hi pins s σ H _ I h) fun xv s1 h1' => thn h1' fun itv s2 h2' => ?_)) (fun _ s' hq => wpAny_pure (wpAny_pure hq)) fun _ _ e => e)
  obtain ⟨it, fp, tn, J, H2, e, I2, T, st2, f2, rd⟩ := h2'
  subst e
  refine comp_core (Q := fun x H1 => gName i x σ H1 D₀.nx) hc S h1 h2 I2 T st2 f2 (fun C => hg _ _ _ _ C) (fun C => ht _ _ _ _ C) (fun C => he _ _ _ _ C) rd fun D C s' H' I' ⟨m, hm⟩ fC q => ?_
  show wpAny _ X.A (assign (.Name y pos') X.env (.ref D)) _ _ _
  refine wpAny_assign_Name (store_ok2 I' hN hy hly (show RelV (.ref D) (.ref D) from rfl) (fun s'' I'' ⟨a, hsb, ha⟩ => ?_) hfn)
  have hCa : C ≠ a := by
    rcases ha with rfl | ha
    · exact fC.2.1
    · exact fun z => fC.2.2.2.2.1 y a ha z.symm
  refine ⟨m, hm.sameBut hsb hCa, fun h' hs' => ⟨_, H', ?_, q⟩⟩
  exact I''.turned (t' := s''.toks) (it := C) (fun b o hb e => hs'.extBut b o hb e) fC.1 fC.2.1 fC.2.2.2.1 fC.2.2.2.2.1 fC.2.2.2.2.2
end
end L2
set_option Elab.async false
set_option linter.all false
set_option maxRecDepth 100000
namespace L3
open PySem PySem.Spec PyProof.Rows L2
abbrev D := PyData
abbrev Fg := PySem.W.Frag
mutual
inductive Rep (K : Fg) (F : Hp) : V → D → Prop
  | non : Rep K F .non .none
  | bl (b) : Rep K F (.bl b) (.bool b)
  | int (i) : Rep K F (.int i) (.int i)
  | str (x) : Rep K F (.str x) (.str x)
  | tup {a vs ds} : SqT K F a vs → RepL K F vs ds → Rep K F (.ref a) (.tuple ds)
  | lst {a vs ds} : SqL K F a vs → RepL K F vs ds → Rep K F (.ref a) (.list ds)
inductive RepL (K : Fg) (F : Hp) : List V → List D → Prop
  | nil : RepL K F [] []
  | cons {v d vs ds} : Rep K F v d → RepL K F vs ds → RepL K F (v :: vs) (d :: ds)
end
theorem sqT_mono {K : Fg} {F F' : Hp} {a : Addr} {xs : List V} (e : Same F F') (h : SqT K F a xs) : SqT K F' a xs := by
  rcases h with (h | ⟨o, h⟩) | h
  · exact .inl (.inl (e _ _ h))
  · exact .inl (.inr ⟨o, e _ _ h⟩)
  · exact .inr h
mutual
theorem Rep.mono {K : Fg} {F F' : Hp} (e : Same F F') : ∀ {v d}, Rep K F v d → Rep K F' v d
  | _, _, .non => .non
  | _, _, .bl b => .bl b
  | _, _, .int b => .int b
  | _, _, .str b => .str b
  | _, _, .tup h r => .tup (sqT_mono e h) (RepL.mono e r)
  | _, _, .lst h r => .lst (e.seq h) (RepL.mono e r)
theorem RepL.mono {K : Fg} {F F' : Hp} (e : Same F F') : ∀ {vs ds}, RepL K F vs ds → RepL K F' vs ds
  | _, _, .nil => .nil
  | _, _, .cons h r => .cons (Rep.mono e h) (RepL.mono e r)
end
theorem RepL.length {K : Fg} {F : Hp} : ∀ {vs ds}, RepL K F vs ds → vs.length = ds.length
  | _, _, .nil => rfl
  | _, _, .cons _ r => by simp [RepL.length r]
theorem RepL.get {K : Fg} {F : Hp} : ∀ {vs ds} {i : Nat} {d : D}, RepL K F vs ds → ds[i]? = some d → ∃ v, vs[i]? = some v ∧ Rep K F v d
  | _, _, _, _, .nil, e => by simp at e
  | _, _, 0, _, .cons h _, e => by simp at e; subst e; exact ⟨_, rfl, h⟩
  | _, _, i + 1, d, .cons _ r, e => by
    obtain ⟨v, h1, h2⟩ := RepL.get (i := i) (d := d) r (by simpa using e)
    exact ⟨v, by simpa using h1, h2⟩
theorem RepL.append {K : Fg} {F : Hp} : ∀ {vs ds us es}, RepL K F vs ds → RepL K F us es → RepL K F (vs ++ us) (ds ++ es)
  | _, _, _, _, .nil, s => s
  | _, _, _, _, .cons h r, s => .cons h (RepL.append r s)
theorem RepL.take {K : Fg} {F : Hp} : ∀ {vs ds} (n : Nat), RepL K F vs ds → RepL K F (vs.take n) (ds.take n)
  | _, _, 0, _ => .nil
  | _, _, _ + 1, .nil => .nil
  | _, _, n + 1, .cons h r => .cons h (RepL.take n r)
theorem RepL.drop {K : Fg} {F : Hp} : ∀ {vs ds} (n : Nat), RepL K F vs ds → RepL K F (vs.drop n) (ds.drop n)
  | _, _, 0, r => r
  | _, _, _ + 1, .nil => .nil
  | _, _, n + 1, .cons _ r => RepL.drop n r
theorem RepL.set {K : Fg} {F : Hp} {v : V} {d : D} (h : Rep K F v d) : ∀ {vs ds} (i : Nat), RepL K F vs ds → RepL K F (vs.set i v) (ds.set i d)
  | _, _, _, .nil => .nil
  | _, _, 0, .cons _ r => .cons h r
  | _, _, i + 1, .cons q r => .cons q (RepL.set h i r)
theorem RepL.ints {K : Fg} {F : Hp} : ∀ (ns : List Int), RepL K F (ns.map V.int) (ns.map PyData.int)
  | [] => .nil
  | n :: r => .cons (.int n) (RepL.ints r)
theorem reads_of {X : Cx} {pins : List (Addr × Obj)} {σ : L2.St} {H : Hp} {s : Shared} (I : Inv X pins σ H s) :
    (∀ {v d}, Rep X.K H v d → ∀ {u}, RelV v u → ∃ as, Reads s.heap u d as) ∧ (∀ {vs ds}, RepL X.K H vs ds → ∀ {us}, Vals vs us → ∃ as, ReadsAll s.heap us ds as) := by
  suffices hh : ∀ n, (∀ {v d}, sizeOf d < n → Rep X.K H v d → ∀ {u}, RelV v u → ∃ as, Reads s.heap u d as) ∧ (∀ {vs ds}, sizeOf ds < n → RepL X.K H vs ds → ∀ {us}, Vals vs us → ∃ as, ReadsAll s.heap us ds as) by
    exact ⟨fun {v d} h {u} r => (hh (sizeOf d + 1)).1 (Nat.lt_succ_self _) h r, fun {vs ds} h {us} r => (hh (sizeOf ds + 1)).2 (Nat.lt_succ_self _) h r⟩
  intro n
  induction n with
  | zero => exact ⟨fun h => absurd h (Nat.not_lt_zero _), fun h => absurd h (Nat.not_lt_zero _)⟩
  | succ n ih =>
    refine ⟨fun {v d} hn h {u} r => ?_, fun {vs ds} hn h {us} r => ?_⟩
    · cases h with
      | non => cases r; exact ⟨_, .none⟩
      | bl b => cases r; exact ⟨_, .bool b⟩
      | int i => obtain ⟨t, rfl⟩ := r; exact ⟨_, .int i t⟩
      | str x => obtain ⟨t, rfl⟩ := r; exact ⟨_, .str x t⟩
      | @tup a vs ds hq rl =>
        cases r
        obtain ⟨its, rv, ⟨o, e1, e2, n', e3⟩, hz⟩ := I.tuple hq
        obtain ⟨as, ra⟩ := ih.2 (by simp at hn ⊢; omega) rl rv
        exact ⟨_, .tuple e1 e2 e3 (by simpa using ra)⟩
      | @lst a vs ds hq rl =>
        cases r
        obtain ⟨its, rv, ⟨o, n', e1, e2, e3, e4⟩, hz⟩ := I.list hq
        obtain ⟨as, ra⟩ := ih.2 (by simp at hn ⊢; omega) rl rv
        exact ⟨_, .list e1 e2 e4 (by simpa using ra)⟩
    · cases h with
      | nil => cases r; exact ⟨_, .nil⟩
      | cons h t =>
        cases r with
        | cons r rr =>
          obtain ⟨as, ra⟩ := ih.1 (by simp at hn ⊢; omega) h r
          obtain ⟨bs, rb⟩ := ih.2 (by simp at hn ⊢; omega) t rr
          exact ⟨_, .cons ra rb⟩
inductive OC where
  | l (ds : List D)
inductive AV where
  | fz (d : D)
  | ol (c : OC)
  | op (c : OC)
abbrev En := List (Option AV)
inductive RV where
  | fz (d : D)
  | fr (c : OC)
  | bor (i : Nat)
structure Gh where
  P : Nat → Option Addr
  O : Hp
def Held (K : Fg) (F H : Hp) (a : Addr) : OC → Prop
  | .l ds => ∃ vs, H a = some (.lst vs) ∧ RepL K F vs ds
structure OwnAt (K : Fg) (G : Gh) (F H : Hp) (a : Addr) (c : OC) : Prop where
  nf : F a = none
  no : G.O a = none
  he : Held K F H a c
def own (ρ : En) (i : Nat) (c : OC) : Prop := ρ[i]? = some (some (.ol c)) ∨ ρ[i]? = some (some (.op c))
structure StOk (K : Fg) (G : Gh) (F : Hp) (σ : L2.St) (H : Hp) (ρ : En) : Prop where
  fh : Same F H
  oh : Same G.O H
  fo : ∀ b o, G.O b = some o → F b = none
  ln : σ.length = ρ.length
  fz : ∀ (i : Nat) (d : D), ρ[i]? = some (some (AV.fz d)) → ∃ v, σ[i]? = some (some v) ∧ Rep K F v d
  ow : ∀ (i : Nat) (c : OC), own ρ i c → ∃ a : Addr, σ[i]? = some (some (V.ref a)) ∧ OwnAt K G F H a c
  dj : ∀ (i j : Nat) (c e : OC) (a : Addr), own ρ i c → own ρ j e → σ[i]? = some (some (V.ref a)) → σ[j]? = some (some (V.ref a)) → i = j
  pp : ∀ (i : Nat) (a : Addr), G.P i = some a → σ[i]? = some (some (V.ref a)) ∧ ∃ c, ρ[i]? = some (some (AV.op c))
  pq : ∀ (i : Nat) (c : OC), ρ[i]? = some (some (AV.op c)) → ∃ a, G.P i = some a
def RVR (K : Fg) (G : Gh) (F : Hp) (σ : L2.St) (H : Hp) (ρ : En) (v : V) : RV → Prop
  | .fz d => Rep K F v d
  | .fr c => ∃ a, v = .ref a ∧ OwnAt K G F H a c ∧ ∀ (i : Nat) (e : OC), own ρ i e → σ[i]? ≠ some (some (V.ref a))
  | .bor i => ∃ c, own ρ i c ∧ σ[i]? = some (some v)
theorem Held.mono {K : Fg} {F F' H : Hp} {a : Addr} {c : OC} (e : Same F F') (h : Held K F H a c) : Held K F' H a c := by
  cases c with
  | l ds => obtain ⟨vs, h1, h2⟩ := h; exact ⟨vs, h1, h2.mono e⟩
theorem Held.some {K : Fg} {F H : Hp} {a : Addr} {c : OC} (h : Held K F H a c) : ∃ o, H a = some o := by
  cases c with
  | l ds => obtain ⟨vs, h1, h2⟩ := h; exact ⟨_, h1⟩
theorem Held.at {K : Fg} {F H H' : Hp} {a : Addr} {c : OC} (h : Held K F H a c) (e : H' a = H a) : Held K F H' a c := by
  cases c with
  | l ds => obtain ⟨vs, h1, h2⟩ := h; exact ⟨vs, e.trans h1, h2⟩
theorem same_upd {F : Hp} {p : Addr} {o : HO} (h : F p = none) : Same F (upd F p o) := fun b u e => by
  rw [upd_ne (ne_of_none e h)]
  exact e
theorem same_upd2 {F H : Hp} {p : Addr} {o : HO} (s : Same F H) (h : F p = none) : Same F (upd H p o) := fun b u e => by
  rw [upd_ne (ne_of_none e h)]
  exact s b u e
section
variable {K : Fg} {G : Gh} {F H : Hp} {σ : L2.St} {ρ : En}
theorem StOk.lay (S : StOk K G F σ H ρ) {p : Addr} {o : HO} (hp : H p = none) : StOk K G F σ (upd H p o) ρ := by
  have fp : F p = none := S.fh.free hp
  have op : G.O p = none := S.oh.free hp
  refine ⟨same_upd2 S.fh fp, same_upd2 S.oh op, S.fo, S.ln, S.fz, fun i c h => ?_, S.dj, S.pp, S.pq⟩
  obtain ⟨a, e, oa⟩ := S.ow i c h
  refine ⟨a, e, oa.nf, oa.no, oa.he.at ?_⟩
  obtain ⟨u, hu⟩ := oa.he.some
  exact upd_ne (ne_of_none hu hp)
theorem StOk.fresh_ne (S : StOk K G F σ H ρ) {p : Addr} (hp : H p = none) : ∀ (i : Nat) (e : OC), own ρ i e → σ[i]? ≠ some (some (V.ref p)) := fun i e h q => by
  obtain ⟨a, e1, oa⟩ := S.ow i e h
  rw [e1] at q
  injection q with q; injection q with q; injection q with q
  subst q
  obtain ⟨u, hu⟩ := oa.he.some
  rw [hp] at hu; cases hu
theorem StOk.freeze (S : StOk K G F σ H ρ) {a : Addr} {o : HO} (ha : H a = some o) (fa : F a = none) (oa : G.O a = none) (ne : ∀ (i : Nat) (e : OC), own ρ i e → σ[i]? ≠ some (some (V.ref a))) : StOk K G (upd F a o) σ H ρ := by
  have sm : Same F (upd F a o) := same_upd fa
  refine ⟨fun b u e => ?_, S.oh, fun b u e => ?_, S.ln, fun i d h => ?_, fun i c h => ?_, S.dj, S.pp, S.pq⟩
  · by_cases hb : b = a
    · subst hb; rw [upd_same] at e; cases e; exact ha
    · rw [upd_ne hb] at e; exact S.fh b u e
  · rw [upd_ne (ne_of_none e oa)]; exact S.fo b u e
  · obtain ⟨v, e, r⟩ := S.fz i d h; exact ⟨v, e, r.mono sm⟩
  · obtain ⟨b, e, ob⟩ := S.ow i c h
    refine ⟨b, e, ?_, ob.no, ob.he.mono sm⟩
    rw [upd_ne (fun z => ne i c h (by rw [e, z]))]
    exact ob.nf
theorem StOk.newTup (S : StOk K G F σ H ρ) {p : Addr} {vs : List V} {ds : List D} (hp : H p = none) (r : RepL K F vs ds) :
    Same F (upd F p (.tup vs)) ∧ StOk K G (upd F p (.tup vs)) σ (upd H p (.tup vs)) ρ ∧ Rep K (upd F p (.tup vs)) (.ref p) (.tuple ds) := by
  have fp : F p = none := S.fh.free hp
  refine ⟨same_upd fp, (S.lay hp).freeze upd_same fp (S.oh.free hp) (S.fresh_ne hp), ?_⟩
  exact .tup (.inl (.inl upd_same)) (r.mono (same_upd fp))
theorem StOk.newLst (S : StOk K G F σ H ρ) {p : Addr} {vs : List V} {ds : List D} (hp : H p = none) (r : RepL K F vs ds) :
    StOk K G F σ (upd H p (.lst vs)) ρ ∧ RVR K G F σ (upd H p (.lst vs)) ρ (.ref p) (.fr (.l ds)) :=
  ⟨S.lay hp, p, rfl, ⟨S.fh.free hp, S.oh.free hp, vs, upd_same, r⟩, S.fresh_ne hp⟩
theorem StOk.settle (S : StOk K G F σ H ρ) {v : V} {ds : List D} (r : RVR K G F σ H ρ v (.fr (.l ds))) :
    ∃ F', Same F F' ∧ StOk K G F' σ H ρ ∧ Rep K F' v (.list ds) := by
  obtain ⟨a, rfl, oa, ne⟩ := r
  obtain ⟨vs, h1, h2⟩ := oa.he
  exact ⟨upd F a (.lst vs), same_upd oa.nf, S.freeze h1 oa.nf oa.no ne, .lst (.inl (.inl upd_same)) (h2.mono (same_upd oa.nf))⟩
theorem getElem?_set_eq {α : Type} (l : List α) (i : Nat) (x y : α) (h : l[i]? = some y) : (l.set i x)[i]? = some x := by
  rw [List.getElem?_set_self (List.getElem?_eq_some_iff.mp h).1]
theorem StOk.settleB (S : StOk K G F σ H ρ) {i : Nat} {ds : List D} (hi : ρ[i]? = some (some (.ol (.l ds)))) {v : V} (hv : σ[i]? = some (some v)) :
    ∃ F', Same F F' ∧ StOk K G F' σ H (ρ.set i (some (.fz (.list ds)))) ∧ Rep K F' v (.list ds) := by
  obtain ⟨a, e, oa⟩ := S.ow i _ (.inl hi)
  rw [hv] at e
  injection e with e; injection e with e
  subst e
  obtain ⟨vs, h1, h2⟩ := oa.he
  have sm : Same F (upd F a (.lst vs)) := same_upd oa.nf
  have rp : Rep K (upd F a (.lst vs)) (.ref a) (.list ds) := .lst (.inl (.inl upd_same)) (h2.mono sm)
  have ne : ∀ j, j ≠ i → (ρ.set i (some (.fz (.list ds))))[j]? = ρ[j]? := fun j hj => List.getElem?_set_ne (Ne.symm hj)
  have at_i : (ρ.set i (some (.fz (.list ds))))[i]? = some (some (.fz (.list ds))) := getElem?_set_eq _ _ _ _ hi
  have ownj : ∀ j c, own (ρ.set i (some (.fz (.list ds)))) j c → j ≠ i ∧ own ρ j c := fun j c h => by
    have hj : j ≠ i := by
      rintro rfl
      rcases h with h | h <;> (rw [at_i] at h; cases h)
    refine ⟨hj, ?_⟩
    rcases h with h | h
    · exact .inl (by rw [← ne j hj]; exact h)
    · exact .inr (by rw [← ne j hj]; exact h)
  refine ⟨upd F a (.lst vs), sm, ⟨fun b u e => ?_, S.oh, fun b u e => ?_, by simpa using S.ln, fun j d h => ?_, fun j c h => ?_, fun j k c e b h1 h2 => S.dj j k c e b (ownj j c h1).2 (ownj k e h2).2, fun j b h => ?_, fun j c h => ?_⟩, rp⟩
  · by_cases hb : b = a
    · subst hb; rw [upd_same] at e; cases e; exact h1
    · rw [upd_ne hb] at e; exact S.fh b u e
  · rw [upd_ne (ne_of_none e oa.no)]; exact S.fo b u e
  · by_cases hj : j = i
    · subst hj
      rw [at_i] at h
      cases h
      exact ⟨_, hv, rp⟩
    · rw [ne j hj] at h
      obtain ⟨w, e, r⟩ := S.fz j d h
      exact ⟨w, e, r.mono sm⟩
  · obtain ⟨hj, h'⟩ := ownj j c h
    obtain ⟨b, e, ob⟩ := S.ow j c h'
    refine ⟨b, e, ?_, ob.no, ob.he.mono sm⟩
    rw [upd_ne (fun z => hj (S.dj j i _ _ a h' (.inl hi) (by rw [e, z]) hv))]
    exact ob.nf
  · obtain ⟨q, c, q'⟩ := S.pp j b h
    refine ⟨q, c, ?_⟩
    have hj : j ≠ i := by rintro rfl; rw [hi] at q'; cases q'
    rw [ne j hj]; exact q'
  · have hj : j ≠ i := by rintro rfl; rw [at_i] at h; cases h
    rw [ne j hj] at h
    exact S.pq j c h
theorem StOk.store (S : StOk K G F σ H ρ) {j : Nat} {v : V} {av : AV} (hj : ∀ c, ρ[j]? ≠ some (some (.op c))) (hl : j < ρ.length)
    (h : (∃ d, av = .fz d ∧ Rep K F v d) ∨ ∃ c, av = .ol c ∧ RVR K G F σ H ρ v (.fr c)) : StOk K G F (σ.set j (some v)) H (ρ.set j (some av)) := by
  have hls : j < σ.length := by rw [S.ln]; exact hl
  have ne : ∀ i, i ≠ j → (ρ.set j (some av))[i]? = ρ[i]? := fun i hi => List.getElem?_set_ne (Ne.symm hi)
  have nes : ∀ i, i ≠ j → (σ.set j (some v))[i]? = σ[i]? := fun i hi => List.getElem?_set_ne (Ne.symm hi)
  have atj : (ρ.set j (some av))[j]? = some (some av) := List.getElem?_set_self hl
  have atjs : (σ.set j (some v))[j]? = some (some v) := List.getElem?_set_self hls
  have owni : ∀ i c, i ≠ j → own (ρ.set j (some av)) i c → own ρ i c := fun i c hi h => by
    unfold own at h ⊢
    rw [ne i hi] at h
    exact h
  refine ⟨S.fh, S.oh, S.fo, by simpa using S.ln, fun i d q => ?_, fun i c q => ?_, fun i k c e a q1 q2 e1 e2 => ?_, fun i a q => ?_, fun i c q => ?_⟩
  · by_cases hi : i = j
    · subst hi
      rw [atj] at q
      rcases h with ⟨d', rfl, r⟩ | ⟨c, rfl, _⟩
      · cases q; exact ⟨v, atjs, r⟩
      · cases q
    · rw [ne i hi] at q
      obtain ⟨w, e, r⟩ := S.fz i d q
      exact ⟨w, by rw [nes i hi]; exact e, r⟩
  · by_cases hi : i = j
    · subst hi
      rcases h with ⟨d', rfl, r⟩ | ⟨c', rfl, a, rfl, oa, _⟩
      · rcases q with q | q <;> (rw [atj] at q; cases q)
      · rcases q with q | q
        · rw [atj] at q; cases q; exact ⟨a, atjs, oa⟩
        · rw [atj] at q; cases q
    · obtain ⟨a, e, oa⟩ := S.ow i c (owni i c hi q)
      exact ⟨a, by rw [nes i hi]; exact e, oa⟩
  · by_cases hi : i = j
    · by_cases hk : k = j
      · rw [hi, hk]
      · exfalso
        subst hi
        rw [nes k hk] at e2
        rw [atjs] at e1
        injection e1 with e1; injection e1 with e1
        subst e1
        rcases h with ⟨d', rfl, r⟩ | ⟨c', rfl, a', e, oa, nn⟩
        · rcases q1 with q | q <;> (rw [atj] at q; cases q)
        · injection e with e; subst e
          exact nn k _ (owni k _ hk q2) e2
    · by_cases hk : k = j
      · exfalso
        subst hk
        rw [nes i hi] at e1
        rw [atjs] at e2
        injection e2 with e2; injection e2 with e2
        subst e2
        rcases h with ⟨d', rfl, r⟩ | ⟨c', rfl, a', e, oa, nn⟩
        · rcases q2 with q | q <;> (rw [atj] at q; cases q)
        · injection e with e; subst e
          exact nn i _ (owni i _ hi q1) e1
      · rw [nes i hi] at e1
        rw [nes k hk] at e2
        exact S.dj i k _ _ a (owni i _ hi q1) (owni k _ hk q2) e1 e2
  · obtain ⟨q1, c, q2⟩ := S.pp i a q
    have hi : i ≠ j := by rintro rfl; exact hj c q2
    exact ⟨by rw [nes i hi]; exact q1, c, by rw [ne i hi]; exact q2⟩
  · have hi : i ≠ j := by
      rintro rfl
      rw [atj] at q
      rcases h with ⟨d', rfl, r⟩ | ⟨c', rfl, _⟩ <;> cases q
    rw [ne i hi] at q
    exact S.pq i c q
theorem StOk.change (S : StOk K G F σ H ρ) {j : Nat} {a : Addr} {c c' : OC} {o : HO} (hj : own ρ j c) (ha : σ[j]? = some (some (.ref a))) (hh : Held K F (upd H a o) a c') :
    StOk K G F σ (upd H a o) (ρ.set j ((ρ[j]?.join).map fun | .op _ => .op c' | _ => .ol c')) := by
  obtain ⟨b, e, ob⟩ := S.ow j c hj
  rw [ha] at e
  injection e with e; injection e with e; injection e with e
  subst e
  have hl : j < ρ.length := by rcases hj with h | h <;> exact (List.getElem?_eq_some_iff.mp h).1
  generalize hav : ((ρ[j]?.join).map fun (x : AV) => match x with | .op _ => AV.op c' | _ => AV.ol c') = av
  have ne : ∀ i, i ≠ j → (ρ.set j av)[i]? = ρ[i]? := fun i hi => List.getElem?_set_ne (Ne.symm hi)
  have atj : (ρ.set j av)[j]? = some av := List.getElem?_set_self hl
  have owni : ∀ i e, i ≠ j → own (ρ.set j av) i e → own ρ i e := fun i c hi h => by
    unfold own at h ⊢
    rw [ne i hi] at h
    exact h
  have kind : (ρ[j]? = some (some (.ol c)) ∧ av = some (.ol c')) ∨ (ρ[j]? = some (some (.op c)) ∧ av = some (.op c')) := by
    rcases hj with h | h
    · exact .inl ⟨h, by rw [← hav, h]; rfl⟩
    · exact .inr ⟨h, by rw [← hav, h]; rfl⟩
  have ownj : ∀ e, own (ρ.set j av) j e → e = c' := fun e h => by
    unfold own at h
    rw [atj] at h
    rcases kind with ⟨_, k⟩ | ⟨_, k⟩ <;> rw [k] at h <;> rcases h with h | h <;> cases h <;> rfl
  refine ⟨same_upd2 S.fh ob.nf, same_upd2 S.oh ob.no, S.fo, by simpa using S.ln, fun i d q => ?_, fun i e q => ?_, fun i k c1 e1 b q1 q2 => ?_, fun i b q => ?_, fun i e q => ?_⟩
  · by_cases hi : i = j
    · subst hi
      rw [atj] at q
      rcases kind with ⟨_, k⟩ | ⟨_, k⟩ <;> rw [k] at q <;> cases q
    · rw [ne i hi] at q; exact S.fz i d q
  · by_cases hi : i = j
    · subst hi
      have := ownj e q
      subst this
      exact ⟨a, ha, ob.nf, ob.no, hh⟩
    · have q' := owni i e hi q
      obtain ⟨b', e', ob'⟩ := S.ow i e q'
      refine ⟨b', e', ob'.nf, ob'.no, ob'.he.at (upd_ne fun z => hi (S.dj i j _ _ a q' hj (by rw [e', z]) ha))⟩
  · have o1 : ∃ e, own ρ i e := by
      by_cases hi : i = j
      · exact ⟨c, hi ▸ hj⟩
      · exact ⟨_, owni i _ hi q1⟩
    have o2 : ∃ e, own ρ k e := by
      by_cases hk : k = j
      · exact ⟨c, hk ▸ hj⟩
      · exact ⟨_, owni k _ hk q2⟩
    exact S.dj i k _ _ b o1.choose_spec o2.choose_spec
  · obtain ⟨q1, e, q2⟩ := S.pp i b q
    refine ⟨q1, ?_⟩
    by_cases hi : i = j
    · subst hi
      rcases kind with ⟨k1, k⟩ | ⟨k1, k⟩
      · rw [k1] at q2; cases q2
      · exact ⟨c', by rw [atj, k]⟩
    · exact ⟨e, by rw [ne i hi]; exact q2⟩
  · by_cases hi : i = j
    · subst hi
      rcases kind with ⟨k1, k⟩ | ⟨k1, k⟩
      · rw [atj, k] at q; cases q
      · exact S.pq i c k1
    · rw [ne i hi] at q; exact S.pq i e q
end
end L3
set_option Elab.async false
set_option linter.all false
set_option maxRecDepth 100000
namespace L4
open PySem PySem.Spec PyProof.Rows L2 L3
structure Ex where
  cls : Str
  fs : List (Str × D)
inductive M (S : Type) where
  | ret (s : S)
  | exc (x : Ex)
  | bad
def M.on {S T : Type} (m : M S) (x : Ex → M T) (k : S → M T) : M T := match m with
  | .ret s => k s
  | .exc e => x e
  | .bad => .bad
def bd {S T : Type} (m : M S) (k : S → M T) : M T := m.on .exc k
def oM {S : Type} (o : Option S) : M S := match o with
  | some s => .ret s
  | none => .bad
section
variable {S T U : Type}
@[simp] theorem on_ret (s : S) (x : Ex → M T) (k : S → M T) : (M.ret s).on x k = k s := rfl
@[simp] theorem bd_ret (s : S) (k : S → M T) : bd (.ret s) k = k s := rfl
@[simp] theorem oM_some (s : S) : oM (some s) = .ret s := rfl
end
abbrev Pu (α : Type) := En → M α
def XW (X : Cx) (G : Gh) (F : Hp) (ρ : En) (x : Ex) : Prop := False
theorem XW.mono {X : Cx} {G : Gh} {F F' : Hp} {ρ : En} {x : Ex} (s : Same F F') (h : XW X G F ρ x) : XW X G F' ρ x := h
def W (X : Cx) (G : Gh) (F : Hp) (σ : L2.St) (ρ : En) {α : Type} (m : M α) (C : α → Hp → Hp → Prop) : Prop := match m with
  | .ret a => ∀ F' H', Same F F' → StOk X.K G F' σ H' ρ → C a F' H'
  | .exc x => XW X G F ρ x
  | .bad => False
section
variable {X : Cx} {G : Gh} {F F' H : Hp} {σ : L2.St} {ρ : En} {α β : Type} {m : M α} {k : α → M β} {C C' : α → Hp → Hp → Prop}
theorem W.up {C : β → Hp → Hp → Prop} {m : M β} (s : Same F F') (h : W X G F σ ρ m C) : W X G F' σ ρ m C := by
  cases m with
  | ret a => exact fun F2 H2 s2 S2 => h F2 H2 (s.trans s2) S2
  | exc x => exact XW.mono (X := X) (G := G) (ρ := ρ) (x := x) s h
  | bad => exact h
theorem W.bind {C : β → Hp → Hp → Prop} (h : W X G F σ ρ (bd m k) C) : W X G F σ ρ m fun a F' H' => W X G F' σ ρ (k a) C := by
  cases m with
  | ret a => exact fun F2 H2 s2 S2 => W.up s2 h
  | exc x => exact h
  | bad => exact h
theorem W.imp (h : W X G F σ ρ m C) (w : ∀ a F' H', Same F F' → StOk X.K G F' σ H' ρ → C a F' H' → C' a F' H') : W X G F σ ρ m C' := by
  cases m with
  | ret a => exact fun F2 H2 s2 S2 => w a F2 H2 s2 S2 (h F2 H2 s2 S2)
  | exc x => exact h
  | bad => exact h
theorem W.opt {o : Option α} (h : W X G F σ ρ (oM o) C) : ∃ a, o = some a ∧ ∀ F' H', Same F F' → StOk X.K G F' σ H' ρ → C a F' H' := by
  cases o with
  | none => exact h.elim
  | some a => exact ⟨a, rfl, h⟩
end
@[irreducible] def tSem (X : Cx) (e : Expr) : TE := fun σ H Q => ∀ (pins : List (Addr × Obj)) (s : Shared), Inv X pins σ H s → wpAny (model X.prog X.w) X.A (eval e X.env) (EP X pins σ Q) X.xe s
@[irreducible] def tSemT (X : Cx) (e : Expr) : TT := fun σ H Q => ∀ (pins : List (Addr × Obj)) (s : Shared), Inv X pins σ H s → wpAny (model X.prog X.w) X.A (isTrue e X.env (eval e X.env)) (TP X pins σ Q) X.xe s
@[irreducible] def tSemW (X : Cx) (e : Expr) : TT := fun σ H Q => ∀ (whole : Sem Value) (pins : List (Addr × Obj)) (s : Shared), Inv X pins σ H s → wpAny (model X.prog X.w) X.A (isTrue e X.env whole) (TP X pins σ Q) X.xe s
@[irreducible] def tSemA (X : Cx) (es : List Expr) : TA := fun σ H Q => ∀ (pos : Pos) (pins : List (Addr × Obj)) (s : Shared), Inv X pins σ H s → wpAny (model X.prog X.w) X.A (spliced (backTo pos (starEach es X.env))) (AP X pins σ Q) X.xe s
section
variable {X : Cx} {e : Expr} {es : List Expr} {σ : L2.St} {H : Hp}
theorem pe_sem : PE X e (tSem X e) := fun pins s σ H Q I h => by unfold tSem at h; exact h pins s I
theorem pt_sem : PT X e (tSemT X e) := fun pins s σ H Q I h => by unfold tSemT at h; exact h pins s I
theorem pw_sem : PW X e (tSemW X e) := fun wh pins s σ H Q I h => by unfold tSemW at h; exact h wh pins s I
theorem pa_sem : PA X es (tSemA X es) := fun pos pins s σ H Q I h => by unfold tSemA at h; exact h pos pins s I
theorem sem {t : TE} {Q : VK} (h : PE X e t) (q : t σ H Q) : tSem X e σ H Q := by unfold tSem; exact fun pins s I => h pins s σ H Q I q
theorem semT {t : TT} {Q : Bool → Hp → Prop} (h : PT X e t) (q : t σ H Q) : tSemT X e σ H Q := by unfold tSemT; exact fun pins s I => h pins s σ H Q I q
theorem semW {t : TT} {Q : Bool → Hp → Prop} (h : PW X e t) (q : t σ H Q) : tSemW X e σ H Q := by unfold tSemW; exact fun wh pins s I => h wh pins s σ H Q I q
theorem semA {t : TA} {Q : List V → Hp → Prop} (h : PA X es t) (q : t σ H Q) : tSemA X es σ H Q := by unfold tSemA; exact fun pos pins s I => h pos pins s σ H Q I q
end
def ownL (ρ : En) (i : Nat) : Option (List D) := match ρ[i]? with
  | some (some (.ol (.l ds))) => some ds
  | some (some (.op (.l ds))) => some ds
  | _ => none
theorem ownL_own {ρ : En} {i : Nat} {ds : List D} (h : ownL ρ i = some ds) : own ρ i (.l ds) := by
  unfold ownL at h
  split at h
  · rename_i q; cases h; exact .inl q
  · rename_i q; cases h; exact .inr q
  · cases h
def VO (K : Fg) (F : Hp) (σ : L2.St) (ρ : En) (v : V) (d : D) : Prop := Rep K F v d ∨ ∃ i ds, ownL ρ i = some ds ∧ σ[i]? = some (some v) ∧ d = .list ds
inductive VOs (K : Fg) (F : Hp) (σ : L2.St) (ρ : En) : List V → List D → Prop
  | nil : VOs K F σ ρ [] []
  | cons {v d vs ds} : VO K F σ ρ v d → VOs K F σ ρ vs ds → VOs K F σ ρ (v :: vs) (d :: ds)
theorem VO.mono {K : Fg} {F F' : Hp} {σ : L2.St} {ρ : En} {v : V} {d : D} (s : Same F F') (h : VO K F σ ρ v d) : VO K F' σ ρ v d := h.imp (Rep.mono s) id
theorem VOs.mono {K : Fg} {F F' : Hp} {σ : L2.St} {ρ : En} (s : Same F F') : ∀ {vs ds}, VOs K F σ ρ vs ds → VOs K F' σ ρ vs ds
  | _, _, .nil => .nil
  | _, _, .cons h t => .cons (h.mono s) (t.mono s)
def OR (K : Fg) (F H : Hp) (v : V) (d : D) : Prop := Rep K F v d ∨ ∃ a vs ds, v = .ref a ∧ d = .list ds ∧ H a = some (.lst vs) ∧ RepL K F vs ds
inductive ORs (K : Fg) (F H : Hp) : List V → List D → Prop
  | nil : ORs K F H [] []
  | cons {v d vs ds} : OR K F H v d → ORs K F H vs ds → ORs K F H (v :: vs) (d :: ds)
theorem VO.or {K : Fg} {G : Gh} {F H : Hp} {σ : L2.St} {ρ : En} {v : V} {d : D} (S : StOk K G F σ H ρ) (h : VO K F σ ρ v d) : OR K F H v d := by
  rcases h with h | ⟨i, ds, ho, hv, rfl⟩
  · exact .inl h
  · obtain ⟨a, e1, oa⟩ := S.ow i _ (ownL_own ho)
    rw [hv] at e1
    injection e1 with e1; injection e1 with e1
    obtain ⟨vs, h1, h2⟩ := oa.he
    exact .inr ⟨a, vs, ds, e1, rfl, h1, h2⟩
theorem VOs.ors {K : Fg} {G : Gh} {F H : Hp} {σ : L2.St} {ρ : En} (S : StOk K G F σ H ρ) : ∀ {vs ds}, VOs K F σ ρ vs ds → ORs K F H vs ds
  | _, _, .nil => .nil
  | _, _, .cons h t => .cons (h.or S) (t.ors S)
section
variable {K : Fg} {F H : Hp} {v : V} {ds : List D}
theorem OR.rep {d : D} (s : Same F H) (h : OR K F H v d) : Rep K H v d := by
  rcases h with h | ⟨a, vs, ds, rfl, rfl, h1, h2⟩
  · exact h.mono s
  · exact .lst (.inl (.inl h1)) (h2.mono s)
theorem OR.list (s : Same F H) (h : OR K F H v (.list ds)) : ∃ a vs, v = .ref a ∧ SqL K H a vs ∧ RepL K F vs ds := by
  rcases h with h | ⟨a, vs, ds', e, e2, h1, h2⟩
  · cases h with
    | lst h1 h2 => exact ⟨_, _, rfl, s.seq h1, h2⟩
  · cases e2; exact ⟨a, vs, e, .inl (.inl h1), h2⟩
theorem OR.tuple (s : Same F H) (h : OR K F H v (.tuple ds)) : ∃ a vs, v = .ref a ∧ SqT K H a vs ∧ RepL K F vs ds := by
  rcases h with h | ⟨a, vs, ds', e, e2, h1, h2⟩
  · cases h with
    | tup h1 h2 => exact ⟨_, _, rfl, sqT_mono s h1, h2⟩
  · cases e2
theorem OR.tup' (h : OR K F H v (.tuple ds)) : Rep K F v (.tuple ds) := by
  rcases h with h | ⟨a, vs, ds', e, e2, h1, h2⟩
  · exact h
  · cases e2
theorem OR.int {i : Int} (h : OR K F H v (.int i)) : v = .int i := by
  rcases h with h | ⟨a, vs, ds', e, e2, h1, h2⟩
  · cases h; rfl
  · cases e2
theorem OR.bool {i : Bool} (h : OR K F H v (.bool i)) : v = .bl i := by
  rcases h with h | ⟨a, vs, ds', e, e2, h1, h2⟩
  · cases h; rfl
  · cases e2
theorem OR.str {i : Str} (h : OR K F H v (.str i)) : v = .str i := by
  rcases h with h | ⟨a, vs, ds', e, e2, h1, h2⟩
  · cases h; rfl
  · cases e2
theorem OR.none (h : OR K F H v .none) : v = .non := by
  rcases h with h | ⟨a, vs, ds', e, e2, h1, h2⟩
  · cases h; rfl
  · cases e2
theorem ors_cons {vs : List V} {d : D} {ds : List D} (h : ORs K F H vs (d :: ds)) : ∃ v r, vs = v :: r ∧ OR K F H v d ∧ ORs K F H r ds := by
  cases h with | cons a b => exact ⟨_, _, rfl, a, b⟩
theorem ors_nil {vs : List V} (h : ORs K F H vs []) : vs = [] := by cases h; rfl
end
def AP (X : Cx) (e : Expr) (p : Pu D) : Prop :=
  ∀ (G : Gh) (F : Hp) (σ : L2.St) (H : Hp) (ρ : En) (Q : VK), StOk X.K G F σ H ρ → W X G F σ ρ (p ρ) (fun d F' H' => ∀ v, Rep X.K F' v d → Q v H') → tSem X e σ H Q
def AO (X : Cx) (e : Expr) (p : Pu D) : Prop :=
  ∀ (G : Gh) (F : Hp) (σ : L2.St) (H : Hp) (ρ : En) (Q : VK), StOk X.K G F σ H ρ → W X G F σ ρ (p ρ) (fun d F' H' => ∀ v, VO X.K F' σ ρ v d → Q v H') → tSem X e σ H Q
def AT (X : Cx) (e : Expr) (p : Pu Bool) : Prop :=
  ∀ (G : Gh) (F : Hp) (σ : L2.St) (H : Hp) (ρ : En) (Q : Bool → Hp → Prop), StOk X.K G F σ H ρ → W X G F σ ρ (p ρ) (fun d F' H' => Q d H') → tSemT X e σ H Q
def AW (X : Cx) (e : Expr) (p : Pu Bool) : Prop :=
  ∀ (G : Gh) (F : Hp) (σ : L2.St) (H : Hp) (ρ : En) (Q : Bool → Hp → Prop), StOk X.K G F σ H ρ → W X G F σ ρ (p ρ) (fun d F' H' => Q d H') → tSemW X e σ H Q
def AB (X : Cx) (e : Expr) (p : Pu Bool) : Prop :=
  ∀ (G : Gh) (F : Hp) (σ : L2.St) (H : Hp) (ρ : En) (Q : VK), StOk X.K G F σ H ρ → W X G F σ ρ (p ρ) (fun d F' H' => Q (.bl d) H') → tSem X e σ H Q
def AA {α : Type} (X : Cx) (es : List Expr) (m : (List D → M α) → En → M α) : Prop :=
  ∀ (G : Gh) (F : Hp) (σ : L2.St) (H : Hp) (ρ : En) (Q : List V → Hp → Prop) (k : List D → M α) (C : α → Hp → Hp → Prop), StOk X.K G F σ H ρ → W X G F σ ρ (m k ρ) C →
    (∀ ds vs F' H', Same F F' → StOk X.K G F' σ H' ρ → vs.length = es.length → RepL X.K F' vs ds → W X G F' σ ρ (k ds) C → Q vs H') → tSemA X es σ H Q
def AAo {α : Type} (X : Cx) (es : List Expr) (m : (List D → M α) → En → M α) : Prop :=
  ∀ (G : Gh) (F : Hp) (σ : L2.St) (H : Hp) (ρ : En) (Q : List V → Hp → Prop) (k : List D → M α) (C : α → Hp → Hp → Prop), StOk X.K G F σ H ρ → W X G F σ ρ (m k ρ) C →
    (∀ ds vs F' H', Same F F' → StOk X.K G F' σ H' ρ → VOs X.K F' σ ρ vs ds → W X G F' σ ρ (k ds) C → Q vs H') → tSemA X es σ H Q
def Frs (K : Fg) (G : Gh) (F : Hp) (σ : L2.St) (H : Hp) (ρ : En) (v : V) (c : OC) : Prop := ∃ a, v = .ref a ∧ OwnAt K G F H a c ∧ ∀ (i : Nat) (e : OC), own ρ i e → σ[i]? ≠ some (some (V.ref a))
def AL (X : Cx) (e : Expr) (p : Pu (List D)) : Prop :=
  ∀ (G : Gh) (F : Hp) (σ : L2.St) (H : Hp) (ρ : En) (Q : VK), StOk X.K G F σ H ρ → W X G F σ ρ (p ρ) (fun ds F' H' => ∀ v, Frs X.K G F' σ H' ρ v (.l ds) → Q v H') → tSem X e σ H Q
def pVar (i : Nat) : Pu D := fun ρ => match ρ[i]? with
  | some (some (.fz d)) => .ret d
  | _ => .bad
def pPeek (i : Nat) : Pu D := fun ρ => match ρ[i]? with
  | some (some (.ol (.l ds))) => .ret (.list ds)
  | some (some (.op (.l ds))) => .ret (.list ds)
  | _ => .bad
def pCon (d : D) : Pu D := fun _ => .ret d
def pBin (f : D → D → Option D) (a b : Pu D) : Pu D := fun ρ => bd (a ρ) fun x => bd (b ρ) fun y => oM (f x y)
def pBinL (f : D → D → Option (List D)) (a b : Pu D) : Pu (List D) := fun ρ => bd (a ρ) fun x => bd (b ρ) fun y => oM (f x y)
def pBinB (f : D → D → Option Bool) (a b : Pu D) : Pu Bool := fun ρ => bd (a ρ) fun x => bd (b ρ) fun y => oM (f x y)
def pUn (f : D → Option D) (a : Pu D) : Pu D := fun ρ => bd (a ρ) fun x => oM (f x)
abbrev Pa (α : Type) := (List D → M α) → En → M α
def pNil {α : Type} : Pa α := fun k _ => k []
def pCons {α : Type} (a : Pu D) (r : Pa α) : Pa α := fun k ρ => bd (a ρ) fun x => r (fun xs => k (x :: xs)) ρ
def fitM {S : Type} (ds : List S) : M (List S) := if ds.length ≤ sizeLine then .ret ds else .bad
def pTup (ps : Pa D) : Pu D := fun ρ => ps (fun ds => .ret (.tuple ds)) ρ
def pLst (ps : Pa (List D)) : Pu (List D) := fun ρ => ps (fun ds => .ret ds) ρ
theorem le1000 {n : Nat} (h : n ≤ 1000) : n ≤ sizeLine := Nat.le_trans h (by decide)
def pCall (f : List D → Option D) (ps : Pa D) : Pu D := fun ρ => ps (fun ds => oM (f ds)) ρ
def pCallB (f : List D → Option Bool) (ps : Pa Bool) : Pu Bool := fun ρ => ps (fun ds => oM (f ds)) ρ
def pCallL (f : List D → Option (List D)) (ps : Pa (List D)) : Pu (List D) := fun ρ => ps (fun ds => oM (f ds)) ρ
def pB (p : Pu Bool) : Pu D := fun ρ => bd (p ρ) fun b => .ret (.bool b)
def pZ (p : Pu (List D)) : Pu D := fun ρ => bd (p ρ) fun ds => .ret (.list ds)
def asB (d : D) : M Bool := match d with
  | .bool b => .ret b
  | _ => .bad
def pAsB (p : Pu D) : Pu Bool := fun ρ => bd (p ρ) asB
def truD : D → Option Bool
  | .none => some false
  | .bool b => some b
  | .int i => some (i != 0)
  | .str x => if x.length ≤ sizeLine then some ((x.length : Int) != 0) else none
  | .list ds => some (!ds.isEmpty)
  | .tuple ds => some (!ds.isEmpty)
  | .dict _ => none
def pTru (p : Pu D) : Pu Bool := fun ρ => bd (p ρ) fun d => oM (truD d)
def pAnd (a b : Pu Bool) : Pu Bool := fun ρ => bd (a ρ) fun t => if t then b ρ else .ret false
def pOr (a b : Pu Bool) : Pu Bool := fun ρ => bd (a ρ) fun t => if t then .ret true else b ρ
def pNot (a : Pu Bool) : Pu Bool := fun ρ => bd (a ρ) fun t => .ret (!t)
def pIf {α : Type} (c : Pu Bool) (a b : Pu α) : Pu α := fun ρ => bd (c ρ) fun t => if t then a ρ else b ρ
def OpD (K : Fg) (r : R2) (f : D → D → Option D) : Prop :=
  ∀ (G : Gh) (F : Hp) (σ : L2.St) (H : Hp) (ρ : En) (x y : V) (dx dy : D) (res : D) (Q : VK), StOk K G F σ H ρ → OR K F H x dx → OR K F H y dy → f dx dy = some res →
    (∀ v F' H', Same F F' → StOk K G F' σ H' ρ → Rep K F' v res → Q v H') → r x y H Q
def OpL (K : Fg) (r : R2) (f : D → D → Option (List D)) : Prop :=
  ∀ (G : Gh) (F : Hp) (σ : L2.St) (H : Hp) (ρ : En) (x y : V) (dx dy : D) (res : List D) (Q : VK), StOk K G F σ H ρ → OR K F H x dx → OR K F H y dy → f dx dy = some res →
    (∀ v F' H', Same F F' → StOk K G F' σ H' ρ → Frs K G F' σ H' ρ v (.l res) → Q v H') → r x y H Q
def OpB (K : Fg) (r : R2) (f : D → D → Option Bool) : Prop :=
  ∀ (G : Gh) (F : Hp) (σ : L2.St) (H : Hp) (ρ : En) (x y : V) (dx dy : D) (res : Bool) (Q : VK), StOk K G F σ H ρ → OR K F H x dx → OR K F H y dy → f dx dy = some res → Q (.bl res) H → r x y H Q
def UnD (K : Fg) (r : V → Hp → VK → Prop) (f : D → Option D) : Prop :=
  ∀ (G : Gh) (F : Hp) (σ : L2.St) (H : Hp) (ρ : En) (x : V) (dx : D) (res : D) (Q : VK), StOk K G F σ H ρ → OR K F H x dx → f dx = some res →
    (∀ v F' H', Same F F' → StOk K G F' σ H' ρ → Rep K F' v res → Q v H') → r x H Q
def CallD (K : Fg) (r : List V → Hp → VK → Prop) (f : List D → Option D) : Prop :=
  ∀ (G : Gh) (F : Hp) (σ : L2.St) (H : Hp) (ρ : En) (xs : List V) (ds : List D) (res : D) (Q : VK), StOk K G F σ H ρ → ORs K F H xs ds → f ds = some res →
    (∀ v F' H', Same F F' → StOk K G F' σ H' ρ → Rep K F' v res → Q v H') → r xs H Q
def CallBo (K : Fg) (r : List V → Hp → VK → Prop) (f : List D → Option Bool) : Prop :=
  ∀ (G : Gh) (F : Hp) (σ : L2.St) (H : Hp) (ρ : En) (xs : List V) (ds : List D) (res : Bool) (Q : VK), StOk K G F σ H ρ → ORs K F H xs ds → f ds = some res → Q (.bl res) H → r xs H Q
section
variable {X : Cx} {e a b c : Expr} {es rest : List Expr} {p pa pb : Pu D} {ta tb tc : Pu Bool} {ps : Pa D} {pb' : Pa Bool} {pl : Pa (List D)} {α : Type} {pα : Pa α} {qs : Pu (List D)} {pos : Pos}
theorem ap_var {i : Nat} {x : Str} (hN : X.N[i]? = some x) (hv : Vis X.env.scope x) (hd : (x == ("__debug__" : Str)) = false := by decide) (hcd : (x == ("__classdict__" : Str)) = false := by decide) : AP X (.Name x pos) (pVar i) :=
  fun G F σ H ρ Q S w => sem (pe_var hN hv hd hcd) <| by
    unfold pVar at w
    split at w
    · rename_i d q
      obtain ⟨v, e1, r1⟩ := S.fz i d q
      exact ⟨v, e1, w F H (Same.refl _) S v r1⟩
    · exact w.elim
theorem ao_peek {i : Nat} {x : Str} (hN : X.N[i]? = some x) (hv : Vis X.env.scope x) (hd : (x == ("__debug__" : Str)) = false := by decide) (hcd : (x == ("__classdict__" : Str)) = false := by decide) : AO X (.Name x pos) (pPeek i) :=
  fun G F σ H ρ Q S w => sem (pe_var hN hv hd hcd) <| by
    have go : ∀ ds, ownL ρ i = some ds → W X G F σ ρ (.ret (.list ds)) (fun d F' H' => ∀ v, VO X.K F' σ ρ v d → Q v H') → tVar i σ H Q := fun ds ho w => by
      obtain ⟨a, e1, oa⟩ := S.ow i _ (ownL_own ho)
      exact ⟨_, e1, w F H (Same.refl _) S _ (.inr ⟨i, ds, ho, e1, rfl⟩)⟩
    unfold pPeek at w
    split at w
    · rename_i ds q; exact go ds (by unfold ownL; rw [q]) w
    · rename_i ds q; exact go ds (by unfold ownL; rw [q]) w
    · exact w.elim
theorem ao (h : AP X e p) : AO X e p := fun G F σ H ρ Q S w => h G F σ H ρ Q S (w.imp fun d F' H' _ _ q v r => q v (.inl r))
theorem ap_con {v : V} {d : D} (h : PE X e (tC v)) (r : ∀ F, Rep X.K F v d) : AP X e (pCon d) :=
  fun G F σ H ρ Q S w => sem h (w F H (Same.refl _) S v (r F))
theorem ap_int {i j} : AP X (.Constant (.int i) j pos) (pCon (.int i)) := ap_con pe_int fun _ => .int _
theorem ap_bl {i j} : AP X (.Constant (.bool i) j pos) (pCon (.bool i)) := ap_con pe_bl fun _ => .bl _
theorem ap_str {i j} : AP X (.Constant (.str i) j pos) (pCon (.str i)) := ap_con pe_str fun _ => .str _
theorem bin_go {r : R2} {Q : VK} {G : Gh} {F H : Hp} {σ : L2.St} {ρ : En} {α : Type} {f : D → D → M α} {C : α → Hp → Hp → Prop} (ha : AO X a pa) (hb : AO X b pb) (S : StOk X.K G F σ H ρ) (w : W X G F σ ρ (bd (pa ρ) fun x => bd (pb ρ) fun y => f x y) C)
    (k : ∀ x y dx dy F' H', Same F F' → StOk X.K G F' σ H' ρ → OR X.K F' H' x dx → OR X.K F' H' y dy → W X G F' σ ρ (f dx dy) C → r x y H' Q) : tOp r (tSem X a) (tSem X b) σ H Q :=
  ha G F σ H ρ _ S (w.bind.imp fun dx F1 H1 s1 S1 w1 x hx => hb G F1 σ H1 ρ _ S1 (w1.bind.imp fun dy F2 H2 s2 S2 w2 y hy => k x y dx dy F2 H2 (s1.trans s2) S2 ((hx.mono s2).or S2) (hy.or S2) w2))
theorem ap_bin {op : Operator} {r : R2} {f : D → D → Option D} (ho : OpR X (binaryOp op) r) (hf : OpD X.K r f) (ha : AO X a pa) (hb : AO X b pb) : AP X (.BinOp a op b pos) (pBin f pa pb) :=
  fun G F σ H ρ Q S w => sem (pe_op ho pe_sem pe_sem) (bin_go ha hb S w fun x y dx dy F' H' s' S' hx hy w' => by
    obtain ⟨res, e, k⟩ := w'.opt
    exact hf G F' σ H' ρ x y dx dy res Q S' hx hy e fun v F2 H2 s2 S2 r2 => k F2 H2 s2 S2 v r2)
theorem al_bin {op : Operator} {r : R2} {f : D → D → Option (List D)} (ho : OpR X (binaryOp op) r) (hf : OpL X.K r f) (ha : AO X a pa) (hb : AO X b pb) : AL X (.BinOp a op b pos) (pBinL f pa pb) :=
  fun G F σ H ρ Q S w => sem (pe_op ho pe_sem pe_sem) (bin_go ha hb S w fun x y dx dy F' H' s' S' hx hy w' => by
    obtain ⟨res, e, k⟩ := w'.opt
    exact hf G F' σ H' ρ x y dx dy res Q S' hx hy e fun v F2 H2 s2 S2 r2 => k F2 H2 s2 S2 v r2)
theorem ap_ix {r : R2} {f : D → D → Option D} (hr : IxR X r) (hf : OpD X.K r f) (ha : AO X a pa) (hb : AO X b pb) (hs : PlainIx b) : AP X (.Subscript a b pos) (pBin f pa pb) :=
  fun G F σ H ρ Q S w => sem (pe_ix hr pe_sem pe_sem hs) (bin_go ha hb S w fun x y dx dy F' H' s' S' hx hy w' => by
    obtain ⟨res, e, k⟩ := w'.opt
    exact hf G F' σ H' ρ x y dx dy res Q S' hx hy e fun v F2 H2 s2 S2 r2 => k F2 H2 s2 S2 v r2)
theorem ab_cmp {op : CmpOp} {r : R2} {f : D → D → Option Bool} (ho : OpR X (compareOp op) r) (hf : OpB X.K r f) (ha : AO X a pa) (hb : AO X b pb) (hm : behindInMarks op b = false) : AB X (.Compare a [op] [b] pos) (pBinB f pa pb) :=
  fun G F σ H ρ Q S w => sem (pe_cmpR ho pe_sem pe_sem hm) (bin_go ha hb S w fun x y dx dy F' H' s' S' hx hy w' => by
    obtain ⟨res, e, k⟩ := w'.opt
    exact hf G F' σ H' ρ x y dx dy res Q S' hx hy e (k F' H' (Same.refl _) S'))
theorem at_cmp {op : CmpOp} {r : R2} {f : D → D → Option Bool} (ho : OpR X (compareOp op) r) (hf : OpB X.K r f) (ha : AO X a pa) (hb : AO X b pb) (hm : behindInMarks op b = false) : AT X (.Compare a [op] [b] pos) (pBinB f pa pb) :=
  fun G F σ H ρ Q S w => semT (pt_cmpR ho pe_sem pe_sem hm) (bin_go (Q := fun x H' => ∃ k, x = .bl k ∧ Q k H') ha hb S w fun x y dx dy F' H' s' S' hx hy w' => by
    obtain ⟨res, e, k⟩ := w'.opt
    exact hf G F' σ H' ρ x y dx dy res _ S' hx hy e ⟨res, rfl, k F' H' (Same.refl _) S'⟩)
theorem ap_b (h : AB X e ta) : AP X e (pB ta) := fun G F σ H ρ Q S w => h G F σ H ρ Q S (w.bind.imp fun b F' H' s1 S1 w1 => w1 F' H' (Same.refl _) S1 _ (.bl b))
theorem ap_un {op : UnaryOp} {r : V → Hp → VK → Prop} {f : D → Option D} (ho : UnR X (unaryOp op) r) (hf : UnD X.K r f) (ha : AO X a pa) : AP X (.UnaryOp op a pos) (pUn f pa) :=
  fun G F σ H ρ Q S w => sem (pe_un ho pe_sem) (ha G F σ H ρ _ S (w.bind.imp fun dx F1 H1 s1 S1 w1 x hx => by
    obtain ⟨res, e, k⟩ := w1.opt
    exact hf G F1 σ H1 ρ x dx res Q S1 (hx.or S1) e fun v F2 H2 s2 S2 r2 => k F2 H2 s2 S2 v r2))
theorem ap_z (h : AL X e qs) : AP X e (pZ qs) := fun G F σ H ρ Q S w => h G F σ H ρ Q S (w.bind.imp fun ds F' H' s1 S1 w1 v fr => by
  obtain ⟨F2, s2, S2, r2⟩ := S1.settle (v := v) (ds := ds) fr
  exact w1 F2 H' s2 S2 v r2)
theorem aa_nil : AA (α := α) X [] pNil := fun G F σ H ρ Q k C S w kk => semA pa_nil (kk [] [] F H (Same.refl _) S rfl .nil w)
theorem aa_cons (h : AP X e p) (hr : AA X es pα) (hs : starEach (e :: es) X.env = (false, eval e X.env) :: starEach es X.env) : AA X (e :: es) (pCons p pα) :=
  fun G F σ H ρ Q k C S w kk => semA (pa_cons pe_sem pa_sem hs) (h G F σ H ρ _ S (w.bind.imp fun d F1 H1 s1 S1 w1 v r1 =>
    hr G F1 σ H1 ρ _ _ C S1 w1 fun ds vs F2 H2 s2 S2 hl r2 w2 => kk (d :: ds) (v :: vs) F2 H2 (s1.trans s2) S2 (by simp [hl]) (.cons (r1.mono s2) r2) w2))
theorem aao_nil : AAo (α := α) X [] pNil := fun G F σ H ρ Q k C S w kk => semA pa_nil (kk [] [] F H (Same.refl _) S .nil w)
theorem aao_cons (h : AO X e p) (hr : AAo X es pα) (hs : starEach (e :: es) X.env = (false, eval e X.env) :: starEach es X.env) : AAo X (e :: es) (pCons p pα) :=
  fun G F σ H ρ Q k C S w kk => semA (pa_cons pe_sem pa_sem hs) (h G F σ H ρ _ S (w.bind.imp fun d F1 H1 s1 S1 w1 v r1 =>
    hr G F1 σ H1 ρ _ _ C S1 w1 fun ds vs F2 H2 s2 S2 r2 w2 => kk (d :: ds) (v :: vs) F2 H2 (s1.trans s2) S2 (.cons (r1.mono s2) r2) w2))
theorem W.fit {α : Type} {G : Gh} {F : Hp} {σ : L2.St} {ρ : En} {ds : List α} {C : List α → Hp → Hp → Prop} (h : W X G F σ ρ (fitM ds) C) : ds.length ≤ sizeLine ∧ ∀ F' H', Same F F' → StOk X.K G F' σ H' ρ → C ds F' H' := by
  unfold fitM at h
  split at h
  · exact ⟨by assumption, h⟩
  · exact h.elim
theorem ap_tup {x1} (h : AA X es ps) (hz : es.length ≤ 1000) : AP X (.Tuple es x1 pos) (pTup ps) :=
  fun G F σ H ρ Q S w => sem (pe_tup pa_sem) (h G F σ H ρ _ _ _ S w fun ds vs F1 H1 s1 S1 hl r1 w1 => by
    refine ⟨by rw [hl]; exact le1000 hz, fun q hq => ?_⟩
    obtain ⟨s2, S2, r2⟩ := S1.newTup hq r1
    exact w1 _ _ s2 S2 _ r2)
theorem al_lst (h : AA X es pl) (hz : es.length ≤ 1000) : AL X (.List es pos) (pLst pl) :=
  fun G F σ H ρ Q S w => sem (pe_lst pa_sem) (h G F σ H ρ _ _ _ S w fun ds vs F1 H1 s1 S1 hl r1 w1 => by
    refine ⟨by rw [hl]; exact le1000 hz, fun q hq => ?_⟩
    obtain ⟨S2, r2⟩ := S1.newLst hq r1
    exact w1 _ _ (Same.refl _) S2 _ r2)
theorem call_go {r : List V → Hp → VK → Prop} {Q : VK} {G : Gh} {F H : Hp} {σ : L2.St} {ρ : En} {f : List D → M α} {C : α → Hp → Hp → Prop} (ha : AAo X es pα) (S : StOk X.K G F σ H ρ) (w : W X G F σ ρ (pα f ρ) C)
    (k : ∀ xs ds F' H', Same F F' → StOk X.K G F' σ H' ρ → ORs X.K F' H' xs ds → W X G F' σ ρ (f ds) C → r xs H' Q) : tCB r (tSemA X es) σ H Q :=
  ha G F σ H ρ _ _ C S w fun ds xs F1 H1 s1 S1 hx w1 => k xs ds F1 H1 s1 S1 (hx.ors S1) w1
theorem ap_callB {x : Str} {p : Pos} {id : String} {r : List V → Hp → VK → Prop} {f : List D → Option D} (hc : CallR X (.builtin id) r) (hf : CallD X.K r f) (hg : Gl X x) (hm : X.mg x = none) (hv : bootBuiltins x = some (.builtin id)) (ha : AAo X (e :: es) ps)
    (hn : x ≠ "__name__") (hdb : (x == ("__debug__" : Str)) = false) (he : starEach (e :: es) X.env = (false, eval e X.env) :: starEach es X.env) (hpl : (backTo pos (starEach es X.env)).any (·.1) = false) : AP X (.Call (.Name x p) (e :: es) [] pos) (pCall f ps) :=
  fun G F σ H ρ Q S w => sem (pe_callB hc hg hm hv pa_sem hn hdb he hpl) (call_go ha S w fun xs ds F' H' s' S' hx w' => by
    obtain ⟨res, e, k⟩ := w'.opt
    exact hf G F' σ H' ρ xs ds res Q S' hx e fun v F2 H2 s2 S2 r2 => k F2 H2 s2 S2 v r2)
theorem ab_callB {x : Str} {p : Pos} {id : String} {r : List V → Hp → VK → Prop} {f : List D → Option Bool} (hc : CallR X (.builtin id) r) (hf : CallBo X.K r f) (hg : Gl X x) (hm : X.mg x = none) (hv : bootBuiltins x = some (.builtin id)) (ha : AAo X (e :: es) pb')
    (hn : x ≠ "__name__") (hdb : (x == ("__debug__" : Str)) = false) (he : starEach (e :: es) X.env = (false, eval e X.env) :: starEach es X.env) (hpl : (backTo pos (starEach es X.env)).any (·.1) = false) : AB X (.Call (.Name x p) (e :: es) [] pos) (pCallB f pb') :=
  fun G F σ H ρ Q S w => sem (pe_callB hc hg hm hv pa_sem hn hdb he hpl) (call_go ha S w fun xs ds F' H' s' S' hx w' => by
    obtain ⟨res, e, k⟩ := w'.opt
    exact hf G F' σ H' ρ xs ds res Q S' hx e (k F' H' (Same.refl _) S'))
theorem ap_callTy {x : Str} {p : Pos} {T : String} {r : List V → Hp → VK → Prop} {f : List D → Option D} (hc : CallR X (.type T) r) (hf : CallD X.K r f) (hg : Gl X x) (hm : X.mg x = none) (hv : bootBuiltins x = some (.type T)) (ha : AAo X (e :: es) ps)
    (hn : x ≠ "__name__") (hdb : (x == ("__debug__" : Str)) = false) (he : starEach (e :: es) X.env = (false, eval e X.env) :: starEach es X.env) (hpl : (backTo pos (starEach es X.env)).any (·.1) = false) : AP X (.Call (.Name x p) (e :: es) [] pos) (pCall f ps) :=
  fun G F σ H ρ Q S w => sem (pe_callTy hc hg hm hv pa_sem hn hdb he hpl) (call_go ha S w fun xs ds F' H' s' S' hx w' => by
    obtain ⟨res, e, k⟩ := w'.opt
    exact hf G F' σ H' ρ xs ds res Q S' hx e fun v F2 H2 s2 S2 r2 => k F2 H2 s2 S2 v r2)
theorem isEmpty_repL {K : Fg} {F : Hp} {vs : List V} {ds : List D} (h : RepL K F vs ds) : (!vs.isEmpty) = !ds.isEmpty := by cases h <;> rfl
theorem at_tru (ha : AO X a pa) (he : ∀ whole, isTrue a X.env whole = (do let v ← whole; standAt a.pos; holding [v] (truthy v))) : AT X a (pTru pa) :=
  fun G F σ H ρ Q S w => semT (pt_truth pe_sem he) (ha G F σ H ρ _ S (w.bind.imp fun x F1 H1 s1 S1 w1 v hv => by
    obtain ⟨bb, hb, k⟩ := w1.opt
    refine ⟨bb, ?_, k F1 H1 (Same.refl _) S1⟩
    have o := hv.or S1
    cases x with
    | none => rw [o.none]; cases hb; exact rfl
    | bool i => rw [o.bool]; cases hb; exact rfl
    | int i => rw [o.int]; cases hb; exact rfl
    | str i =>
      rw [o.str]
      unfold truD at hb
      dsimp only at hb
      split at hb
      · rename_i hl; cases hb; exact ⟨hl, rfl⟩
      · cases hb
    | list ds => obtain ⟨a, vs, rfl, h1, h2⟩ := o.list S1.fh; cases hb; exact .inl ⟨vs, h1, (isEmpty_repL h2).symm⟩
    | tuple ds => obtain ⟨a, vs, rfl, h1, h2⟩ := o.tuple S1.fh; cases hb; exact .inr (.inl ⟨vs, h1, (isEmpty_repL h2).symm⟩)
    | dict ds => cases hb))
theorem at_b (ha : AB X a ta) (he : ∀ whole, isTrue a X.env whole = (do let v ← whole; standAt a.pos; holding [v] (truthy v))) : AT X a ta :=
  fun G F σ H ρ Q S w => semT (pt_truth pe_sem he) (ha G F σ H ρ _ S (w.imp fun x F1 H1 s1 S1 w1 => ⟨x, rfl, w1⟩))
theorem aw_and1 (ha : AT X a ta) : AW X (.BoolOp .And [a] pos) ta := fun G F σ H ρ Q S w => semW (pw_and1 pt_sem) (ha G F σ H ρ Q S w)
theorem aw_or1 (ha : AT X a ta) : AW X (.BoolOp .Or [a] pos) ta := fun G F σ H ρ Q S w => semW (pw_or1 pt_sem) (ha G F σ H ρ Q S w)
theorem aw_and (ha : AT X a ta) (hb : AW X (.BoolOp .And (b :: rest) pos) tb) : AW X (.BoolOp .And (a :: b :: rest) pos) (pAnd ta tb) :=
  fun G F σ H ρ Q S w => semW (pw_and pt_sem pw_sem) (ha G F σ H ρ _ S (w.bind.imp fun t F1 H1 s1 S1 w1 => by
    cases t with
    | true => refine iteT ?_; exact hb G F1 σ H1 ρ Q S1 w1
    | false => refine iteF ?_; exact w1 F1 H1 (Same.refl _) S1))
theorem aw_or (ha : AT X a ta) (hb : AW X (.BoolOp .Or (b :: rest) pos) tb) : AW X (.BoolOp .Or (a :: b :: rest) pos) (pOr ta tb) :=
  fun G F σ H ρ Q S w => semW (pw_or pt_sem pw_sem) (ha G F σ H ρ _ S (w.bind.imp fun t F1 H1 s1 S1 w1 => by
    cases t with
    | true => refine iteT ?_; exact w1 F1 H1 (Same.refl _) S1
    | false => refine iteF ?_; exact hb G F1 σ H1 ρ Q S1 w1))
theorem at_aw (h : AW X e ta) : AT X e ta := fun G F σ H ρ Q S w => semT (fun pins s σ H Q I h => pw_sem _ pins s σ H Q I h) (h G F σ H ρ Q S w)
theorem at_not (ha : AT X a ta) : AT X (.UnaryOp .Not a pos) (pNot ta) :=
  fun G F σ H ρ Q S w => semT (pt_not pt_sem) (ha G F σ H ρ _ S (w.bind.imp fun t F1 H1 s1 S1 w1 => w1 F1 H1 (Same.refl _) S1))
theorem ab_as (h : AP X a pa) : AB X a (pAsB pa) := fun G F σ H ρ Q S w => h G F σ H ρ Q S (w.bind.imp fun d F1 H1 s1 S1 w1 v r => by
  cases r with
  | bl b => exact w1 F1 H1 (Same.refl _) S1
  | non => exact w1.elim
  | int i => exact w1.elim
  | str i => exact w1.elim
  | tup _ _ => exact w1.elim
  | lst _ _ => exact w1.elim)
theorem ab_one {op} (h : AB X a ta) : AB X (.BoolOp op [a] pos) ta := fun G F σ H ρ Q S w => sem (pe_one pe_sem) (h G F σ H ρ Q S w)
theorem ab_and (ha : AB X a ta) (hb : AB X (.BoolOp .And (b :: rest) pos) tb) : AB X (.BoolOp .And (a :: b :: rest) pos) (pAnd ta tb) :=
  fun G F σ H ρ Q S w => sem (pe_and pe_sem pe_sem) (ha G F σ H ρ _ S (w.bind.imp fun t F1 H1 s1 S1 w1 => ⟨t, rfl, by
    cases t with
    | true => refine iteT ?_; exact hb G F1 σ H1 ρ Q S1 w1
    | false => refine iteF ?_; exact w1 F1 H1 (Same.refl _) S1⟩))
theorem ab_or (ha : AB X a ta) (hb : AB X (.BoolOp .Or (b :: rest) pos) tb) : AB X (.BoolOp .Or (a :: b :: rest) pos) (pOr ta tb) :=
  fun G F σ H ρ Q S w => sem (pe_or pe_sem pe_sem) (ha G F σ H ρ _ S (w.bind.imp fun t F1 H1 s1 S1 w1 => ⟨t, rfl, by
    cases t with
    | true => refine iteT ?_; exact w1 F1 H1 (Same.refl _) S1
    | false => refine iteF ?_; exact hb G F1 σ H1 ρ Q S1 w1⟩))
theorem ab_not (ha : AB X a ta) : AB X (.UnaryOp .Not a pos) (pNot ta) :=
  fun G F σ H ρ Q S w => sem (pe_not pe_sem) (ha G F σ H ρ _ S (w.bind.imp fun t F1 H1 s1 S1 w1 => ⟨t, rfl, w1 F1 H1 (Same.refl _) S1⟩))
theorem ap_if (hc : AT X c tc) (ha : AP X a pa) (hb : AP X b pb) : AP X (.IfExp c a b pos) (pIf tc pa pb) :=
  fun G F σ H ρ Q S w => sem (pe_ifExp pt_sem pe_sem pe_sem) (hc G F σ H ρ _ S (w.bind.imp fun t F1 H1 s1 S1 w1 => by
    cases t with
    | true => refine iteT ?_; exact ha G F1 σ H1 ρ Q S1 w1
    | false => refine iteF ?_; exact hb G F1 σ H1 ρ Q S1 w1))
theorem al_if {qa qb : Pu (List D)} (hc : AT X c tc) (ha : AL X a qa) (hb : AL X b qb) : AL X (.IfExp c a b pos) (pIf tc qa qb) :=
  fun G F σ H ρ Q S w => sem (pe_ifExp pt_sem pe_sem pe_sem) (hc G F σ H ρ _ S (w.bind.imp fun t F1 H1 s1 S1 w1 => by
    cases t with
    | true => refine iteT ?_; exact ha G F1 σ H1 ρ Q S1 w1
    | false => refine iteF ?_; exact hb G F1 σ H1 ρ Q S1 w1))
end
end L4
set_option Elab.async false
set_option linter.all false
set_option maxRecDepth 100000
namespace L4
open PySem PySem.Spec PyProof.Rows L2 L3
def mulOk (i j : Int) : Bool := (decide (-(2 ^ 64) < i) && decide (i < 2 ^ 64)) || (decide (-(2 ^ 64) < j) && decide (j < 2 ^ 64))
def opAdd : D → D → Option D
  | .int i, .int j => some (.int (i + j))
  | .str a, .str b => if a.length + b.length ≤ sizeLine then some (.str (a ++ b)) else none
  | .tuple a, .tuple b => if a.length + b.length ≤ sizeLine then some (.tuple (a ++ b)) else none
  | .list a, .list b => if a.length + b.length ≤ sizeLine then some (.list (a ++ b)) else none
  | _, _ => none
def opAddL : D → D → Option (List D)
  | .list a, .list b => if a.length + b.length ≤ sizeLine then some (a ++ b) else none
  | _, _ => none
def opSub : D → D → Option D
  | .int i, .int j => some (.int (i - j))
  | _, _ => none
def opMulI : D → D → Option D
  | .int i, .int j => if mulOk i j then some (.int (i * j)) else none
  | _, _ => none
def opMulL : D → D → Option (List D)
  | .list a, .int k => if decide (-(2 ^ 63) ≤ k) && decide (k < 2 ^ 63) && decide (a.length * k.toNat ≤ sizeLine) then some (List.replicate k.toNat a).flatten else none
  | _, _ => none
def opDiv : D → D → Option D
  | .int i, .int j => if decide (0 < j) && decide (j < 1073741824) then some (.int (i / j)) else none
  | _, _ => none
def opMod : D → D → Option D
  | .int i, .int j => if 0 < j then some (.int (i % j)) else none
  | _, _ => none
def opPow : D → D → Option D
  | .int i, .int j => if decide (0 ≤ j) && decide (j ≤ 1000000) && decide (i.natAbs < 2 ^ 64) then some (.int (i ^ j.toNat)) else none
  | _, _ => none
def opNeg : D → Option D
  | .int i => some (.int (-i))
  | _ => none
def opLt : D → D → Option Bool
  | .int i, .int j => some (decide (i < j))
  | _, _ => none
def opLe : D → D → Option Bool
  | .int i, .int j => some (decide (i ≤ j))
  | _, _ => none
def opGt : D → D → Option Bool
  | .int i, .int j => some (decide (j < i))
  | _, _ => none
def opGe : D → D → Option Bool
  | .int i, .int j => some (decide (j ≤ i))
  | _, _ => none
def rCat0 (K : Fg) : R2 := fun x y H Q => ∃ a b xs ys, x = .ref a ∧ y = .ref b ∧ SqT K H a xs ∧ SqT K H b ys ∧ xs.length + ys.length ≤ sizeLine ∧
  (xs = [] → Q (.ref b) H) ∧ (xs ≠ [] → ys = [] → Q (.ref a) H) ∧ (xs ≠ [] → ys ≠ [] → ∀ p, H p = none → Q (.ref p) (upd H p (.tup (xs ++ ys))))
theorem op_cat0 {X : Cx} : OpR X (binaryOp .Add) (rCat0 X.K) := by
  intro pins s σ H x y v u Q I rx ry h
  obtain ⟨a, b, xs, ys, rfl, rfl, ha, hb, hz, q0, q1, q2⟩ := h
  by_cases hx : xs = []
  · cases rx
    cases ry
    obtain ⟨its, r1, p1, _⟩ := I.tuple ha
    obtain ⟨its2, r2, p2, _⟩ := I.tuple hb
    have hv : its = [] := r1.nil_iff.mpr hx
    obtain ⟨⟨cls, dd, data, sl⟩, ho, hc, n, hd⟩ := id p1
    obtain ⟨⟨cls2, dd2, data2, sl2⟩, ho2, hc2, n2, hd2⟩ := id p2
    simp only at hc hd hc2 hd2
    subst hc hd hc2 hd2
    exact concat_meets ⟨_, ho, rfl⟩ ⟨_, ho2, rfl⟩ noFill_tuple_add seq_tuple_add PySem.F.slot_tuple_add PySem.F.entry_tuple_add (PySem.F.args_tuple_add_2 _ _)
      (tuple_addW0 a b its.toArray its2.toArray n n2 dd dd2 sl sl2 (by simp [hv])) ⟨ho, ho2, ⟨.ref b, H, I, rfl, q0 hx⟩⟩
  · exact op_catT pins s σ H _ _ v u Q I rx ry ⟨a, b, xs, ys, rfl, rfl, ha, hb, hx, hz, q1 hx, q2 hx⟩
section
variable {K : Fg} {X : Cx}
theorem okI {C : Int → Int → Prop} {g : Int → Int → V} {f : D → D → Option D} (h : ∀ dx dy res, f dx dy = some res → ∃ i j, dx = .int i ∧ dy = .int j ∧ C i j ∧ ∀ K F, Rep K F (g i j) res) : OpD K (rI C g) f := by
  intro G F σ H ρ x y dx dy res Q S ox oy e k
  obtain ⟨i, j, rfl, rfl, hc, hr⟩ := h dx dy res e
  exact ⟨i, j, ox.int, oy.int, hc, k _ F H (Same.refl _) S (hr K F)⟩
theorem okB {g : Int → Int → Bool} {f : D → D → Option Bool} (h : ∀ dx dy res, f dx dy = some res → ∃ i j, dx = .int i ∧ dy = .int j ∧ res = g i j) : OpB K (rI0 fun i j => .bl (g i j)) f := by
  intro G F σ H ρ x y dx dy res Q S ox oy e k
  obtain ⟨i, j, rfl, rfl, rfl⟩ := h dx dy res e
  exact ⟨i, j, ox.int, oy.int, k⟩
theorem ok_sub : OpD K (rI0 fun i j => .int (i - j)) opSub := by
  intro G F σ H ρ x y dx dy res Q S ox oy e k
  cases dx <;> cases dy <;> cases e
  exact ⟨_, _, ox.int, oy.int, k _ F H (Same.refl _) S (.int _)⟩
theorem ok_lt : OpB K (rI0 fun i j => .bl (decide (i < j))) opLt := okB fun dx dy res e => by
  cases dx <;> cases dy <;> cases e
  exact ⟨_, _, rfl, rfl, rfl⟩
theorem ok_le : OpB K (rI0 fun i j => .bl (decide (i ≤ j))) opLe := okB fun dx dy res e => by
  cases dx <;> cases dy <;> cases e
  exact ⟨_, _, rfl, rfl, rfl⟩
theorem ok_gt : OpB K (rI0 fun i j => .bl (decide (j < i))) opGt := okB fun dx dy res e => by
  cases dx <;> cases dy <;> cases e
  exact ⟨_, _, rfl, rfl, rfl⟩
theorem ok_ge : OpB K (rI0 fun i j => .bl (decide (j ≤ i))) opGe := okB fun dx dy res e => by
  cases dx <;> cases dy <;> cases e
  exact ⟨_, _, rfl, rfl, rfl⟩
theorem ok_div : OpD K (rI CDiv fun i j => .int (i / j)) opDiv := okI fun dx dy res e => by
  cases dx <;> cases dy <;> try (cases e)
  rename_i i j
  dsimp only [opDiv] at e
  split at e
  · rename_i hc
    cases e
    simp only [Bool.and_eq_true, decide_eq_true_eq] at hc
    exact ⟨i, j, rfl, rfl, hc, fun _ _ => .int _⟩
  · cases e
theorem ok_mod : OpD K (rI (fun _ j => 0 < j) fun i j => .int (i % j)) opMod := okI fun dx dy res e => by
  cases dx <;> cases dy <;> try (cases e)
  rename_i i j
  dsimp only [opMod] at e
  split at e
  · rename_i hc
    cases e
    exact ⟨i, j, rfl, rfl, hc, fun _ _ => .int _⟩
  · cases e
theorem ok_pow : OpD K (rI CPow fun i j => .int (i ^ j.toNat)) opPow := okI fun dx dy res e => by
  cases dx <;> cases dy <;> try (cases e)
  rename_i i j
  dsimp only [opPow] at e
  split at e
  · rename_i hc
    cases e
    simp only [Bool.and_eq_true, decide_eq_true_eq] at hc
    exact ⟨i, j, rfl, rfl, ⟨hc.1.1, hc.1.2, hc.2⟩, fun _ _ => .int _⟩
  · cases e
theorem ok_neg : UnD K (rU fun i => .int (-i)) opNeg := by
  intro G F σ H ρ x dx res Q S ox e k
  cases dx <;> cases e
  exact ⟨_, ox.int, k _ F H (Same.refl _) S (.int _)⟩
theorem repL_nil_iff {F : Hp} {vs : List V} {ds : List D} (r : RepL K F vs ds) : vs = [] ↔ ds = [] := by cases r <;> simp
def rCatL (K : Fg) : R2 := fun x y H Q => ∃ l b xs zs, x = .ref l ∧ y = .ref b ∧ SqL K H l xs ∧ SqL K H b zs ∧ xs.length + zs.length ≤ sizeLine ∧ ∀ p, H p = none → Q (.ref p) (upd H p (.lst (xs ++ zs)))
theorem op_catL : OpR X (binaryOp .Add) (rCatL X.K) := by
  intro pins s σ H x y v u Q I rx ry h
  obtain ⟨l, b, xs, zs, rfl, rfl, hH, hB, hz, q⟩ := h
  cases rx
  cases ry
  obtain ⟨its, r, pl, _⟩ := I.list hH
  obtain ⟨its2, r2, pl2, _⟩ := I.list hB
  obtain ⟨⟨cls, dd, data, sl⟩, ho, hc, n, hd⟩ := id pl.isList
  obtain ⟨⟨cls2, dd2, data2, sl2⟩, ho2, hc2, n2, hd2⟩ := id pl2.isList
  simp only at hc hd hc2 hd2
  subst hc hd hc2 hd2
  have e : its.toArray ++ its2.toArray = (its ++ its2).toArray := by simp
  refine concat_meets ⟨_, ho, rfl⟩ ⟨_, ho2, rfl⟩ noFill_list_add seq_list_add PySem.F.slot_list_add PySem.F.entry_list_add (PySem.F.args_list_add_2 _ _) (list_addW l b its.toArray its2.toArray n n2 dd dd2 sl sl2 (by rw [List.size_toArray, List.size_toArray, ← r.length, ← r2.length]; exact hz)) ⟨ho, ho2, ?_⟩
  rw [e]
  exact ⟨.ref _, _, I.laid (t' := s.toks) (o := .lst (xs ++ zs)) (fun b ob q => Heap.get?_push_of_some _ q) (Nat.le_refl _) ⟨by rw [List.length_append]; exact hz, _, 0, r.append r2, Heap.get?_push_size _ rfl⟩, rfl, q _ (I.hok.fresh (Nat.le_refl _))⟩
theorem ok_catL : OpL K (rCatL K) opAddL := by
  intro G F σ H ρ x y dx dy res Q S ox oy e k
  cases dx <;> cases dy <;> try (cases e)
  dsimp only [opAddL] at e
  split at e
  · rename_i hz
    cases e
    obtain ⟨a, vs, rfl, h1, h2⟩ := ox.list S.fh
    obtain ⟨b, us, rfl, g1, g2⟩ := oy.list S.fh
    refine ⟨a, b, vs, us, rfl, rfl, h1, g1, by rw [h2.length, g2.length]; exact hz, fun p hp => ?_⟩
    obtain ⟨S2, r2⟩ := S.newLst hp (h2.append g2)
    exact k _ F _ (Same.refl _) S2 r2
  · cases e
def rStr2 : R2 := fun x y H Q => ∃ i j, x = .str i ∧ y = .str j ∧ i.length + j.length ≤ sizeLine ∧ Q (.str (i ++ j)) H
def rAdd0 (K : Fg) : R2 := fun x y H Q => rI0 (fun i j => .int (i + j)) x y H Q ∨ (rStr2 x y H Q ∨ (rCat0 K x y H Q ∨ rCatL K x y H Q))
theorem op_addA : OpR X (binaryOp .Add) (rAdd0 X.K) := op_add.or (OpR.or op_add_str (op_cat0.or op_catL))
theorem ok_add : OpD K (rAdd0 K) opAdd := by
  intro G F σ H ρ x y dx dy res Q S ox oy e k
  cases dx <;> cases dy <;> try (cases e)
  · exact .inl ⟨_, _, ox.int, oy.int, k _ F H (Same.refl _) S (.int _)⟩
  · dsimp only [opAdd] at e
    split at e
    · rename_i hz
      cases e
      exact .inr (.inl ⟨_, _, ox.str, oy.str, hz, k _ F H (Same.refl _) S (.str _)⟩)
    · cases e
  · dsimp only [opAdd] at e
    split at e
    · rename_i hz
      cases e
      obtain ⟨a, vs, rfl, h1, h2⟩ := ox.list S.fh
      obtain ⟨b, us, rfl, g1, g2⟩ := oy.list S.fh
      refine .inr (.inr (.inr ⟨a, b, vs, us, rfl, rfl, h1, g1, by rw [h2.length, g2.length]; exact hz, fun p hp => ?_⟩))
      obtain ⟨S2, r2⟩ := S.newLst hp (h2.append g2)
      obtain ⟨F2, s3, S3, r3⟩ := S2.settle r2
      exact k _ F2 _ s3 S3 r3
    · cases e
  · dsimp only [opAdd] at e
    split at e
    · rename_i hz
      cases e
      obtain ⟨a, vs, rfl, h1, h2⟩ := ox.tuple S.fh
      obtain ⟨b, us, rfl, g1, g2⟩ := oy.tuple S.fh
      refine .inr (.inr (.inl ⟨a, b, vs, us, rfl, rfl, h1, g1, by rw [h2.length, g2.length]; exact hz, fun z => ?_, fun _ z => ?_, fun _ _ p hp => ?_⟩))
      · have z' := (repL_nil_iff h2).mp z
        subst z'
        exact k _ F H (Same.refl _) S oy.tup'
      · have z' := (repL_nil_iff g2).mp z
        subst z'
        exact k _ F H (Same.refl _) S (by rw [List.append_nil]; exact ox.tup')
      · obtain ⟨s2, S2, r2⟩ := S.newTup hp (h2.append g2)
        exact k _ _ _ s2 S2 r2
    · cases e
theorem ok_mul : OpD K (rI CMul fun i j => .int (i * j)) opMulI := okI fun dx dy res e => by
  cases dx <;> cases dy <;> try (cases e)
  rename_i i j
  dsimp only [opMulI] at e
  split at e
  · rename_i hc
    cases e
    unfold mulOk at hc
    simp only [Bool.or_eq_true, Bool.and_eq_true, decide_eq_true_eq] at hc
    exact ⟨i, j, rfl, rfl, hc, fun _ _ => .int _⟩
  · cases e
end
def eqOk (d e : D) : Bool := d.canLay0 && e.canLay0 && decide (d.depth ≤ 1000)
def opEq (d e : D) : Option Bool := if eqOk d e then some (PyData.eqv d e) else none
def opNe (d e : D) : Option Bool := if eqOk d e then some (!PyData.eqv d e) else none
def inOk (d : D) (xs : List D) : Bool := PyData.canLayAll0 xs && d.canLay0 && decide (d.depth ≤ 1000)
def inStr (i j : Str) : Bool := !(Builtin.Str.occurrences j i 0 j.length 1).isEmpty
def opIn (d c : D) : Option Bool := match c with
  | .list xs => if inOk d xs then some (xs.any fun y => PyData.eqv y d) else none
  | .tuple xs => if inOk d xs then some (xs.any fun y => PyData.eqv y d) else none
  | .str j => match d with
    | .str i => some (inStr i j)
    | _ => none
  | _ => none
def opNotIn (d c : D) : Option Bool := match c with
  | .list xs => if inOk d xs then some (!xs.any fun y => PyData.eqv y d) else none
  | .tuple xs => if inOk d xs then some (!xs.any fun y => PyData.eqv y d) else none
  | .str j => match d with
    | .str i => some (!inStr i j)
    | _ => none
  | _ => none
def isNone : D → Bool
  | .none => true
  | _ => false
def opNotN (d e : D) : Option Bool := match e with
  | .none => some (!isNone d)
  | _ => none
def rD2 (K : Fg) (f : D → D → Option Bool) : R2 := fun x y H Q => ∃ d e b, Rep K H x d ∧ Rep K H y e ∧ f d e = some b ∧ Q (.bl b) H
theorem ok_D2 {K : Fg} {f : D → D → Option Bool} : OpB K (rD2 K f) f := by
  intro G F σ H ρ x y dx dy res Q S ox oy e k
  exact ⟨dx, dy, res, ox.rep S.fh, oy.rep S.fh, e, k⟩
theorem Rep.non_iff {K : Fg} {F : Hp} {v : V} {d : D} (r : Rep K F v d) : (decide (v = .non)) = isNone d := by
  cases r <;> rfl
section
variable {X : Cx}
theorem opr_eq (hu : X.A.units + 1100 < cLine) : OpR X (compareOp .Eq) (rD2 X.K opEq) := by
  intro pins s σ H x y v u Q I rx ry ⟨d, e, b, r1, r2, ho, q⟩
  obtain ⟨as, ra⟩ := (reads_of I).1 r1 rx
  obtain ⟨bs, rb⟩ := (reads_of I).1 r2 ry
  unfold opEq at ho
  split at ho
  case isFalse => cases ho
  rename_i hc
  cases ho
  simp only [eqOk, Bool.and_eq_true, decide_eq_true_eq] at hc
  exact SeqAt.compareEq_reads ra rb hc.1.1 hc.1.2 (by have := Nat.min_le_left d.depth e.depth; omega) ⟨.bl _, H, I, rfl, q⟩
theorem opr_ne (hu : X.A.units + 1100 < cLine) : OpR X (compareOp .NotEq) (rD2 X.K opNe) := by
  intro pins s σ H x y v u Q I rx ry ⟨d, e, b, r1, r2, ho, q⟩
  obtain ⟨as, ra⟩ := (reads_of I).1 r1 rx
  obtain ⟨bs, rb⟩ := (reads_of I).1 r2 ry
  unfold opNe at ho
  split at ho
  case isFalse => cases ho
  rename_i hc
  cases ho
  simp only [eqOk, Bool.and_eq_true, decide_eq_true_eq] at hc
  exact SeqAt.compareNe_reads ra rb hc.1.1 hc.1.2 (by have := Nat.min_le_left d.depth e.depth; omega) ⟨.bl _, H, I, rfl, q⟩
theorem opr_in (hu : X.A.units + 1100 < cLine) : OpR X (compareOp .In) (rD2 X.K opIn) := by
  intro pins s σ H x y v u Q I rx ry ⟨d, e, b, r1, r2, ho, q⟩
  obtain ⟨as, ra⟩ := (reads_of I).1 r1 rx
  obtain ⟨bs, rb⟩ := (reads_of I).1 r2 ry
  unfold opIn at ho
  split at ho
  · rename_i xs
    split at ho
    case isFalse => cases ho
    rename_i hc
    cases ho
    simp only [inOk, Bool.and_eq_true, decide_eq_true_eq] at hc
    exact SeqAt.in_list_reads rb ra hc.1.1 hc.1.2 (by have := Nat.min_le_right (PyData.depthAll xs) d.depth; omega) ⟨.bl _, H, I, rfl, q⟩
  · rename_i xs
    split at ho
    case isFalse => cases ho
    rename_i hc
    cases ho
    simp only [inOk, Bool.and_eq_true, decide_eq_true_eq] at hc
    exact SeqAt.in_tuple_reads rb ra hc.1.1 hc.1.2 (by have := Nat.min_le_right (PyData.depthAll xs) d.depth; omega) ⟨.bl _, H, I, rfl, q⟩
  · split at ho
    · cases ho
      cases r1
      cases r2
      exact op_in_str pins s σ H _ _ v u Q I rx ry ⟨_, _, rfl, rfl, q⟩
    · cases ho
  · cases ho
theorem opr_notIn (hu : X.A.units + 1100 < cLine) : OpR X (compareOp .NotIn) (rD2 X.K opNotIn) := by
  intro pins s σ H x y v u Q I rx ry ⟨d, e, b, r1, r2, ho, q⟩
  obtain ⟨as, ra⟩ := (reads_of I).1 r1 rx
  obtain ⟨bs, rb⟩ := (reads_of I).1 r2 ry
  unfold opNotIn at ho
  split at ho
  · rename_i xs
    split at ho
    case isFalse => cases ho
    rename_i hc
    cases ho
    simp only [inOk, Bool.and_eq_true, decide_eq_true_eq] at hc
    exact SeqAt.notIn_list_reads rb ra hc.1.1 hc.1.2 (by have := Nat.min_le_right (PyData.depthAll xs) d.depth; omega) ⟨.bl _, H, I, rfl, q⟩
  · rename_i xs
    split at ho
    case isFalse => cases ho
    rename_i hc
    cases ho
    simp only [inOk, Bool.and_eq_true, decide_eq_true_eq] at hc
    exact SeqAt.notIn_tuple_reads rb ra hc.1.1 hc.1.2 (by have := Nat.min_le_right (PyData.depthAll xs) d.depth; omega) ⟨.bl _, H, I, rfl, q⟩
  · split at ho
    · cases ho
      cases r1
      cases r2
      exact op_notin_str pins s σ H _ _ v u Q I rx ry ⟨_, _, rfl, rfl, q⟩
    · cases ho
  · cases ho
theorem opr_notN : OpR X (compareOp .IsNot) (rD2 X.K opNotN) := by
  intro pins s σ H x y v u Q I rx ry ⟨d, e, b, r1, r2, ho, q⟩
  unfold opNotN at ho
  split at ho
  · cases ho
    cases r2
    refine op_notN pins s σ H x _ v u Q I rx ry ⟨rfl, ?_⟩
    rw [Rep.non_iff r1]
    exact q
  · cases ho
end
def opIx : D → D → Option D
  | .list ds, .int i => atI ds i
  | .tuple ds, .int i => atI ds i
  | .str z, .int i => if z.length ≤ sizeLine then (atI z.cps.toList i).map fun c => .str ⟨#[c]⟩ else none
  | _, _ => none
theorem atI_rep {K : Fg} {F : Hp} {vs : List V} {ds : List D} {i : Int} {d : D} (r : RepL K F vs ds) (h : atI ds i = some d) : ∃ v, atI vs i = some v ∧ Rep K F v d := by
  unfold atI at h ⊢
  rw [r.length]
  cases q : ixN ds.length i with
  | none => rw [q] at h; cases h
  | some j =>
    rw [q] at h
    exact r.get (i := j) h
theorem ok_ix {K : Fg} : OpD K (rIx K) opIx := by
  intro G F σ H ρ x y dx dy res Q S ox oy e k
  cases dx <;> cases dy <;> try (cases e)
  · dsimp only [opIx] at e
    split at e
    · rename_i hz
      obtain ⟨c, hc, rfl⟩ := Option.map_eq_some_iff.mp e
      exact .inr (.inr ⟨_, _, c, ox.str, oy.int, hz, hc, k _ F H (Same.refl _) S (.str _)⟩)
    · cases e
  · obtain ⟨a, vs, rfl, h1, h2⟩ := ox.list S.fh
    obtain ⟨v, e1, e2⟩ := atI_rep h2 e
    exact .inl ⟨a, vs, _, v, rfl, oy.int, h1, e1, k v F H (Same.refl _) S e2⟩
  · obtain ⟨a, vs, rfl, h1, h2⟩ := ox.tuple S.fh
    obtain ⟨v, e1, e2⟩ := atI_rep h2 e
    exact .inr (.inl ⟨a, vs, _, v, rfl, oy.int, h1, e1, k v F H (Same.refl _) S e2⟩)
end L4
set_option Elab.async false
set_option linter.all false
set_option maxRecDepth 100000
namespace L4
open PySem PySem.Spec PyProof.Rows L2 L3
theorem Vals.one {v : V} {us : List Value} (h : Vals [v] us) : ∃ u, us = [u] ∧ RelV v u := by
  cases h with | cons a b => cases b; exact ⟨_, rfl, a⟩
def fLen : List D → Option D
  | [.list ds] => some (.int ds.length)
  | [.tuple ds] => some (.int ds.length)
  | [.str z] => if z.length ≤ sizeLine then some (.int z.length) else none
  | _ => none
def fTuple : List D → Option D
  | [.list ds] => some (.tuple ds)
  | [.tuple ds] => some (.tuple ds)
  | _ => none
def fAbs : List D → Option D
  | [.int i] => some (.int (if i < 0 then -i else i))
  | _ => none
def rLen (K : Fg) : List V → Hp → VK → Prop := fun xs H Q => (∃ p ys, xs = [.ref p] ∧ (SqL K H p ys ∨ SqT K H p ys) ∧ Q (.int ys.length) H) ∨ ∃ z, xs = [.str z] ∧ z.length ≤ sizeLine ∧ Q (.int z.length) H
theorem call_lenA {X : Cx} : CallR X (.builtin "len") (rLen X.K) := CallR.or call_len_seq call_len_str
theorem ok_len {K : Fg} : CallD K (rLen K) fLen := by
  intro G F σ H ρ xs ds res Q S o e k
  unfold fLen at e
  split at e
  · rename_i es
    cases e
    obtain ⟨v, r, rfl, ho, hr⟩ := ors_cons o
    obtain rfl := ors_nil hr
    obtain ⟨a, vs, rfl, h1, h2⟩ := ho.list S.fh
    exact .inl ⟨a, vs, rfl, .inl h1, k _ F H (Same.refl _) S (by rw [h2.length]; exact .int _)⟩
  · rename_i es
    cases e
    obtain ⟨v, r, rfl, ho, hr⟩ := ors_cons o
    obtain rfl := ors_nil hr
    obtain ⟨a, vs, rfl, h1, h2⟩ := ho.tuple S.fh
    exact .inl ⟨a, vs, rfl, .inr h1, k _ F H (Same.refl _) S (by rw [h2.length]; exact .int _)⟩
  · split at e
    · rename_i hz
      cases e
      obtain ⟨v, r, rfl, ho, hr⟩ := ors_cons o
      obtain rfl := ors_nil hr
      exact .inr ⟨_, by rw [ho.str], hz, k _ F H (Same.refl _) S (.int _)⟩
    · cases e
  · cases e
theorem ok_tuple {K : Fg} : CallD K (fun xs H Q => ∃ p ys, xs = [.ref p] ∧ ((SqL K H p ys ∧ ∀ l, H l = none → Q (.ref l) (upd H l (.tup ys))) ∨ (SqT K H p ys ∧ Q (.ref p) H))) fTuple := by
  intro G F σ H ρ xs ds res Q S o e k
  unfold fTuple at e
  split at e
  · rename_i es
    cases e
    obtain ⟨v, r, rfl, ho, hr⟩ := ors_cons o
    obtain rfl := ors_nil hr
    obtain ⟨a, vs, rfl, h1, h2⟩ := ho.list S.fh
    refine ⟨a, vs, rfl, .inl ⟨h1, fun l hl => ?_⟩⟩
    obtain ⟨s2, S2, r2⟩ := S.newTup hl h2
    exact k _ _ _ s2 S2 r2
  · rename_i es
    cases e
    obtain ⟨v, r, rfl, ho, hr⟩ := ors_cons o
    obtain rfl := ors_nil hr
    rcases ho with ho | ⟨a, vs, ds', _, z, _⟩
    · cases ho with
      | tup h1 h2 => exact ⟨_, _, rfl, .inr ⟨sqT_mono S.fh h1, k _ F H (Same.refl _) S (show Rep K F _ _ from .tup h1 h2)⟩⟩
    · cases z
  · cases e
def reprOk (d : D) : Bool := d.showable && d.canLay0 && decide (d.depth ≤ 1000) && decide (d.shown.length ≤ sizeLine)
def fRepr : List D → Option D
  | [d] => if reprOk d then some (.str d.shown) else none
  | _ => none
def rRepr (K : Fg) : List V → Hp → VK → Prop := fun xs H Q => ∃ v d, xs = [v] ∧ Rep K H v d ∧ reprOk d = true ∧ Q (.str d.shown) H
theorem ok_repr {K : Fg} : CallD K (rRepr K) fRepr := by
  intro G F σ H ρ xs ds res Q S o e k
  unfold fRepr at e
  split at e
  · rename_i d
    split at e
    · rename_i hc
      cases e
      obtain ⟨v, r, rfl, ho, hr⟩ := ors_cons o
      obtain rfl := ors_nil hr
      exact ⟨v, d, rfl, ho.rep S.fh, hc, k _ F H (Same.refl _) S (.str _)⟩
    · cases e
  · cases e
theorem call_repr {X : Cx} (hu : X.A.units + 1100 < cLine) (hg : X.A.guards = some []) : CallR X (.builtin "repr") (rRepr X.K) := by
  intro pins s σ H xs us Q I r h0
  obtain ⟨v, d, rfl, rp, hc, q⟩ := h0
  obtain ⟨u, rfl, ru⟩ := Vals.one r
  obtain ⟨as, ra⟩ := (reads_of I).1 rp ru
  simp only [reprOk, Bool.and_eq_true, decide_eq_true_eq] at hc
  have big : ∀ a, v = .ref a → wpAny (model X.prog X.w) X.A (call (.builtin "repr") [u]) (EP X pins σ Q) X.xe s := fun a e => by
    subst e
    cases ru
    exact repr_of_reads' ra hc.1.1.1 (PyData.noDict_hsm (PyData.hasDict_of_canLay d hc.1.1.2)) hg (by omega) (fun _ _ e => e) (fun h' u tk hk => ⟨.str _, H, I.kept hk, ⟨_, rfl⟩, q⟩) hc.2
  cases rp with
  | non => cases ru; exact PySem.P.repr_of_none ⟨.str _, H, I.tok _, ⟨_, rfl⟩, q⟩
  | bl b => cases ru; exact PySem.P.repr_of_bool ⟨.str _, H, I.tok _, ⟨_, rfl⟩, q⟩
  | int i => obtain ⟨t, rfl⟩ := ru; exact PySem.P.repr_of_int (by simpa [PyData.showable] using hc.1.1.1) ⟨.str _, H, I.tok _, ⟨_, rfl⟩, q⟩
  | str x => obtain ⟨t, rfl⟩ := ru; exact PySem.P.repr_of_str ⟨.str _, H, I.tok _, ⟨_, rfl⟩, q⟩ hc.2
  | tup h1 h2 => exact big _ rfl
  | lst h1 h2 => exact big _ rfl
def tyD : D → String
  | .none => "NoneType"
  | .bool _ => "bool"
  | .int _ => "int"
  | .str _ => "str"
  | .list _ => "list"
  | .tuple _ => "tuple"
  | .dict _ => "dict"
def isS (T S : String) : Bool := S == T || (S == "bool" && T == "int")
def isT (T : String) (d : D) : Bool := isS T (tyD d)
def intsOf : List D → Option (List Int)
  | [] => some []
  | .int i :: r => match intsOf r with
    | some l => some (i :: l)
    | none => none
  | _ => none
theorem intsOf_eq : ∀ {ds : List D} {ns : List Int}, intsOf ds = some ns → ds = ns.map PyData.int
  | [], ns, h => by cases h; rfl
  | .int i :: r, ns, h => by
    dsimp only [intsOf] at h
    split at h
    · rename_i l e; cases h; rw [intsOf_eq e]; rfl
    · cases h
  | .none :: _, _, h => by cases h
  | .bool _ :: _, _, h => by cases h
  | .str _ :: _, _, h => by cases h
  | .list _ :: _, _, h => by cases h
  | .tuple _ :: _, _, h => by cases h
  | .dict _ :: _, _, h => by cases h
theorem repL_ints {K : Fg} {F : Hp} : ∀ {vs : List V} {ns : List Int}, RepL K F vs (ns.map PyData.int) → vs = ns.map V.int
  | _, [], h => by cases h; rfl
  | _, n :: r, h => by
    cases h with
    | cons a b => cases a; rw [repL_ints b]; rfl
theorem vals_pairs : ∀ {ns : List Int} {us : List Value}, Vals (ns.map V.int) us → ∃ ps : List (Int × Tok), us = ps.map (fun p => Value.int p.1 p.2) ∧ ps.map Prod.fst = ns
  | [], _, h => by cases h; exact ⟨[], rfl, rfl⟩
  | n :: r, _, h => by
    cases h with
    | cons a b =>
      obtain ⟨t, rfl⟩ := a
      obtain ⟨ps, rfl, e⟩ := vals_pairs b
      exact ⟨(n, t) :: ps, rfl, by simp [e]⟩
def sumOk (ns : List Int) : Bool := ns.all (fun i => decide (i.natAbs ≤ 2 ^ 40)) && decide (ns.length ≤ 2 ^ 20)
def fSum : List D → Option D
  | [.list ds] => match intsOf ds with
    | some ns => if sumOk ns then some (.int ns.sum) else none
    | none => none
  | _ => none
def maxL : List Int → Int
  | [] => 0
  | n :: r => r.foldl max n
def fMax : List D → Option D
  | [.list ds] => match intsOf ds with
    | some (n :: r) => some (.int (maxL (n :: r)))
    | _ => none
  | [.int i, .int j] => some (.int (if j > i then j else i))
  | _ => none
def rInts (K : Fg) (f : List Int → Option Int) : List V → Hp → VK → Prop := fun xs H Q => ∃ a ns i, xs = [.ref a] ∧ SqL K H a (ns.map V.int) ∧ f ns = some i ∧ Q (.int i) H
def gSum (ns : List Int) : Option Int := if sumOk ns then some ns.sum else none
def gMax : List Int → Option Int
  | [] => none
  | ns => some (maxL ns)
theorem ok_sum {K : Fg} : CallD K (rInts K gSum) fSum := by
  intro G F σ H ρ xs ds res Q S o e k
  unfold fSum at e
  split at e
  case h_2 => cases e
  rename_i es
  split at e
  case h_2 => cases e
  rename_i ns hns
  split at e
  case isFalse => cases e
  rename_i hc
  cases e
  obtain ⟨v, r, rfl, ho, hr⟩ := ors_cons o
  obtain rfl := ors_nil hr
  obtain ⟨a, vs, rfl, h1, h2⟩ := ho.list S.fh
  rw [intsOf_eq hns] at h2
  rw [repL_ints h2] at h1
  exact ⟨a, ns, _, rfl, h1, by unfold gSum; rw [if_pos hc], k _ F H (Same.refl _) S (show Rep K F _ _ from .int _)⟩
theorem numAt_of {ps : List (Int × Tok)} {i : Nat} : numAt ps.toArray i = (ps.map Prod.fst).getD i 0 := by
  unfold numAt
  rw [List.getElem?_toArray, List.getD_eq_getElem?_getD, List.getElem?_map]
theorem preSum_of (ns : List Int) : ∀ j, j ≤ ns.length → preSum (fun i => ns.getD i 0) j = (ns.take j).sum
  | 0, _ => by simp [preSum]
  | j + 1, h => by
    rw [preSum, preSum_of ns j (by omega), List.take_add_one, List.sum_append]
    congr 1
    rw [List.getD_eq_getElem?_getD]
    rw [List.getElem?_eq_getElem (by omega)]
    simp
theorem sum_bound (B : Nat) : ∀ (ns : List Int), (∀ i ∈ ns, i.natAbs ≤ B) → ns.sum.natAbs ≤ ns.length * B
  | [], _ => by simp
  | n :: r, h => by
    have h1 := h n List.mem_cons_self
    have h2 := sum_bound B r fun i hi => h i (List.mem_cons_of_mem _ hi)
    rw [List.sum_cons, List.length_cons, Nat.succ_mul]
    omega
theorem call_sumL {X : Cx} (hc : X.calm = true) : CallR X (.builtin "sum") (rInts X.K gSum) := by
  intro pins s σ H xs us Q I r h0
  obtain ⟨a, ns, i, rfl, hq, e, q⟩ := h0
  obtain ⟨u, rfl, ru⟩ := Vals.one r
  cases ru
  unfold gSum at e
  split at e
  case isFalse => cases e
  rename_i hok
  cases e
  obtain ⟨its, rv, pl, hz⟩ := I.list hq
  obtain ⟨ps, rfl, rfl⟩ := vals_pairs rv
  have hnum : ∀ j, numAt ps.toArray j = (ps.map Prod.fst).getD j 0 := fun j => numAt_of
  have hfun : numAt ps.toArray = fun j => (ps.map Prod.fst).getD j 0 := funext hnum
  unfold sumOk at hok
  simp only [Bool.and_eq_true, List.all_eq_true, decide_eq_true_eq] at hok
  have hl : s.heap.IsList a (intItems ps.toArray) := by
    have := pl.isList
    unfold intItems
    simpa using this
  have bnd : ∀ j, j ≤ ps.length → ((ps.map Prod.fst).take j).sum.natAbs ≤ 2 ^ 60 := fun j hj => by
    have h1 := sum_bound (2 ^ 40) ((ps.map Prod.fst).take j) fun i hi => hok.1 i (List.mem_of_mem_take hi)
    have h2 : ((ps.map Prod.fst).take j).length ≤ 2 ^ 20 := by rw [List.length_take]; have := hok.2; omega
    calc _ ≤ _ := h1
      _ ≤ 2 ^ 20 * 2 ^ 40 := Nat.mul_le_mul_right _ h2
  refine sum_intList (I.ok.hd hc) hl (fun j hj => ?_) fun h' tk t' hk => ?_
  · have hj' : j < ps.length := by simpa using hj
    rw [hfun, preSum_of _ _ (by simp; omega)]
    have h1 := bnd (j + 1) hj'
    have h2 : ((ps.map Prod.fst).getD j 0).natAbs ≤ 2 ^ 40 := by
      rw [List.getD_eq_getElem?_getD, List.getElem?_eq_getElem (by simpa using hj')]
      exact hok.1 _ (List.getElem_mem _)
    unfold InLong
    dsimp only
    constructor <;> constructor <;> omega
  · refine ⟨.int _, H, I.kept hk, ⟨_, rfl⟩, ?_⟩
    rw [hfun, preSum_of _ _ (by simp), List.take_of_length_le (by simp)]
    exact q
theorem ok_max {K : Fg} : CallD K (fun xs H Q => rInts K gMax xs H Q ∨ ∃ i j, xs = [.int i, .int j] ∧ Q (.int (if j > i then j else i)) H) fMax := by
  intro G F σ H ρ xs ds res Q S o e k
  unfold fMax at e
  split at e
  · rename_i es
    split at e
    case h_2 => cases e
    rename_i n r' hns
    cases e
    obtain ⟨v, r, rfl, ho, hr⟩ := ors_cons o
    obtain rfl := ors_nil hr
    obtain ⟨a, vs, rfl, h1, h2⟩ := ho.list S.fh
    rw [intsOf_eq hns] at h2
    rw [repL_ints h2] at h1
    exact .inl ⟨a, _, _, rfl, h1, rfl, k _ F H (Same.refl _) S (show Rep K F _ _ from .int _)⟩
  · cases e
    obtain ⟨v, r, rfl, ho, hr⟩ := ors_cons o
    obtain ⟨v2, r2, rfl, ho2, hr2⟩ := ors_cons hr
    obtain rfl := ors_nil hr2
    exact .inr ⟨_, _, by rw [ho.int, ho2.int], k _ F H (Same.refl _) S (show Rep K F _ _ from .int _)⟩
  · cases e
theorem foldl_max (r : List Int) : ∀ n : Int, n ≤ r.foldl max n ∧ (∀ i ∈ r, i ≤ r.foldl max n) ∧ (r.foldl max n = n ∨ r.foldl max n ∈ r) := by
  induction r with
  | nil => intro n; exact ⟨Int.le_refl _, fun i hi => (nomatch hi), .inl rfl⟩
  | cons a r ih =>
    intro n
    obtain ⟨h1, h2, h3⟩ := ih (max n a)
    rw [List.foldl_cons]
    refine ⟨by omega, fun i hi => ?_, ?_⟩
    · rcases List.mem_cons.mp hi with rfl | hi
      · omega
      · exact h2 i hi
    · rcases h3 with h3 | h3
      · rw [h3]
        by_cases hna : n ≤ a
        · right; rw [show max n a = a by omega]; exact List.mem_cons_self
        · left; omega
      · right; exact List.mem_cons_of_mem _ h3
theorem maxL_spec {ns : List Int} (h : ns ≠ []) : (∀ i ∈ ns, i ≤ maxL ns) ∧ maxL ns ∈ ns := by
  cases ns with
  | nil => exact absurd rfl h
  | cons n r =>
    obtain ⟨h1, h2, h3⟩ := foldl_max r n
    refine ⟨fun i hi => ?_, ?_⟩
    · rcases List.mem_cons.mp hi with rfl | hi
      · exact h1
      · exact h2 i hi
    · rcases h3 with h3 | h3
      · show r.foldl max n ∈ _; rw [h3]; exact List.mem_cons_self
      · exact List.mem_cons_of_mem _ h3
theorem call_maxL {X : Cx} (hc : X.calm = true) : CallR X (.builtin "max") (rInts X.K gMax) := by
  intro pins s σ H xs us Q I r h0
  obtain ⟨a, ns, i, rfl, hq, e, q⟩ := h0
  obtain ⟨u, rfl, ru⟩ := Vals.one r
  cases ru
  obtain ⟨its, rv, pl, hz⟩ := I.list hq
  obtain ⟨ps, rfl, rfl⟩ := vals_pairs rv
  have hne : ps ≠ [] := by rintro rfl; cases e
  have hne' : ps.map Prod.fst ≠ [] := by simpa using hne
  have ei : i = maxL (ps.map Prod.fst) := by
    cases hp : ps.map Prod.fst with
    | nil => exact absurd hp hne'
    | cons n r => rw [hp] at e; cases e; rfl
  subst ei
  have hl : s.heap.IsList a (intItems ps.toArray) := by
    have := pl.isList
    unfold intItems
    simpa using this
  have hpos : 0 < ps.length := List.length_pos_iff.mpr hne
  refine max_intList (I.ok.hd hc) hl (by simpa using hpos) fun v h' tk hv hk => ?_
  obtain ⟨t, rfl⟩ := intItems_at hv
  refine ⟨.int _, H, I.kept hk, ⟨_, rfl⟩, ?_⟩
  have b := argBest_gt (numAt ps.toArray) (ps.toArray.size - 1)
  generalize argBest (fun i j => decide (numAt ps.toArray i > numAt ps.toArray j)) (ps.toArray.size - 1) = m at b hv
  have hm : m < ps.length := by
    have h0 := b.1
    simp at h0
    omega
  have hsp := maxL_spec hne'
  have e1 : numAt ps.toArray m = maxL (ps.map Prod.fst) := by
    refine Int.le_antisymm ?_ ?_
    · refine hsp.1 _ ?_
      rw [numAt_of, List.getD_eq_getElem?_getD, List.getElem?_eq_getElem (by simpa using hm)]
      exact List.getElem_mem _
    · obtain ⟨j, hj, ej⟩ := List.getElem_of_mem hsp.2
      have h0 := b.2 j (by simp at hj ⊢; omega)
      rw [numAt_of, List.getD_eq_getElem?_getD, List.getElem?_eq_getElem hj] at h0
      rw [← ej]
      exact h0
  rw [e1]
  exact q
def tyOk (T : String) : Bool := T == "bool" || T == "int" || T == "str" || T == "list" || T == "tuple" || T == "dict"
def kitT (S T : String) : Option Bool := if (Value.type S == Value.type T) = true then some true else if PySem.W.kitMeta T = true then (fastBuiltinMro S).map (·.contains (.type T)) else none
theorem kitT_of (K : Fg) (S T : String) : PySem.W.kitOne K (.type S) (.type T) = kitT S T := rfl
theorem kit_all : ∀ S ∈ ["NoneType", "bool", "int", "str", "list", "tuple", "dict"], ∀ T ∈ ["bool", "int", "str", "list", "tuple", "dict"], kitT S T = some (isS T S) := by decide +kernel
theorem kit_of (K : Fg) {T : String} (h : tyOk T = true) (d : D) : PySem.W.kitOne K (.type (tyD d)) (.type T) = some (isT T d) := by
  simp only [tyOk, Bool.or_eq_true, beq_iff_eq] at h
  rw [kitT_of]
  exact kit_all (tyD d) (by cases d <;> simp [tyD]) T (by rcases h with ((((rfl | rfl) | rfl) | rfl) | rfl) | rfl <;> simp)
theorem isinst_rep {X : Cx} {T : String} (hT : tyOk T = true) {pins : List (Addr × Obj)} {σ : L2.St} {H : Hp} {s : Shared} {v : V} {d : D} {u : Value} {Q : Value → Shared → Prop} {E : Value → Shared → Prop} (I : Inv X pins σ H s) (rp : Rep X.K H v d) (ru : RelV v u)
    (h : ∀ tk, Q (.bool (isT T d)) { s with toks := tk }) : wpAny (model X.prog X.w) X.A (call (.builtin "isinstance") [u, .type T]) Q E s := by
  have e := kit_of X.K hT d
  cases rp with
  | non => cases ru; exact PySem.W.kia_one PySem.W.kitx_none I.kIn True.intro e (fun z => nomatch z) h
  | bl y => cases ru; exact PySem.W.kia_one PySem.W.kitx_bool I.kIn True.intro e (fun z => nomatch z) h
  | int i => obtain ⟨t, rfl⟩ := ru; exact PySem.W.kia_one PySem.W.kitx_int I.kIn True.intro e (fun z => nomatch z) h
  | str y => obtain ⟨t, rfl⟩ := ru; exact PySem.W.kia_one PySem.W.kitx_str I.kIn True.intro e (fun z => nomatch z) h
  | lst h1 h2 =>
    cases ru
    obtain ⟨its, _, ⟨o, n, e1, e2, _⟩, _⟩ := I.list h1
    exact PySem.W.kia_one PySem.W.kitx_list I.kIn ⟨o, e1, e2⟩ e (fun z => nomatch z) h
  | tup h1 h2 =>
    cases ru
    obtain ⟨its, _, ⟨o, e1, e2, _⟩, _⟩ := I.tuple h1
    exact PySem.W.kia_one PySem.W.kitx_tuple I.kIn ⟨o, e1, e2⟩ e (fun z => nomatch z) h
end L4
set_option Elab.async false
set_option linter.all false
set_option maxRecDepth 100000
namespace L4
open PySem PySem.Spec PyProof.Rows L2 L3
section
variable {K : Fg} {G : Gh} {F H : Hp} {σ : L2.St} {ρ ρ' : En}
theorem _root_.L3.StOk.weak (S : StOk K G F σ H ρ) (hl : ρ'.length = ρ.length) (h : ∀ (i : Nat) (av : AV), ρ'[i]? = some (some av) → ρ[i]? = some (some av)) (hp : ∀ (i : Nat) (c : OC), ρ[i]? = some (some (AV.op c)) → ρ'[i]? = some (some (AV.op c))) : StOk K G F σ H ρ' := by
  have ow' : ∀ j c, own ρ' j c → own ρ j c := fun j c q => q.imp (h _ _) (h _ _)
  refine ⟨S.fh, S.oh, S.fo, S.ln.trans hl.symm, fun j d q => S.fz j d (h _ _ q), fun j c q => S.ow j c (ow' j c q), fun j k c e a h1 h2 => S.dj j k c e a (ow' j c h1) (ow' k e h2), fun j a q => ?_, fun j c q => S.pq j c (h _ _ q)⟩
  obtain ⟨q1, c, q2⟩ := S.pp j a q
  exact ⟨q1, c, hp _ _ q2⟩
theorem app_none {k : Nat} {i : Nat} {av : AV} (h : (ρ ++ List.replicate k none)[i]? = some (some av)) : ρ[i]? = some (some av) := by
  by_cases hi : i < ρ.length
  · rw [List.getElem?_append_left hi] at h; exact h
  · rw [List.getElem?_append_right (Nat.not_lt.mp hi), List.getElem?_replicate] at h
    split at h <;> cases h
theorem _root_.L3.StOk.grow (S : StOk K G F σ H ρ) (k : Nat) : StOk K G F (σ ++ List.replicate k none) H (ρ ++ List.replicate k none) := by
  have ap : ∀ {i : Nat} {v : V}, σ[i]? = some (some v) → (σ ++ List.replicate k none)[i]? = some (some v) := fun {i v} e => by
    rw [List.getElem?_append_left (List.getElem?_eq_some_iff.mp e).1]; exact e
  have apr : ∀ {i : Nat} {v : AV}, ρ[i]? = some (some v) → (ρ ++ List.replicate k none)[i]? = some (some v) := fun {i v} e => by
    rw [List.getElem?_append_left (List.getElem?_eq_some_iff.mp e).1]; exact e
  have ow' : ∀ i c, own (ρ ++ List.replicate k none) i c → own ρ i c := fun i c h => by
    rcases h with h | h
    · exact .inl (app_none h)
    · exact .inr (app_none h)
  refine ⟨S.fh, S.oh, S.fo, by simp [S.ln], fun i d h => ?_, fun i c h => ?_, fun i j c e a h1 h2 e1 e2 => ?_, fun i a h => ?_, fun i c h => S.pq i c (app_none h)⟩
  · obtain ⟨v, e, r⟩ := S.fz i d (app_none h); exact ⟨v, ap e, r⟩
  · obtain ⟨a, e, oa⟩ := S.ow i c (ow' i c h); exact ⟨a, ap e, oa⟩
  · have o1 := ow' i c h1
    have o2 := ow' j e h2
    obtain ⟨a1, q1, _⟩ := S.ow i c o1
    obtain ⟨a2, q2, _⟩ := S.ow j e o2
    rw [ap q1] at e1; rw [ap q2] at e2
    injection e1 with e1; injection e2 with e2
    exact S.dj i j c e a o1 o2 (by rw [q1, e1]) (by rw [q2, e2])
  · obtain ⟨e, c, q⟩ := S.pp i a h; exact ⟨ap e, c, apr q⟩
theorem _root_.L3.StOk.shrink (S : StOk K G F σ H ρ) {n : Nat} (hn : n ≤ ρ.length) (hp : ∀ i a, G.P i = some a → i < n) : StOk K G F (σ.take n) H (ρ.take n) := by
  have tk : ∀ {i : Nat} {v : AV}, (ρ.take n)[i]? = some (some v) → i < n ∧ ρ[i]? = some (some v) := fun {i v} e => by
    have hi : i < n := by
      have := (List.getElem?_eq_some_iff.mp e).1
      rw [List.length_take] at this; omega
    rw [List.getElem?_take_of_lt hi] at e
    exact ⟨hi, e⟩
  have ow' : ∀ i c, own (ρ.take n) i c → i < n ∧ own ρ i c := fun i c h => by
    rcases h with h | h
    · exact ⟨(tk h).1, .inl (tk h).2⟩
    · exact ⟨(tk h).1, .inr (tk h).2⟩
  refine ⟨S.fh, S.oh, S.fo, by simp [S.ln], fun i d h => ?_, fun i c h => ?_, fun i j c e a h1 h2 e1 e2 => ?_, fun i a h => ?_, fun i c h => S.pq i c (tk h).2⟩
  · obtain ⟨v, e, r⟩ := S.fz i d (tk h).2; exact ⟨v, by rw [List.getElem?_take_of_lt (tk h).1]; exact e, r⟩
  · obtain ⟨a, e, oa⟩ := S.ow i c (ow' i c h).2; exact ⟨a, by rw [List.getElem?_take_of_lt (ow' i c h).1]; exact e, oa⟩
  · rw [List.getElem?_take_of_lt (ow' i c h1).1] at e1
    rw [List.getElem?_take_of_lt (ow' j e h2).1] at e2
    exact S.dj i j c e a (ow' i c h1).2 (ow' j e h2).2 e1 e2
  · obtain ⟨e, c, q⟩ := S.pp i a h
    exact ⟨by rw [List.getElem?_take_of_lt (hp i a h)]; exact e, c, by rw [List.getElem?_take_of_lt (hp i a h)]; exact q⟩
end
theorem take_eq_of {α : Type} {l l' : List α} {n : Nat} (h : ∀ j, j < n → l'[j]? = l[j]?) (hl : l.length = n) : l'.take n = l := by
  apply List.ext_getElem?
  intro i
  by_cases hi : i < n
  · rw [List.getElem?_take_of_lt hi, h i hi]
  · rw [List.getElem?_eq_none_iff.mpr (by rw [List.length_take]; omega), List.getElem?_eq_none_iff.mpr (by omega)]
inductive Kd where
  | dead | f | o | p
@[reducible] def SOf : List Kd → Type
  | [] => Unit
  | .dead :: r => SOf r
  | .f :: r => D × SOf r
  | .o :: r => List D × SOf r
  | .p :: r => List D × SOf r
def rd : (sh : List Kd) → En → Option (SOf sh)
  | [], [] => some ()
  | .dead :: r, x :: ρ => match x with
    | some (.op _) => none
    | _ => rd r ρ
  | .f :: r, x :: ρ => match x with
    | some (.fz d) => match rd r ρ with
      | some s => some (d, s)
      | none => none
    | _ => none
  | .o :: r, x :: ρ => match x with
    | some (.ol (.l ds)) => match rd r ρ with
      | some s => some (ds, s)
      | none => none
    | _ => none
  | .p :: r, x :: ρ => match x with
    | some (.op (.l ds)) => match rd r ρ with
      | some s => some (ds, s)
      | none => none
    | _ => none
  | _, _ => none
def wr : (sh : List Kd) → SOf sh → En
  | [], _ => []
  | .dead :: r, s => none :: wr r s
  | .f :: r, s => some (.fz s.1) :: wr r s.2
  | .o :: r, s => some (.ol (.l s.1)) :: wr r s.2
  | .p :: r, s => some (.op (.l s.1)) :: wr r s.2
theorem rd_wr : ∀ (sh : List Kd) (ρ : En) (s : SOf sh), rd sh ρ = some s → (wr sh s).length = ρ.length ∧ (∀ (i : Nat) (av : AV), (wr sh s)[i]? = some (some av) → ρ[i]? = some (some av)) ∧ (∀ (i : Nat) (c : OC), ρ[i]? = some (some (AV.op c)) → (wr sh s)[i]? = some (some (AV.op c)))
  | [], [], s, h => ⟨rfl, fun i av q => by simpa [wr] using q, fun i c q => by simp at q⟩
  | [], _ :: _, s, h => by cases h
  | .dead :: r, [], s, h => by cases h
  | .f :: r, [], s, h => by cases h
  | .o :: r, [], s, h => by cases h
  | .p :: r, [], s, h => by cases h
  | .dead :: r, x :: ρ, s, h => by
    dsimp only [rd] at h
    split at h
    · cases h
    · rename_i hx
      obtain ⟨h1, h2, h3⟩ := rd_wr r ρ s h
      refine ⟨by simp [wr, h1], fun i av q => ?_, fun i c q => ?_⟩
      · cases i with
        | zero => simp [wr] at q
        | succ i => simpa using h2 i av (by simpa [wr] using q)
      · cases i with
        | zero => simp at q; exact absurd q (hx c)
        | succ i => simpa [wr] using h3 i c (by simpa using q)
  | .f :: r, x :: ρ, s, h => by
    dsimp only [rd] at h
    split at h
    · split at h
      · rename_i s' e
        cases h
        obtain ⟨h1, h2, h3⟩ := rd_wr r ρ s' e
        refine ⟨by simp [wr, h1], fun i av q => ?_, fun i c q => ?_⟩
        · cases i with
          | zero => simpa [wr] using q
          | succ i => simpa using h2 i av (by simpa [wr] using q)
        · cases i with
          | zero => simp at q
          | succ i => simpa [wr] using h3 i c (by simpa using q)
      · cases h
    · cases h
  | .o :: r, x :: ρ, s, h => by
    dsimp only [rd] at h
    split at h
    · split at h
      · rename_i s' e
        cases h
        obtain ⟨h1, h2, h3⟩ := rd_wr r ρ s' e
        refine ⟨by simp [wr, h1], fun i av q => ?_, fun i c q => ?_⟩
        · cases i with
          | zero => simpa [wr] using q
          | succ i => simpa using h2 i av (by simpa [wr] using q)
        · cases i with
          | zero => simp at q
          | succ i => simpa [wr] using h3 i c (by simpa using q)
      · cases h
    · cases h
  | .p :: r, x :: ρ, s, h => by
    dsimp only [rd] at h
    split at h
    · split at h
      · rename_i s' e
        cases h
        obtain ⟨h1, h2, h3⟩ := rd_wr r ρ s' e
        refine ⟨by simp [wr, h1], fun i av q => ?_, fun i c q => ?_⟩
        · cases i with
          | zero => simpa [wr] using q
          | succ i => simpa using h2 i av (by simpa [wr] using q)
        · cases i with
          | zero => simpa [wr] using q
          | succ i => simpa [wr] using h3 i c (by simpa using q)
      · cases h
    · cases h
theorem _root_.L3.StOk.rd {K : Fg} {G : Gh} {F H : Hp} {σ : L2.St} {ρ : En} {sh : List Kd} {s : SOf sh} (S : StOk K G F σ H ρ) (h : L4.rd sh ρ = some s) : StOk K G F σ H (wr sh s) := by
  obtain ⟨h1, h2, h3⟩ := rd_wr sh ρ s h
  exact S.weak h1 h2 h3
def rdk {S : Type} (sh : List Kd) (k : SOf sh → M S) (ρ : En) : M S := match rd sh ρ with
  | some s => k s
  | none => .bad
abbrev Ev (S α : Type) := (Ex → En → M S) → (α → En → M S) → En → M S
structure KS (S : Type) where
  nx : En → M S
  rt : D → En → M S
  rl : List D → En → M S
  bk : En → M S
  ct : En → M S
  x : Ex → En → M S
def KOk {S : Type} (OK : M S → Prop) : Prop := ¬ OK .bad
def XL {S : Type} (X : Cx) (OK : M S → Prop) (x : Ex → En → M S) (G : Gh) : Prop := ∀ F ρ e, OK (x e ρ) → XW X G F ρ e
def AE {S : Type} (X : Cx) (e : Expr) (m : Ev S D) : Prop :=
  ∀ (OK : M S → Prop) (x : Ex → En → M S) (k : D → En → M S) (G : Gh) (F : Hp) (σ : L2.St) (H : Hp) (ρ : En) (Q : VK), KOk OK → XL X OK x G → StOk X.K G F σ H ρ → OK (m x k ρ) →
    (∀ d v F' H' ρ', Same F F' → StOk X.K G F' σ H' ρ' → Rep X.K F' v d → OK (k d ρ') → Q v H') → tSem X e σ H Q
def AEt {S : Type} (X : Cx) (e : Expr) (m : Ev S Bool) : Prop :=
  ∀ (OK : M S → Prop) (x : Ex → En → M S) (k : Bool → En → M S) (G : Gh) (F : Hp) (σ : L2.St) (H : Hp) (ρ : En) (Q : Bool → Hp → Prop), KOk OK → XL X OK x G → StOk X.K G F σ H ρ → OK (m x k ρ) →
    (∀ d F' H' ρ', Same F F' → StOk X.K G F' σ H' ρ' → OK (k d ρ') → Q d H') → tSemT X e σ H Q
def AEa {S : Type} (X : Cx) (es : List Expr) (m : Ev S (List D)) : Prop :=
  ∀ (OK : M S → Prop) (x : Ex → En → M S) (k : List D → En → M S) (G : Gh) (F : Hp) (σ : L2.St) (H : Hp) (ρ : En) (Q : List V → Hp → Prop), KOk OK → XL X OK x G → StOk X.K G F σ H ρ → OK (m x k ρ) →
    (∀ ds vs F' H' ρ', Same F F' → StOk X.K G F' σ H' ρ' → vs.length = es.length → RepL X.K F' vs ds → OK (k ds ρ') → Q vs H') → tSemA X es σ H Q
def AEl {S : Type} (X : Cx) (e : Expr) (m : Ev S (List D)) : Prop :=
  ∀ (OK : M S → Prop) (x : Ex → En → M S) (k : List D → En → M S) (G : Gh) (F : Hp) (σ : L2.St) (H : Hp) (ρ : En) (Q : VK), KOk OK → XL X OK x G → StOk X.K G F σ H ρ → OK (m x k ρ) →
    (∀ ds v F' H' ρ', Same F F' → StOk X.K G F' σ H' ρ' → Frs X.K G F' σ H' ρ' v (.l ds) → OK (k ds ρ') → Q v H') → tSem X e σ H Q
def ePu {S α : Type} (p : Pu α) : Ev S α := fun x k ρ => (p ρ).on (fun e => x e ρ) (fun a => k a ρ)
section
variable {S α : Type} {X : Cx} {OK : M S → Prop} {x : Ex → En → M S} {k : α → En → M S} {G : Gh} {F : Hp} {σ : L2.St} {ρ : En} {p : Pu α} {C : α → Hp → Hp → Prop}
theorem W.of (hO : KOk OK) (hX : XL X OK x G) (h : OK (ePu p x k ρ)) (w : ∀ a F' H', Same F F' → StOk X.K G F' σ H' ρ → OK (k a ρ) → C a F' H') : W X G F σ ρ (p ρ) C := by
  unfold ePu at h
  cases hp : p ρ with
  | ret a => rw [hp] at h; exact fun F' H' s S' => w a F' H' s S' h
  | exc e => rw [hp] at h; exact hX F ρ e h
  | bad => rw [hp] at h; exact hO h
end
section
variable {S : Type} {X : Cx} {e a b c : Expr} {es rest : List Expr} {p : Pu D} {pt : Pu Bool} {ps : Pu (List D)} {pos : Pos}
theorem ae_pu (h : AP X e p) : AE (S := S) X e (ePu p) := fun OK x k G F σ H ρ Q hO hX St ok kk => h G F σ H ρ Q St (W.of hO hX ok fun d F' H' s S' o v r => kk d v F' H' ρ s S' r o)
theorem aet_pu (h : AT X e pt) : AEt (S := S) X e (ePu pt) := fun OK x k G F σ H ρ Q hO hX St ok kk => h G F σ H ρ Q St (W.of hO hX ok fun d F' H' s S' o => kk d F' H' ρ s S' o)
theorem ael_pu (h : AL X e ps) : AEl (S := S) X e (ePu ps) := fun OK x k G F σ H ρ Q hO hX St ok kk => h G F σ H ρ Q St (W.of hO hX ok fun d F' H' s S' o v r => kk d v F' H' ρ s S' r o)
def eZ (m : Ev S (List D)) : Ev S D := fun x k ρ => m x (fun ds ρ1 => k (.list ds) ρ1) ρ
def eBin (f : D → D → Option D) (a b : Ev S D) : Ev S D := fun x k ρ => a x (fun d ρ1 => b x (fun d2 ρ2 => (oM (f d d2)).on (fun e => x e ρ2) (fun r => k r ρ2)) ρ1) ρ
def eBinB (f : D → D → Option Bool) (a b : Ev S D) : Ev S Bool := fun x k ρ => a x (fun d ρ1 => b x (fun d2 ρ2 => (oM (f d d2)).on (fun e => x e ρ2) (fun r => k r ρ2)) ρ1) ρ
def eNil : Ev S (List D) := fun _ k ρ => k [] ρ
def eCons (m : Ev S D) (ms : Ev S (List D)) : Ev S (List D) := fun x k ρ => m x (fun d ρ1 => ms x (fun ds ρ2 => k (d :: ds) ρ2) ρ1) ρ
def eTup (ms : Ev S (List D)) : Ev S D := fun x k ρ => ms x (fun ds ρ1 => k (.tuple ds) ρ1) ρ
def eIf {α : Type} (c : Ev S Bool) (a b : Ev S α) : Ev S α := fun x k ρ => c x (fun t ρ1 => if t then a x k ρ1 else b x k ρ1) ρ
theorem opt_ok {α : Type} {OK : M S → Prop} (hO : KOk OK) {o : Option α} {x : Ex → M S} {k : α → M S} (h : OK ((oM o).on x k)) : ∃ a, o = some a ∧ OK (k a) := by
  cases o with
  | none => exact (hO h).elim
  | some a => exact ⟨a, rfl, h⟩
theorem fit_ok {α : Type} {OK : M S → Prop} (hO : KOk OK) {ds : List α} {x : Ex → M S} {k : List α → M S} (h : OK ((fitM ds).on x k)) : ds.length ≤ sizeLine ∧ OK (k ds) := by
  unfold fitM at h
  split at h
  · exact ⟨by assumption, h⟩
  · exact (hO h).elim
variable {ma mb m : Ev S D} {ta tb tc : Ev S Bool} {ms : Ev S (List D)}
theorem ae_z (h : AEl X e ms) : AE X e (eZ ms) := fun OK x k G F σ H ρ Q hO hX St ok kk => h OK x _ G F σ H ρ Q hO hX St ok fun ds v F' H' ρ' s S' fr o => by
  obtain ⟨F2, s2, S2, r2⟩ := S'.settle (v := v) (ds := ds) fr
  exact kk _ v F2 H' ρ' (s.trans s2) S2 r2 o
theorem ebin_go {r : R2} {Q : VK} {OK : M S → Prop} {x : Ex → En → M S} {G : Gh} {F H : Hp} {σ : L2.St} {ρ : En} {f : D → D → En → M S} (ha : AE X a ma) (hb : AE X b mb) (hO : KOk OK) (hX : XL X OK x G) (St : StOk X.K G F σ H ρ)
    (ok : OK (ma x (fun d ρ1 => mb x (fun d2 ρ2 => f d d2 ρ2) ρ1) ρ)) (k : ∀ u v dx dy F' H' ρ', Same F F' → StOk X.K G F' σ H' ρ' → Rep X.K F' u dx → Rep X.K F' v dy → OK (f dx dy ρ') → r u v H' Q) : tOp r (tSem X a) (tSem X b) σ H Q :=
  ha OK x _ G F σ H ρ _ hO hX St ok fun d v F1 H1 ρ1 s1 S1 r1 o1 => hb OK x _ G F1 σ H1 ρ1 _ hO hX S1 o1 fun d2 u F2 H2 ρ2 s2 S2 r2 o2 => k v u d d2 F2 H2 ρ2 (s1.trans s2) S2 (r1.mono s2) r2 o2
theorem ae_bin {op : Operator} {r : R2} {f : D → D → Option D} (ho : OpR X (binaryOp op) r) (hf : OpD X.K r f) (ha : AE X a ma) (hb : AE X b mb) : AE X (.BinOp a op b pos) (eBin f ma mb) :=
  fun OK x k G F σ H ρ Q hO hX St ok kk => sem (pe_op ho pe_sem pe_sem) (ebin_go ha hb hO hX St ok fun u v dx dy F' H' ρ' s S' r1 r2 o => by
    obtain ⟨res, e, o'⟩ := opt_ok hO o
    exact hf G F' σ H' ρ' u v dx dy res Q S' (.inl r1) (.inl r2) e fun w F2 H2 s2 S2 r3 => kk res w F2 H2 ρ' (s.trans s2) S2 r3 o')
theorem ae_ix {r : R2} {f : D → D → Option D} (hr : IxR X r) (hf : OpD X.K r f) (ha : AE X a ma) (hb : AE X b mb) (hs : PlainIx b) : AE X (.Subscript a b pos) (eBin f ma mb) :=
  fun OK x k G F σ H ρ Q hO hX St ok kk => sem (pe_ix hr pe_sem pe_sem hs) (ebin_go ha hb hO hX St ok fun u v dx dy F' H' ρ' s S' r1 r2 o => by
    obtain ⟨res, e, o'⟩ := opt_ok hO o
    exact hf G F' σ H' ρ' u v dx dy res Q S' (.inl r1) (.inl r2) e fun w F2 H2 s2 S2 r3 => kk res w F2 H2 ρ' (s.trans s2) S2 r3 o')
theorem aet_cmp {op : CmpOp} {r : R2} {f : D → D → Option Bool} (ho : OpR X (compareOp op) r) (hf : OpB X.K r f) (ha : AE X a ma) (hb : AE X b mb) (hm : behindInMarks op b = false) : AEt X (.Compare a [op] [b] pos) (eBinB f ma mb) :=
  fun OK x k G F σ H ρ Q hO hX St ok kk => semT (pt_cmpR ho pe_sem pe_sem hm) (ebin_go (Q := fun x H' => ∃ k, x = .bl k ∧ Q k H') ha hb hO hX St ok fun u v dx dy F' H' ρ' s S' r1 r2 o => by
    obtain ⟨res, e, o'⟩ := opt_ok hO o
    exact hf G F' σ H' ρ' u v dx dy res _ S' (.inl r1) (.inl r2) e ⟨res, rfl, kk res F' H' ρ' s S' o'⟩)
theorem aea_nil : AEa (S := S) X [] eNil := fun OK x k G F σ H ρ Q hO hX St ok kk => semA pa_nil (kk [] [] F H ρ (Same.refl _) St rfl .nil ok)
theorem aea_cons (h : AE X e m) (hr : AEa X es ms) (hs : starEach (e :: es) X.env = (false, eval e X.env) :: starEach es X.env) : AEa X (e :: es) (eCons m ms) :=
  fun OK x k G F σ H ρ Q hO hX St ok kk => semA (pa_cons pe_sem pa_sem hs) (h OK x _ G F σ H ρ _ hO hX St ok fun d v F1 H1 ρ1 s1 S1 r1 o1 =>
    hr OK x _ G F1 σ H1 ρ1 _ hO hX S1 o1 fun ds vs F2 H2 ρ2 s2 S2 hl r2 o2 => kk (d :: ds) (v :: vs) F2 H2 ρ2 (s1.trans s2) S2 (by simp [hl]) (.cons (r1.mono s2) r2) o2)
theorem ae_tup {x1} (h : AEa X es ms) (hz : es.length ≤ 1000) : AE X (.Tuple es x1 pos) (eTup ms) :=
  fun OK x k G F σ H ρ Q hO hX St ok kk => sem (pe_tup pa_sem) (h OK x _ G F σ H ρ _ hO hX St ok fun ds vs F1 H1 ρ1 s1 S1 hl r1 o1 => by
    refine ⟨by rw [hl]; exact le1000 hz, fun q hq => ?_⟩
    obtain ⟨s2, S2, r2⟩ := S1.newTup hq r1
    exact kk _ _ _ _ ρ1 (s1.trans s2) S2 r2 o1)
theorem ae_if (hc : AEt X c tc) (ha : AE X a ma) (hb : AE X b mb) : AE X (.IfExp c a b pos) (eIf tc ma mb) :=
  fun OK x k G F σ H ρ Q hO hX St ok kk => sem (pe_ifExp pt_sem pe_sem pe_sem) (hc OK x _ G F σ H ρ _ hO hX St ok fun t F1 H1 ρ1 s1 S1 o1 => by
    cases t with
    | true => refine iteT ?_; exact ha OK x k G F1 σ H1 ρ1 Q hO hX S1 o1 fun d v F2 H2 ρ2 s2 S2 r2 o2 => kk d v F2 H2 ρ2 (s1.trans s2) S2 r2 o2
    | false => refine iteF ?_; exact hb OK x k G F1 σ H1 ρ1 Q hO hX S1 o1 fun d v F2 H2 ρ2 s2 S2 r2 o2 => kk d v F2 H2 ρ2 (s1.trans s2) S2 r2 o2)
end
end L4
set_option Elab.async false
set_option linter.all false
set_option maxRecDepth 100000
namespace L4
open PySem PySem.Spec PyProof.Rows L2 L3
structure Walk (K : Fg) (J : It) (ds : List D) (F : Hp) : Prop where
  go : ∀ (i : Nat) (G : Gh) (F2 : Hp) (σ : L2.St) (H2 : Hp) (ρ : En), Same F F2 → StOk K G F2 σ H2 ρ → i < ds.length → J.go i H2
  yld : ∀ (i : Nat) (G : Gh) (F2 : Hp) (σ : L2.St) (H2 : Hp) (ρ : En) (x : V) (H3 : Hp) (d : D), Same F F2 → StOk K G F2 σ H2 ρ → ds[i]? = some d → J.yld i H2 x H3 → ∃ F3, Same F2 F3 ∧ StOk K G F3 σ H3 ρ ∧ Rep K F3 x d
  stop : ∀ (G : Gh) (F2 : Hp) (σ : L2.St) (H2 : Hp) (ρ : En), Same F F2 → StOk K G F2 σ H2 ρ → J.stop ds.length H2
theorem walk_list {K : Fg} {F : Hp} {a : Addr} {vs : List V} {ds : List D} (h : SqL K F a vs) (r : RepL K F vs ds) : Walk K (Itl K a) ds F where
  go := fun i G F2 σ H2 ρ s S hi => by
    have hi' : i < vs.length := by rw [r.length]; exact hi
    exact ⟨vs, vs[i], S.fh.seq (s.seq h), by simp [hi']⟩
  yld := fun i G F2 σ H2 ρ x H3 d s S hd ⟨e, q⟩ => by
    subst e
    obtain ⟨v, e1, e2⟩ := r.get hd
    have := q vs (S.fh.seq (s.seq h))
    rw [e1] at this
    cases this
    exact ⟨F2, Same.refl _, S, e2.mono s⟩
  stop := fun G F2 σ H2 ρ s S => ⟨vs, S.fh.seq (s.seq h), by rw [r.length]; exact Nat.le_refl _⟩
theorem walk_tup {K : Fg} {F : Hp} {a : Addr} {vs : List V} {ds : List D} (h : SqT K F a vs) (r : RepL K F vs ds) : Walk K (Itt K a) ds F where
  go := fun i G F2 σ H2 ρ s S hi => by
    have hi' : i < vs.length := by rw [r.length]; exact hi
    exact ⟨vs, vs[i], sqT_mono S.fh (sqT_mono s h), by simp [hi']⟩
  yld := fun i G F2 σ H2 ρ x H3 d s S hd ⟨e, q⟩ => by
    subst e
    obtain ⟨v, e1, e2⟩ := r.get hd
    have := q vs (sqT_mono S.fh (sqT_mono s h))
    rw [e1] at this
    cases this
    exact ⟨F2, Same.refl _, S, e2.mono s⟩
  stop := fun G F2 σ H2 ρ s S => ⟨vs, sqT_mono S.fh (sqT_mono s h), by rw [r.length]; exact Nat.le_refl _⟩
def rangeD (lo : Int) (n : Nat) : List D := (List.range n).map fun (i : Nat) => PyData.int (lo + (i : Int))
theorem rangeD_length (lo : Int) (n : Nat) : (rangeD lo n).length = n := by simp [rangeD]
theorem walk_range {K : Fg} {F : Hp} (lo : Int) (n : Nat) : Walk K (Itr lo n) (rangeD lo n) F where
  go := fun i G F2 σ H2 ρ s S hi => by rw [rangeD_length] at hi; exact hi
  yld := fun i G F2 σ H2 ρ x H3 d s S hd ⟨e, q⟩ => by
    subst e q
    have e' : (rangeD lo n)[i]? = some d := hd
    unfold rangeD at e'
    rw [List.getElem?_map] at e'
    have hi : i < n := by
      have := (List.getElem?_eq_some_iff.mp hd).1
      rw [rangeD_length] at this; exact this
    rw [List.getElem?_range hi] at e'
    cases e'
    exact ⟨F2, Same.refl _, S, .int _⟩
  stop := fun G F2 σ H2 ρ s S => by rw [rangeD_length]; exact Nat.le_refl _
@[irreducible] def tSemI (X : Cx) (tg iter : Expr) : TI := fun σ H R => ∀ (pins : List (Addr × Obj)) (s : Shared), Inv X pins σ H s → wpAny (model X.prog X.w) X.A (eval iter X.env) (fun v s1 => wpAny (model X.prog X.w) X.A (pyIter v) (PIE X pins σ tg R) X.xe s1) X.xe s
theorem pi_sem {X : Cx} {tg e : Expr} : PI X tg e (tSemI X tg e) := fun pins s σ H R I h => by unfold tSemI at h; exact h pins s I
theorem semI {X : Cx} {tg e : Expr} {σ : L2.St} {H : Hp} {R : It → Hp → Prop} {t : TI} (h : PI X tg e t) (q : t σ H R) : tSemI X tg e σ H R := by unfold tSemI; exact fun pins s I => h pins s σ H R I q
def AI (X : Cx) (tg e : Expr) (p : Pu (List D)) : Prop :=
  ∀ (G : Gh) (F : Hp) (σ : L2.St) (H : Hp) (ρ : En) (R : It → Hp → Prop), StOk X.K G F σ H ρ → W X G F σ ρ (p ρ) (fun ds F' H' => ∀ J, Walk X.K J ds F' → R J H') → tSemI X tg e σ H R
def AEi {S : Type} (X : Cx) (tg e : Expr) (m : Ev S (List D)) : Prop :=
  ∀ (OK : M S → Prop) (x : Ex → En → M S) (k : List D → En → M S) (G : Gh) (F : Hp) (σ : L2.St) (H : Hp) (ρ : En) (R : It → Hp → Prop), KOk OK → XL X OK x G → StOk X.K G F σ H ρ → OK (m x k ρ) →
    (∀ ds J F' H' ρ', Same F F' → StOk X.K G F' σ H' ρ' → Walk X.K J ds F' → OK (k ds ρ') → R J H') → tSemI X tg e σ H R
theorem aei_pu {S : Type} {X : Cx} {tg e : Expr} {ps : Pu (List D)} (h : AI X tg e ps) : AEi (S := S) X tg e (ePu ps) := fun OK x k G F σ H ρ Q hO hX St ok kk => h G F σ H ρ Q St (W.of hO hX ok fun d F' H' s S' o v r => kk d v F' H' ρ s S' r o)
def iSeq (K : Fg) (tl : TE) : TI := fun σ H R => tl σ H fun x H1 => (∃ a, x = .ref a ∧ (∃ xs, SqL K H1 a xs) ∧ R (Itl K a) H1) ∨ ∃ a, x = .ref a ∧ (∃ xs, SqT K H1 a xs) ∧ R (Itt K a) H1
theorem pi_seq {X : Cx} {tg l : Expr} {tl : TE} (hl : PE X l tl) : PI X tg l (iSeq X.K tl) := by
  intro pins s σ H R I h
  refine thn (hl pins s σ H _ I h) fun v s1 ⟨x, H1, I1, r1, q1⟩ => ?_
  rcases q1 with ⟨a, e, ⟨xs, hq⟩, q⟩ | ⟨a, e, ⟨xs, hq⟩, q⟩
  · subst e
    cases r1
    obtain ⟨its, rv, p, hz⟩ := I1.list hq
    refine wpAny_pyIter_list p.isList ?_
    refine ⟨s1.heap.objs.size, [s1.heap.objs.size], _, _, H1, rfl, I1.kept (t' := s1.toks) fun b o e => Heap.get?_push_of_some _ e, turn_list a _, ⟨_, Heap.get?_push_size _ rfl, rfl, rfl⟩, fun b hb => ?_, q⟩
    have e : b = s1.heap.objs.size := by simpa using hb
    subst e
    exact I1.fpOk (Nat.le_refl _) (I1.hok.fresh (Nat.le_refl _))
  · subst e
    cases r1
    obtain ⟨its, rv, p, hz⟩ := I1.tuple hq
    refine wpAny_pyIter_tuple (show s1.heap.IsTuple a its.toArray from p) ?_
    refine ⟨s1.heap.objs.size, [s1.heap.objs.size], _, _, H1, rfl, I1.kept (t' := s1.toks) fun b o e => Heap.get?_push_of_some _ e, turn_tuple a _, ⟨_, Heap.get?_push_size _ rfl, rfl, rfl⟩, fun b hb => ?_, q⟩
    have e : b = s1.heap.objs.size := by simpa using hb
    subst e
    exact I1.fpOk (Nat.le_refl _) (I1.hok.fresh (Nat.le_refl _))
def seqD : D → Option (List D)
  | .list ds => some ds
  | .tuple ds => some ds
  | _ => none
def pIt (p : Pu D) : Pu (List D) := fun ρ => bd (p ρ) fun d => oM (seqD d)
def small62 (i : Int) : Bool := decide (-(2 ^ 62) ≤ i) && decide (i < 2 ^ 62)
theorem small62_of {i : Int} (h : small62 i = true) : -(2 ^ 62) ≤ i ∧ i < 2 ^ 62 := by
  unfold small62 at h
  simp only [Bool.and_eq_true, decide_eq_true_eq] at h
  exact h
def fRange1 : List D → Option (List D)
  | [.int j] => if small62 j then some (rangeD 0 j.toNat) else none
  | _ => none
section
variable {S : Type} {X : Cx} {tg e a b : Expr} {pp : Pu D} {ps : Pa (List D)} {m : Ev S D} {ms : Ev S (List D)} {p pos : Pos}
theorem seq_walk {F H : Hp} {v : V} {d : D} {ds : List D} {R : It → Hp → Prop} (s : Same F H) (r : Rep X.K F v d) (hd : seqD d = some ds) (k : ∀ J, Walk X.K J ds F → R J H) :
    (∃ a, v = .ref a ∧ (∃ xs, SqL X.K H a xs) ∧ R (Itl X.K a) H) ∨ ∃ a, v = .ref a ∧ (∃ xs, SqT X.K H a xs) ∧ R (Itt X.K a) H := by
  cases r with
  | lst h1 h2 => cases hd; exact .inl ⟨_, rfl, ⟨_, s.seq h1⟩, k _ (walk_list h1 h2)⟩
  | tup h1 h2 => cases hd; exact .inr ⟨_, rfl, ⟨_, sqT_mono s h1⟩, k _ (walk_tup h1 h2)⟩
  | non => cases hd
  | bl _ => cases hd
  | int _ => cases hd
  | str _ => cases hd
theorem ai_seq (h : AP X e pp) : AI X tg e (pIt pp) := fun G F σ H ρ R S w => semI (pi_seq pe_sem) (h G F σ H ρ _ S (w.bind.imp fun d F1 H1 s1 S1 w1 v r1 => by
  obtain ⟨ds, hd, k⟩ := w1.opt
  exact seq_walk S1.fh r1 hd (k F1 H1 (Same.refl _) S1)))
theorem range1_go {F H : Hp} {vs : List V} {ds out : List D} {R : It → Hp → Prop} (r : RepL X.K F vs ds) (h : fRange1 ds = some out) (k : ∀ J, Walk X.K J out F → R J H) : ∃ j, vs = [.int j] ∧ -(2 ^ 62) ≤ j ∧ j < 2 ^ 62 ∧ R (Itr 0 j.toNat) H := by
  unfold fRange1 at h
  split at h
  · rename_i j
    split at h
    · rename_i hs
      cases h
      cases r with
      | cons r1 r2 =>
        cases r2
        cases r1
        exact ⟨j, rfl, (small62_of hs).1, (small62_of hs).2, k _ (walk_range 0 j.toNat)⟩
    · cases h
  · cases h
theorem ai_range1 (hg : Gl X "range") (hm : X.mg "range" = none) (ha : AA X [a] ps) (hs : starEach [a] X.env = [(false, eval a X.env)]) : AI X tg (.Call (.Name "range" p) [a] [] pos) (pCallL fRange1 ps) :=
  fun G F σ H ρ R S w => semI (pi_range1 hg hm pa_sem hs) (ha G F σ H ρ _ _ _ S w fun ds vs F1 H1 s1 S1 _ r1 w1 => by
    obtain ⟨out, hd, k⟩ := w1.opt
    exact range1_go r1 hd (k F1 H1 (Same.refl _) S1))
end
abbrev Tg (S : Type) := D → (En → M S) → En → M S
def okSet (ρ : En) (i : Nat) : Bool := decide (i < ρ.length) && (match ρ[i]? with
  | some (some (.op _)) => false
  | _ => true)
theorem okSet_of {ρ : En} {i : Nat} (h : okSet ρ i = true) : i < ρ.length ∧ ∀ c, ρ[i]? ≠ some (some (.op c)) := by
  unfold okSet at h
  rw [Bool.and_eq_true] at h
  refine ⟨by simpa using h.1, fun c e => ?_⟩
  rw [e] at h
  exact absurd h.2 (by simp)
@[irreducible] def tSemG (X : Cx) (tg : Expr) : TG := fun v σ H Q => ∀ (pins : List (Addr × Obj)) (s : Shared) (u : Value), Inv X pins σ H s → RelV v u → wpAny (model X.prog X.w) X.A (assign tg X.env u) (fun _ s' => ∃ σ' H', Inv X pins σ' H' s' ∧ Q σ' H') X.xe s
@[irreducible] def tSemGs (X : Cx) (tgs : List Expr) : TGs := fun vs σ H Q => ∀ (pins : List (Addr × Obj)) (s : Shared) (us : List Value), Inv X pins σ H s → Vals vs us → wpAny (model X.prog X.w) X.A (assignInOrder ((assignEach tgs X.env).map (·.2)) us) (fun _ s' => ∃ σ' H', Inv X pins σ' H' s' ∧ Q σ' H') X.xe s
theorem pg_sem {X : Cx} {tg : Expr} : PG X tg (tSemG X tg) := fun pins s σ H v u Q I r h => by unfold tSemG at h; exact h pins s u I r
theorem pgs_sem {X : Cx} {tgs : List Expr} : PGs X tgs (tSemGs X tgs) := fun pins s σ H vs us Q I r h => by unfold tSemGs at h; exact h pins s us I r
theorem semG {X : Cx} {tg : Expr} {t : TG} {v : V} {σ : L2.St} {H : Hp} {Q : L2.St → Hp → Prop} (h : PG X tg t) (q : t v σ H Q) : tSemG X tg v σ H Q := by unfold tSemG; exact fun pins s u I r => h pins s σ H v u Q I r q
theorem semGs {X : Cx} {tgs : List Expr} {t : TGs} {vs : List V} {σ : L2.St} {H : Hp} {Q : L2.St → Hp → Prop} (h : PGs X tgs t) (q : t vs σ H Q) : tSemGs X tgs vs σ H Q := by unfold tSemGs; exact fun pins s us I r => h pins s σ H vs us Q I r q
def AG {S : Type} (X : Cx) (n : Nat) (tg : Expr) (st : Tg S) : Prop :=
  ∀ (OK : M S → Prop) (k : En → M S) (G : Gh) (F : Hp) (σ : L2.St) (H : Hp) (ρ : En) (v : V) (d : D) (Q : L2.St → Hp → Prop), KOk OK → StOk X.K G F σ H ρ → Rep X.K F v d → OK (st d k ρ) →
    (∀ σ' ρ', StOk X.K G F σ' H ρ' → (∀ j, j < n → σ'[j]? = σ[j]? ∧ ρ'[j]? = ρ[j]?) → σ'.length = σ.length → ρ'.length = ρ.length → OK (k ρ') → Q σ' H) → tSemG X tg v σ H Q
def AGs {S : Type} (X : Cx) (n : Nat) (tgs : List Expr) (st : List D → (En → M S) → En → M S) : Prop :=
  ∀ (OK : M S → Prop) (k : En → M S) (G : Gh) (F : Hp) (σ : L2.St) (H : Hp) (ρ : En) (vs : List V) (ds : List D) (Q : L2.St → Hp → Prop), KOk OK → StOk X.K G F σ H ρ → RepL X.K F vs ds → OK (st ds k ρ) →
    (∀ σ' ρ', StOk X.K G F σ' H ρ' → (∀ j, j < n → σ'[j]? = σ[j]? ∧ ρ'[j]? = ρ[j]?) → σ'.length = σ.length → ρ'.length = ρ.length → OK (k ρ') → Q σ' H) → tSemGs X tgs vs σ H Q
def gSet {S : Type} (i : Nat) : Tg S := fun d k ρ => match okSet ρ i with
  | true => k (ρ.set i (some (.fz d)))
  | false => .bad
def gsNil {S : Type} : List D → (En → M S) → En → M S
  | [], k, ρ => k ρ
  | _, _, _ => .bad
def gsCons {S : Type} (t : Tg S) (ts : List D → (En → M S) → En → M S) : List D → (En → M S) → En → M S
  | d :: ds, k, ρ => t d (fun ρ1 => ts ds k ρ1) ρ
  | [], _, _ => .bad
def un1 {S : Type} (d : D) (k : D → M S) : M S := match d with
  | .tuple [a] => k a
  | _ => .bad
def un2 {S : Type} (d : D) (k : D → D → M S) : M S := match d with
  | .tuple [a, b] => k a b
  | _ => .bad
def gTup2 {S : Type} (ts : List D → (En → M S) → En → M S) : Tg S := fun d k ρ => un2 d fun a b => ts [a, b] k ρ
section
variable {S : Type} {X : Cx} {pos : Pos} {n : Nat}
theorem ag_name {i : Nat} {x : Str} (hn : n ≤ i) (hN : X.N.Nodup) (hi : X.N[i]? = some x) (hx : Loc X.env.scope x) (hf : X.fn x = true ∨ X.env.scope.names.lookup x = some .local) : AG (S := S) X n (.Name x pos) (gSet i) := by
  intro OK k G F σ H ρ v d Q hO S r ok kk
  unfold gSet at ok
  split at ok
  · rename_i ho
    obtain ⟨hl, hop⟩ := okSet_of ho
    refine semG (pg_name hN hi hx hf) ?_
    exact kk _ _ (S.store hop hl (.inl ⟨d, rfl, r⟩)) (fun j hj => ⟨List.getElem?_set_ne (by omega), List.getElem?_set_ne (by omega)⟩) (by simp) (by simp) ok
  · exact (hO ok).elim
theorem ags_nil : AGs (S := S) X n [] gsNil := by
  intro OK k G F σ H ρ vs ds Q hO S r ok kk
  cases ds with
  | nil =>
    cases r
    exact semGs pgs_nil ⟨rfl, kk σ ρ S (fun _ _ => ⟨rfl, rfl⟩) rfl rfl ok⟩
  | cons d ds => exact (hO ok).elim
theorem ags_cons {e : Expr} {es : List Expr} {st : Tg S} {sts : List D → (En → M S) → En → M S} (h1 : AG X n e st) (h2 : AGs X n es sts)
    (hs : (assignEach (e :: es) X.env).map (·.2) = assign e X.env :: (assignEach es X.env).map (·.2)) : AGs X n (e :: es) (gsCons st sts) := by
  intro OK k G F σ H ρ vs ds Q hO S r ok kk
  cases ds with
  | nil => exact (hO ok).elim
  | cons d ds =>
    cases r with
    | cons rv rr =>
      refine semGs (pgs_cons pg_sem pgs_sem hs) ⟨_, _, rfl, ?_⟩
      refine h1 OK _ G F σ H ρ _ d _ hO S rv ok fun σ1 ρ1 S1 kp1 l1 m1 o1 => ?_
      exact h2 OK k G F σ1 H ρ1 _ ds _ hO S1 rr o1 fun σ2 ρ2 S2 kp2 l2 m2 o2 => kk σ2 ρ2 S2 (fun j hj => ⟨(kp2 j hj).1.trans (kp1 j hj).1, (kp2 j hj).2.trans (kp1 j hj).2⟩) (l2.trans l1) (m2.trans m1) o2
theorem ag_tupN {es : List Expr} {kk l : Nat} {sts : List D → (En → M S) → En → M S} {st : Tg S} (hc : X.calm = true) (h : AGs X n es sts) (hn : (assignEach es X.env).length = l) (hst : (assignEach es X.env).findIdx? (·.1) = none)
    (hw : ∀ (OK : M S → Prop) d k ρ, KOk OK → OK (st d k ρ) → ∃ ds, d = .tuple ds ∧ ds.length = l ∧ OK (sts ds k ρ)) : AG X n (.Tuple es kk pos) st := by
  intro OK k G F σ H ρ v d Q hO S r ok k2
  obtain ⟨ds, rfl, hl, ok⟩ := hw OK d k ρ hO ok
  cases r with
  | tup h1 h2 =>
    refine semG (pg_tup hc pgs_sem hn hst) ⟨_, _, rfl, sqT_mono S.fh h1, by rw [h2.length]; exact hl, ?_⟩
    exact h OK k G F σ H ρ _ ds _ hO S h2 ok k2
theorem ag_tup2 {es : List Expr} {kk : Nat} {sts : List D → (En → M S) → En → M S} (hc : X.calm = true) (h : AGs X n es sts) (hn : (assignEach es X.env).length = 2) (hst : (assignEach es X.env).findIdx? (·.1) = none) : AG X n (.Tuple es kk pos) (gTup2 sts) :=
  ag_tupN hc h hn hst fun OK d k ρ hO o => by
    unfold gTup2 un2 at o
    split at o
    · exact ⟨_, rfl, rfl, o⟩
    · exact (hO o).elim
end
abbrev SM (S : Type) := KS S → En → M S
structure EOk {S : Type} (X : Cx) (OK : M S → Prop) (K : KS S) (G : Gh) (F : Hp) (E : Ends) : Prop where
  nx : ∀ F' σ' H' ρ', Same F F' → StOk X.K G F' σ' H' ρ' → OK (K.nx ρ') → E.nx σ' H'
  rt : ∀ F' σ' H' ρ' d v, Same F F' → StOk X.K G F' σ' H' ρ' → Rep X.K F' v d → OK (K.rt d ρ') → E.rt v H'
  rl : ∀ F' σ' H' ρ' ds v, Same F F' → StOk X.K G F' σ' H' ρ' → Frs X.K G F' σ' H' ρ' v (.l ds) → OK (K.rl ds ρ') → E.rt v H'
  bk : ∀ F' σ' H' ρ', Same F F' → StOk X.K G F' σ' H' ρ' → OK (K.bk ρ') → E.bk σ' H'
  ct : ∀ F' σ' H' ρ', Same F F' → StOk X.K G F' σ' H' ρ' → OK (K.ct ρ') → E.ct σ' H'
theorem EOk.up {S : Type} {X : Cx} {OK : M S → Prop} {K : KS S} {G : Gh} {F F' : Hp} {E : Ends} (h : EOk X OK K G F E) (s : Same F F') : EOk X OK K G F' E :=
  ⟨fun F2 σ' H' ρ' s2 => h.nx F2 σ' H' ρ' (s.trans s2), fun F2 σ' H' ρ' d v s2 => h.rt F2 σ' H' ρ' d v (s.trans s2), fun F2 σ' H' ρ' d v s2 => h.rl F2 σ' H' ρ' d v (s.trans s2), fun F2 σ' H' ρ' s2 => h.bk F2 σ' H' ρ' (s.trans s2), fun F2 σ' H' ρ' s2 => h.ct F2 σ' H' ρ' (s.trans s2)⟩
@[irreducible] def tSemS (X : Cx) (st : Stmt) : TS := fun E σ H => ∀ (pins : List (Addr × Obj)) (s : Shared), Inv X pins σ H s → wpAny (model X.prog X.w) X.A (exec st X.env) (SP X pins E) X.xe s
@[irreducible] def tSemB (X : Cx) (sts : List Stmt) : TS := fun E σ H => ∀ (pins : List (Addr × Obj)) (s : Shared), Inv X pins σ H s → wpAny (model X.prog X.w) X.A (execs sts X.env) (SP X pins E) X.xe s
section
variable {X : Cx} {st : Stmt} {sts : List Stmt} {σ : L2.St} {H : Hp} {E : Ends} {t : TS}
theorem ps_sem : PS X st (tSemS X st) := fun pins s σ H E I h => by unfold tSemS at h; exact h pins s I
theorem pss_sem : PSs X sts (tSemB X sts) := fun pins s σ H E I h => by unfold tSemB at h; exact h pins s I
theorem semS (h : PS X st t) (q : t E σ H) : tSemS X st E σ H := by unfold tSemS; exact fun pins s I => h pins s σ H E I q
theorem semB (h : PSs X sts t) (q : t E σ H) : tSemB X sts E σ H := by unfold tSemB; exact fun pins s I => h pins s σ H E I q
end
def AS {S : Type} (X : Cx) (st : Stmt) (m : SM S) : Prop :=
  ∀ (OK : M S → Prop) (K : KS S) (G : Gh) (F : Hp) (σ : L2.St) (H : Hp) (ρ : En) (E : Ends), KOk OK → XL X OK K.x G → StOk X.K G F σ H ρ → OK (m K ρ) → EOk X OK K G F E → tSemS X st E σ H
def ASs {S : Type} (X : Cx) (st : List Stmt) (m : SM S) : Prop :=
  ∀ (OK : M S → Prop) (K : KS S) (G : Gh) (F : Hp) (σ : L2.St) (H : Hp) (ρ : En) (E : Ends), KOk OK → XL X OK K.x G → StOk X.K G F σ H ρ → OK (m K ρ) → EOk X OK K G F E → tSemB X st E σ H
section
variable {S : Type}
def sNext : SM S := fun K ρ => K.nx ρ
def sSeq (m n : SM S) : SM S := fun K ρ => m { K with nx := fun ρ1 => n K ρ1 } ρ
def sIf (c : Ev S Bool) (m n : SM S) : SM S := fun K ρ => c K.x (fun b ρ1 => if b then m K ρ1 else n K ρ1) ρ
def sTo (sh : List Kd) (m : SM S) : SM S := fun K ρ => m { K with nx := fun ρ1 => rdk sh (fun s => K.nx (wr sh s)) ρ1 } ρ
def sSet (i : Nat) (m : Ev S D) : SM S := fun K ρ => m K.x (fun d ρ1 => match okSet ρ1 i with
  | true => K.nx (ρ1.set i (some (.fz d)))
  | false => .bad) ρ
def sSetL (i : Nat) (m : Ev S (List D)) : SM S := fun K ρ => m K.x (fun ds ρ1 => match okSet ρ1 i with
  | true => K.nx (ρ1.set i (some (.ol (.l ds))))
  | false => .bad) ρ
def sRet (m : Ev S D) : SM S := fun K ρ => m K.x K.rt ρ
def sRetL (m : Ev S (List D)) : SM S := fun K ρ => m K.x K.rl ρ
def sRetO (i : Nat) : SM S := fun K ρ => match ρ[i]? with
  | some (some (.ol (.l ds))) => K.rl ds (ρ.set i none)
  | _ => .bad
def sFrz (i : Nat) (m : SM S) : SM S := fun K ρ => match ρ[i]? with
  | some (some (.ol (.l ds))) => m K (ρ.set i (some (.fz (.list ds))))
  | _ => .bad
def setO (ρ : En) (i : Nat) (ds : List D) : En := match ρ[i]? with
  | some (some (.op _)) => ρ.set i (some (.op (.l ds)))
  | _ => ρ.set i (some (.ol (.l ds)))
def sMut (i : Nat) (f : List D → List D → Option (List D)) (ms : Ev S (List D)) : SM S := fun K ρ => match ownL ρ i with
  | some _ => ms K.x (fun as ρ1 => match ownL ρ1 i with
    | some ds => (oM (f ds as)).on (fun e => K.x e ρ1) (fun ds' => K.nx (setO ρ1 i ds'))
    | none => .bad) ρ
  | none => .bad
def forC {T : Type} (step : T → D → (T → M S) → M S) : List D → T → (T → M S) → M S
  | [], s, k => k s
  | d :: r, s, k => step s d (fun s' => forC step r s' k)
@[reducible] def loopK (sh : List Kd) (K : KS S) (kn : SOf sh → M S) : KS S := { K with
    nx := fun ρ3 => rdk sh kn ρ3
    ct := fun ρ3 => rdk sh kn ρ3
    bk := fun ρ3 => rdk sh (fun s' => K.nx (wr sh s')) ρ3 }
def sFor (sh : List Kd) (it : Ev S (List D)) (t : Tg S) (mb : SM S) : SM S := fun K ρ => it K.x (fun ds ρ1 => rdk sh (fun s => forC (fun s d kn => t d (fun ρ2 => mb (loopK sh K kn) ρ2) (wr sh s)) ds s (fun s' => K.nx (wr sh s'))) ρ1) ρ
end
theorem setO_change (ρ : En) (i : Nat) (ds ds0 : List D) (h : ownL ρ i = some ds0) : setO ρ i ds = ρ.set i ((ρ[i]?.join).map fun | .op _ => .op (.l ds) | _ => .ol (.l ds)) := by
  unfold ownL at h
  unfold setO
  split at h
  · rename_i q; rw [q]; rfl
  · rename_i q; rw [q]; rfl
  · cases h
theorem rdk_ok {S : Type} {OK : M S → Prop} (hO : KOk OK) {sh : List Kd} {k : SOf sh → M S} {ρ : En} (h : OK (rdk sh k ρ)) : ∃ s, rd sh ρ = some s ∧ OK (k s) := by
  unfold rdk at h
  split at h
  · rename_i s e; exact ⟨s, e, h⟩
  · exact (hO h).elim
section
variable {S : Type} {X : Cx} {st : Stmt} {sts rest : List Stmt} {m n : SM S} {e c a b : Expr} {me : Ev S D} {mt : Ev S Bool} {ml : Ev S (List D)} {pos pos' tpos : Pos}
theorem ass_nil : ASs (S := S) X [] sNext := fun OK K G F σ H ρ E hO hX St ok eo => semB pss_nil (eo.nx F σ H ρ (Same.refl _) St ok)
theorem ass_cons (h1 : AS X st m) (h2 : ASs X rest n) : ASs X (st :: rest) (sSeq m n) := fun OK K G F σ H ρ E hO hX St ok eo =>
  semB (pss_cons ps_sem pss_sem) (h1 OK { K with nx := fun ρ1 => n K ρ1 } G F σ H ρ _ hO hX St ok ⟨fun F' σ' H' ρ' s S' o => h2 OK K G F' σ' H' ρ' E hO hX S' o (eo.up s), eo.rt, eo.rl, eo.bk, eo.ct⟩)
theorem ass_one (h1 : AS X st m) : ASs X [st] m := fun OK K G F σ H ρ E hO hX St ok eo => semB (pss_one ps_sem) (h1 OK K G F σ H ρ E hO hX St ok eo)
theorem as_if {A B : List Stmt} (hc : AEt X c mt) (ha : ASs X A m) (hb : ASs X B n) : AS X (.If c A B pos) (sIf mt m n) := fun OK K G F σ H ρ E hO hX St ok eo =>
  semS (ps_if pt_sem pss_sem pss_sem) (hc OK K.x _ G F σ H ρ _ hO hX St ok fun t F1 H1 ρ1 s1 S1 o1 => by
    cases t with
    | true => exact ha OK K G F1 σ H1 ρ1 E hO hX S1 o1 (eo.up s1)
    | false => exact hb OK K G F1 σ H1 ρ1 E hO hX S1 o1 (eo.up s1))
theorem as_to {sh : List Kd} (h : AS X st m) : AS X st (sTo sh m) := fun OK K G F σ H ρ E hO hX St ok eo =>
  h OK { K with nx := fun ρ1 => rdk sh (fun s => K.nx (wr sh s)) ρ1 } G F σ H ρ E hO hX St ok ⟨fun F' σ' H' ρ' s S' o => by
    obtain ⟨s', e', o'⟩ := rdk_ok hO o
    exact eo.nx F' σ' H' _ s (S'.rd e') o', eo.rt, eo.rl, eo.bk, eo.ct⟩
theorem as_frz {i : Nat} (h : AS X st m) : AS X st (sFrz i m) := fun OK K G F σ H ρ E hO hX St ok eo => by
  unfold sFrz at ok
  split at ok
  · rename_i ds q
    obtain ⟨a, ea, _⟩ := St.ow i _ (.inl q)
    obtain ⟨F2, s2, S2, _⟩ := St.settleB q ea
    exact h OK K G F2 σ H _ E hO hX S2 ok (eo.up s2)
  · exact (hO ok).elim
theorem as_ret (he : AE X e me) : AS X (.Return (some e) pos) (sRet me) := fun OK K G F σ H ρ E hO hX St ok eo =>
  semS (ps_ret pe_sem) (he OK K.x K.rt G F σ H ρ _ hO hX St ok fun d v F1 H1 ρ1 s1 S1 r1 o1 => eo.rt F1 σ H1 ρ1 d v s1 S1 r1 o1)
theorem as_retL (he : AEl X e ml) : AS X (.Return (some e) pos) (sRetL ml) := fun OK K G F σ H ρ E hO hX St ok eo =>
  semS (ps_ret pe_sem) (he OK K.x K.rl G F σ H ρ _ hO hX St ok fun d v F1 H1 ρ1 s1 S1 r1 o1 => eo.rl F1 σ H1 ρ1 d v s1 S1 r1 o1)
theorem _root_.L3.StOk.drop {K : Fg} {G : Gh} {F H : Hp} {σ : L2.St} {ρ : En} (S : StOk K G F σ H ρ) {i : Nat} (hi : ∀ c, ρ[i]? ≠ some (some (.op c))) : StOk K G F σ H (ρ.set i none) := by
  refine S.weak (by simp) (fun j av e => ?_) (fun j c e => ?_)
  · by_cases hj : j = i
    · subst hj
      exfalso
      by_cases hl : j < ρ.length
      · rw [List.getElem?_set_self hl] at e; cases e
      · rw [List.getElem?_eq_none_iff.mpr (by simp; omega)] at e; cases e
    · rw [List.getElem?_set_ne (Ne.symm hj)] at e; exact e
  · have hj : j ≠ i := by rintro rfl; exact hi c e
    rw [List.getElem?_set_ne (Ne.symm hj)]; exact e
theorem as_retO {i : Nat} {x : Str} (hN : X.N[i]? = some x) (hv : Vis X.env.scope x) (hd : (x == ("__debug__" : Str)) = false := by decide) (hcd : (x == ("__classdict__" : Str)) = false := by decide) : AS (S := S) X (.Return (some (.Name x pos')) pos) (sRetO i) := fun OK K G F σ H ρ E hO hX St ok eo =>
  semS (ps_ret (pe_var hN hv hd hcd)) (by
    unfold sRetO at ok
    split at ok
    · rename_i ds q
      obtain ⟨a, ea, oa⟩ := St.ow i _ (.inl q)
      refine ⟨_, ea, eo.rl F σ H _ ds (.ref a) (Same.refl _) (St.drop fun c e => by rw [q] at e; cases e) ⟨a, rfl, oa, fun j f ho e2 => ?_⟩ ok⟩
      have hl : i < ρ.length := (List.getElem?_eq_some_iff.mp q).1
      by_cases hj : j = i
      · subst hj
        rcases ho with ho | ho <;> (rw [List.getElem?_set_self hl] at ho; cases ho)
      · have ho' : own ρ j f := by
          unfold own at ho ⊢
          rw [List.getElem?_set_ne (Ne.symm hj)] at ho
          exact ho
        exact hj (St.dj j i _ _ a ho' (.inl q) e2 ea)
    · exact (hO ok).elim)
theorem as_set {i : Nat} {x : Str} (hN : X.N.Nodup) (hi : X.N[i]? = some x) (hx : Loc X.env.scope x) (he : AE X e me) (hs : swapsWith e (some (.Name x pos')) pos.line X.env = pure false) (hf : X.fn x = true ∨ X.env.scope.names.lookup x = some .local) :
    AS X (.Assign [.Name x pos'] e pos) (sSet i me) := fun OK K G F σ H ρ E hO hX St ok eo =>
  semS (ps_set hN hi hx pe_sem hs hf) (he OK K.x _ G F σ H ρ _ hO hX St ok fun d v F1 H1 ρ1 s1 S1 r1 o1 => by
    split at o1
    · rename_i ho
      obtain ⟨hl, hop⟩ := okSet_of ho
      exact eo.nx F1 _ H1 _ s1 (S1.store hop hl (.inl ⟨d, rfl, r1⟩)) o1
    · exact (hO o1).elim)
theorem as_setL {i : Nat} {x : Str} (hN : X.N.Nodup) (hi : X.N[i]? = some x) (hx : Loc X.env.scope x) (he : AEl X e ml) (hs : swapsWith e (some (.Name x pos')) pos.line X.env = pure false) (hf : X.fn x = true ∨ X.env.scope.names.lookup x = some .local) :
    AS X (.Assign [.Name x pos'] e pos) (sSetL i ml) := fun OK K G F σ H ρ E hO hX St ok eo =>
  semS (ps_set hN hi hx pe_sem hs hf) (he OK K.x _ G F σ H ρ _ hO hX St ok fun d v F1 H1 ρ1 s1 S1 r1 o1 => by
    split at o1
    · rename_i ho
      obtain ⟨hl, hop⟩ := okSet_of ho
      exact eo.nx F1 _ H1 _ s1 (S1.store hop hl (.inr ⟨.l d, rfl, r1⟩)) o1
    · exact (hO o1).elim)
end
end L4
set_option Elab.async false
set_option linter.all false
set_option maxRecDepth 100000
namespace L4
open PySem PySem.Spec PyProof.Rows L2 L3
section
variable {S : Type} {X : Cx} {m n mb : SM S} {e c a b o : Expr} {me mi : Ev S D} {mt : Ev S Bool} {ml ms : Ev S (List D)} {pos pos' tpos apos cpos : Pos}
theorem as_for {tg iter : Expr} {body : List Stmt} {sh : List Kd} {t : Tg S} (hp : PassesOwn (model X.prog X.w) X.A X.env X.xe) (hc : X.calm = true) (hi : AEi X tg iter ml) (hg : AG X 0 tg t) (hb : ASs X body mb)
    (hs : ∀ x, foldedSetIterable iter X.env x = pure x) : AS X (.For tg iter body [] pos) (sFor sh ml t mb) := fun OK K G F σ H ρ E hO hX St ok eo =>
  semS (ps_for hp hc pi_sem pg_sem pss_sem hs) (hi OK K.x _ G F σ H ρ _ hO hX St ok fun ds J F1 H1 ρ1 s1 S1 wk o1 => by
    obtain ⟨s0, e0, o0⟩ := rdk_ok hO o1
    have S0 := S1.rd e0
    clear o1
    generalize hstep : (fun (s : SOf sh) d (kn : SOf sh → M S) => t d (fun ρ2 => mb (loopK sh K kn) ρ2) (wr sh s)) = step at o0
    refine ⟨fun i m σ' H' => ∃ F' s, m = ds.length - i ∧ i ≤ ds.length ∧ Same F1 F' ∧ StOk X.K G F' σ' H' (wr sh s) ∧ OK (forC step (ds.drop i) s (fun s' => K.nx (wr sh s'))), ⟨ds.length, F1, s0, rfl, Nat.zero_le _, Same.refl _, S0, o0⟩, ?_⟩
    rintro i m σ' H' ⟨F', s, rfl, hi, s2, S2, go⟩
    by_cases hlt : i < ds.length
    · have ed : ds.drop i = ds[i] :: ds.drop (i + 1) := List.drop_eq_getElem_cons hlt
      rw [ed] at go
      dsimp only [forC] at go
      rw [← hstep] at go
      have again : ∀ F5 σ5 H5 ρ5, Same F' F5 → StOk X.K G F5 σ5 H5 ρ5 → OK (rdk sh (fun s' => forC step (ds.drop (i + 1)) s' fun s' => K.nx (wr sh s')) ρ5) →
          ∃ m', m' < ds.length - i ∧ ∃ F' s, m' = ds.length - (i + 1) ∧ i + 1 ≤ ds.length ∧ Same F1 F' ∧ StOk X.K G F' σ5 H5 (wr sh s) ∧ OK (forC step (ds.drop (i + 1)) s (fun s' => K.nx (wr sh s'))) := fun F5 σ5 H5 ρ5 s5 S5 o5 => by
        obtain ⟨s', e', o'⟩ := rdk_ok hO o5
        exact ⟨ds.length - (i + 1), by omega, F5, s', rfl, hlt, s2.trans s5, S5.rd e', o'⟩
      refine .inr ⟨wk.go i G F' σ' H' _ s2 S2 hlt, fun σ4 H4 => ∃ m', m' < ds.length - i ∧ ∃ F' s, m' = ds.length - (i + 1) ∧ i + 1 ≤ ds.length ∧ Same F1 F' ∧ StOk X.K G F' σ4 H4 (wr sh s) ∧ OK (forC step (ds.drop (i + 1)) s (fun s' => K.nx (wr sh s'))), fun σ4 H4 h4 => h4, fun x H2 y => ?_⟩
      obtain ⟨F3, s3, S3, r3⟩ := wk.yld i G F' σ' H' _ x H2 ds[i] s2 S2 (by simp [hlt]) y
      refine hg OK _ G F3 σ' H2 (wr sh s) x ds[i] _ hO S3 r3 go fun σ3 ρ3 S4 _ _ _ o4 => ?_
      rw [hstep] at o4
      refine hb OK (loopK sh K fun s' => forC step (ds.drop (i + 1)) s' fun s' => K.nx (wr sh s')) G F3 σ3 H2 ρ3 _ hO hX S4 o4 ⟨fun F5 σ5 H5 ρ5 s5 S5 o5 => ?_, fun F5 σ5 H5 ρ5 d v s5 => eo.rt F5 σ5 H5 ρ5 d v ((s1.trans (s2.trans s3)).trans s5), fun F5 σ5 H5 ρ5 d v s5 => eo.rl F5 σ5 H5 ρ5 d v ((s1.trans (s2.trans s3)).trans s5), fun F5 σ5 H5 ρ5 s5 S5 o5 => ?_, fun F5 σ5 H5 ρ5 s5 S5 o5 => ?_⟩
      · exact again F5 σ5 H5 ρ5 (s3.trans s5) S5 o5
      · obtain ⟨s', e', o'⟩ := rdk_ok hO o5
        exact eo.nx F5 σ5 H5 _ ((s1.trans (s2.trans s3)).trans s5) (S5.rd e') o'
      · exact again F5 σ5 H5 ρ5 (s3.trans s5) S5 o5
    · have ei : i = ds.length := by omega
      subst ei
      rw [List.drop_length] at go
      exact .inl ⟨wk.stop G F' σ' H' _ s2 S2, eo.nx F' σ' H' _ (s1.trans s2) S2 go⟩)
theorem own_ref {K : Fg} {G : Gh} {F H : Hp} {σ : L2.St} {ρ : En} {i : Nat} {ds : List D} (St : StOk K G F σ H ρ) (h : ownL ρ i = some ds) : ∃ a vs, σ[i]? = some (some (.ref a)) ∧ H a = some (.lst vs) ∧ RepL K F vs ds := by
  obtain ⟨a, ea, oa⟩ := St.ow i _ (ownL_own h)
  obtain ⟨vs, h1, h2⟩ := oa.he
  exact ⟨a, vs, ea, h1, h2⟩
theorem own_set {K : Fg} {G : Gh} {F H : Hp} {σ : L2.St} {ρ : En} {i : Nat} {a : Addr} {ds ds' : List D} {vs' : List V} (St : StOk K G F σ H ρ) (h : ownL ρ i = some ds) (ha : σ[i]? = some (some (.ref a))) (r : RepL K F vs' ds') :
    StOk K G F σ (upd H a (.lst vs')) (setO ρ i ds') := by
  rw [setO_change ρ i ds' ds h]
  exact St.change (ownL_own h) ha (c' := .l ds') ⟨_, upd_same, r⟩
def mApp (ds as : List D) : Option (List D) := match as with
  | [d] => if ds.length < sizeLine then some (ds ++ [d]) else none
  | _ => none
theorem as_app {i : Nat} {x : Str} (hN : X.N[i]? = some x) (hv : Vis X.env.scope x) (he : AEa X [e] ms)
    (hbase : attributeBase (.Name x pos') "append" X.env (eval (.Name x pos') X.env) = eval (.Name x pos') X.env)
    (hfew : ((backTo cpos (starEach [e] X.env)).all (fun x => !x.1) && (backToKw cpos (keywordEach [] X.env)).all (fun x => x.1.isSome)
      && decide ([e].length + ([] : List Keyword).length + (if ([] : List Keyword).isEmpty then 0 else 1) < 30)) = true)
    (hline : (apos.endLine == cpos.line) = true) (hs : starEach [e] X.env = (false, eval e X.env) :: starEach [] X.env) (hplain : (backTo cpos (starEach [] X.env)).any (·.1) = false)
    (hsw : swapsWith (.Call (.Attribute (.Name x pos') "append" apos) [e] [] cpos) none pos.line X.env = pure false) (hd : (x == ("__debug__" : Str)) = false := by decide) (hcd : (x == ("__classdict__" : Str)) = false := by decide) :
    AS X (.Expr (.Call (.Attribute (.Name x pos') "append" apos) [e] [] cpos) pos) (sMut i mApp ms) := fun OK K G F σ H ρ E hO hX St ok eo =>
  semS (ps_expr (pe_bm PySem.F.plainAttrs_list PySem.F.slot_list_append PySem.F.type_list_append mt_append (pe_var hN hv hd hcd) pa_sem hbase hfew hline hs hplain) hsw) (by
    unfold sMut at ok
    split at ok
    case h_2 => exact (hO ok).elim
    · rename_i ds0 h0
      obtain ⟨a, vs0, ea, hh, _⟩ := own_ref St h0
      refine ⟨_, ea, .inl ⟨rfl, vs0, .inl (.inl hh)⟩, he OK K.x _ G F σ H ρ _ hO hX St ok fun as ws F1 H1 ρ1 s1 S1 _ r1 o1 => ?_⟩
      split at o1
      · rename_i ds hds
        obtain ⟨ds', hf, o2⟩ := opt_ok hO o1
        obtain ⟨a', vs, ea', hh', rv⟩ := own_ref S1 hds
        rw [ea] at ea'
        injection ea' with ea'; injection ea' with ea'; injection ea' with ea'
        subst ea'
        unfold mApp at hf
        split at hf
        · split at hf
          · rename_i hz
            cases hf
            cases r1 with
            | cons ra rb =>
              cases rb
              refine ⟨a, vs, _, rfl, rfl, hh', by rw [rv.length]; exact hz, ?_⟩
              exact eo.nx F1 σ _ _ s1 (own_set S1 hds ea (rv.append (.cons ra .nil))) o2
          · cases hf
        · cases hf
      · exact (hO o1).elim)
end
end L4
set_option Elab.async false
set_option linter.all false
set_option maxRecDepth 100000
namespace L4
open PySem PySem.Spec PyProof.Rows L2 L3
theorem map_some_get {α : Type} {l : List α} {i : Nat} {x : α} : (l.map some)[i]? = some (some x) ↔ l[i]? = some x := by
  rw [List.getElem?_map]
  cases l[i]? <;> simp
open Classical in
noncomputable def calleeO (G : Gh) (σ : L2.St) (ρ : En) (H : Hp) (ex : Option Addr) : Hp := fun b => if (∃ (i : Nat) (c : OC), own ρ i c ∧ σ[i]? = some (some (V.ref b))) ∧ some b ≠ ex then H b else G.O b
def setC (ρ : En) (j : Nat) (c : OC) : En := ρ.set j ((ρ[j]?.join).map fun | .op _ => .op c | _ => .ol c)
section
variable {K : Fg} {G : Gh} {F F' H H' : Hp} {σ : L2.St} {ρ : En} {vs : List V} {ds : List D}
theorem calleeO_of {ex : Option Addr} (S : StOk K G F σ H ρ) {b : Addr} {o : HO} (h : G.O b = some o) : calleeO G σ ρ H ex b = some o := by
  unfold calleeO
  rw [if_neg]
  · exact h
  · rintro ⟨⟨i, c, ho, e⟩, _⟩
    obtain ⟨a, e', oa⟩ := S.ow i c ho
    rw [e] at e'
    injection e' with e'; injection e' with e'; injection e' with e'
    subst e'
    rw [oa.no] at h; cases h
theorem calleeO_own {ex : Option Addr} {b : Addr} {i : Nat} {c : OC} (ho : own ρ i c) (e : σ[i]? = some (some (V.ref b))) (hx : some b ≠ ex) : calleeO G σ ρ H ex b = H b := by
  unfold calleeO
  rw [if_pos ⟨⟨i, c, ho, e⟩, hx⟩]
theorem calleeO_h {ex : Option Addr} (S : StOk K G F σ H ρ) : Same (calleeO G σ ρ H ex) H := fun b o h => by
  unfold calleeO at h
  split at h
  · exact h
  · exact S.oh b o h
theorem calleeO_f {ex : Option Addr} (S : StOk K G F σ H ρ) : ∀ b o, calleeO G σ ρ H ex b = some o → F b = none := fun b o h => by
  unfold calleeO at h
  split at h
  · rename_i hc
    obtain ⟨⟨i, c, ho, e⟩, _⟩ := hc
    obtain ⟨a, e', oa⟩ := S.ow i c ho
    rw [e] at e'
    injection e' with e'; injection e' with e'; injection e' with e'
    subst e'
    exact oa.nf
  · exact S.fo b o h
theorem fz_get {i : Nat} {av : AV} (h : ((ds.map AV.fz).map some)[i]? = some (some av)) : ∃ d, av = .fz d ∧ ds[i]? = some d := by
  rw [map_some_get, List.getElem?_map] at h
  cases q : ds[i]? with
  | none => rw [q] at h; cases h
  | some d => rw [q] at h; cases h; exact ⟨d, rfl, rfl⟩
theorem no_own {i : Nat} {c : OC} (h : own ((ds.map AV.fz).map some) i c) : False := by
  rcases h with h | h <;> (obtain ⟨d, z, _⟩ := fz_get h; cases z)
theorem call_preD (S : StOk K G F σ H ρ) (r : RepL K F vs ds) : StOk K ⟨fun _ => none, calleeO G σ ρ H none⟩ F (vs.map some) H ((ds.map AV.fz).map some) := by
  refine ⟨S.fh, calleeO_h S, calleeO_f S, by simp [r.length], fun i d h => ?_, fun i c h => (no_own h).elim, fun i j c e a h => (no_own h).elim, fun i a h => (nomatch h), fun i c h => ?_⟩
  · obtain ⟨d', z, e⟩ := fz_get h
    cases z
    obtain ⟨v, e1, e2⟩ := r.get e
    exact ⟨v, map_some_get.mpr e1, e2⟩
  · obtain ⟨d', z, e⟩ := fz_get h; cases z
theorem call_postD {avs' : List AV} (S : StOk K G F σ H ρ) (s1 : Same F F') (S1 : StOk K ⟨fun _ => none, calleeO G σ ρ H none⟩ F' (vs.map some) H' (avs'.map some)) :
    StOk K G F' σ H' ρ ∧ ∀ v c, Frs K ⟨fun _ => none, calleeO G σ ρ H none⟩ F' (vs.map some) H' (avs'.map some) v c → Frs K G F' σ H' ρ v c := by
  have oo : ∀ b, calleeO G σ ρ H none b = none → G.O b = none := fun b h => by
    cases q : G.O b with
    | none => rfl
    | some o => rw [calleeO_of S q] at h; cases h
  refine ⟨⟨S1.fh, fun b o h => S1.oh b o (calleeO_of S h), fun b o h => S1.fo b o (calleeO_of S h), S.ln, fun i d h => ?_, fun i c h => ?_, S.dj, S.pp, S.pq⟩, fun v cc h => ?_⟩
  · obtain ⟨v, e, r⟩ := S.fz i d h; exact ⟨v, e, r.mono s1⟩
  · obtain ⟨a, e, oa⟩ := S.ow i c h
    obtain ⟨o, ho⟩ := oa.he.some
    have q : calleeO G σ ρ H none a = some o := by rw [calleeO_own h e (by simp)]; exact ho
    exact ⟨a, e, S1.fo a o q, oa.no, (oa.he.mono s1).at (by rw [S1.oh a o q, ho])⟩
  · obtain ⟨a, rfl, oa, _⟩ := h
    refine ⟨a, rfl, ⟨oa.nf, oo a oa.no, oa.he⟩, fun i e ho q => ?_⟩
    obtain ⟨a', e', oa'⟩ := S.ow i e ho
    rw [q] at e'
    injection e' with e'; injection e' with e'; injection e' with e'
    subst e'
    obtain ⟨o, hh⟩ := oa'.he.some
    have := oa.no
    rw [show (⟨fun _ => none, calleeO G σ ρ H none⟩ : Gh).O a = calleeO G σ ρ H none a from rfl, calleeO_own ho q (by simp), hh] at this
    cases this
def P1 (a : Addr) : Nat → Option Addr
  | 0 => some a
  | _ => none
theorem call_pre1 {j : Nat} {c : OC} {a : Addr} (S : StOk K G F σ H ρ) (hj : own ρ j c) (ha : σ[j]? = some (some (V.ref a))) (r : RepL K F vs ds) :
    StOk K ⟨P1 a, calleeO G σ ρ H (some a)⟩ F ((V.ref a :: vs).map some) H ((AV.op c :: ds.map AV.fz).map some) := by
  obtain ⟨a', e', oa⟩ := S.ow j c hj
  rw [ha] at e'
  injection e' with e'; injection e' with e'; injection e' with e'
  subst e'
  have at0 : ∀ i d, own ((AV.op c :: ds.map AV.fz).map some) i d → i = 0 ∧ d = c := fun i d h => by
    cases i with
    | zero => rcases h with h | h <;> (simp at h); exact ⟨rfl, h.symm⟩
    | succ i => exact (no_own (ds := ds) (i := i) (c := d) (by unfold own at h ⊢; simpa using h)).elim
  refine ⟨S.fh, calleeO_h S, calleeO_f S, by simp [r.length], fun i d h => ?_, fun i d h => ?_, fun i k d e b h1 h2 _ _ => ?_, fun i b h => ?_, fun i d h => ?_⟩
  · cases i with
    | zero => simp at h
    | succ i =>
      obtain ⟨d', z, e⟩ := fz_get (ds := ds) (i := i) (av := .fz d) (by simpa using h)
      cases z
      obtain ⟨v, e1, e2⟩ := r.get e
      exact ⟨v, by simpa using e1, e2⟩
  · obtain ⟨rfl, rfl⟩ := at0 i d h
    refine ⟨a, rfl, oa.nf, ?_, oa.he⟩
    show calleeO G σ ρ H (some a) a = none
    unfold calleeO
    rw [if_neg (by simp)]
    exact oa.no
  · rw [(at0 i d h1).1, (at0 k e h2).1]
  · cases i with
    | zero => cases h; exact ⟨rfl, c, rfl⟩
    | succ i => cases h
  · cases i with
    | zero => exact ⟨a, rfl⟩
    | succ i =>
      obtain ⟨d', z, e⟩ := fz_get (ds := ds) (i := i) (av := .op d) (by simpa using h)
      cases z
theorem call_post1 {j : Nat} {c c' : OC} {a : Addr} {l : List AV} (S : StOk K G F σ H ρ) (hj : own ρ j c) (ha : σ[j]? = some (some (V.ref a))) (s1 : Same F F')
    (S1 : StOk K ⟨P1 a, calleeO G σ ρ H (some a)⟩ F' ((V.ref a :: vs).map some) H' ((AV.op c' :: l).map some)) :
    StOk K G F' σ H' (setC ρ j c') ∧ ∀ v cc, Frs K ⟨P1 a, calleeO G σ ρ H (some a)⟩ F' ((V.ref a :: vs).map some) H' ((AV.op c' :: l).map some) v cc → Frs K G F' σ H' (setC ρ j c') v cc := by
  have oo : ∀ b, calleeO G σ ρ H (some a) b = none → G.O b = none := fun b h => by
    cases q : G.O b with
    | none => rfl
    | some o => rw [calleeO_of S q] at h; cases h
  obtain ⟨a', e', oa⟩ := S.ow j c hj
  rw [ha] at e'
  injection e' with e'; injection e' with e'; injection e' with e'
  subst e'
  have hl : j < ρ.length := by rcases hj with h | h <;> exact (List.getElem?_eq_some_iff.mp h).1
  generalize hav : ((ρ[j]?.join).map fun (x : AV) => match x with | .op _ => AV.op c' | _ => AV.ol c') = av
  have hset : setC ρ j c' = ρ.set j av := by rw [← hav]; rfl
  rw [hset]
  have ne : ∀ i, i ≠ j → (ρ.set j av)[i]? = ρ[i]? := fun i hi => List.getElem?_set_ne (Ne.symm hi)
  have atj : (ρ.set j av)[j]? = some av := List.getElem?_set_self hl
  have kind : (ρ[j]? = some (some (.ol c)) ∧ av = some (.ol c')) ∨ (ρ[j]? = some (some (.op c)) ∧ av = some (.op c')) := by
    rcases hj with h | h
    · exact .inl ⟨h, by rw [← hav, h]; rfl⟩
    · exact .inr ⟨h, by rw [← hav, h]; rfl⟩
  have owni : ∀ i e, own (ρ.set j av) i e → (i = j ∧ e = c') ∨ (i ≠ j ∧ own ρ i e) := fun i e h => by
    by_cases hi : i = j
    · subst hi
      unfold own at h
      rw [atj] at h
      rcases kind with ⟨_, k⟩ | ⟨_, k⟩ <;> rw [k] at h <;> rcases h with h | h <;> cases h <;> exact .inl ⟨rfl, rfl⟩
    · unfold own at h ⊢
      rw [ne i hi] at h
      exact .inr ⟨hi, h⟩
  have nea : ∀ i e b, i ≠ j → own ρ i e → σ[i]? = some (some (V.ref b)) → b ≠ a := fun i e b hi ho q z => by
    subst z
    exact hi (S.dj i j e c b ho hj q ha)
  have own1 : OwnAt K ⟨P1 a, calleeO G σ ρ H (some a)⟩ F' H' a c' := by
    obtain ⟨b, e1, ob⟩ := S1.ow 0 c' (.inr rfl)
    have : V.ref a = V.ref b := by simpa using e1
    injection this with this
    subst this
    exact ob
  refine ⟨⟨S1.fh, fun b o h => S1.oh b o (calleeO_of S h), fun b o h => S1.fo b o (calleeO_of S h), by simpa using S.ln, fun i d h => ?_, fun i e h => ?_, fun i k d e b h1 h2 => ?_, fun i b h => ?_, fun i d h => ?_⟩, fun v cc h => ?_⟩
  · by_cases hi : i = j
    · subst hi
      rw [atj] at h
      rcases kind with ⟨_, k⟩ | ⟨_, k⟩ <;> rw [k] at h <;> cases h
    · rw [ne i hi] at h
      obtain ⟨v, e, r⟩ := S.fz i d h; exact ⟨v, e, r.mono s1⟩
  · rcases owni i e h with ⟨rfl, rfl⟩ | ⟨hi, ho⟩
    · exact ⟨a, ha, own1.nf, oa.no, own1.he⟩
    · obtain ⟨b, eb, ob⟩ := S.ow i e ho
      obtain ⟨o, hh⟩ := ob.he.some
      have q : calleeO G σ ρ H (some a) b = some o := by rw [calleeO_own ho eb (fun z => nea i e b hi ho eb (Option.some.inj z))]; exact hh
      exact ⟨b, eb, S1.fo b o q, ob.no, (ob.he.mono s1).at (by rw [S1.oh b o q, hh])⟩
  · have f : ∀ i e, own (ρ.set j av) i e → ∃ d, own ρ i d := fun i e h => by
      rcases owni i e h with ⟨rfl, _⟩ | ⟨_, ho⟩
      · exact ⟨c, hj⟩
      · exact ⟨e, ho⟩
    exact S.dj i k _ _ b (f i d h1).choose_spec (f k e h2).choose_spec
  · obtain ⟨q1, e, q2⟩ := S.pp i b h
    refine ⟨q1, ?_⟩
    by_cases hi : i = j
    · subst hi
      rcases kind with ⟨k1, k⟩ | ⟨k1, k⟩
      · rw [k1] at q2; cases q2
      · exact ⟨c', by rw [atj, k]⟩
    · exact ⟨e, by rw [ne i hi]; exact q2⟩
  · by_cases hi : i = j
    · subst hi
      rcases kind with ⟨k1, k⟩ | ⟨k1, k⟩
      · rw [atj, k] at h; cases h
      · exact S.pq i c k1
    · rw [ne i hi] at h; exact S.pq i d h
  · obtain ⟨b, rfl, ob, nn⟩ := h
    refine ⟨b, rfl, ⟨ob.nf, oo b ob.no, ob.he⟩, fun i e ho q => ?_⟩
    rcases owni i e ho with ⟨rfl, _⟩ | ⟨hi, ho'⟩
    · rw [ha] at q
      injection q with q; injection q with q; injection q with q
      subst q
      exact nn 0 c' (.inr rfl) rfl
    · obtain ⟨b', eb, ob'⟩ := S.ow i e ho'
      rw [q] at eb
      injection eb with eb; injection eb with eb; injection eb with eb
      subst eb
      obtain ⟨o, hh⟩ := ob'.he.some
      have := ob.no
      rw [show (⟨P1 a, calleeO G σ ρ H (some a)⟩ : Gh).O b = calleeO G σ ρ H (some a) b from rfl, calleeO_own ho' q (fun z => nea i e b hi ho' q (Option.some.inj z)), hh] at this
      cases this
end
abbrev fzs (ds : List D) : En := (ds.map AV.fz).map some
def KD : KS D := ⟨fun _ => .ret .none, fun d _ => .ret d, fun _ _ => .bad, fun _ => .bad, fun _ => .bad, fun e _ => .exc e⟩
def KL : KS (List D) := ⟨fun _ => .bad, fun _ _ => .bad, fun ds _ => .ret ds, fun _ => .bad, fun _ => .bad, fun e _ => .exc e⟩
def at0 {S : Type} (ρ : En) (k : List D → M S) : M S := match (ρ[0]? : Option (Option AV)) with
  | some (some (AV.op (OC.l f))) => k f
  | _ => .bad
def K1 : KS (D × List D) := ⟨fun ρ => at0 ρ fun f => .ret (.none, f), fun d ρ => at0 ρ fun f => .ret (d, f), fun _ _ => .bad, fun _ => .bad, fun _ => .bad, fun e _ => .exc e⟩
def spD (K : Fg) (n : Nat) (mf : List D → M D) : Sp := fun vs H Q _ => ∃ G F ds d, vs.length = n ∧ StOk K G F (vs.map some) H (fzs ds) ∧ mf ds = .ret d ∧ ∀ v F' H', Same F F' → StOk K G F' (vs.map some) H' (fzs ds) → Rep K F' v d → Q v H'
def spL (K : Fg) (n : Nat) (mf : List D → M (List D)) : Sp := fun vs H Q _ => ∃ G F ds d, vs.length = n ∧ StOk K G F (vs.map some) H (fzs ds) ∧ mf ds = .ret d ∧ ∀ v F' H', Same F F' → StOk K G F' (vs.map some) H' (fzs ds) → Frs K G F' (vs.map some) H' (fzs ds) v (.l d) → Q v H'
def sp1 (K : Fg) (n : Nat) (mf : List D → List D → M (D × List D)) : Sp := fun vs H Q _ => ∃ G F f ds r, vs.length = n ∧ StOk K G F (vs.map some) H (some (.op (.l f)) :: fzs ds) ∧ mf f ds = .ret r ∧
  ∀ v F' H', Same F F' → StOk K G F' (vs.map some) H' (some (.op (.l r.2)) :: fzs ds) → Rep K F' v r.1 → Q v H'
section
variable {K : Fg} {G : Gh} {F F' H H' : Hp} {vs : List V} {σ : L2.St} {ρ : En} {ds : List D}
theorem back_D (S : StOk K G F (vs.map some) H (fzs ds)) (s1 : Same F F') (S1 : StOk K G F' σ H' ρ) : StOk K G F' (vs.map some) H' (fzs ds) := by
  refine ⟨S1.fh, S1.oh, S1.fo, S.ln, fun i d q => ?_, fun i c q => (no_own q).elim, fun i j c e a q => (no_own q).elim, S.pp, S.pq⟩
  obtain ⟨v, e, r⟩ := S.fz i d q
  exact ⟨v, e, r.mono s1⟩
theorem back_DL {v : V} {c : OC} (S1 : StOk K G F' σ H' ρ) (h : Frs K G F' σ H' ρ v c) : Frs K G F' (vs.map some) H' (fzs ds) v c := by
  obtain ⟨a, rfl, oa, _⟩ := h
  exact ⟨a, rfl, oa, fun i e q => (no_own q).elim⟩
theorem own1 {f : List D} {i : Nat} {c : OC} (h : own (some (.op (.l f)) :: fzs ds) i c) : i = 0 ∧ c = .l f := by
  cases i with
  | zero => rcases h with h | h <;> simp at h; exact ⟨rfl, h.symm⟩
  | succ i => exact (no_own (ds := ds) (i := i) (c := c) (by unfold own at h ⊢; simpa using h)).elim
theorem back_1 {f f' : List D} (S : StOk K G F (vs.map some) H (some (.op (.l f)) :: fzs ds)) (s1 : Same F F') (S1 : StOk K G F' σ H' ρ) (h0 : ρ[0]? = some (some (.op (.l f')))) :
    StOk K G F' (vs.map some) H' (some (.op (.l f')) :: fzs ds) ∧ ∀ v c, Frs K G F' σ H' ρ v c → Frs K G F' (vs.map some) H' (some (.op (.l f')) :: fzs ds) v c := by
  obtain ⟨a, ha⟩ := S1.pq 0 _ h0
  obtain ⟨e1, _⟩ := S1.pp 0 a ha
  obtain ⟨e2, _⟩ := S.pp 0 a ha
  obtain ⟨b, eb, ob⟩ := S1.ow 0 _ (.inr h0)
  rw [e1] at eb
  injection eb with eb; injection eb with eb; injection eb with eb
  subst eb
  have only : ∀ i b, G.P i = some b → i = 0 := fun i b h => by
    obtain ⟨_, c, q⟩ := S.pp i b h
    exact (own1 (.inr q)).1
  refine ⟨⟨S1.fh, S1.oh, S1.fo, S.ln, fun i d q => ?_, fun i c q => ?_, fun i j c e b q1 q2 _ _ => ?_, fun i b q => ?_, fun i c q => ?_⟩, fun v c h => ?_⟩
  · cases i with
    | zero => simp at q
    | succ i =>
      obtain ⟨v, e, r⟩ := S.fz (i + 1) d (by simpa using q)
      exact ⟨v, e, r.mono s1⟩
  · obtain ⟨rfl, rfl⟩ := own1 q
    exact ⟨a, e2, ob⟩
  · rw [(own1 q1).1, (own1 q2).1]
  · have := only i b q
    subst this
    exact ⟨(S.pp 0 b q).1, _, rfl⟩
  · obtain ⟨rfl, _⟩ := own1 (.inr q)
    exact ⟨a, ha⟩
  · obtain ⟨b, rfl, ob2, nn⟩ := h
    refine ⟨b, rfl, ob2, fun i e q z => ?_⟩
    obtain ⟨rfl, rfl⟩ := own1 q
    rw [e2] at z
    injection z with z; injection z with z; injection z with z
    subst z
    exact nn 0 _ (.inr h0) e1
end
section
variable {P : Program} {w : World} {K : Fg} {mg : Str → Option Value} {base : Heap} {x qual : Str} {st : Stmt} {f : Addr} {fd : FuncData} {N ps : List Str} {k : Nat}
theorem start_fz {vs : List V} {ds : List D} {G : Gh} {F H : Hp} (hl : vs.length = ps.length) (S0 : StOk K G F (vs.map some) H (fzs ds)) : StOk K G F (L2.start N vs) H (fzs ds ++ List.replicate (N.length - ps.length) none) := by
  have e0 : L2.start N vs = vs.map some ++ List.replicate (N.length - ps.length) none := by unfold L2.start; rw [hl]
  rw [e0]
  exact S0.grow _
theorem fn_okD {mb : SM D} {mf : List D → M D} (Fn : Fun K x qual st f fd) (Sc : FnScope N ps (defScope st))
    (hb : ∀ (cdv : Value) (A : Around) (outer : List Env) (s : Shared) (H : Hp) (E : XK), Room k (A.deeper (envOfC qual (defScope st) s.heap.objs.size f cdv)) →
      ASs (cxOf CX0 P w K mg base N qual (defScope st) f cdv A outer s H E).nox (defBody st) mb)
    (hm : ∀ ds, ds.length = ps.length → mf ds = mb KD (fzs ds ++ List.replicate (N.length - ps.length) none)) : FnOk P w K mg base CX0 (k + 1) f fd ps (spD K ps.length mf) := by
  refine Fn.ok Sc (fun vs H Q E h => ?_) (fun cdv A outer s H vs Q E hr h => ?_)
  · obtain ⟨_, _, _, _, h1, _⟩ := h; exact h1
  · obtain ⟨G, F0, ds, d, h1, S0, e, kk⟩ := h
    have hl : ds.length = ps.length := by have := S0.ln; simp at this; omega
    rw [hm ds hl] at e
    refine ⟨_, pss_sem, hb cdv A outer s H E hr (fun m => m = .ret d) KD G F0 _ H _ _ (fun z => nomatch z) (fun F ρ e z => nomatch z) (start_fz h1 S0) e ?_⟩
    exact ⟨fun F' σ' H' ρ' s S' o => (by cases o; exact kk .non F' H' s (back_D S0 s S') .non), fun F' σ' H' ρ' d' v s S' r o => (by cases o; exact kk v F' H' s (back_D S0 s S') r), fun F' σ' H' ρ' d' v s S' r o => (nomatch o), fun F' σ' H' ρ' s S' o => (nomatch o), fun F' σ' H' ρ' s S' o => (nomatch o)⟩
theorem fn_okL {mb : SM (List D)} {mf : List D → M (List D)} (Fn : Fun K x qual st f fd) (Sc : FnScope N ps (defScope st))
    (hb : ∀ (cdv : Value) (A : Around) (outer : List Env) (s : Shared) (H : Hp) (E : XK), Room k (A.deeper (envOfC qual (defScope st) s.heap.objs.size f cdv)) →
      ASs (cxOf CX0 P w K mg base N qual (defScope st) f cdv A outer s H E).nox (defBody st) mb)
    (hm : ∀ ds, ds.length = ps.length → mf ds = mb KL (fzs ds ++ List.replicate (N.length - ps.length) none)) : FnOk P w K mg base CX0 (k + 1) f fd ps (spL K ps.length mf) := by
  refine Fn.ok Sc (fun vs H Q E h => ?_) (fun cdv A outer s H vs Q E hr h => ?_)
  · obtain ⟨_, _, _, _, h1, _⟩ := h; exact h1
  · obtain ⟨G, F0, ds, d, h1, S0, e, kk⟩ := h
    have hl : ds.length = ps.length := by have := S0.ln; simp at this; omega
    rw [hm ds hl] at e
    refine ⟨_, pss_sem, hb cdv A outer s H E hr (fun m => m = .ret d) KL G F0 _ H _ _ (fun z => nomatch z) (fun F ρ e z => nomatch z) (start_fz h1 S0) e ?_⟩
    exact ⟨fun F' σ' H' ρ' s S' o => (nomatch o), fun F' σ' H' ρ' d' v s S' r o => (nomatch o), fun F' σ' H' ρ' d' v s S' r o => (by cases o; exact kk v F' H' s (back_D S0 s S') (back_DL S' r)), fun F' σ' H' ρ' s S' o => (nomatch o), fun F' σ' H' ρ' s S' o => (nomatch o)⟩
theorem at0_ok {S : Type} {ρ : En} {k : List D → M S} {s : S} (h : at0 ρ k = .ret s) : ∃ f, ρ[0]? = some (some (AV.op (OC.l f))) ∧ k f = .ret s := by
  unfold at0 at h
  split at h
  · rename_i f q; exact ⟨f, q, h⟩
  · cases h
theorem start_1 {vs : List V} {ds g : List D} {G : Gh} {F H : Hp} (hl : vs.length = ps.length) (S0 : StOk K G F (vs.map some) H (some (.op (.l g)) :: fzs ds)) : StOk K G F (L2.start N vs) H (some (.op (.l g)) :: fzs ds ++ List.replicate (N.length - ps.length) none) := by
  have e0 : L2.start N vs = vs.map some ++ List.replicate (N.length - ps.length) none := by unfold L2.start; rw [hl]
  rw [e0]
  exact S0.grow _
theorem fn_ok1 {mb : SM (D × List D)} {mf : List D → List D → M (D × List D)} (Fn : Fun K x qual st f fd) (Sc : FnScope N ps (defScope st))
    (hb : ∀ (cdv : Value) (A : Around) (outer : List Env) (s : Shared) (H : Hp) (E : XK), Room k (A.deeper (envOfC qual (defScope st) s.heap.objs.size f cdv)) →
      ASs (cxOf CX0 P w K mg base N qual (defScope st) f cdv A outer s H E).nox (defBody st) mb)
    (hm : ∀ g ds, ds.length + 1 = ps.length → mf g ds = mb K1 (some (.op (.l g)) :: fzs ds ++ List.replicate (N.length - ps.length) none)) : FnOk P w K mg base CX0 (k + 1) f fd ps (sp1 K ps.length mf) := by
  refine Fn.ok Sc (fun vs H Q E h => ?_) (fun cdv A outer s H vs Q E hr h => ?_)
  · obtain ⟨_, _, _, _, _, h1, _⟩ := h; exact h1
  · obtain ⟨G, F0, g, ds, r, h1, S0, e, kk⟩ := h
    have hl : ds.length + 1 = ps.length := by have := S0.ln; simp at this; omega
    rw [hm g ds hl] at e
    refine ⟨_, pss_sem, hb cdv A outer s H E hr (fun m => m = .ret r) K1 G F0 _ H _ _ (fun z => nomatch z) (fun F ρ e z => nomatch z) (start_1 h1 S0) e ?_⟩
    refine ⟨fun F' σ' H' ρ' s S' o => ?_, fun F' σ' H' ρ' d' v s S' rv o => ?_, fun F' σ' H' ρ' d' v s S' r o => (nomatch o), fun F' σ' H' ρ' s S' o => (nomatch o), fun F' σ' H' ρ' s S' o => (nomatch o)⟩
    · obtain ⟨f', q, e'⟩ := at0_ok o
      cases e'
      exact kk .non F' H' s (back_1 S0 s S' q).1 .non
    · obtain ⟨f', q, e'⟩ := at0_ok o
      cases e'
      exact kk v F' H' s (back_1 S0 s S' q).1 rv
end
structure CF (P : Program) (w : World) (K : Fg) (mg : Str → Option Value) (base : Heap) (x : Str) (k : Nat) (sp : Sp) : Prop where
  ex : ∃ (f : Addr) (fd : FuncData) (ps : List Str), FnOk P w K mg base CX0 k f fd ps sp ∧ mg x = some (.ref f) ∧ PySem.W.keepIn K (.ref f) = true ∧ L2.Binds K fd ps []
def pFnD (mf : List D → M D) (ps : Pa D) : Pu D := fun ρ => ps (fun ds => mf ds) ρ
def pFnL (mf : List D → M (List D)) (ps : Pa (List D)) : Pu (List D) := fun ρ => ps (fun ds => mf ds) ρ
section
variable {S : Type}
def eFn1 (mf : List D → List D → M (D × List D)) (i : Nat) (ms : Ev S (List D)) : Ev S D := fun x k ρ => ms x (fun ds ρ1 => match ownL ρ1 i with
  | some f => (mf f ds).on (fun e => x e ρ1) (fun r => k r.1 (setO ρ1 i r.2))
  | none => .bad) ρ
end
section
variable {S : Type} {X : Cx} {k n : Nat} {mf : List D → M D} {ml : List D → M (List D)} {m1 : List D → List D → M (D × List D)} {m1L : List D → List D → M (List D × List D)} {x : Str} {p pos pn : Pos} {e : Expr} {es : List Expr} {ps : Pa D} {pl : Pa (List D)} {ms : Ev S (List D)}
theorem ap_fn (C : CF X.prog X.w X.K X.mg X.base x k (spD X.K n mf)) (hr : Room k X.A) (hg : Gl X x) (ha : AA X (e :: es) ps) (hn : (e :: es).length = n)
    (hdb : (x == ("__debug__" : Str)) = false) (he : starEach (e :: es) X.env = (false, eval e X.env) :: starEach es X.env) (hpl : (backTo pos (starEach es X.env)).any (·.1) = false) : AP X (.Call (.Name x p) (e :: es) [] pos) (pFnD mf ps) := by
  obtain ⟨f, fd, pl, Fn, h1, h2, h3⟩ := C.ex
  intro G F σ H ρ Q St w
  refine sem (pe_call Fn hr hg h1 h2 h3 .nil pass0 pa_sem hdb he hpl) ?_
  refine ha G F σ H ρ _ _ _ St w fun ds vs F1 H1 s1 S1 hl r1 w1 => ?_
  show spD X.K n mf (vs ++ []) H1 Q E0
  rw [List.append_nil]
  cases hd : mf ds with
  | bad => rw [hd] at w1; exact w1.elim
  | exc e => rw [hd] at w1; exact w1.elim
  | ret d =>
    rw [hd] at w1
    refine ⟨_, F1, ds, d, hl.trans hn, call_preD S1 r1, hd, fun v F2 H2 s2 S2 r2 => ?_⟩
    obtain ⟨S3, t3⟩ := call_postD (avs' := ds.map AV.fz) S1 s2 S2
    exact w1 F2 H2 s2 S3 v r2
theorem al_fn (C : CF X.prog X.w X.K X.mg X.base x k (spL X.K n ml)) (hr : Room k X.A) (hg : Gl X x) (ha : AA X (e :: es) pl) (hn : (e :: es).length = n)
    (hdb : (x == ("__debug__" : Str)) = false) (he : starEach (e :: es) X.env = (false, eval e X.env) :: starEach es X.env) (hpl : (backTo pos (starEach es X.env)).any (·.1) = false) : AL X (.Call (.Name x p) (e :: es) [] pos) (pFnL ml pl) := by
  obtain ⟨f, fd, pz, Fn, h1, h2, h3⟩ := C.ex
  intro G F σ H ρ Q St w
  refine sem (pe_call Fn hr hg h1 h2 h3 .nil pass0 pa_sem hdb he hpl) ?_
  refine ha G F σ H ρ _ _ _ St w fun ds vs F1 H1 s1 S1 hl r1 w1 => ?_
  show spL X.K n ml (vs ++ []) H1 Q E0
  rw [List.append_nil]
  cases hd : ml ds with
  | bad => rw [hd] at w1; exact w1.elim
  | exc e => rw [hd] at w1; exact w1.elim
  | ret d =>
    rw [hd] at w1
    refine ⟨_, F1, ds, d, hl.trans hn, call_preD S1 r1, hd, fun v F2 H2 s2 S2 r2 => ?_⟩
    obtain ⟨S3, t3⟩ := call_postD (avs' := ds.map AV.fz) S1 s2 S2
    exact w1 F2 H2 s2 S3 v (t3 v _ r2)
theorem setO_setC {ρ : En} {i : Nat} {f g : List D} (h : ownL ρ i = some g) : setO ρ i f = setC ρ i (.l f) := setO_change ρ i f g h
theorem call1_args {i : Nat} {y : Str} {OK : M S → Prop} {z : Ex → En → M S} {kk : List D → En → M S} {G : Gh} {F H : Hp} {σ : L2.St} {ρ : En} {Q : List V → Hp → Prop} (hN : X.N[i]? = some y) (hv : Vis X.env.scope y) (hd : (y == ("__debug__" : Str)) = false) (hcd : (y == ("__classdict__" : Str)) = false)
    (ha : AEa X es ms) (he : starEach (.Name y pn :: es) X.env = (false, eval (.Name y pn) X.env) :: starEach es X.env) (hO : KOk OK) (hX : XL X OK z G) (St : StOk X.K G F σ H ρ) (ok : OK (ms z (fun ds ρ1 => match ownL ρ1 i with | some f => kk (.list f :: ds) ρ1 | none => .bad) ρ))
    (h0 : (ownL ρ i).isSome = true)
    (k2 : ∀ a f ds vs F' H' ρ', Same F F' → StOk X.K G F' σ H' ρ' → ownL ρ' i = some f → σ[i]? = some (some (V.ref a)) → vs.length = es.length → RepL X.K F' vs ds → OK (kk (.list f :: ds) ρ') → Q (.ref a :: vs) H') : tSemA X (.Name y pn :: es) σ H Q := by
  obtain ⟨f0, hf0⟩ := Option.isSome_iff_exists.mp h0
  obtain ⟨a, _, ea, _, _⟩ := own_ref St hf0
  refine semA (pa_cons (pe_var hN hv hd hcd) pa_sem he) ⟨_, ea, ?_⟩
  refine ha OK z _ G F σ H ρ _ hO hX St ok fun ds vs F1 H1 ρ1 s1 S1 hl r1 o1 => ?_
  split at o1
  · rename_i f hf
    exact k2 a f ds vs F1 H1 ρ1 s1 S1 hf ea hl r1 o1
  · exact (hO o1).elim
def ck {S α : Type} (i : Nat) (m : Ev S α) : Ev S α := fun x k ρ => match (ownL ρ i).isSome with
  | true => m x k ρ
  | false => .bad
theorem call_pre1' {K : Fg} {G : Gh} {F H : Hp} {σ : L2.St} {ρ : En} {vs : List V} {ds f : List D} {j : Nat} {a : Addr} (S : StOk K G F σ H ρ) (hj : ownL ρ j = some f) (ha : σ[j]? = some (some (V.ref a))) (r : RepL K F vs ds) :
    StOk K ⟨P1 a, calleeO G σ ρ H (some a)⟩ F ((V.ref a :: vs).map some) H (some (.op (.l f)) :: fzs ds) := call_pre1 S (ownL_own hj) ha r
theorem ae_fn1 {i : Nat} {y : Str} (C : CF X.prog X.w X.K X.mg X.base x k (sp1 X.K n m1)) (hr : Room k X.A) (hg : Gl X x) (hN : X.N[i]? = some y) (hv : Vis X.env.scope y) (ha : AEa X es ms) (hn : es.length + 1 = n)
    (hdb : (x == ("__debug__" : Str)) = false) (he : starEach (.Name y pn :: es) X.env = (false, eval (.Name y pn) X.env) :: starEach es X.env) (hpl : (backTo pos (starEach es X.env)).any (·.1) = false)
    (hd : (y == ("__debug__" : Str)) = false := by decide) (hcd : (y == ("__classdict__" : Str)) = false := by decide) : AE X (.Call (.Name x p) (.Name y pn :: es) [] pos) (ck i (eFn1 m1 i ms)) := by
  obtain ⟨f, fd, pl, Fn, h1, h2, h3⟩ := C.ex
  intro OK z kk G F σ H ρ Q hO hX St ok k2
  unfold ck at ok
  split at ok
  case h_2 => exact (hO ok).elim
  rename_i h0
  refine sem (pe_call Fn hr hg h1 h2 h3 .nil pass0 pa_sem hdb he hpl) ?_
  refine call1_args (OK := OK) (z := z) (kk := fun l ρ1 => match l with | .list f :: ds => (m1 f ds).on (fun e => z e ρ1) (fun r => kk r.1 (setO ρ1 i r.2)) | _ => .bad) hN hv hd hcd ha he hO hX St ok h0 fun a f ds vs F1 H1 ρ1 s1 S1 hf ea hl r1 o1 => ?_
  have o1' : OK ((m1 f ds).on (fun e => z e ρ1) (fun r => kk r.1 (setO ρ1 i r.2))) := o1
  show sp1 X.K n m1 ((V.ref a :: vs) ++ []) H1 Q E0
  rw [List.append_nil]
  cases hd : m1 f ds with
  | bad => rw [hd] at o1'; exact (hO o1').elim
  | exc e => rw [hd] at o1'; exact (hX F1 ρ1 e o1').elim
  | ret r =>
    rw [hd] at o1'
    refine ⟨_, F1, f, ds, r, by simp [hl]; exact hn, call_pre1' S1 hf ea r1, hd, fun v F2 H2 s2 S2 r2 => ?_⟩
    obtain ⟨S3, t3⟩ := call_post1 (c' := .l r.2) (l := ds.map AV.fz) S1 (ownL_own hf) ea s2 S2
    rw [← setO_setC hf] at S3
    exact k2 r.1 v F2 H2 _ (s1.trans s2) S3 r2 o1'
end
theorem CF.zero {P : Program} {w : World} {K : Fg} {mg : Str → Option Value} {base : Heap} {x : Str} {f : Addr} {fd : FuncData} {ps : List Str} (k n : Nat) (h1 : mg x = some (.ref f)) (h2 : PySem.W.keepIn K (.ref f) = true) (h3 : L2.Binds K fd ps []) :
    CF P w K mg base x k (spD K n fun _ => .bad) := ⟨f, fd, ps, ⟨fun vs H Q E h => (by obtain ⟨_, _, _, _, _, _, z, _⟩ := h; cases z), fun A outer s H args us vs Q E hr e0 hb hv h => (by obtain ⟨_, _, _, _, _, _, z, _⟩ := h; cases z)⟩, h1, h2, h3⟩
theorem CF.zero1 {P : Program} {w : World} {K : Fg} {mg : Str → Option Value} {base : Heap} {x : Str} {f : Addr} {fd : FuncData} {ps : List Str} (k n : Nat) (h1 : mg x = some (.ref f)) (h2 : PySem.W.keepIn K (.ref f) = true) (h3 : L2.Binds K fd ps []) :
    CF P w K mg base x k (sp1 K n fun _ _ => .bad) := ⟨f, fd, ps, ⟨fun vs H Q E h => (by obtain ⟨_, _, _, _, _, _, _, z, _⟩ := h; cases z), fun A outer s H args us vs Q E hr e0 hb hv h => (by obtain ⟨_, _, _, _, _, _, _, z, _⟩ := h; cases z)⟩, h1, h2, h3⟩
theorem room_u {k : Nat} {A : Around} (r : Room k A) : A.units + 1100 < cLine := by have := r.un; omega
end L4
set_option Elab.async false
set_option linter.all false
set_option maxRecDepth 100000
namespace L4
open PySem PySem.Spec PyProof.Rows L2 L3
def compC (step : D → M (Option D)) : List D → M (List D)
  | [] => .ret []
  | d :: r => bd (step d) fun o => bd (compC step r) fun xs => .ret (o.toList ++ xs)
def pComp (k : Nat) (it : Pu (List D)) (t : Tg (Option D)) (pt : Pu Bool) (pe : Pu D) : Pu (List D) := fun ρ => bd (it ρ) fun ds =>
  bd (compC (fun d => t d (fun ρ1 => bd (pt ρ1) fun b => if b then bd (pe ρ1) fun v => .ret (some v) else .ret none) (ρ ++ List.replicate k none)) ds) fitM
def compE {T : Type} (step : T → D → M (Option D × T)) : List D → T → M (List D × T)
  | [], s => .ret ([], s)
  | d :: r, s => bd (step s d) fun p => bd (compE step r p.2) fun q => .ret (p.1.toList ++ q.1, q.2)
def eComp {S : Type} (sh : List Kd) (k : Nat) (it : Ev S (List D)) (t : Tg (Option D × SOf sh)) (et : Ev (Option D × SOf sh) Bool) (ee : Ev (Option D × SOf sh) D) : Ev S (List D) := fun x kk ρ => it x (fun ds ρ1 => rdk sh (fun s =>
  (compE (fun s d => t d (fun ρ2 => et (fun e _ => .exc e) (fun b ρ3 => if b then ee (fun e _ => .exc e) (fun v ρ4 => rdk sh (fun s' => .ret (some v, s')) (ρ4.take sh.length)) ρ3 else rdk sh (fun s' => .ret (none, s')) (ρ3.take sh.length)) ρ2) (wr sh s ++ List.replicate k none)) ds s).on
    (fun e => x e ρ1) (fun q => (fitM q.1).on (fun e => x e ρ1) (fun out => kk out (wr sh q.2)))) ρ1) ρ
def pTrue : Pu Bool := fun _ => .ret true
def ATs (X : Cx) (ifs : List Expr) (p : Pu Bool) : Prop :=
  ∀ (G : Gh) (F : Hp) (σ : L2.St) (H : Hp) (ρ : En) (Q : Bool → Hp → Prop), StOk X.K G F σ H ρ → W X G F σ ρ (p ρ) (fun d F' H' => Q d H') → ∀ (pins : List (Addr × Obj)) (s : Shared), Inv X pins σ H s →
    wpAny (model X.prog X.w) X.A (forIn ifs true fun c r => if r = true then do let ok ← isTrue c X.env (eval c X.env); pure (ForInStep.yield ok) else pure (ForInStep.yield r)) (TP X pins σ Q) X.xe s
theorem ats_nil {X : Cx} : ATs X [] pTrue := fun G F σ H ρ Q S w pins s I => pts_nil pins s σ H Q I (w F H (Same.refl _) S)
theorem ats_one {X : Cx} {c : Expr} {p : Pu Bool} (h : AT X c p) : ATs X [c] p := fun G F σ H ρ Q S w pins s I => pts_one pt_sem pins s σ H Q I (h G F σ H ρ Q S w)
def AEts {S : Type} (X : Cx) (ifs : List Expr) (m : Ev S Bool) : Prop :=
  ∀ (OK : M S → Prop) (x : Ex → En → M S) (k : Bool → En → M S) (G : Gh) (F : Hp) (σ : L2.St) (H : Hp) (ρ : En) (Q : Bool → Hp → Prop), KOk OK → XL X OK x G → StOk X.K G F σ H ρ → OK (m x k ρ) →
    (∀ d F' H' ρ', Same F F' → StOk X.K G F' σ H' ρ' → OK (k d ρ') → Q d H') → ∀ (pins : List (Addr × Obj)) (s : Shared), Inv X pins σ H s →
    wpAny (model X.prog X.w) X.A (forIn ifs true fun c r => if r = true then do let ok ← isTrue c X.env (eval c X.env); pure (ForInStep.yield ok) else pure (ForInStep.yield r)) (TP X pins σ Q) X.xe s
theorem aets_pu {S : Type} {X : Cx} {ifs : List Expr} {p : Pu Bool} (h : ATs X ifs p) : AEts (S := S) X ifs (ePu p) := fun OK x k G F σ H ρ Q hO hX St ok kk => h G F σ H ρ Q St (W.of hO hX ok fun d F' H' s S' o => kk d F' H' ρ s S' o)
theorem aets_one {S : Type} {X : Cx} {c : Expr} {m : Ev S Bool} (h : AEt X c m) : AEts X [c] m := fun OK x k G F σ H ρ Q hO hX St ok kk pins s I => pts_one pt_sem pins s σ H Q I (h OK x k G F σ H ρ Q hO hX St ok kk)
theorem W.rets {X : Cx} {G : Gh} {F : Hp} {σ : L2.St} {ρ : En} {α : Type} {m : M α} {a : α} {C : α → Hp → Hp → Prop} (e : m = .ret a) (h : ∀ F' H', Same F F' → StOk X.K G F' σ H' ρ → C a F' H') : W X G F σ ρ m C := by subst e; exact h
section
variable {X : Cx}
def tAllG (X : Cx) (N' : List Str) (scope : Scope) (tg : Expr) : TG := fun v σ H Q => ∀ cl s H0 fp C, tSemG (compCx X N' scope cl s H0 fp C) tg v σ H Q
def tAllT (X : Cx) (N' : List Str) (scope : Scope) (ifs : List Expr) : TT := fun σ H Q => ∀ cl s0 H0 fp C, ∀ (pins : List (Addr × Obj)) (s : Shared), Inv (compCx X N' scope cl s0 H0 fp C) pins σ H s →
    wpAny (model X.prog X.w) (compCx X N' scope cl s0 H0 fp C).A (forIn ifs true fun c r => if r = true then do let ok ← isTrue c (compCx X N' scope cl s0 H0 fp C).env (eval c (compCx X N' scope cl s0 H0 fp C).env); pure (ForInStep.yield ok) else pure (ForInStep.yield r)) (TP (compCx X N' scope cl s0 H0 fp C) pins σ Q) (compCx X N' scope cl s0 H0 fp C).xe s
def tAllE (X : Cx) (N' : List Str) (scope : Scope) (e : Expr) : TE := fun σ H Q => ∀ cl s H0 fp C, tSem (compCx X N' scope cl s H0 fp C) e σ H Q
variable {elt tg iter : Expr} {ifs : List Expr} {scope : Scope} {pos : Pos} {N' : List Str} {k : Nat}
theorem comp_rd {it : Pu (List D)} {t : Tg (Option D)} {pt : Pu Bool} {pe : Pu D} {G : Gh} {F : Hp} {σ : L2.St} {H : Hp} {ρ : En} {Q : VK} (hi : AI X tg iter it)
    (hg : ∀ cl s H fp C, AG (compCx X N' scope cl s H fp C) X.N.length tg t) (ht : ∀ cl s H fp C, ATs (compCx X N' scope cl s H fp C) ifs pt) (he : ∀ cl s H fp C, AP (compCx X N' scope cl s H fp C) elt pe)
    (hσ : σ.length = X.N.length) (St : StOk X.K G F σ H ρ) (w : W X G F σ ρ (pComp k it t pt pe ρ) fun ds F' H' => ∀ v, Frs X.K G F' σ H' ρ v (.l ds) → Q v H') :
    tComp (tSemI X tg iter) k (tAllG X N' scope tg) (tAllT X N' scope ifs) (tAllE X N' scope elt) σ H Q := by
  refine hi G F σ H ρ _ St (w.bind.imp fun ds F1 H1 s1 S1 w1 J wk => ?_)
  have hP : ∀ i a, G.P i = some a → i < σ.length := fun i a h => (List.getElem?_eq_some_iff.mp (S1.pp i a h).1).1
  have hln : σ.length = ρ.length := S1.ln
  have wc := w1.bind
  revert wc
  generalize hstep : (fun d => t d (fun ρ1 => bd (pt ρ1) fun b => if b then bd (pe ρ1) fun v => .ret (some v) else .ret none) (ρ ++ List.replicate k none)) = step
  intro wc
  cases hcc : compC step ds with
  | bad => rw [hcc] at wc; exact wc.elim
  | exc e => rw [hcc] at wc; exact wc.elim
  | ret out =>
    rw [hcc] at wc
    have wf : ∀ F' H', Same F1 F' → StOk X.K G F' σ H' ρ → W X G F' σ ρ (fitM out) fun ds F' H' => ∀ v, Frs X.K G F' σ H' ρ v (.l ds) → Q v H' := wc
    have hfit : out.length ≤ sizeLine := (wf F1 H1 (Same.refl _) S1).fit.1
    have fin : ∀ F' H', Same F1 F' → StOk X.K G F' σ H' ρ → ∀ v, Frs X.K G F' σ H' ρ v (.l out) → Q v H' := fun F' H' s' S' => (wf F' H' s' S').fit.2 F' H' (Same.refl _) S'
    have grown : ∀ {F' H' σ' ρ'}, StOk X.K G F' σ' H' ρ' → (∀ j, j < σ.length → σ'[j]? = σ[j]? ∧ ρ'[j]? = ρ[j]?) → σ'.length = σ.length + k → StOk X.K G F' σ' H' (ρ ++ List.replicate k none) := fun {F' H' σ' ρ'} S' kp hl => by
      refine S'.weak (by have := S'.ln; simp; omega) (fun i av q => ?_) (fun i c q => ?_)
      · have q' := app_none q
        have hi : i < σ.length := by rw [hln]; exact (List.getElem?_eq_some_iff.mp q').1
        rw [(kp i hi).2]; exact q'
      · obtain ⟨a, ha⟩ := S'.pq i c q
        have hi := hP i a ha
        rw [List.getElem?_append_left (by omega), ← (kp i hi).2]
        exact q
    refine ⟨fun i m vs σ' H' => ∃ F' acc rest, m = ds.length - i ∧ i ≤ ds.length ∧ Same F1 F' ∧ StOk X.K G F' σ' H' (ρ ++ List.replicate k none) ∧ (∀ j, j < σ.length → σ'[j]? = σ[j]?) ∧ σ'.length = σ.length + k ∧ RepL X.K F' vs acc ∧ compC step (ds.drop i) = .ret rest ∧ out = acc ++ rest,
      ⟨ds.length, F1, [], out, rfl, Nat.zero_le _, Same.refl _, S1.grow k, fun j hj => by rw [List.getElem?_append_left hj], by simp, .nil, hcc, rfl⟩, ?_⟩
    rintro i m vs σ' H' ⟨F', acc, rest, rfl, hi, s2, S2, kp, hlen, rp, go, eo⟩
    refine ⟨by rw [rp.length]; rw [eo, List.length_append] at hfit; omega, ?_⟩
    by_cases hlt : i < ds.length
    · refine .inr ⟨wk.go i G F' σ' H' _ s2 S2 hlt, fun x H2 y cl s0 H0 fp C => ?_⟩
      have hd : ds[i]? = some ds[i] := by simp [hlt]
      obtain ⟨F3, s3, S3, r3⟩ := wk.yld i G F' σ' H' _ x H2 ds[i] s2 S2 hd y
      have ed : ds.drop i = ds[i] :: ds.drop (i + 1) := List.drop_eq_getElem_cons hlt
      rw [ed] at go
      cases hst : step ds[i] with
      | bad => dsimp only [compC] at go; rw [hst] at go; cases go
      | exc e => dsimp only [compC] at go; rw [hst] at go; cases go
      | ret o =>
        dsimp only [compC] at go
        rw [hst, bd_ret] at go
        cases hr : compC step (ds.drop (i + 1)) with
        | bad => rw [hr] at go; cases go
        | exc e => rw [hr] at go; cases go
        | ret rest' =>
          rw [hr, bd_ret] at go
          cases go
          rw [← hstep] at hst
          refine hg cl s0 H0 fp C (fun m => m = .ret o) _ G F3 σ' H2 _ x ds[i] _ (fun z => nomatch z) S3 r3 hst fun σ3 ρ3 S4 kp3 hl3 ml3 o4 => ?_
          have kp' : ∀ j, j < σ.length → σ3[j]? = σ[j]? ∧ ρ3[j]? = ρ[j]? := fun j hj => ⟨((kp3 j (by omega)).1).trans (kp j hj), by rw [(kp3 j (by omega)).2, List.getElem?_append_left (by omega)]⟩
          cases hpt : pt ρ3 with
          | bad => rw [hpt] at o4; cases o4
          | exc e => rw [hpt] at o4; cases o4
          | ret b =>
            rw [hpt, bd_ret] at o4
            intro cl s0 H0 fp C
            refine ht cl s0 H0 fp C G F3 σ3 H2 ρ3 _ S4 (W.rets hpt fun F5 H5 s5 S5 => ?_)
            cases b with
            | true =>
              refine iteT ?_
              have o4' : bd (pe ρ3) (fun v => .ret (some v)) = M.ret o := o4
              cases hpe : pe ρ3 with
              | bad => rw [hpe] at o4'; cases o4'
              | exc e => rw [hpe] at o4'; cases o4'
              | ret v =>
                rw [hpe, bd_ret] at o4'
                cases o4'
                intro cl s0 H0 fp C
                refine he cl s0 H0 fp C G F5 σ3 H5 ρ3 _ S5 (W.rets hpe fun F6 H6 s6 S6 u ru => ?_)
                exact ⟨ds.length - (i + 1), by omega, F6, acc ++ [v], rest', rfl, hlt, ((s2.trans s3).trans s5).trans s6, grown S6 kp' (by omega), fun j hj => (kp' j hj).1, by omega, (rp.mono ((s3.trans s5).trans s6)).append (.cons ru .nil), hr, by rw [eo]; simp⟩
            | false =>
              refine iteF ?_
              have o4' : (M.ret none : M (Option D)) = M.ret o := o4
              cases o4'
              exact ⟨ds.length - (i + 1), by omega, F5, acc, rest', rfl, hlt, (s2.trans s3).trans s5, grown S5 kp' (by omega), fun j hj => (kp' j hj).1, by omega, rp.mono (s3.trans s5), hr, by rw [eo]; simp⟩
    · have ei : i = ds.length := by omega
      subst ei
      rw [List.drop_length] at go
      cases go
      rw [List.append_nil] at eo
      subst eo
      refine .inl ⟨wk.stop G F' σ' H' _ s2 S2, fun p hp => ?_⟩
      have Ssh := S2.shrink (n := σ.length) (by simp; omega) hP
      have e1 : σ'.take σ.length = σ := take_eq_of kp rfl
      have e2 : (ρ ++ List.replicate k none).take σ.length = ρ := by rw [hln, List.take_left]
      rw [e1, e2] at Ssh
      obtain ⟨S5, r5⟩ := Ssh.newLst hp rp
      exact fin F' _ s2 S5 _ r5
theorem al_comp {it : Pu (List D)} {t : Tg (Option D)} {pt : Pu Bool} {pe : Pu D} (hc : X.calm = true) (Sc : CompOk X N' k scope) (hi : AI X tg iter it)
    (hg : ∀ cl s H fp C, AG (compCx X N' scope cl s H fp C) X.N.length tg t) (ht : ∀ cl s H fp C, ATs (compCx X N' scope cl s H fp C) ifs pt) (he : ∀ cl s H fp C, AP (compCx X N' scope cl s H fp C) elt pe)
    (hs : ∀ x, foldedSetIterable iter X.env x = pure x) : AL X (.ListComp elt [⟨tg, iter, ifs, 0⟩] scope pos) (pComp k it t pt pe) := by
  intro G F σ H ρ Q St w; unfold tSem; intro pins s I
  refine pe_comp (wi := tSemI X tg iter) (g := tAllG X N' scope tg) (tc := tAllT X N' scope ifs) (te := tAllE X N' scope elt) hc Sc (fun x hx hf => I.ok.has x.1 (Sc.free x hx hf)) pi_sem
    (fun cl s H fp C pins s' σ H v u Q I r h => pg_sem pins s' σ H v u Q I r (h cl _ _ fp C)) (fun cl s H fp C pins s' σ H Q I h => h cl _ _ fp C pins s' I) (fun cl s H fp C pins s' σ H Q I h => pe_sem pins s' σ H Q I (h cl _ _ fp C)) hs pins s σ H Q I (comp_rd hi hg ht he I.len St w)
theorem ecomp_rd {S : Type} {sh : List Kd} {it : Ev S (List D)} {t : Tg (Option D × SOf sh)} {et : Ev (Option D × SOf sh) Bool} {ee : Ev (Option D × SOf sh) D} {OK : M S → Prop} {x : Ex → En → M S} {kk : List D → En → M S} {G : Gh} {F : Hp} {σ : L2.St} {H : Hp} {ρ : En} {Q : VK} (hi : AEi X tg iter it)
    (hg : ∀ cl s H fp C, AG (compCx X N' scope cl s H fp C) X.N.length tg t) (ht : ∀ cl s H fp C, AEts (compCx X N' scope cl s H fp C) ifs et) (he : ∀ cl s H fp C, AE (compCx X N' scope cl s H fp C) elt ee)
    (hσ : σ.length = X.N.length) (hO : KOk OK) (hX : XL X OK x G) (St : StOk X.K G F σ H ρ) (ok : OK (eComp sh k it t et ee x kk ρ)) (k2 : ∀ ds v F' H' ρ', Same F F' → StOk X.K G F' σ H' ρ' → Frs X.K G F' σ H' ρ' v (.l ds) → OK (kk ds ρ') → Q v H') :
    tComp (tSemI X tg iter) k (tAllG X N' scope tg) (tAllT X N' scope ifs) (tAllE X N' scope elt) σ H Q := by
  refine hi OK x _ G F σ H ρ _ hO hX St ok fun ds J F1 H1 ρ1 s1 S1 wk o1 => ?_
  obtain ⟨s0, e0, o0⟩ := rdk_ok hO o1
  clear o1
  have S0 := S1.rd e0
  have hlen0 : ∀ s : SOf sh, (wr sh s).length = σ.length := fun s => by
    have h1 : ∀ (sh : List Kd) (s : SOf sh), (wr sh s).length = sh.length := by
      intro sh
      induction sh with
      | nil => intro s; rfl
      | cons a r ih => intro s; cases a <;> simp [wr, ih]
    have h2 := S0.ln
    rw [h1] at h2 ⊢
    exact h2.symm
  have hshl : sh.length = σ.length := by
    have h1 : ∀ (sh : List Kd) (s : SOf sh), (wr sh s).length = sh.length := by
      intro sh
      induction sh with
      | nil => intro s; rfl
      | cons a r ih => intro s; cases a <;> simp [wr, ih]
    rw [← h1 sh s0]; exact hlen0 s0
  have hP : ∀ i a, G.P i = some a → i < σ.length := fun i a h => (List.getElem?_eq_some_iff.mp (S1.pp i a h).1).1
  revert o0
  generalize hstep : (fun (s : SOf sh) d => t d (fun ρ2 => et (fun e _ => .exc e) (fun b ρ3 => if b then ee (fun e _ => .exc e) (fun v ρ4 => rdk sh (fun s' => .ret (some v, s')) (ρ4.take sh.length)) ρ3 else rdk sh (fun s' => .ret (none, s')) (ρ3.take sh.length)) ρ2) (wr sh s ++ List.replicate k none)) = step
  intro o0
  cases hcc : compE step ds s0 with
  | bad => rw [hcc] at o0; exact (hO o0).elim
  | exc e => rw [hcc] at o0; exact (hX F1 ρ1 e o0).elim
  | ret q =>
    obtain ⟨out, sf⟩ := q
    rw [hcc, on_ret] at o0
    obtain ⟨hfit, o0⟩ := fit_ok hO o0
    have again : ∀ {F' H' σ' ρ'} {s' : SOf sh}, StOk X.K G F' σ' H' ρ' → (∀ j, j < σ.length → σ'[j]? = σ[j]?) → σ'.length = σ.length + k → rd sh (ρ'.take sh.length) = some s' → StOk X.K G F' σ' H' (wr sh s' ++ List.replicate k none) := fun {F' H' σ' ρ' s'} S' kp hl e' => by
      obtain ⟨h1, h2, h3⟩ := rd_wr sh _ s' e'
      have hρ' : ρ'.length = σ.length + k := by rw [← S'.ln]; exact hl
      refine S'.weak (by simp [hlen0]; omega) (fun i av q => ?_) (fun i c q => ?_)
      · have q' := app_none q
        have := h2 i av q'
        have hi : i < sh.length := by
          have := (List.getElem?_eq_some_iff.mp this).1
          rw [List.length_take] at this; omega
        rw [List.getElem?_take_of_lt hi] at this
        exact this
      · obtain ⟨a, ha⟩ := S'.pq i c q
        have hi := hP i a ha
        rw [List.getElem?_append_left (by rw [hlen0]; exact hi)]
        exact h3 i c (by rw [List.getElem?_take_of_lt (by omega)]; exact q)
    refine ⟨fun i m vs σ' H' => ∃ F' acc rest s, m = ds.length - i ∧ i ≤ ds.length ∧ Same F1 F' ∧ StOk X.K G F' σ' H' (wr sh s ++ List.replicate k none) ∧ (∀ j, j < σ.length → σ'[j]? = σ[j]?) ∧ σ'.length = σ.length + k ∧ RepL X.K F' vs acc ∧ compE step (ds.drop i) s = .ret (rest, sf) ∧ out = acc ++ rest,
      ⟨ds.length, F1, [], out, s0, rfl, Nat.zero_le _, Same.refl _, S0.grow k, fun j hj => by rw [List.getElem?_append_left hj], by simp, .nil, hcc, rfl⟩, ?_⟩
    rintro i m vs σ' H' ⟨F', acc, rest, sc, rfl, hi, s2, S2, kp, hlen, rp, go, eo⟩
    refine ⟨by rw [rp.length]; rw [eo, List.length_append] at hfit; omega, ?_⟩
    by_cases hlt : i < ds.length
    · refine .inr ⟨wk.go i G F' σ' H' _ s2 S2 hlt, fun x H2 y cl sx H0 fp C => ?_⟩
      have hd : ds[i]? = some ds[i] := by simp [hlt]
      obtain ⟨F3, s3, S3, r3⟩ := wk.yld i G F' σ' H' _ x H2 ds[i] s2 S2 hd y
      have ed : ds.drop i = ds[i] :: ds.drop (i + 1) := List.drop_eq_getElem_cons hlt
      rw [ed] at go
      cases hst : step sc ds[i] with
      | bad => dsimp only [compE] at go; rw [hst] at go; cases go
      | exc e => dsimp only [compE] at go; rw [hst] at go; cases go
      | ret o =>
        obtain ⟨o, sn⟩ := o
        dsimp only [compE] at go
        rw [hst, bd_ret] at go
        cases hr : compE step (ds.drop (i + 1)) sn with
        | bad => rw [hr] at go; cases go
        | exc e => rw [hr] at go; cases go
        | ret q' =>
          obtain ⟨rest', sf'⟩ := q'
          rw [hr, bd_ret] at go
          cases go
          rw [← hstep] at hst
          refine hg cl sx H0 fp C (fun m => m = .ret (o, sn)) _ G F3 σ' H2 _ x ds[i] _ (fun z => nomatch z) S3 r3 hst fun σ3 ρ3 S4 kp3 hl3 ml3 o4 => ?_
          have kp' : ∀ j, j < σ.length → σ3[j]? = σ[j]? := fun j hj => ((kp3 j (by omega)).1).trans (kp j hj)
          intro cl sx H0 fp C
          refine ht cl sx H0 fp C (fun m => m = .ret (o, sn)) (fun e _ => .exc e) _ G F3 σ3 H2 ρ3 _ (fun z => nomatch z) (fun F ρ e z => nomatch z) S4 o4 fun b F5 H5 ρ5 s5 S5 o5 => ?_
          cases b with
          | true =>
            refine iteT ?_
            intro cl sx H0 fp C
            refine he cl sx H0 fp C (fun m => m = .ret (o, sn)) (fun e _ => .exc e) _ G F5 σ3 H5 ρ5 _ (fun z => nomatch z) (fun F ρ e z => nomatch z) S5 o5 fun v u F6 H6 ρ6 s6 S6 ru o6 => ?_
            obtain ⟨s', e', o'⟩ := rdk_ok (OK := fun m => m = .ret (o, sn)) (fun z => nomatch z) o6
            cases o'
            exact ⟨ds.length - (i + 1), by omega, F6, acc ++ [v], rest', sn, rfl, hlt, ((s2.trans s3).trans s5).trans s6, again S6 kp' (by omega) e', kp', by omega, (rp.mono ((s3.trans s5).trans s6)).append (.cons ru .nil), hr, by rw [eo]; simp⟩
          | false =>
            refine iteF ?_
            obtain ⟨s', e', o'⟩ := rdk_ok (OK := fun m => m = .ret (o, sn)) (fun z => nomatch z) o5
            cases o'
            exact ⟨ds.length - (i + 1), by omega, F5, acc, rest', sn, rfl, hlt, (s2.trans s3).trans s5, again S5 kp' (by omega) e', kp', by omega, rp.mono (s3.trans s5), hr, by rw [eo]; simp⟩
    · have ei : i = ds.length := by omega
      subst ei
      rw [List.drop_length] at go
      cases go
      rw [List.append_nil] at eo
      subst eo
      refine .inl ⟨wk.stop G F' σ' H' _ s2 S2, fun p hp => ?_⟩
      have Ssh := S2.shrink (n := σ.length) (by simp [hlen0]) hP
      have e1 : σ'.take σ.length = σ := take_eq_of kp rfl
      have e2 : (wr sh sf ++ List.replicate k none).take σ.length = wr sh sf := by rw [← hlen0 sf, List.take_left]
      rw [e1, e2] at Ssh
      obtain ⟨S5, r5⟩ := Ssh.newLst hp rp
      exact k2 _ _ F' _ _ (s1.trans s2) S5 r5 o0
theorem ael_comp {S : Type} {sh : List Kd} {it : Ev S (List D)} {t : Tg (Option D × SOf sh)} {et : Ev (Option D × SOf sh) Bool} {ee : Ev (Option D × SOf sh) D} (hc : X.calm = true) (Sc : CompOk X N' k scope) (hi : AEi X tg iter it)
    (hg : ∀ cl s H fp C, AG (compCx X N' scope cl s H fp C) X.N.length tg t) (ht : ∀ cl s H fp C, AEts (compCx X N' scope cl s H fp C) ifs et) (he : ∀ cl s H fp C, AE (compCx X N' scope cl s H fp C) elt ee)
    (hs : ∀ x, foldedSetIterable iter X.env x = pure x) : AEl X (.ListComp elt [⟨tg, iter, ifs, 0⟩] scope pos) (eComp sh k it t et ee) := by
  intro OK x kk G F σ H ρ Q hO hX St ok k2; unfold tSem; intro pins s I
  refine pe_comp (wi := tSemI X tg iter) (g := tAllG X N' scope tg) (tc := tAllT X N' scope ifs) (te := tAllE X N' scope elt) hc Sc (fun x hx hf => I.ok.has x.1 (Sc.free x hx hf)) pi_sem
    (fun cl s H fp C pins s' σ H v u Q I r h => pg_sem pins s' σ H v u Q I r (h cl _ _ fp C)) (fun cl s H fp C pins s' σ H Q I h => h cl _ _ fp C pins s' I) (fun cl s H fp C pins s' σ H Q I h => pe_sem pins s' σ H Q I (h cl _ _ fp C)) hs pins s σ H Q I (ecomp_rd hi hg ht he I.len hO hX St ok k2)
theorem as_setCompL {S : Type} {pos' spos : Pos} {i : Nat} {y : Str} {it : Pu (List D)} {t : Tg (Option D)} {pt : Pu Bool} {pe : Pu D}
    (hN : X.N.Nodup) (hy : X.N[i]? = some y) (hly : Loc X.env.scope y) (hfn : X.fn y = true ∨ X.env.scope.names.lookup y = some .local) (hc : X.calm = true) (Sc : CompOk X N' k scope) (hi : AI X tg iter it)
    (hg : ∀ cl s H fp C, AG (compCx X N' scope cl s H fp C) X.N.length tg t) (ht : ∀ cl s H fp C, ATs (compCx X N' scope cl s H fp C) ifs pt) (he : ∀ cl s H fp C, AP (compCx X N' scope cl s H fp C) elt pe)
    (hsw : swapsWith (.ListComp elt [⟨tg, iter, ifs, 0⟩] scope pos) (some (.Name y pos')) spos.line X.env = pure true) (hs : ∀ x, foldedSetIterable iter X.env x = pure x) :
    AS (S := S) X (.Assign [.Name y pos'] (.ListComp elt [⟨tg, iter, ifs, 0⟩] scope pos) spos) (sSetL i (ePu (pComp k it t pt pe))) := by
  intro OK K G F σ H ρ E hO hX St ok eo; unfold tSemS; intro pins s I
  refine ps_setComp (wi := tSemI X tg iter) (g := tAllG X N' scope tg) (tc := tAllT X N' scope ifs) (te := tAllE X N' scope elt) hN hy hly hfn hc Sc (fun x hx hf => I.ok.has x.1 (Sc.free x hx hf)) pi_sem
    (fun cl s H fp C pins s' σ H v u Q I r h => pg_sem pins s' σ H v u Q I r (h cl _ _ fp C)) (fun cl s H fp C pins s' σ H Q I h => h cl _ _ fp C pins s' I) (fun cl s H fp C pins s' σ H Q I h => pe_sem pins s' σ H Q I (h cl _ _ fp C)) hsw hs pins s σ H E I ?_
  refine comp_rd hi hg ht he I.len St ?_
  refine W.of hO hX ok fun d F' H' s S' o v r => ?_
  have o' : OK (match okSet ρ i with | true => K.nx (ρ.set i (some (.ol (.l d)))) | false => .bad) := o
  split at o'
  · rename_i ho
    obtain ⟨hl, hop⟩ := okSet_of ho
    exact eo.nx F' _ H' _ s (S'.store hop hl (.inr ⟨.l d, rfl, r⟩)) o'
  · exact (hO o').elim
theorem as_setComp {S : Type} {pos' spos : Pos} {i : Nat} {y : Str} {it : Pu (List D)} {t : Tg (Option D)} {pt : Pu Bool} {pe : Pu D}
    (hN : X.N.Nodup) (hy : X.N[i]? = some y) (hly : Loc X.env.scope y) (hfn : X.fn y = true ∨ X.env.scope.names.lookup y = some .local) (hc : X.calm = true) (Sc : CompOk X N' k scope) (hi : AI X tg iter it)
    (hg : ∀ cl s H fp C, AG (compCx X N' scope cl s H fp C) X.N.length tg t) (ht : ∀ cl s H fp C, ATs (compCx X N' scope cl s H fp C) ifs pt) (he : ∀ cl s H fp C, AP (compCx X N' scope cl s H fp C) elt pe)
    (hsw : swapsWith (.ListComp elt [⟨tg, iter, ifs, 0⟩] scope pos) (some (.Name y pos')) spos.line X.env = pure true) (hs : ∀ x, foldedSetIterable iter X.env x = pure x) :
    AS (S := S) X (.Assign [.Name y pos'] (.ListComp elt [⟨tg, iter, ifs, 0⟩] scope pos) spos) (sSet i (ePu (pZ (pComp k it t pt pe)))) := by
  intro OK K G F σ H ρ E hO hX St ok eo; unfold tSemS; intro pins s I
  refine ps_setComp (wi := tSemI X tg iter) (g := tAllG X N' scope tg) (tc := tAllT X N' scope ifs) (te := tAllE X N' scope elt) hN hy hly hfn hc Sc (fun x hx hf => I.ok.has x.1 (Sc.free x hx hf)) pi_sem
    (fun cl s H fp C pins s' σ H v u Q I r h => pg_sem pins s' σ H v u Q I r (h cl _ _ fp C)) (fun cl s H fp C pins s' σ H Q I h => h cl _ _ fp C pins s' I) (fun cl s H fp C pins s' σ H Q I h => pe_sem pins s' σ H Q I (h cl _ _ fp C)) hsw hs pins s σ H E I ?_
  refine comp_rd hi hg ht he I.len St ?_
  have w : W X G F σ ρ (pZ (pComp k it t pt pe) ρ) (fun d F' H' => ∀ v, Rep X.K F' v d → gName i v σ H' E.nx) := W.of hO hX ok fun d F' H' s S' o v r => by
    have o' : OK (match okSet ρ i with | true => K.nx (ρ.set i (some (.fz d))) | false => .bad) := o
    split at o'
    · rename_i ho
      obtain ⟨hl, hop⟩ := okSet_of ho
      exact eo.nx F' _ H' _ s (S'.store hop hl (.inl ⟨d, rfl, r⟩)) o'
    · exact (hO o').elim
  refine w.bind.imp fun ds F' H' s1 S1 w1 v fr => ?_
  obtain ⟨F2, s2, S2, r2⟩ := S1.settle (v := v) (ds := ds) fr
  exact w1 F2 H' s2 S2 v r2
theorem as_setEComp {S : Type} {pos' spos : Pos} {i : Nat} {y : Str} {sh : List Kd} {it : Ev S (List D)} {t : Tg (Option D × SOf sh)} {et : Ev (Option D × SOf sh) Bool} {ee : Ev (Option D × SOf sh) D}
    (hN : X.N.Nodup) (hy : X.N[i]? = some y) (hly : Loc X.env.scope y) (hfn : X.fn y = true ∨ X.env.scope.names.lookup y = some .local) (hc : X.calm = true) (Sc : CompOk X N' k scope) (hi : AEi X tg iter it)
    (hg : ∀ cl s H fp C, AG (compCx X N' scope cl s H fp C) X.N.length tg t) (ht : ∀ cl s H fp C, AEts (compCx X N' scope cl s H fp C) ifs et) (he : ∀ cl s H fp C, AE (compCx X N' scope cl s H fp C) elt ee)
    (hsw : swapsWith (.ListComp elt [⟨tg, iter, ifs, 0⟩] scope pos) (some (.Name y pos')) spos.line X.env = pure true) (hs : ∀ x, foldedSetIterable iter X.env x = pure x) :
    AS X (.Assign [.Name y pos'] (.ListComp elt [⟨tg, iter, ifs, 0⟩] scope pos) spos) (sSet i (eZ (eComp sh k it t et ee))) := by
  intro OK K G F σ H ρ E hO hX St ok eo; unfold tSemS; intro pins s I
  refine ps_setComp (wi := tSemI X tg iter) (g := tAllG X N' scope tg) (tc := tAllT X N' scope ifs) (te := tAllE X N' scope elt) hN hy hly hfn hc Sc (fun x hx hf => I.ok.has x.1 (Sc.free x hx hf)) pi_sem
    (fun cl s H fp C pins s' σ H v u Q I r h => pg_sem pins s' σ H v u Q I r (h cl _ _ fp C)) (fun cl s H fp C pins s' σ H Q I h => h cl _ _ fp C pins s' I) (fun cl s H fp C pins s' σ H Q I h => pe_sem pins s' σ H Q I (h cl _ _ fp C)) hsw hs pins s σ H E I ?_
  refine ecomp_rd hi hg ht he I.len hO hX St ok fun ds v F' H' ρ' s S' r o => ?_
  have o' : OK (match okSet ρ' i with | true => K.nx (ρ'.set i (some (.fz (.list ds)))) | false => .bad) := o
  split at o'
  · rename_i ho
    obtain ⟨hl, hop⟩ := okSet_of ho
    obtain ⟨F2, s2, S2, r2⟩ := S'.settle (v := v) (ds := ds) r
    exact eo.nx F2 _ H' _ (s.trans s2) (S2.store hop hl (.inl ⟨_, rfl, r2⟩)) o'
  · exact (hO o').elim
end
end L4
set_option Elab.async false
set_option linter.all false
set_option maxRecDepth 100000
namespace HT
open PySem PySem.Spec PyProof.Rows
section
variable {prog : Program} {w : World} {A : Around} {E : Value → Shared → Prop} {s : Shared}
theorem getItem_tuple_all {t sl : Addr} {items : Array Value} {vl vu : Value} {lo hi : Option Int} {Q : Value → Shared → Prop} (ht : IsTup s.heap t items) (hs : s.heap.IsSliceOf sl vl vu .none) (pl : IsPart vl lo) (pu : IsPart vu hi)
    (hw : sIx items.size 0 lo = 0 ∧ sIx items.size items.size hi = items.size) (h : Q (.ref t) s) : wpAny (model prog w) A (getItem (.ref t) (.ref sl)) Q E s := by
  obtain ⟨os, hos, hcs, hds⟩ := id hs
  have hTs : s.TypeIs (.ref sl) "slice" := ⟨os, hos, hcs⟩
  unfold getItem
  try with_reducible refine wpAny_holding ?_
  first | refine wpAny_bind (wpAny_pure ?_) | skip
  refine wpAny_bind (wpAny_sequenceKey ht.typeIs (by decide) ?_)
  refine wpAny_bind (wpAny_callSpecial?_slot (name := Str.ofString "__getitem__") ht.typeIs PyProof.Rows.slot_tuple_getitem
    (wpAny_call_entry PyProof.Rows.slot_tuple_getitem ht.typeIs entry_tuple_getitem ?_ (args_tuple_getitem _ _)))
  show wpAny _ _ (Builtin.Tuple.tupleItemsOf (.ref t) >>= _) _ _ s
  refine wpAny_bind (tupleItemsOf_ ht ?_)
  refine wpAny_bind (wpAny_typeOf hTs ?_)
  rw [if_pos (by decide)]
  refine wpAny_bind (sliceApplied_gen hs pl pu ?_)
  have hyes : ((((sIx items.size 0 lo : Nat) : Int) == 0 && (1 : Int) == 1 && (sIx items.size items.size hi - sIx items.size 0 lo) == items.size) = true) := by
    rw [hw.1, hw.2]
    simp
  show wpAny _ _ (if (((sIx items.size 0 lo : Nat) : Int) == 0 && (1 : Int) == 1 && (sIx items.size items.size hi - sIx items.size 0 lo) == items.size) = true then _ else _) _ _ s
  rw [if_pos hyes]
  obtain ⟨o, ho, hc, n, hd⟩ := id ht
  have hex : ∀ {Q' : Bool → Shared → Prop}, Q' true s → wpAny (model prog w) A.in1 (Builtin.Tuple.tupleIsExact (.ref t)) Q' E s := fun {Q'} q => by
    unfold Builtin.Tuple.tupleIsExact
    refine wpAny_bind (wpAny_typeOf ht.typeIs (wpAny_pure ?_))
    exact q
  first
    | exact wpAny_bind (hex (wpAny_bind (wpAny_rule (wpAny_pure ⟨_, rfl, wpAny_pure h⟩))))
    | exact wpAny_bind (wpAny_bind (hex (wpAny_bind (wpAny_rule (wpAny_pure (wpAny_pure ⟨_, rfl, wpAny_pure h⟩))))))
end
end HT
namespace L4
open PySem PySem.Spec PyProof.Rows L2 L3
def cutD (ds : List D) (lo hi : Option Int) : List D := (ds.drop (HT.sIx ds.length 0 lo)).take (HT.sIx ds.length ds.length hi - HT.sIx ds.length 0 lo)
theorem cut_rep {K : Fg} {F : Hp} {vs : List V} {ds : List D} (r : RepL K F vs ds) (lo hi : Option Int) : RepL K F (cutV vs lo hi) (cutD ds lo hi) := by
  unfold cutV cutD
  rw [r.length]
  exact (r.drop _).take _
def rSlA (K : Fg) : V → Option Int → Option Int → Hp → VK → Prop := fun x lo hi H Q => ∃ a xs, x = .ref a ∧ SqT K H a xs ∧ (HT.sIx xs.length 0 lo = 0 ∧ HT.sIx xs.length xs.length hi = xs.length) ∧ Q x H
theorem sl_tupA {X : Cx} : SlR X (rSlA X.K) := by
  intro pins s σ H x v vl vu lo hi sl Q I rx hs pl pu h
  obtain ⟨a, xs, rfl, hx, hw, q⟩ := h
  cases rx
  obtain ⟨its, r, ht, hz⟩ := I.tuple hx
  have hlen : its.toArray.size = xs.length := by rw [List.size_toArray]; exact r.length.symm
  refine ⟨"tuple", _, PyProof.Rows.slot_tuple_getitem.lookup, ht.typeIs, ?_⟩
  exact HT.getItem_tuple_all ht hs pl pu (by rw [hlen]; exact hw) ⟨.ref a, H, I, rfl, q⟩
def pNoI : Pu (Option Int) := fun _ => .ret none
def asI (d : D) : M (Option Int) := match d with
  | .int i => .ret (some i)
  | _ => .bad
def pInt (p : Pu D) : Pu (Option Int) := fun ρ => bd (p ρ) asI
def fCut (d : D) (lo hi : Option Int) : Option D := match d with
  | .tuple ds => some (.tuple (cutD ds lo hi))
  | .list ds => some (.list (cutD ds lo hi))
  | _ => none
def fCutL (d : D) (lo hi : Option Int) : Option (List D) := match d with
  | .list ds => some (cutD ds lo hi)
  | _ => none
def pSlice (p : Pu D) (l h : Pu (Option Int)) : Pu D := fun ρ => bd (p ρ) fun d => bd (l ρ) fun lo => bd (h ρ) fun hi => oM (fCut d lo hi)
def APo (X : Cx) (e : Option Expr) (p : Pu (Option Int)) : Prop :=
  ∀ (G : Gh) (F : Hp) (σ : L2.St) (H : Hp) (ρ : En) (Q : Option Int → Hp → Prop), StOk X.K G F σ H ρ → W X G F σ ρ (p ρ) (fun d F' H' => Q d H') → ∀ (pins : List (Addr × Obj)) (s : Shared), Inv X pins σ H s →
    wpAny (model X.prog X.w) X.A (evalPart e X.env) (fun u s' => ∃ o H', Inv X pins σ H' s' ∧ IsPart u o ∧ Q o H') X.xe s
def tSemO (X : Cx) (e : Option Expr) : TO := fun σ H Q => ∀ (pins : List (Addr × Obj)) (s : Shared), Inv X pins σ H s → wpAny (model X.prog X.w) X.A (evalPart e X.env) (fun u s' => ∃ o H', Inv X pins σ H' s' ∧ IsPart u o ∧ Q o H') X.xe s
theorem po_sem {X : Cx} {e : Option Expr} : PO X e (tSemO X e) := fun pins s σ H Q I h => h pins s I
section
variable {X : Cx} {e : Expr} {lo hi : Option Expr} {p : Pu D} {pl ph : Pu (Option Int)} {pos p2 : Pos}
theorem apo_none : APo X none pNoI := fun G F σ H ρ Q S w pins s I => po_none pins s σ H Q I (w F H (Same.refl _) S)
theorem apo_some (h : AP X e p) : APo X (some e) (pInt p) := fun G F σ H ρ Q S w pins s I => po_some pe_sem pins s σ H Q I (h G F σ H ρ _ S (w.bind.imp fun d F1 H1 s1 S1 w1 v r => by
  cases r with
  | int i => exact ⟨i, rfl, w1 F1 H1 (Same.refl _) S1⟩
  | bl b => exact w1.elim
  | non => exact w1.elim
  | str i => exact w1.elim
  | tup _ _ => exact w1.elim
  | lst _ _ => exact w1.elim))
theorem ap_slice (he : AO X e p) (hl : APo X lo pl) (hh : APo X hi ph) : AP X (.Subscript e (.Slice lo hi none p2) pos) (pSlice p pl ph) :=
  fun G F σ H ρ Q S w => sem (pe_slice (sl_tup.or (sl_tupA.or sl_list)) pe_sem po_sem po_sem) (he G F σ H ρ _ S (w.bind.imp fun d F1 H1 s1 S1 w1 x hx =>
    hl G F1 σ H1 ρ _ S1 (w1.bind.imp fun lo F2 H2 s2 S2 w2 => hh G F2 σ H2 ρ _ S2 (w2.bind.imp fun hi F3 H3 s3 S3 w3 => by
      obtain ⟨res, hr, k⟩ := w3.opt
      have ox := (hx.mono (s2.trans s3)).or S3
      cases d <;> try (cases hr)
      · obtain ⟨a, vs, rfl, h1, h2⟩ := ox.list S3.fh
        refine .inr (.inr ⟨a, vs, rfl, h1, fun q hq => ?_⟩)
        obtain ⟨S4, r4⟩ := S3.newLst hq (cut_rep h2 lo hi)
        obtain ⟨F5, s5, S5, r5⟩ := S4.settle r4
        exact k F5 _ s5 S5 _ r5
      · rename_i ds
        obtain ⟨a, vs, rfl, h1, h2⟩ := ox.tuple S3.fh
        by_cases hw : HT.sIx vs.length 0 lo = 0 ∧ HT.sIx vs.length vs.length hi = vs.length
        · refine .inr (.inl ⟨a, vs, rfl, h1, hw, k F3 H3 (Same.refl _) S3 _ ?_⟩)
          have : cutD ds lo hi = ds := by
            unfold cutD
            rw [← h2.length, hw.1, hw.2]
            simp [h2.length]
          rw [this]
          exact ox.tup'
        · refine .inl ⟨a, vs, rfl, h1, hw, fun q hq => ?_⟩
          obtain ⟨s4, S4, r4⟩ := S3.newTup hq (cut_rep h2 lo hi)
          exact k _ _ s4 S4 _ r4))))
end
def pChain (f g : D → D → Option Bool) (a b c : Pu D) : Pu Bool := fun ρ => bd (a ρ) fun x => bd (b ρ) fun y => bd (oM (f x y)) fun t => if t then bd (c ρ) fun z => oM (g y z) else .ret false
section
variable {X : Cx} {a b c : Expr} {pa pb pc : Pu D} {op op' : CmpOp} {r r' : R2} {f g : D → D → Option Bool} {pos : Pos}
theorem chain_go {G : Gh} {F H : Hp} {σ : L2.St} {ρ : En} {Q : VK} (hf : OpB X.K r f) (hg : OpB X.K r' g) (ha : AO X a pa) (hb : AO X b pb) (hc : AO X c pc) (S : StOk X.K G F σ H ρ) (w : W X G F σ ρ (pChain f g pa pb pc ρ) fun t F' H' => Q (.bl t) H') :
    tChain r r' (tSem X a) (tSem X b) (tSem X c) σ H Q :=
  ha G F σ H ρ _ S (w.bind.imp fun dx F1 H1 s1 S1 w1 x hx => hb G F1 σ H1 ρ _ S1 (w1.bind.imp fun dy F2 H2 s2 S2 w2 y hy => by
    have w3 := w2.bind
    obtain ⟨t, e, k⟩ := w3.opt
    refine hf G F2 σ H2 ρ x y dx dy t _ S2 ((hx.mono s2).or S2) (hy.or S2) e ⟨t, rfl, ?_⟩
    have w4 := k F2 H2 (Same.refl _) S2
    cases t with
    | true =>
      refine iteT ?_
      exact hc G F2 σ H2 ρ _ S2 ((show W X G F2 σ ρ (bd (pc ρ) fun z => oM (g dy z)) _ from w4).bind.imp fun dz F3 H3 s3 S3 w5 z hz => by
        obtain ⟨t', e', k'⟩ := w5.opt
        exact hg G F3 σ H3 ρ y z dy dz t' _ S3 ((hy.mono s3).or S3) (hz.or S3) e' (k' F3 H3 (Same.refl _) S3))
    | false =>
      refine iteF ?_
      exact (show W X G F2 σ ρ (.ret false) _ from w4) F2 H2 (Same.refl _) S2))
theorem ab_chain (ho : OpR X (compareOp op) r) (ho' : OpR X (compareOp op') r') (hf : OpB X.K r f) (hg : OpB X.K r' g) (ha : AO X a pa) (hb : AO X b pb) (hc : AO X c pc) (hm : lastMarks [op, op'] [b, c] = false) : AB X (.Compare a [op, op'] [b, c] pos) (pChain f g pa pb pc) :=
  fun G F σ H ρ Q S w => sem (pe_chain ho ho' pe_sem pe_sem pe_sem hm) (chain_go hf hg ha hb hc S w)
end
def opIsB (d e : D) : Option Bool := match d, e with
  | .bool a, .bool b => some (a == b)
  | _, .none => some (isNone d)
  | _, _ => none
def opNotB (d e : D) : Option Bool := match d, e with
  | .bool a, .bool b => some (a != b)
  | _, .none => some (!isNone d)
  | _, _ => none
section
variable {X : Cx}
theorem opr_notB : OpR X (compareOp .IsNot) (rD2 X.K opNotB) := by
  intro pins s σ H x y v u Q I rx ry ⟨d, e, b, r1, r2, ho, q⟩
  unfold opNotB at ho
  split at ho
  · cases ho
    cases r1
    cases r2
    cases rx
    cases ry
    exact PyProof.Rows.isnot_bool ⟨.bl _, H, I, rfl, q⟩
  · exact opr_notN pins s σ H x y v u Q I rx ry ⟨d, .none, b, r1, r2, by rw [← ho]; rfl, q⟩
  · cases ho
end
def pIs (T : String) (p : Pu D) : Pu Bool := fun ρ => bd (p ρ) fun d => .ret (isT T d)
def rIs2 (K : Fg) (T : String) : List V → Hp → VK → Prop := fun xs H Q => ∃ v d, xs = [v, .ty T] ∧ Rep K H v d ∧ Q (.bl (isT T d)) H
theorem call_is {X : Cx} {T : String} (hT : tyOk T = true) : CallR X (.builtin "isinstance") (rIs2 X.K T) := by
  intro pins s σ H xs us Q I r h
  obtain ⟨v, d, rfl, rp, q⟩ := h
  obtain ⟨u, w, rfl, ru, rw'⟩ := vals2 r
  cases rw'
  exact isinst_rep hT I rp ru fun tk => ⟨.bl _, H, I.tok tk, rfl, q⟩
section
variable {X : Cx} {e : Expr} {p : Pu D} {pos p1 p2 : Pos} {T : String} {x : Str}
theorem ab_is (hT : tyOk T = true) (hg : Gl X "isinstance") (hm : X.mg "isinstance" = none) (hgT : Gl X x) (hmT : X.mg x = none) (hv : bootBuiltins x = some (.type T)) (ha : AO X e p) (hs : starEach [e, .Name x p2] X.env = (false, eval e X.env) :: starEach [.Name x p2] X.env) (hs2 : starEach [.Name x p2] X.env = (false, eval (.Name x p2) X.env) :: starEach [] X.env)
    (hpl : (backTo pos (starEach [.Name x p2] X.env)).any (·.1) = false) (hn : x ≠ "__name__" := by decide) (hd : (x == ("__debug__" : Str)) = false := by decide) : AB X (.Call (.Name "isinstance" p1) [e, .Name x p2] [] pos) (pIs T p) :=
  fun G F σ H ρ Q S w => sem (pe_callB (call_is hT) hg hm (by decide +kernel) (pa_cons pe_sem (pa_cons (pe_bltn hgT hmT hv (v := .ty T) rfl hn hd) pa_nil hs2) hs) (by decide) (by decide) hs hpl) (ha G F σ H ρ _ S (w.bind.imp fun d F1 H1 s1 S1 w1 v hv => by
    exact ⟨v, d, rfl, (hv.or S1).rep S1.fh, w1 F1 H1 (Same.refl _) S1⟩))
end
def boolsOf : List D → Option (List Bool)
  | [] => some []
  | .bool b :: r => match boolsOf r with
    | some l => some (b :: l)
    | none => none
  | _ => none
theorem boolsOf_eq : ∀ {ds : List D} {bs : List Bool}, boolsOf ds = some bs → ds = bs.map PyData.bool
  | [], _, h => by cases h; rfl
  | .bool i :: r, ns, h => by
    dsimp only [boolsOf] at h
    split at h
    · rename_i l e; cases h; rw [boolsOf_eq e]; rfl
    · cases h
  | .none :: _, _, h => by cases h
  | .int _ :: _, _, h => by cases h
  | .str _ :: _, _, h => by cases h
  | .list _ :: _, _, h => by cases h
  | .tuple _ :: _, _, h => by cases h
  | .dict _ :: _, _, h => by cases h
theorem boolsOf_map (bs : List Bool) : boolsOf (bs.map PyData.bool) = some bs := by
  induction bs with
  | nil => rfl
  | cons b r ih => simp [boolsOf, ih]
theorem repL_bools {K : Fg} {F : Hp} : ∀ {vs : List V} {bs : List Bool}, RepL K F vs (bs.map PyData.bool) → vs = bs.map V.bl
  | _, [], h => by cases h; rfl
  | _, n :: r, h => by
    cases h with
    | cons a b => cases a; rw [repL_bools b]; rfl
theorem vals_bools : ∀ {bs : List Bool} {us : List Value}, Vals (bs.map V.bl) us → us = bs.map Value.bool
  | [], _, h => by cases h; rfl
  | n :: r, _, h => by
    cases h with
    | cons a b => cases a; rw [vals_bools b]; rfl
def fAll : List D → Option Bool
  | [.list ds] => (boolsOf ds).map fun bs => bs.all id
  | _ => none
def fAny : List D → Option Bool
  | [.list ds] => (boolsOf ds).map fun bs => bs.any id
  | _ => none
def rBools (K : Fg) (f : List Bool → Bool) : List V → Hp → VK → Prop := fun xs H Q => ∃ a bs, xs = [.ref a] ∧ SqL K H a (bs.map V.bl) ∧ Q (.bl (f bs)) H
theorem ok_bools {K : Fg} {f : List Bool → Bool} {g : List D → Option Bool} (hg : ∀ l b, g l = some b → ∃ bs, l = [.list (bs.map PyData.bool)] ∧ b = f bs) : CallBo K (rBools K f) g := by
  intro G F σ H ρ xs ds res Q S o e k
  obtain ⟨bs, rfl, rfl⟩ := hg _ _ e
  obtain ⟨v, r, rfl, ho, hr⟩ := ors_cons o
  obtain rfl := ors_nil hr
  obtain ⟨a, vs, rfl, h1, h2⟩ := ho.list S.fh
  rw [repL_bools h2] at h1
  exact ⟨a, bs, rfl, h1, k⟩
theorem ok_all {K : Fg} : CallBo K (rBools K fun bs => bs.all id) fAll := ok_bools fun l b h => by
  unfold fAll at h
  split at h
  · obtain ⟨bs, e, rfl⟩ := Option.map_eq_some_iff.mp h
    exact ⟨bs, by rw [boolsOf_eq e], rfl⟩
  · cases h
theorem ok_any {K : Fg} : CallBo K (rBools K fun bs => bs.any id) fAny := ok_bools fun l b h => by
  unfold fAny at h
  split at h
  · obtain ⟨bs, e, rfl⟩ := Option.map_eq_some_iff.mp h
    exact ⟨bs, by rw [boolsOf_eq e], rfl⟩
  · cases h
theorem iter_list {prog : Program} {w : World} {A : Around} {E : Value → Shared → Prop} {s : Shared} {l : Addr} {its : Array Value} {Q : Value → Shared → Prop} (hl : s.heap.IsList l its)
    (h : ∀ s₂ : Shared, s₂ = { s with heap := s.heap.push { cls := .type "list_iterator", data := .fields #[.ref l, .int 0 0] } } →
      (s₂.heap.IsListIter s.heap.objs.size l 0 ∧ s₂.heap.IsList l its) → l ≠ s.heap.objs.size → Q (.ref s.heap.objs.size) s₂) :
    wpAny (model prog w) A (pyIter (.ref l)) Q E s := by
  have hlt : l < s.heap.objs.size := by obtain ⟨_, e, _⟩ := hl; exact Heap.lt_size e
  exact wpAny_pyIter_list hl (h _ rfl ⟨⟨_, Heap.get?_push_size _ rfl, rfl, rfl⟩, hl.push _⟩ (Nat.ne_of_lt hlt))
theorem truth_bools {prog : Program} {w : World} {A : Around} (bs : List Bool) : TruthOf prog w A (fun i v => (bs.map Value.bool).toArray[i]? = some v) (fun i => bs.getD i false) := fun i v s Q E hP hQ => by
  dsimp only at hP hQ
  rw [List.getElem?_toArray, List.getElem?_map] at hP
  obtain ⟨b, e, rfl⟩ := Option.map_eq_some_iff.mp hP
  rw [List.getD_eq_getElem?_getD, e] at hQ
  exact wpAny_truthy_bool hQ
theorem all_range (bs : List Bool) : (List.range bs.length).all (fun i => bs.getD i false) = bs.all id := by
  induction bs with
  | nil => rfl
  | cons b r ih =>
    rw [List.length_cons, List.range_succ_eq_map, List.all_cons, List.all_map, List.all_cons]
    simp only [List.getD_cons_zero, id_eq]
    congr 1
theorem any_range (bs : List Bool) : (List.range bs.length).any (fun i => bs.getD i false) = bs.any id := by
  induction bs with
  | nil => rfl
  | cons b r ih =>
    rw [List.length_cons, List.range_succ_eq_map, List.any_cons, List.any_map, List.any_cons]
    simp only [List.getD_cons_zero, id_eq]
    congr 1
theorem call_all {X : Cx} (hc : X.calm = true) : CallR X (.builtin "all") (rBools X.K fun bs => bs.all id) := by
  intro pins s σ H xs us Q I r h
  obtain ⟨a, bs, rfl, hq, q⟩ := h
  obtain ⟨u, rfl, ru⟩ := Vals.one r
  cases ru
  obtain ⟨its, rv, pl, hz⟩ := I.list hq
  rw [vals_bools rv] at pl
  refine call_all_walk (iter_list pl.isList fun s₂ e st hlI => ?_)
  subst e
  refine ⟨_, _, _, _, _, _, _, rfl, Walks.list (A := X.A.in1) (I.ok.hd hc) _ a hlI (bs.map Value.bool).toArray, st, truth_bools bs, fun h' tk hk => ?_⟩
  refine ⟨.bl (bs.all id), H, I.kept (old_kept hk), ?_, q⟩
  show _ = _
  rw [← all_range bs]
  simp
theorem call_any {X : Cx} (hc : X.calm = true) : CallR X (.builtin "any") (rBools X.K fun bs => bs.any id) := by
  intro pins s σ H xs us Q I r h
  obtain ⟨a, bs, rfl, hq, q⟩ := h
  obtain ⟨u, rfl, ru⟩ := Vals.one r
  cases ru
  obtain ⟨its, rv, pl, hz⟩ := I.list hq
  rw [vals_bools rv] at pl
  refine call_any_walk (iter_list pl.isList fun s₂ e st hlI => ?_)
  subst e
  refine ⟨_, _, _, _, _, _, _, rfl, Walks.list (A := X.A.in1) (I.ok.hd hc) _ a hlI (bs.map Value.bool).toArray, st, truth_bools bs, fun h' tk hk => ?_⟩
  refine ⟨.bl (bs.any id), H, I.kept (old_kept hk), ?_, q⟩
  show _ = _
  rw [← any_range bs]
  simp
def fList : List D → Option (List D)
  | [.list ds] => some ds
  | [.tuple ds] => some ds
  | _ => none
def fInt : List D → Option D
  | [.int i] => some (.int i)
  | [.bool b] => some (.int (if b then 1 else 0))
  | _ => none
theorem ok_int {K : Fg} : CallD K (fun xs H Q => (∃ i, xs = [.int i] ∧ Q (.int i) H) ∨ ∃ k, xs = [.bl k] ∧ Q (.int (if k then 1 else 0)) H) fInt := by
  intro G F σ H ρ xs ds res Q S o e k
  unfold fInt at e
  split at e
  · cases e
    obtain ⟨v, r, rfl, ho, hr⟩ := ors_cons o
    obtain rfl := ors_nil hr
    exact .inl ⟨_, by rw [ho.int], k _ F H (Same.refl _) S (.int _)⟩
  · cases e
    obtain ⟨v, r, rfl, ho, hr⟩ := ors_cons o
    obtain rfl := ors_nil hr
    exact .inr ⟨_, by rw [ho.bool], k _ F H (Same.refl _) S (.int _)⟩
  · cases e
theorem ap_glob {X : Cx} {x : Str} {v : V} {u : Value} {d : D} {pos : Pos} (hg : Gl X x) (hm : X.mg x = some u) (r : RelV v u) (rp : ∀ F, Rep X.K F v d) (hd : (x == ("__debug__" : Str)) = false) : AP X (.Name x pos) (pCon d) :=
  ap_con (pe_glob hg hm r hd) rp
end L4
set_option Elab.async false
set_option linter.all false
set_option maxRecDepth 100000
namespace L4
open PySem PySem.Spec PyProof.Rows L2 L3
section
variable {S : Type}
def putD (ds : List D) (j d : D) : Option (List D) := match j with
  | .int k => (ixN ds.length k).map fun q => ds.set q d
  | _ => none
def sPut (i : Nat) (mi me : Ev S D) : SM S := fun K ρ => me K.x (fun d ρ1 => match ownL ρ1 i with
  | some _ => mi K.x (fun j ρ2 => match ownL ρ2 i with
    | some ds => (oM (putD ds j d)).on (fun e => K.x e ρ2) (fun ds' => K.nx (setO ρ2 i ds'))
    | none => .bad) ρ1
  | none => .bad) ρ
def sAug (i : Nat) (f : D → D → Option D) (me : Ev S D) : SM S := fun K ρ => match ρ[i]? with
  | some (some (.fz x)) => me K.x (fun d ρ1 => (oM (f x d)).on (fun e => K.x e ρ1) (fun r => match okSet ρ1 i with
    | true => K.nx (ρ1.set i (some (.fz r)))
    | false => .bad)) ρ
  | _ => .bad
def ipD (f : D → D → Option D) (K : Fg) (t : TIp) : Prop := ∀ (x y : V) (dx dy r : D) (F H : Hp) (Q : VK), Rep K F x dx → Rep K F y dy → f dx dy = some r → (∀ v, Rep K F v r → Q v H) → t x y H Q
def opAddI : D → D → Option D
  | .int i, .int j => some (.int (i + j))
  | _, _ => none
theorem ipd_add {K : Fg} : ipD opAddI K (ipI fun i j => i + j) := fun x y dx dy r F H Q r1 r2 e k => by
  cases dx <;> cases dy <;> cases e
  cases r1; cases r2
  exact ⟨_, _, rfl, rfl, k _ (.int _)⟩
variable {X : Cx} {a b e : Expr} {mi me : Ev S D} {pos pos' tpos apos cpos : Pos} {ml : Ev S (List D)}
theorem as_put {i : Nat} {x : Str} (hN : X.N[i]? = some x) (hv : Vis X.env.scope x) (hi : AE X b mi) (he : AE X e me) (ha : ∀ v, assign (.Subscript (.Name x pos') b tpos) X.env v = (do
      let ov ← holding [v] (eval (.Name x pos') X.env)
      let iv ← holding [v, ov] (eval b X.env)
      standAt tpos
      holding [v, ov, iv] (setItem ov iv v)
      release [v, ov, iv] []))
    (hs : swapsWithSole [.Subscript (.Name x pos') b tpos] e pos.line X.env = pure false) (hw : swappedStores [.Subscript (.Name x pos') b tpos] e X.env = pure none)
    (h1 : (assignEach [.Subscript (.Name x pos') b tpos] X.env).map (·.2) = [assign (.Subscript (.Name x pos') b tpos) X.env])
    (hd : (x == ("__debug__" : Str)) = false := by decide) (hcd : (x == ("__classdict__" : Str)) = false := by decide) : AS X (.Assign [.Subscript (.Name x pos') b tpos] e pos) (sPut i mi me) := fun OK K G F σ H ρ E hO hX St ok eo =>
  semS (ps_asg pe_sem (pg_sub (pe_var hN hv hd hcd) pe_sem set_list ha) hs hw h1) (he OK K.x _ G F σ H ρ _ hO hX St ok fun d v F1 H1 ρ1 s1 S1 r1 o1 => by
    split at o1
    case h_2 => exact (hO o1).elim
    rename_i ds0 hd0
    obtain ⟨a, vs0, ea, _, _⟩ := own_ref S1 hd0
    refine ⟨_, ea, hi OK K.x _ G F1 σ H1 ρ1 _ hO hX S1 o1 fun j u F2 H2 ρ2 s2 S2 r2 o2 => ?_⟩
    split at o2
    case h_2 => exact (hO o2).elim
    rename_i ds hds
    obtain ⟨ds', hp, o3⟩ := opt_ok hO o2
    obtain ⟨a', vs, ea', hh, rv⟩ := own_ref S2 hds
    rw [ea] at ea'
    injection ea' with ea'; injection ea' with ea'; injection ea' with ea'
    subst ea'
    unfold putD at hp
    split at hp
    · rename_i k
      obtain ⟨q, hq, rfl⟩ := Option.map_eq_some_iff.mp hp
      cases r2
      refine ⟨a, vs, k, q, rfl, rfl, hh, by rw [rv.length]; exact hq, ?_⟩
      exact eo.nx F2 σ _ _ (s1.trans s2) (own_set S2 hds ea (RepL.set (r1.mono s2) q rv)) o3
    · cases hp)
theorem as_aug {i : Nat} {x : Str} {op : Operator} {t : TIp} {f : D → D → Option D} (hN : X.N.Nodup) (hi : X.N[i]? = some x) (hx : Loc X.env.scope x) (ho : PIp X op t) (hf : ipD f X.K t) (he : AE X e me) (hfn : X.fn x = true ∨ X.env.scope.names.lookup x = some .local) :
    AS X (.AugAssign (.Name x pos') op e pos) (sAug i f me) := fun OK K G F σ H ρ E hO hX St ok eo =>
  semS (ps_aug hN hi hx pe_sem ho hfn) (by
    unfold sAug at ok
    split at ok
    case h_2 => exact (hO ok).elim
    rename_i dx hdx
    obtain ⟨v, ev, rv⟩ := St.fz i dx hdx
    refine ⟨v, ev, he OK K.x _ G F σ H ρ _ hO hX St ok fun d u F1 H1 ρ1 s1 S1 r1 o1 => ?_⟩
    obtain ⟨r, er, o2⟩ := opt_ok hO o1
    refine hf v u dx d r F1 H1 _ (rv.mono s1) r1 er fun z rz => ?_
    split at o2
    · rename_i hok
      obtain ⟨hl, hop⟩ := okSet_of hok
      exact eo.nx F1 _ H1 _ s1 (S1.store hop hl (.inl ⟨r, rfl, rz⟩)) o2
    · exact (hO o2).elim)
end
end L4
set_option Elab.async false
set_option linter.all false
set_option maxRecDepth 100000
namespace L4
open PySem PySem.Spec PyProof.Rows L2 L3
def kindB (k : NameKind) : Option NameKind → Bool
  | some k' => k == k'
  | none => false
def compChk (N N' : List Str) (k : Nat) (scope sc : Scope) : Bool :=
  (scope.kind == .function) && (N'.length == N.length + k) && scope.names.all (fun y => y.2 != .cell) && scope.names.all (fun y => y.2 != .local || kindB .local (scope.names.lookup y.1))
    && ((List.range N.length).all fun i => match N'[i]? with
      | some x => !(kindB .free (scope.names.lookup x) || kindB .local (scope.names.lookup x) || kindB .cell (scope.names.lookup x)) || (N[i]? == some x && kindB .free (scope.names.lookup x))
      | none => true)
    && scope.names.all (fun y => y.2 != .free || kindB .cell (sc.names.lookup y.1) || kindB .free (sc.names.lookup y.1))
theorem kindB_of {k : NameKind} {o : Option NameKind} (h : kindB k o = true) : o = some k := by
  cases o with
  | none => cases h
  | some k' => simp [kindB] at h; rw [h]
theorem kindB_to {k : NameKind} {o : Option NameKind} (h : o = some k) : kindB k o = true := by subst h; simp [kindB]
theorem compOk_of {X : Cx} {N N' : List Str} {k : Nat} {scope sc : Scope} (h : compChk N N' k scope sc = true) (hN : X.N = N) (hs : X.env.scope = sc) : CompOk X N' k scope := by
  subst hN hs
  simp only [compChk, Bool.and_eq_true, List.all_eq_true, beq_iff_eq, Bool.or_eq_true, bne_iff_ne, ne_eq] at h
  obtain ⟨⟨⟨⟨⟨h1, h2⟩, h3⟩, h4⟩, h5⟩, h6⟩ := h
  refine ⟨h1, h2, fun y hy => h3 y hy, fun y hy hl => ?_, fun i x hi hx _ hk => ?_, fun y hy hf => ?_⟩
  · rcases h4 y hy with z | z
    · exact absurd hl z
    · exact kindB_of z
  · have := h5 i (List.mem_range.mpr hi)
    rw [hx] at this
    simp only [Bool.or_eq_true, Bool.not_eq_true', Bool.and_eq_true, beq_iff_eq] at this
    rcases this with z | ⟨z1, z2⟩
    · exfalso
      rcases hk with hk | hk | hk <;> simp [kindB_to hk] at z
    · exact ⟨z1, kindB_of z2⟩
  · rcases h6 y hy with (z | z) | z
    · exact absurd hf z
    · exact .inl (kindB_of z)
    · exact .inr (kindB_of z)
section
variable {S : Type} {X : Cx} {a b e : Expr} {ms : Ev S (List D)} {pos : Pos}
end
theorem law_start {K : Fg} {H : Hp} {a : Addr} {ns : List Int} {mf : List D → M D} (hS : SqL K H a (ns.map V.int)) (h : mf [.list (ns.map PyData.int)] = .ret (.bool true)) : spD K 1 mf [.ref a] H (fun v _ => v = .bl true) fun _ _ _ => False := by
  refine ⟨⟨fun _ => none, fun _ => none⟩, H, [.list (ns.map PyData.int)], .bool true, rfl, ⟨Same.refl _, fun b o z => (nomatch z), fun b o z => (nomatch z), rfl, fun i d z => ?_, fun i c z => (no_own (ds := [.list (ns.map PyData.int)]) z).elim, fun i j c e a z => (no_own (ds := [.list (ns.map PyData.int)]) z).elim, fun i a z => (nomatch z), fun i c z => ?_⟩, h, fun v F' H' s S' r => ?_⟩
  · obtain ⟨d', e, q⟩ := fz_get (ds := [.list (ns.map PyData.int)]) z
    cases e
    cases i with
    | zero => simp at q; subst q; exact ⟨_, rfl, .lst hS (RepL.ints ns)⟩
    | succ i => simp at q
  · obtain ⟨d', e, q⟩ := fz_get (ds := [.list (ns.map PyData.int)]) z
    cases e
  · cases r
    rfl
end L4
set_option Elab.async false
set_option linter.all false
set_option maxRecDepth 100000
namespace HT
open PySem PySem.Spec PyProof.Rows
section
variable {prog : Program} {w : World} {A : Around} {E : Value → Shared → Prop} {s : Shared}
end
end HT
namespace L4
open PySem PySem.Spec PyProof.Rows L2 L3
section
variable {X : Cx} {e st : Expr} {p : Pu D} {pos p2 : Pos}
end
end L4
set_option Elab.async false
set_option linter.all false
set_option maxRecDepth 100000
namespace L4
open PySem PySem.Spec PyProof.Rows L2 L3
section
variable {X : Cx} {a : Expr} {pa : Pu D} {pos : Pos} {ta : TE}
theorem pe_notT (ha : PE X a ta) : PE X (.UnaryOp .Not a pos) (fun σ H Q => ta σ H fun x H' => ∃ k, TruV X.K x H' k ∧ Q (.bl (!k)) H') := by
  intro pins s σ H Q I h
  refine UnaryOp_ (thn (ha pins s σ H _ I h) fun v s1 ⟨x, H1, I1, r1, q1⟩ => ?_)
  obtain ⟨k, q1, q2⟩ := q1
  exact not_of (thn (tru_ok pins s1 σ H1 x v (fun c H' => Q (.bl (!c)) H') I1 r1 ⟨k, q1, q2⟩) fun c s2 ⟨H2, I2, q⟩ => ⟨.bl (!c), H2, I2, rfl, q⟩)
theorem ab_notO (ha : AO X a pa) : AB X (.UnaryOp .Not a pos) (pNot (pTru pa)) :=
  fun G F σ H ρ Q S w => sem (pe_notT pe_sem) (ha G F σ H ρ _ S (w.bind.bind.imp fun x F1 H1 s1 S1 w1 v hv => by
    obtain ⟨bb, hb, k⟩ := w1.opt
    refine ⟨bb, ?_, k F1 H1 (Same.refl _) S1 F1 H1 (Same.refl _) S1⟩
    have o := hv.or S1
    cases x with
    | none => rw [o.none]; cases hb; exact rfl
    | bool i => rw [o.bool]; cases hb; exact rfl
    | int i => rw [o.int]; cases hb; exact rfl
    | str i =>
      rw [o.str]
      unfold truD at hb
      dsimp only at hb
      split at hb
      · rename_i hl; cases hb; exact ⟨hl, rfl⟩
      · cases hb
    | list ds => obtain ⟨a, vs, rfl, h1, h2⟩ := o.list S1.fh; cases hb; exact .inl ⟨vs, h1, (isEmpty_repL h2).symm⟩
    | tuple ds => obtain ⟨a, vs, rfl, h1, h2⟩ := o.tuple S1.fh; cases hb; exact .inr (.inl ⟨vs, h1, (isEmpty_repL h2).symm⟩)
    | dict ds => cases hb))
end
def isStar : Expr → Bool
  | .Starred _ _ => true
  | _ => false
theorem star_ok {env : Env} : ∀ {e : Expr} {es : List Expr}, isStar e = false → starEach (e :: es) env = (false, eval e env) :: starEach es env := by
  intro e es h
  cases e <;> first | rfl | cases h
end L4
set_option Elab.async false
set_option linter.all false
set_option maxRecDepth 100000
namespace L4
open PySem PySem.Spec PyProof.Rows L2 L3
noncomputable def forS {S T : Type} : (T → D → (T → M S) → M S) → List D → T → (T → M S) → M S := Classical.choose (⟨@forC S T, rfl⟩ : ∃ f, f = @forC S T)
theorem forS_is {S T : Type} : @forS S T = @forC S T := Classical.choose_spec (⟨@forC S T, rfl⟩ : ∃ f, f = @forC S T)
section
variable {S : Type}
noncomputable def sForS (sh : List Kd) (it : Ev S (List D)) (t : Tg S) (mb : SM S) : SM S := fun K ρ => it K.x (fun ds ρ1 => rdk sh (fun s => forS (fun s d kn => t d (fun ρ2 => mb (loopK sh K kn) ρ2) (wr sh s)) ds s (fun s' => K.nx (wr sh s'))) ρ1) ρ
theorem sForS_is (sh : List Kd) (it : Ev S (List D)) (t : Tg S) (mb : SM S) : sForS sh it t mb = sFor sh it t mb := by
  unfold sForS sFor
  rw [forS_is]
variable {X : Cx} {mb : SM S} {c : Expr} {mt : Ev S Bool} {ml : Ev S (List D)} {pos : Pos}
theorem as_forS {tg iter : Expr} {body : List Stmt} {sh : List Kd} {t : Tg S} (hp : PassesOwn (model X.prog X.w) X.A X.env X.xe) (hc : X.calm = true) (hi : AEi X tg iter ml) (hg : AG X 0 tg t) (hb : ASs X body mb)
    (hs : ∀ x, foldedSetIterable iter X.env x = pure x) : AS X (.For tg iter body [] pos) (sForS sh ml t mb) := by
  rw [sForS_is]
  exact as_for hp hc hi hg hb hs
end
end L4
set_option Elab.async false
set_option linter.all false
set_option maxRecDepth 100000
namespace HT
open PySem PySem.Spec PyProof.Rows
theorem noFill_tuple_mul : fillsNumberSlot (.type "tuple") "mul" = pure false :=
  PySem.fillsNumberSlot_seq (id := "tuple.__mul__") (r := some (.builtin "tuple.__rmul__")) PySem.F.slot_tuple_mul.lookup (by decide +kernel) PySem.F.slot_tuple_rmul.lookup (by decide +kernel)
theorem repeat_tuple : seqRepeat? (.type "tuple") = pure (some (.builtin "tuple.__mul__")) := by
  unfold seqRepeat?
  rw [PySem.seqSlot_of (T := "tuple") (name := "__mul__") (id := "tuple.__mul__") PySem.F.slot_tuple_mul.lookup (by decide +kernel), PySem.seqSlot_of (T := "tuple") (name := "__rmul__") (id := "tuple.__rmul__") PySem.F.slot_tuple_rmul.lookup (by decide +kernel)]
  rfl
theorem rmul_int_tuple (a : Int) (t : Tok) (l : Addr) (items : Array Value) (n : Nat) (d : Option Addr) (sl : Array (Option Value)) :
    Meets (Builtin.«int.__rmul__» ⟨[.int a t, .ref l], []⟩) (fun _ R s => s.heap.get? l = some { cls := .type "tuple", dict := d, data := .seq items n, slots := sl } ∧ R (.ok (.ret Value.notImplemented)) s) :=
  .of_wp fun prog w A R s h => by obtain ⟨hp, g, dd, tk, os⟩ := s; obtain ⟨hl, h⟩ := h; wp_walk; exact ⟨_, rfl, h⟩
theorem tuple_mulW (l : Addr) (items : Array Value) (n : Nat) (d : Option Addr) (sl : Array (Option Value)) (x : Int) (u : Tok) (h2 : 2 ≤ x) (h3 : x < 2 ^ 63) (he : items.isEmpty = false) (hz : items.size * x ≤ (sizeLine : Int)) (hz2 : (List.foldl (fun x1 x2 => x1 ++ x2) #[] (List.replicate x.toNat items)).size ≤ sizeLine) :
    Meets (Builtin.«tuple.__mul__» ⟨[.ref l, .int x u], []⟩) (fun _ R s => s.heap.get? l = some { cls := .type "tuple", dict := d, data := .seq items n, slots := sl } ∧ R (.ok (.ret (Value.ref s.heap.objs.size))) { s with heap := s.heap.push { cls := Value.type "tuple", data := Data.seq (List.foldl (fun x1 x2 => x1 ++ x2) #[] (List.replicate x.toNat items)) } }) :=
  .of_wp fun prog w A R s h => by
    obtain ⟨hp, g, dd, tk, os⟩ := s; obtain ⟨hl, h⟩ := h
    have f1 := AutoSeq1.idx_int; have f2 := AutoSeq1.sub_tuple_tuple
    have hs : (sizeLine : Int) ≤ (2 ^ 63 - 1) / 8 := by decide
    wp_walk
    rw [if_neg (by simp; omega)]
    wp_walk using wpAny_loadPart' hl
    rw [if_neg (by simp [he]; omega)]
    wp_walk using wpAny_loadPart' hl
    rw [if_neg (by simp [he]; omega)]
    wp_walk using wpAny_loadPart' hl
    rw [if_neg (by omega)]
    wp_walk using wpAny_loadPart' hl
    rw [if_neg (by unfold Builtin.Tuple.tupleTooMany; simp; omega)]
    wp_walk using wpAny_loadPart' hl
    exact ⟨_, rfl, h⟩
theorem tuple_mulW1 (l : Addr) (items : Array Value) (n : Nat) (d : Option Addr) (sl : Array (Option Value)) (u : Tok) :
    Meets (Builtin.«tuple.__mul__» ⟨[.ref l, .int 1 u], []⟩) (fun _ R s => s.heap.get? l = some { cls := .type "tuple", dict := d, data := .seq items n, slots := sl } ∧ R (.ok (.ret (Value.ref l))) s) :=
  .of_wp fun prog w A R s h => by
    obtain ⟨hp, g, dd, tk, os⟩ := s; obtain ⟨hl, h⟩ := h
    have f1 := AutoSeq1.idx_int; have f2 := AutoSeq1.sub_tuple_tuple
    wp_walk using wpAny_loadPart' hl
    exact ⟨_, rfl, h⟩
theorem tuple_mulW0 (l : Addr) (items : Array Value) (n : Nat) (d : Option Addr) (sl : Array (Option Value)) (x : Int) (u : Tok) (h1 : -(2 ^ 63) ≤ x) (h0 : x ≤ 0) (he : items.isEmpty = false) :
    Meets (Builtin.«tuple.__mul__» ⟨[.ref l, .int x u], []⟩) (fun _ R s => s.heap.get? l = some { cls := .type "tuple", dict := d, data := .seq items n, slots := sl } ∧ R (.ok (.ret (Value.ref s.heap.objs.size))) { s with heap := s.heap.push { cls := Value.type "tuple", data := Data.seq #[] } }) :=
  .of_wp fun prog w A R s h => by
    obtain ⟨hp, g, dd, tk, os⟩ := s; obtain ⟨hl, h⟩ := h
    have f1 := AutoSeq1.idx_int; have f2 := AutoSeq1.sub_tuple_tuple
    wp_walk
    rw [if_neg (by simp; omega)]
    wp_walk using wpAny_loadPart' hl
    rw [if_neg (by simp [he]; omega)]
    wp_walk using wpAny_loadPart' hl
    exact ⟨_, rfl, h⟩
section
variable {prog : Program} {w : World} {A : Around} {E : Value → Shared → Prop} {s : Shared} {xs : Array (Int × Tok)} {l : Addr}
end
end HT
namespace L4
open PySem PySem.Spec PyProof.Rows L2 L3
def opMulT : D → D → Option D
  | .tuple (a :: r), .int k => if decide (-(2 ^ 63) ≤ k) && decide (k < 2 ^ 63) && decide ((a :: r).length * k.toNat ≤ sizeLine) then some (.tuple (List.replicate k.toNat (a :: r)).flatten) else none
  | _, _ => none
def rMulT (K : Fg) : R2 := fun x y H Q => ∃ l k xs, x = .ref l ∧ y = .int k ∧ SqT K H l xs ∧ xs ≠ [] ∧ -(2 ^ 63) ≤ k ∧ k < 2 ^ 63 ∧ xs.length * k.toNat ≤ sizeLine ∧
  (k = 1 → Q (.ref l) H) ∧ (k ≠ 1 → ∀ p, H p = none → Q (.ref p) (upd H p (.tup (List.replicate k.toNat xs).flatten)))
section
variable {X : Cx}
theorem op_mulT : OpR X (binaryOp .Mult) (rMulT X.K) := by
  intro pins s σ H x y v u Q I rx ry h
  obtain ⟨l, k, xs, rfl, rfl, hH, hne, h1, h2, hz, q1, q2⟩ := h
  cases rx
  obtain ⟨t, rfl⟩ := ry
  obtain ⟨its, r, p1, _⟩ := I.tuple hH
  obtain ⟨⟨cls, dd, data, sl⟩, ho, hc, n, hd⟩ := id p1
  simp only at hc hd
  subst hc hd
  have hne' : its.toArray.isEmpty = false := by
    have : its ≠ [] := fun z => hne (r.nil_iff.mp z)
    cases its with
    | nil => exact absurd rfl this
    | cons a b => simp
  have hlen : its.length = xs.length := r.length.symm
  have road : wpAny (model X.prog X.w) X.A (call (.builtin "tuple.__mul__") [.ref l, .int k t]) (EP X pins σ Q) X.xe s → wpAny (model X.prog X.w) X.A (binaryOp .Mult (.ref l) (.int k t)) (EP X pins σ Q) X.xe s := fun hgo =>
    wpAny_binaryOp_repeat_ref (T := "tuple") (U := "int") (by decide) ⟨_, ho, rfl⟩ (fun s' => typeIs_int s' k t) HT.noFill_tuple_mul F.fills_int_mul F.slot_int_rmul HT.repeat_tuple F.slot_int_index.lookup
      (call_meets F.slot_int_rmul (typeIs_int s k t) F.entry_int_rmul (F.args_int_rmul_2 _ _) (HT.rmul_int_tuple k t l its.toArray n dd sl) ⟨ho, rfl, ⟨_, ho, rfl⟩, hgo⟩)
  refine road ?_
  by_cases k1 : k = 1
  · subst k1
    exact call_meets PySem.F.slot_tuple_mul ⟨_, ho, rfl⟩ PySem.F.entry_tuple_mul (PySem.F.args_tuple_mul_2 _ _) (HT.tuple_mulW1 l its.toArray n dd sl t) ⟨ho, ⟨.ref l, H, I, rfl, q1 rfl⟩⟩
  · by_cases k0 : k ≤ 0
    · refine call_meets PySem.F.slot_tuple_mul ⟨_, ho, rfl⟩ PySem.F.entry_tuple_mul (PySem.F.args_tuple_mul_2 _ _) (HT.tuple_mulW0 l its.toArray n dd sl k t h1 k0 hne') ⟨ho, ?_⟩
      have e : (List.replicate k.toNat xs).flatten = [] := by rw [show k.toNat = 0 by omega]; rfl
      have q := q2 k1
      rw [e] at q
      refine ⟨.ref s.heap.objs.size, _, I.laid (t' := s.toks) (o := .tup []) (fun b ob q => Heap.get?_push_of_some _ q) (Nat.le_refl _) ?_, rfl, q _ (I.hok.fresh (Nat.le_refl _))⟩
      exact ⟨Nat.zero_le _, [], .nil, IsTup.new _ _⟩
    · have f0 : List.foldl (fun x1 x2 => x1 ++ x2) #[] (List.replicate k.toNat its.toArray) = (List.replicate k.toNat its).flatten.toArray := by
        have := foldl_rep its k.toNat []
        rw [List.nil_append] at this
        exact this
      have hsz : (List.replicate k.toNat its).flatten.length ≤ sizeLine := by rw [len_rep, hlen, Nat.mul_comm]; exact hz
      refine call_meets PySem.F.slot_tuple_mul ⟨_, ho, rfl⟩ PySem.F.entry_tuple_mul (PySem.F.args_tuple_mul_2 _ _) (HT.tuple_mulW l its.toArray n dd sl k t (by omega) h2 hne' ?_ (by rw [f0, List.size_toArray]; exact hsz)) ⟨ho, ?_⟩
      · rw [List.size_toArray, hlen]
        have : ((xs.length * k.toNat : Nat) : Int) ≤ (sizeLine : Int) := Int.ofNat_le.mpr hz
        rw [Int.natCast_mul, Int.toNat_of_nonneg (by omega)] at this
        exact this
      · rw [f0]
        refine ⟨.ref s.heap.objs.size, _, I.laid (t' := s.toks) (o := .tup (List.replicate k.toNat xs).flatten) (fun b ob q => Heap.get?_push_of_some _ q) (Nat.le_refl _) ?_, rfl, q2 k1 _ (I.hok.fresh (Nat.le_refl _))⟩
        exact ⟨by rw [len_rep, Nat.mul_comm]; exact hz, _, r.rep k.toNat, IsTup.new _ _⟩
end
theorem repL_rep {K : Fg} {F : Hp} {vs : List V} {ds : List D} (r : RepL K F vs ds) (n : Nat) : RepL K F (List.replicate n vs).flatten (List.replicate n ds).flatten := by
  induction n with
  | zero => exact .nil
  | succ n ih => rw [List.replicate_succ, List.replicate_succ, List.flatten_cons, List.flatten_cons]; exact r.append ih
theorem ok_mulT {K : Fg} : OpD K (rMulT K) opMulT := by
  intro G F σ H ρ x y dx dy res Q S ox oy e k
  unfold opMulT at e
  split at e
  · rename_i a r j
    split at e
    · rename_i hc
      cases e
      simp only [Bool.and_eq_true, decide_eq_true_eq] at hc
      obtain ⟨l, vs, rfl, h1, h2⟩ := ox.tuple S.fh
      have hne : vs ≠ [] := by cases h2; simp
      refine ⟨l, j, vs, rfl, oy.int, h1, hne, hc.1.1, hc.1.2, by rw [h2.length]; exact hc.2, fun j1 => ?_, fun j1 p hp => ?_⟩
      · subst j1
        refine k _ F H (Same.refl _) S ?_
        have : (List.replicate (1 : Int).toNat (a :: r)).flatten = a :: r := by simp
        rw [this]
        rcases ox with o | ⟨_, _, _, _, e, _⟩
        · exact o
        · cases e
      · obtain ⟨s2, S2, r2⟩ := S.newTup hp (repL_rep h2 j.toNat)
        exact k _ _ _ s2 S2 r2
    · cases e
  · cases e
end L4
set_option Elab.async false
set_option linter.all false
set_option maxRecDepth 100000
namespace PySem
open Sem (wp)
open AutoSeq1 (wpAny_loadPart')
section
variable {prog : Program} {w : World} {A : Around} {E : Value → Shared → Prop} {s : Shared}
theorem nextT_item {it t : Addr} {i : Nat} {items} {x : Value} {Q : Value → Shared → Prop} (hit : s.heap.IsTupleIter it t i)
    (ht : s.heap.IsTuple t items) (hx : items[i]? = some x)
    (hQ : ∀ h', h'.IsTupleIter it t (i + 1) → Heap.SameBut it s.heap h' → Q x { s with heap := h' }) :
    wpAny (model prog w) A (Builtin.SmallTypes.nextOf (.ref it)) Q E s := by
  obtain ⟨o, ho, hc, hd⟩ := id hit
  obtain ⟨ol, hol, _, nl, hdl⟩ := ht
  unfold Builtin.SmallTypes.nextOf
  refine wpAny_bind (wpAny_callSpecial?_slot (name := Str.ofString "__next__") hit.typeIs F.slot_tuple_iterator_next
    (wpAny_call_entry F.slot_tuple_iterator_next hit.typeIs F.entry_tuple_iterator_next ?_ (F.args_tuple_iterator_next_1 _)))
  show wpAny _ _ (field (.ref it) 0 >>= _) _ _ s
  refine wpAny_bind (wpAny_field ho hd (x := .ref t) rfl ?_)
  show wpAny _ _ (if (Value.ref t == Value.none) = true then _ else _) _ _ s
  rw [if_neg (show ¬ ((Value.ref t == Value.none) = true) from Bool.false_ne_true)]
  show wpAny _ _ (field (.ref it) 1 >>= _) _ _ s
  refine wpAny_bind (wpAny_field ho hd (x := .int i 0) rfl ?_)
  show wpAny _ _ (seqItems? (.ref t) >>= _) _ _ s
  refine wpAny_bind (wpAny_seqItems hol hdl ?_)
  simp only [Int.toNat_natCast, hx]
  refine wpAny_bind (wpAny_setField ho hd (by simp) (wpAny_pure ⟨x, rfl, wpAny_pure (hQ _ ?_ (Heap.SameBut.update ..))⟩))
  exact ⟨_, Heap.get?_update_self _ ho (Obj.isFreed_of_fields (Obj.data_mapFields hd _)), (Obj.cls_mapFields ..).trans hc, by
    rw [Obj.data_mapFields hd]; simp [rawInt]⟩
theorem nextT_end {it t : Addr} {i : Nat} {items} {Q : Value → Shared → Prop} (hh : A.handled = none)
    (hit : s.heap.IsTupleIter it t i) (ht : s.heap.IsTuple t items) (hx : items[i]? = none)
    (hE : ∀ h' e, Heap.ExtBut it s.heap h' → (∃ o, h'.get? e = some o ∧ o.cls = .type "StopIteration") → E (.ref e) { s with heap := h' }) :
    wpAny (model prog w) A (Builtin.SmallTypes.nextOf (.ref it)) Q E s := by
  obtain ⟨o, ho, hc, hd⟩ := id hit
  obtain ⟨ol, hol, _, nl, hdl⟩ := ht
  unfold Builtin.SmallTypes.nextOf
  refine wpAny_bind (wpAny_callSpecial?_slot (name := Str.ofString "__next__") hit.typeIs F.slot_tuple_iterator_next
    (wpAny_call_entry F.slot_tuple_iterator_next hit.typeIs F.entry_tuple_iterator_next ?_ (F.args_tuple_iterator_next_1 _)))
  show wpAny _ _ (field (.ref it) 0 >>= _) _ _ s
  refine wpAny_bind (wpAny_field ho hd (x := .ref t) rfl ?_)
  show wpAny _ _ (if (Value.ref t == Value.none) = true then _ else _) _ _ s
  rw [if_neg (show ¬ ((Value.ref t == Value.none) = true) from Bool.false_ne_true)]
  show wpAny _ _ (field (.ref it) 1 >>= _) _ _ s
  refine wpAny_bind (wpAny_field ho hd (x := .int i 0) rfl ?_)
  show wpAny _ _ (seqItems? (.ref t) >>= _) _ _ s
  refine wpAny_bind (wpAny_seqItems hol hdl ?_)
  simp only [Int.toNat_natCast, hx]
  refine wpAny_bind (wpAny_rule (wpAny_bind (wpAny_setField ho hd (by simp) ?_)))
  first
    | (show wpAny _ _ (newExc (.type "StopIteration") [] >>= _) _ _ _
       refine wpAny_bind ?_
       simp only [newExc, newTuple]
       refine wpAny_bind (wpAny_newObj_type ?_ (by size_fits))
       refine wpAny_bind (m := firstArgMember _ _) (wpAny_of_eq (a := Value.none) (by first | rfl | (simp only [firstArgMember]; rfl)) ?_)
       refine wpAny_newObj_type ?_ (by size_fits)
       simp only [raiseNew]
       refine wpAny_bind (wpAny_handled ?_)
       first | rw [show A.in1.handled = none from hh] | rw [hh]
       refine wpAny_bind (wpAny_pure (wpAny_throw ?_))
       exact hE _ _ (((Heap.SameBut.update ..).extBut.push _).push _) ⟨_, Heap.get?_push_size _ rfl, rfl⟩)
    | (refine wpAny_bind (wpAny_letGo ?_)
       show wpAny _ _ (newExc (.type "StopIteration") [] >>= _) _ _ _
       refine wpAny_bind ?_
       simp only [newExc, newTuple]
       refine wpAny_bind (wpAny_newObj_type ?_ (by size_fits))
       refine wpAny_bind (m := firstArgMember _ _) (wpAny_of_eq (a := Value.none) (by first | rfl | (simp only [firstArgMember]; rfl)) ?_)
       refine wpAny_newObj_type ?_ (by size_fits)
       simp only [raiseNew]
       refine wpAny_bind (wpAny_handled ?_)
       first | rw [show A.in1.handled = none from hh] | rw [hh]
       refine wpAny_bind (wpAny_pure (wpAny_throw ?_))
       exact hE _ _ (((Heap.SameBut.update ..).extBut.push _).push _) ⟨_, Heap.get?_push_size _ rfl, rfl⟩)
structure Zt (h : Heap) (z p q i1 i2 l1 l2 : Addr) (f0 u v : Value) (k1 k2 : Nat) : Prop where
  z0 : IsZip h z p q f0
  p0 : IsPair h p (.ref i1) (.ref i2)
  q0 : IsPair h q u v
  a0 : h.IsTupleIter i1 l1 k1
  b0 : h.IsTupleIter i2 l2 k2
theorem zipT_item {z p q i1 i2 l1 l2 : Addr} {k : Nat} {xs ys : Array Value} {x y u v : Value} {Q : Value → Shared → Prop} (D : ZipApart z p q i1 i2 l1 l2)
    (T : Zt s.heap z p q i1 i2 l1 l2 .none u v k k) (e1 : s.heap.IsTuple l1 xs) (e2 : s.heap.IsTuple l2 ys) (hx : xs[k]? = some x) (hy : ys[k]? = some y)
    (hQ : ∀ h', Zt h' z p q i1 i2 l1 l2 (rawInt s.heap.objs.size) x y (k + 1) (k + 1) → IsPair h' s.heap.objs.size x y →
      (∀ c o, c ≠ z → c ≠ q → c ≠ i1 → c ≠ i2 → s.heap.get? c = some o → h'.get? c = some o) → Q (.ref s.heap.objs.size) { s with heap := h' }) :
    wpAny (model prog w) A (Builtin.«zip.__next__» ⟨[.ref z], []⟩) (fun fin s' => ∃ r, fin = .done (.ret r) ∧ Q r s') E s := by
  have z0 := T.z0
  show wpAny _ _ (field (.ref z) 2 >>= _) _ _ _
  refine wpAny_bind (wpAny_field z0 rfl (x := .bool false) rfl ?_)
  show wpAny _ _ (field (.ref z) 3 >>= _) _ _ _
  refine wpAny_bind (wpAny_field z0 rfl (x := .ref p) rfl (wpAny_bind (wpAny_seqItems T.p0 rfl ?_)))
  show wpAny _ _ (Builtin.SmallTypes.ownedTupleIsFree (.ref z) >>= _) _ _ _
  refine wpAny_bind ?_
  unfold Builtin.SmallTypes.ownedTupleIsFree
  refine wpAny_bind (wpAny_field z0 rfl (x := .none) rfl (wpAny_pure ?_))
  simp only [if_true]
  refine wpAny_bind (wpAny_rule (wpAny_bind (wpAny_field z0 rfl (x := .ref q) rfl ?_)))
  refine wpAny_bind (wpAny_setField_rec z0 (by simp) fun g1 (z1 : IsZip g1 z p q .ellipsis) (m1 : Heap.SameBut z s.heap g1) => wpAny_bind ?_)
  simp only [List.zipIdx_cons, List.zipIdx_nil, List.forIn_cons, List.forIn_nil]
  refine wpAny_bind (wpAny_bind (wpAny_onRaise ?_))
  show wpAny _ _ (Builtin.SmallTypes.nextOf (.ref i1) >>= _) _ _ _
  refine wpAny_bind (nextT_item (T.a0.at fun o e => m1.extBut _ _ D.i1z e) (e1.extBut m1.extBut D.l1z) hx fun g2 a2 (m2 : Heap.SameBut i1 g1 g2) => wpAny_pure ?_)
  have q2 : IsPair g2 q u v := m2.extBut _ _ D.TOi1 (m1.extBut _ _ D.TOz T.q0)
  refine wpAny_bind (wpAny_seqItems q2 rfl (wpAny_bind (wpAny_updateSeq_pair q2 fun g3 (q3 : IsPair g3 q x v) (m3 : Heap.SameBut q g2 g3) => wpAny_bind (wpAny_letGo (wpAny_pure ?_)))))
  refine wpAny_bind (wpAny_bind (wpAny_onRaise ?_))
  show wpAny _ _ (Builtin.SmallTypes.nextOf (.ref i2) >>= _) _ _ _
  refine wpAny_bind (nextT_item (T.b0.at fun o e => m3.extBut _ _ D.TOi2.symm (m2.extBut _ _ D.i12.symm (m1.extBut _ _ D.i2z e)))
    (((e2.extBut m1.extBut D.l2z).extBut m2.extBut D.l2i1).extBut m3.extBut D.l2TO) hy fun g4 b4 (m4 : Heap.SameBut i2 g3 g4) => wpAny_pure ?_)
  have q4 : IsPair g4 q x v := m4.extBut _ _ D.TOi2 q3
  refine wpAny_bind (wpAny_seqItems q4 rfl (wpAny_bind (wpAny_updateSeq_pair q4 fun g5 (q5 : IsPair g5 q x y) (m5 : Heap.SameBut q g4 g5) => wpAny_bind (wpAny_letGo (wpAny_pure (wpAny_pure ?_))))))
  refine wpAny_bind (wpAny_seqItems q5 rfl (wpAny_bind (wpAny_newTuple ?_)))
  have sz : g5.objs.size = s.heap.objs.size := by rw [m5.1, m4.1, m3.1, m2.1, m1.1]
  have z5 : IsZip g5 z p q .ellipsis := m5.extBut _ _ D.TOz.symm (m4.extBut _ _ D.i2z.symm (m3.extBut _ _ D.TOz.symm (m2.extBut _ _ D.i1z.symm z1)))
  have k5 : ∀ c o, c ≠ z → c ≠ q → c ≠ i1 → c ≠ i2 → s.heap.get? c = some o → g5.get? c = some o := fun c o c1 c2 c3 c4 e =>
    m5.extBut _ _ c2 (m4.extBut _ _ c4 (m3.extBut _ _ c2 (m2.extBut _ _ c3 (m1.extBut _ _ c1 e))))
  have a5 : g5.IsTupleIter i1 l1 (k + 1) := a2.at fun o e => m5.extBut _ _ D.TOi1.symm (m4.extBut _ _ D.i12 (m3.extBut _ _ D.TOi1.symm e))
  have b5 : g5.IsTupleIter i2 l2 (k + 1) := b4.at fun o e => m5.extBut _ _ D.TOi2.symm e
  have lz : z < g5.objs.size := Heap.lt_size z5
  show wpAny _ _ (Builtin.SmallTypes.ownedTupleHandOut (.ref z) (.ref g5.objs.size) >>= _) _ _ _
  refine wpAny_bind ?_
  unfold Builtin.SmallTypes.ownedTupleHandOut
  have z6 : IsZip (g5.push { cls := .type "tuple", data := .seq #[x, y] }) z p q .ellipsis := Heap.get?_push_of_some _ z5
  refine wpAny_bind (wpAny_setField_rec z6 (by simp) fun g7 (z7 : IsZip g7 z p q (rawInt g5.objs.size)) m7 => ?_)
  refine wpAny_setField_rec z7 (by simp) fun g8 (z8 : IsZip g8 z p q (rawInt g5.objs.size)) m8 => ?_
  have up : ∀ c o, c ≠ z → g5.get? c = some o → g8.get? c = some o := fun c o c1 e => m8.extBut _ _ c1 (m7.extBut _ _ c1 (Heap.get?_push_of_some _ e))
  have t8 : IsPair g8 g5.objs.size x y := m8.extBut _ _ (Nat.ne_of_gt lz) (m7.extBut _ _ (Nat.ne_of_gt lz) (Heap.get?_push_size _ rfl))
  rw [sz] at z8 t8
  refine wpAny_pure ⟨_, rfl, ?_⟩
  show Q (.ref g5.objs.size) _
  rw [sz]
  exact hQ g8 ⟨z8, up _ _ D.TIz (k5 _ _ D.TIz D.TITO D.TIi1 D.TIi2 T.p0), up _ _ D.TOz q5, a5.at fun o e => up _ o D.i1z e, b5.at fun o e => up _ o D.i2z e⟩ t8 fun c o c1 c2 c3 c4 e => up c o c1 (k5 c o c1 c2 c3 c4 e)
theorem zipT_end {z p q i1 i2 l1 l2 : Addr} {k : Nat} {xs ys : Array Value} {u v : Value} {Q : Fin → Shared → Prop} (hh : A.handled = none) (D : ZipApart z p q i1 i2 l1 l2)
    (T : Zt s.heap z p q i1 i2 l1 l2 .none u v k k) (e1 : s.heap.IsTuple l1 xs) (e2 : s.heap.IsTuple l2 ys) (en : xs[k]? = none ∨ ys[k]? = none)
    (hE : ∀ h' e, (∀ c o, c ≠ z → c ≠ q → c ≠ i1 → c ≠ i2 → s.heap.get? c = some o → h'.get? c = some o) → (∃ o, h'.get? e = some o ∧ o.cls = .type "StopIteration") → E (.ref e) { s with heap := h' }) :
    wpAny (model prog w) A (Builtin.«zip.__next__» ⟨[.ref z], []⟩) Q E s := by
  have z0 := T.z0
  show wpAny _ _ (field (.ref z) 2 >>= _) _ _ _
  refine wpAny_bind (wpAny_field z0 rfl (x := .bool false) rfl ?_)
  show wpAny _ _ (field (.ref z) 3 >>= _) _ _ _
  refine wpAny_bind (wpAny_field z0 rfl (x := .ref p) rfl (wpAny_bind (wpAny_seqItems T.p0 rfl ?_)))
  show wpAny _ _ (Builtin.SmallTypes.ownedTupleIsFree (.ref z) >>= _) _ _ _
  refine wpAny_bind ?_
  unfold Builtin.SmallTypes.ownedTupleIsFree
  refine wpAny_bind (wpAny_field z0 rfl (x := .none) rfl (wpAny_pure ?_))
  simp only [if_true]
  refine wpAny_bind (wpAny_rule (wpAny_bind (wpAny_field z0 rfl (x := .ref q) rfl ?_)))
  refine wpAny_bind (wpAny_setField_rec z0 (by simp) fun g1 (z1 : IsZip g1 z p q .ellipsis) (m1 : Heap.SameBut z s.heap g1) => wpAny_bind ?_)
  simp only [List.zipIdx_cons, List.zipIdx_nil, List.forIn_cons, List.forIn_nil]
  refine wpAny_bind (wpAny_bind (wpAny_onRaise ?_))
  show wpAny _ _ (Builtin.SmallTypes.nextOf (.ref i1) >>= _) _ _ _
  have a1 : g1.IsTupleIter i1 l1 k := T.a0.at fun o e => m1.extBut _ _ D.i1z e
  cases hx : xs[k]? with
  | none =>
    refine wpAny_bind (nextT_end hh a1 (e1.extBut m1.extBut D.l1z) hx fun g2 e (m2 : Heap.ExtBut i1 g1 g2) ⟨oe, ho, hc⟩ => ?_)
    have z2 : IsZip g2 z p q .ellipsis := m2 _ _ D.i1z.symm z1
    have ne : e ≠ z := fun x => by subst x; rw [z2] at ho; cases ho; simp at hc
    exact wpAny_setField_rec z2 (by simp) fun g3 _ m3 => hE g3 e (fun c o c1 _ c3 _ x => m3.extBut _ _ c1 (m2 _ _ c3 (m1.extBut _ _ c1 x))) ⟨oe, m3.extBut _ _ ne ho, hc⟩
  | some x =>
    have hy : ys[k]? = none := by rcases en with h | h; rw [hx] at h; cases h; exact h
    refine wpAny_bind (nextT_item a1 (e1.extBut m1.extBut D.l1z) hx fun g2 a2 (m2 : Heap.SameBut i1 g1 g2) => wpAny_pure ?_)
    have q2 : IsPair g2 q u v := m2.extBut _ _ D.TOi1 (m1.extBut _ _ D.TOz T.q0)
    refine wpAny_bind (wpAny_seqItems q2 rfl (wpAny_bind (wpAny_updateSeq_pair q2 fun g3 (q3 : IsPair g3 q x v) (m3 : Heap.SameBut q g2 g3) => wpAny_bind (wpAny_letGo (wpAny_pure ?_)))))
    refine wpAny_bind (wpAny_bind (wpAny_onRaise ?_))
    show wpAny _ _ (Builtin.SmallTypes.nextOf (.ref i2) >>= _) _ _ _
    refine wpAny_bind (nextT_end hh (T.b0.at fun o e => m3.extBut _ _ D.TOi2.symm (m2.extBut _ _ D.i12.symm (m1.extBut _ _ D.i2z e)))
      (((e2.extBut m1.extBut D.l2z).extBut m2.extBut D.l2i1).extBut m3.extBut D.l2TO) hy fun g4 e (m4 : Heap.ExtBut i2 g3 g4) ⟨oe, ho, hc⟩ => ?_)
    have z4 : IsZip g4 z p q .ellipsis := m4 _ _ D.i2z.symm (m3.extBut _ _ D.TOz.symm (m2.extBut _ _ D.i1z.symm z1))
    have ne : e ≠ z := fun x => by subst x; rw [z4] at ho; cases ho; simp at hc
    exact wpAny_setField_rec z4 (by simp) fun g5 _ m5 => hE g5 e (fun c o c1 c2 c3 c4 x => m5.extBut _ _ c1 (m4 _ _ c4 (m3.extBut _ _ c2 (m2.extBut _ _ c3 (m1.extBut _ _ c1 x))))) ⟨oe, m5.extBut _ _ ne ho, hc⟩
abbrev zT1 (h : Heap) (l1 : Addr) : Heap := h.push { cls := .type "tuple_iterator", data := .fields #[.ref l1, .int 0 0] }
abbrev zT2 (h : Heap) (l1 l2 : Addr) : Heap := (zT1 h l1).push { cls := .type "tuple_iterator", data := .fields #[.ref l2, .int 0 0] }
abbrev zT3 (h : Heap) (l1 l2 : Addr) : Heap := (zT2 h l1 l2).push { cls := .type "tuple", data := .seq #[.ref h.objs.size, .ref (zT1 h l1).objs.size] }
abbrev zT4 (h : Heap) (l1 l2 : Addr) : Heap := (zT3 h l1 l2).push { cls := .type "tuple", data := .seq #[.none, .none] }
abbrev zT5 (h : Heap) (l1 l2 : Addr) : Heap := (zT4 h l1 l2).push { cls := .type "zip", data := .fields #[.none, .bool false, .bool false, .ref (zT2 h l1 l2).objs.size, .ref (zT3 h l1 l2).objs.size] }
theorem zipT_new (l1 l2 : Addr) (xs ys : Array Value) :
    Meets (Builtin.«zip.__new__» ⟨[.type "zip", .ref l1, .ref l2], []⟩) (fun _ R s => s.heap.IsTuple l1 xs ∧ s.heap.IsTuple l2 ys ∧
      R (.ok (.ret (.ref (zT4 s.heap l1 l2).objs.size))) { s with heap := zT5 s.heap l1 l2 }) :=
  .of_wp fun prog w A R s h => by
    obtain ⟨hp, g, d, tk, os⟩ := s; obtain ⟨e1, e2, h⟩ := h
    have hsub := sub_zip
    have L1 : Heap.IsTuple (Shared.heap ⟨hp, g, d, tk, os⟩) l1 xs := e1
    have L2 : Heap.IsTuple (Shared.heap ⟨hp.push { cls := .type "tuple_iterator", data := .fields #[.ref l1, .int 0 0] }, g, d, tk, os⟩) l2 ys := by
      obtain ⟨o, ho, r⟩ := e2
      exact ⟨o, Heap.get?_push_of_some _ ho, r⟩
    wp_walk using wpAny_pyIter_tuple L1, wpAny_pyIter_tuple L2
    exact ⟨_, rfl, h⟩
theorem zipT_call {l1 l2 : Addr} {xs ys : Array Value} {Q : Value → Shared → Prop} (e1 : s.heap.IsTuple l1 xs) (e2 : s.heap.IsTuple l2 ys)
    (h : ∀ h', Zt h' (s.heap.objs.size + 4) (s.heap.objs.size + 2) (s.heap.objs.size + 3) s.heap.objs.size (s.heap.objs.size + 1) l1 l2 .none .none .none 0 0 →
      (∀ c o, s.heap.get? c = some o → h'.get? c = some o) → Q (.ref (s.heap.objs.size + 4)) { s with heap := h' }) :
    wpAny (model prog w) A (call (.type "zip") [.ref l1, .ref l2]) Q E s := by
  refine callType_new F.called_zip (by decide) (F.typeCall_zip_2 _ _) (F.newCall_zip_2 _ _) (fun obj => F.args_object_init_3 obj _ _) F.entry_zip_new
    (zipT_new l1 l2 xs ys) ⟨e1, e2, ?_⟩
  have y1 : (zT1 s.heap l1).objs.size = s.heap.objs.size + 1 := Heap.size_push ..
  have y2 : (zT2 s.heap l1 l2).objs.size = s.heap.objs.size + 2 := by rw [Heap.size_push, y1]
  have y3 : (zT3 s.heap l1 l2).objs.size = s.heap.objs.size + 3 := by rw [Heap.size_push, y2]
  have y4 : (zT4 s.heap l1 l2).objs.size = s.heap.objs.size + 4 := by rw [Heap.size_push, y3]
  have g5 : (zT5 s.heap l1 l2).get? (zT4 s.heap l1 l2).objs.size = some _ := Heap.get?_push_size _ rfl
  have g4 : (zT5 s.heap l1 l2).get? (zT3 s.heap l1 l2).objs.size = some _ := Heap.get?_push_of_some _ (Heap.get?_push_size _ rfl)
  have g3 : (zT5 s.heap l1 l2).get? (zT2 s.heap l1 l2).objs.size = some _ := Heap.get?_push_of_some _ (Heap.get?_push_of_some _ (Heap.get?_push_size _ rfl))
  have g2 : (zT5 s.heap l1 l2).get? (zT1 s.heap l1).objs.size = some _ := Heap.get?_push_of_some _ (Heap.get?_push_of_some _ (Heap.get?_push_of_some _ (Heap.get?_push_size _ rfl)))
  have g1 : (zT5 s.heap l1 l2).get? s.heap.objs.size = some _ := Heap.get?_push_of_some _ (Heap.get?_push_of_some _ (Heap.get?_push_of_some _ (Heap.get?_push_of_some _ (Heap.get?_push_size _ rfl))))
  show _ ∧ _
  rw [y2, y3, y4] at g5
  rw [y1, y2] at g3
  rw [y3] at g4
  rw [y1] at g2
  rw [y4]
  exact ⟨⟨_, g5, rfl⟩, h _ ⟨g5, g3, g4, ⟨_, g1, rfl, rfl⟩, ⟨_, g2, rfl, rfl⟩⟩ fun c o x => Heap.get?_push_of_some _ (Heap.get?_push_of_some _ (Heap.get?_push_of_some _ (Heap.get?_push_of_some _ (Heap.get?_push_of_some _ x))))⟩
end
end PySem
set_option Elab.async false
set_option linter.all false
set_option maxRecDepth 100000
namespace L4
open PySem PySem.Spec PyProof.Rows L2 L3
def Itz (K : Fg) (a b : Addr) : It :=
  ⟨fun i H => ∃ xs x ys y, SqT K H a xs ∧ xs[i]? = some x ∧ SqT K H b ys ∧ ys[i]? = some y,
   fun i H r H' => ∃ p x y, (∀ xs, SqT K H a xs → xs[i]? = some x) ∧ (∀ ys, SqT K H b ys → ys[i]? = some y) ∧ H p = none ∧ r = .ref p ∧ H' = upd H p (.tup [x, y]),
   fun i H => ∃ xs ys, SqT K H a xs ∧ SqT K H b ys ∧ (xs.length ≤ i ∨ ys.length ≤ i)⟩
theorem many_turned {X : Cx} {pins : List (Addr × Obj)} {σ : L2.St} {H : Hp} {s : Shared} {h' : Heap} {t' : Nat} {fp : List Addr} (I : Inv X pins σ H s) (hf : ∀ b ∈ fp, FpOk X pins H b)
    (k : ∀ b o, b ∉ fp → s.heap.get? b = some o → h'.get? b = some o) : Inv X pins σ H { s with heap := h', toks := t' } := by
  have nit : ∀ b u, H b = some u → b ∉ fp := fun b u e z => by rw [(hf b z).1] at e; cases e
  refine I.step (g' := s.gens) (d' := s.drawn) (ch := fp) (fun b hb => ?_) (fun b o _ _ hc e _ => k b o hc e) (fun b o _ _ hc e _ => ⟨o.slots, k b o hc e⟩) (fun _ _ _ _ n => n)
    (fun b o hc e => ⟨o, k b o hc e⟩) (fun _ _ e => e) (fun _ _ _ e => e) (fun b ps e => ⟨#[], by rw [e]; simp⟩) (fun m hm => ?_) (fun b u e => ?_) I.bare
  · obtain ⟨f0, f1, f2, f3, f4, f5⟩ := hf b hb
    exact ⟨f3, f1, f4, f5⟩
  · obtain ⟨o, es, ep, ho, r⟩ := hm
    exact ⟨o, es, ep, k _ o (fun z => (hf _ z).2.1 rfl) ho, r⟩
  · refine (I.hok b u e).stay (fun c v hc q => k c v ?_ q) (fun _ q => q) fun _ _ q => q
    rcases hc with z | z
    · rw [z]; exact nit b u e
    · exact nit c _ z
theorem turn_zip {P : Program} {w : World} {K : Fg} {elts : List Expr} {x1 : Nat} {pos : Pos} (a b z p q i1 i2 : Addr) (D : ZipApart z p q i1 i2 a b) :
    Turn P w K (.Tuple elts x1 pos) (Itz K a b) [z, p, q, i1, i2] z (fun i h => ∃ u v, Zt h z p q i1 i2 a b .none u v i i) where
  mem := by simp
  obj := fun i h ⟨u, v, T⟩ c hc => by
    simp only [List.mem_cons, List.not_mem_nil, or_false] at hc
    rcases hc with rfl | rfl | rfl | rfl | rfl
    · exact ⟨_, T.z0, fun v z => nomatch z⟩
    · exact ⟨_, T.p0, fun v z => nomatch z⟩
    · exact ⟨_, T.q0, fun v z => nomatch z⟩
    · obtain ⟨o, e1, c, d⟩ := T.a0
      exact ⟨o, e1, fun v z => by rw [d] at z; cases z⟩
    · obtain ⟨o, e1, c, d⟩ := T.b0
      exact ⟨o, e1, fun v z => by rw [d] at z; cases z⟩
  keep := fun i h h' ⟨u, v, T⟩ k => ⟨u, v, k z (by simp) _ T.z0, k p (by simp) _ T.p0, k q (by simp) _ T.q0, T.a0.at fun o e => k i1 (by simp) o e, T.b0.at fun o e => k i2 (by simp) o e⟩
  item := by
    intro X hP hw hK hc i pins s σ H E I hf ⟨u, v, T⟩ hg
    subst hP hw hK
    obtain ⟨xs, x, ys, y, hq, hx, hq2, hy⟩ := hg
    obtain ⟨its, rv, pa, hz⟩ := I.tuple hq
    obtain ⟨jts, rv2, pb, hz2⟩ := I.tuple hq2
    obtain ⟨x', hu, ru⟩ := rv.get hx
    obtain ⟨y', hu2, ru2⟩ := rv2.get hy
    have hT : s.TypeIs (.ref z) "zip" := ⟨_, T.z0, rfl⟩
    unfold pyNext
    refine wpAny_bind (wpAny_attempt (wpAny_callSpecial?_slot (name := Str.ofString "__next__") hT F.slot_zip_next
      (wpAny_call_entry F.slot_zip_next hT F.entry_zip_next (zipT_item D T (show s.heap.IsTuple a its.toArray from pa) (show s.heap.IsTuple b jts.toArray from pb) (x := x') (y := y') (by simpa using hu) (by simpa using hu2) fun h1 T1 t1 k1 => wpAny_pure ?_) (F.args_zip_next_1 _))))
    refine ⟨_, rfl, wpAny_letOwnedTupleGo_zip T1.z0 fun h2 z2 (m2 : Heap.SameBut z h1 h2) => ?_⟩
    have fr := I.fresh
    have lt : ∀ {c o}, s.heap.get? c = some o → s.heap.objs.size ≠ c := fun e => Nat.ne_of_gt (Heap.lt_size e)
    have ltz := lt T.z0
    have ltp := lt T.p0
    have ltq := lt T.q0
    have lt1 : s.heap.objs.size ≠ i1 := by obtain ⟨_, e, _⟩ := T.a0; exact lt e
    have lt2 : s.heap.objs.size ≠ i2 := by obtain ⟨_, e, _⟩ := T.b0; exact lt e
    have keep2 : ∀ c o, c ∉ [z, p, q, i1, i2] → s.heap.get? c = some o → h2.get? c = some o := fun c o hc e => by
      simp only [List.mem_cons, List.not_mem_nil, or_false, not_or] at hc
      exact m2.extBut _ _ hc.1 (k1 c o hc.1 hc.2.2.1 hc.2.2.2.1 hc.2.2.2.2 e)
    have tup2 : h2.get? s.heap.objs.size = some { cls := .type "tuple", data := .seq #[x', y'] } := m2.extBut _ _ ltz t1
    have nit : ∀ c o, H c = some o → c ∉ [z, p, q, i1, i2] := fun c o e m => by rw [(hf c m).1] at e; cases e
    have ltb : ∀ c, (∃ o, s.heap.get? c = some o) → c ≠ s.heap.objs.size := fun c ⟨o, e⟩ => (lt e).symm
    have hok : HOk X.prog X.w (upd H s.heap.objs.size (.tup [x, y])) h2 := fun c ob e => by
      by_cases hb : c = s.heap.objs.size
      · subst hb
        rw [upd_same] at e
        cases e
        exact ⟨by show 2 ≤ sizeLine; decide, [x', y'], .cons ru (.cons ru2 .nil), ⟨_, tup2, rfl, _, rfl⟩⟩
      · rw [upd_ne hb] at e
        refine (I.hok c ob e).stay (fun c' v' hc' e' => ?_) (fun c' e' => by rw [upd_ne (ne_of_none e' fr)]; exact e') fun c' ys e' => by rw [upd_ne (ne_of_none e' fr)]; exact e'
        rcases hc' with z' | z'
        · rw [z'] at e' ⊢; exact keep2 c v' (nit c ob e) e'
        · exact keep2 c' v' (nit c' _ z') e'
    have I1 : Inv X pins σ (upd H s.heap.objs.size (.tup [x, y])) { s with heap := h2, toks := s.toks } := by
      refine I.step (g' := s.gens) (d' := s.drawn) (t' := s.toks) (h' := h2) (ch := [z, p, q, i1, i2]) (fun c hc => ?_) (fun c o _ _ hch e _ => keep2 c o hch e) (fun c o _ _ hch e _ => ⟨o.slots, keep2 c o hch e⟩)
        (fun c o _ e n => by rw [upd_ne (ltb c ⟨o, e⟩)]; exact n) (fun c o hch e => ⟨o, keep2 c o hch e⟩)
        (fun c ys e => by rw [upd_ne (ne_of_none e fr)]; exact e) (fun c o u' e => by rw [upd_ne (ne_of_none e fr)]; exact e) (fun c ps e => ⟨#[], by rw [upd_ne (ne_of_none e fr), e]; simp⟩) (fun m hm => ?_) hok I.bare
      · obtain ⟨f0, f1, f2, f3, f4, f5⟩ := hf c hc
        exact ⟨f3, f1, f4, f5⟩
      · obtain ⟨o, es, ep, ho', r⟩ := hm
        exact ⟨o, es, ep, keep2 _ o (fun m => (hf _ m).2.1 rfl) ho', r⟩
    refine ⟨.ref s.heap.objs.size, _, I1, rfl, ⟨_, x, y, fun ys' hy' => by rw [I.tuple_inj hy' hq]; exact hx, fun ys' hy' => by rw [I.tuple_inj hy' hq2]; exact hy, fr, rfl, rfl⟩,
      ⟨x', y', z2, m2.extBut _ _ D.TIz T1.p0, m2.extBut _ _ D.TOz T1.q0, T1.a0.at fun o e => m2.extBut _ _ D.i1z e, T1.b0.at fun o e => m2.extBut _ _ D.i2z e⟩, fun c hc => ?_⟩
    have nc : c ≠ s.heap.objs.size := by
      simp only [List.mem_cons, List.not_mem_nil, or_false] at hc
      rcases hc with rfl | rfl | rfl | rfl | rfl
      · exact ltz.symm
      · exact ltp.symm
      · exact ltq.symm
      · exact lt1.symm
      · exact lt2.symm
    rw [upd_ne nc]
    exact (hf c hc).1
  done := by
    intro X hP hw hK hc i pins s σ H E I hf ⟨u, v, T⟩ hg
    subst hP hw hK
    obtain ⟨xs, ys, hq, hq2, hl⟩ := hg
    obtain ⟨its, rv, pa, hz⟩ := I.tuple hq
    obtain ⟨jts, rv2, pb, hz2⟩ := I.tuple hq2
    have l1 := rv.length
    have l2 := rv2.length
    have hT : s.TypeIs (.ref z) "zip" := ⟨_, T.z0, rfl⟩
    unfold pyNext
    refine wpAny_bind (wpAny_attempt (wpAny_callSpecial?_slot (name := Str.ofString "__next__") hT F.slot_zip_next
      (wpAny_call_entry F.slot_zip_next hT F.entry_zip_next (zipT_end (I.ok.hd hc) D T (show s.heap.IsTuple a its.toArray from pa) (show s.heap.IsTuple b jts.toArray from pb)
        (hl.imp (fun h => by simp; omega) (fun h => by simp; omega)) fun h' e k he => ?_) (F.args_zip_next_1 _))))
    obtain ⟨o, ho, hcl⟩ := he
    refine wpAny_bind (wpAny_isInstance (T := "StopIteration") (b := true) ⟨o, ho, hcl⟩ isSubtype_stop ?_)
    exact wpAny_pure ⟨rfl, many_turned (t' := s.toks) I hf fun c o hc e => by
      simp only [List.mem_cons, List.not_mem_nil, or_false, not_or] at hc
      exact k c o hc.1 hc.2.2.1 hc.2.2.2.1 hc.2.2.2.2 e⟩
  self := fun _ _ _ _ _ ⟨u, v, T⟩ h => wpAny_pyIter_zip T.z0 h
def zipD (as bs : List D) : List D := List.zipWith (fun x y => PyData.tuple [x, y]) as bs
theorem walk_zip {K : Fg} {F : Hp} {a b : Addr} {vs ws : List V} {as bs : List D} (h : SqT K F a vs) (r : RepL K F vs as) (h2 : SqT K F b ws) (r2 : RepL K F ws bs) : Walk K (Itz K a b) (zipD as bs) F where
  go := fun i G F2 σ H2 ρ s S hi => by
    simp only [zipD, List.length_zipWith] at hi
    have i1 : i < vs.length := by rw [r.length]; omega
    have i2 : i < ws.length := by rw [r2.length]; omega
    exact ⟨vs, vs[i], ws, ws[i], sqT_mono S.fh (sqT_mono s h), by simp [i1], sqT_mono S.fh (sqT_mono s h2), by simp [i2]⟩
  yld := fun i G F2 σ H2 ρ x H3 d s S hd ⟨p, y, y', hy, hy', hp, hx, hH⟩ => by
    subst hx hH
    unfold zipD at hd
    rw [List.getElem?_zipWith] at hd
    cases e : as[i]? with
    | none => rw [e] at hd; cases hd
    | some d1 =>
      cases e' : bs[i]? with
      | none => rw [e, e'] at hd; cases hd
      | some d2 =>
        rw [e, e'] at hd
        simp at hd
        subst hd
        obtain ⟨v, g1, g2⟩ := r.get e
        obtain ⟨v', g3, g4⟩ := r2.get e'
        have z1 := hy vs (sqT_mono S.fh (sqT_mono s h))
        have z2 := hy' ws (sqT_mono S.fh (sqT_mono s h2))
        rw [g1] at z1
        rw [g3] at z2
        cases z1
        cases z2
        obtain ⟨s2, S2, r2⟩ := S.newTup hp (RepL.cons (g2.mono s) (RepL.cons (g4.mono s) RepL.nil))
        exact ⟨_, s2, S2, r2⟩
  stop := fun G F2 σ H2 ρ s S => ⟨vs, ws, sqT_mono S.fh (sqT_mono s h), sqT_mono S.fh (sqT_mono s h2), by
    rw [r.length, r2.length]; simp only [zipD, List.length_zipWith]; omega⟩
end L4
set_option Elab.async false
set_option linter.all false
set_option maxRecDepth 100000
namespace L4
open PySem PySem.Spec PyProof.Rows L2 L3
def iZip (K : Fg) (tl : TA) : TI := fun σ H R => tl σ H fun xs H1 => ∃ a b, xs = [.ref a, .ref b] ∧ (∃ ys, SqT K H1 a ys) ∧ (∃ ys, SqT K H1 b ys) ∧ R (Itz K a b) H1
theorem pi_zip {X : Cx} {e1 e2 : Expr} {tl : TA} {elts : List Expr} {x1 : Nat} {tp p pos : Pos} (hg : Gl X "zip") (hm : X.mg "zip" = none) (ha : PA X [e1, e2] tl)
    (hs : starEach [e1, e2] X.env = [(false, eval e1 X.env), (false, eval e2 X.env)]) (hs2 : starEach [e2] X.env = [(false, eval e2 X.env)]) :
    PI X (.Tuple elts x1 tp) (.Call (.Name "zip" p) [e1, e2] [] pos) (iZip X.K tl) := by
  intro pins s σ H R I h
  refine Call_ (ld_blt I hg hm (show bootBuiltins "zip" = some (.type "zip") by decide +kernel) (PyProof.Rows.callWith_type1 (thn (ha pos pins s σ H _ I h) fun us s1 ⟨vs, H1, I1, r1, q1⟩ => ?_) (by rw [hs, hs2]) (by rw [hs2]; rfl)) (by decide) (by decide))
  obtain ⟨a, b, rfl, ⟨ys, hq⟩, ⟨zs, hq2⟩, q⟩ := q1
  cases r1 with
  | cons r rr =>
    cases rr with
    | cons r' rr =>
      cases rr
      cases r
      cases r'
      obtain ⟨its, rv, pt, hz⟩ := I1.tuple hq
      obtain ⟨jts, rv2, pt2, hz2⟩ := I1.tuple hq2
      have la : a < s1.heap.objs.size := by obtain ⟨o, e1, _⟩ := pt; exact Heap.lt_size e1
      have lb : b < s1.heap.objs.size := by obtain ⟨o, e1, _⟩ := pt2; exact Heap.lt_size e1
      refine zipT_call (show s1.heap.IsTuple a its.toArray from pt) (show s1.heap.IsTuple b jts.toArray from pt2) fun h' T hk => ?_
      refine wpAny_pyIter_zip (s := { s1 with heap := h' }) T.z0 ?_
      refine ⟨s1.heap.objs.size + 4, [s1.heap.objs.size + 4, s1.heap.objs.size + 2, s1.heap.objs.size + 3, s1.heap.objs.size, s1.heap.objs.size + 1], _, _, H1, rfl, I1.kept (t' := s1.toks) hk, turn_zip a b _ _ _ _ _ (zipApart_new la lb), ⟨_, _, T⟩, fun c hc => ?_, q⟩
      have : s1.heap.objs.size ≤ c := by
        simp only [List.mem_cons, List.not_mem_nil, or_false] at hc
        rcases hc with rfl | rfl | rfl | rfl | rfl <;> simp
      exact I1.fpOk this (I1.hok.fresh this)
def fZip : List D → Option (List D)
  | [.tuple as, .tuple bs] => some (zipD as bs)
  | _ => none
section
variable {X : Cx} {tg e1 e2 : Expr} {ps : (List D → M (List D)) → Pu (List D)} {p pos tp : Pos} {elts : List Expr} {x1 : Nat}
theorem zip_go {F H : Hp} {vs : List V} {ds out : List D} {R : It → Hp → Prop} (s : Same F H) (r : RepL X.K F vs ds) (h : fZip ds = some out) (k : ∀ J, Walk X.K J out F → R J H) :
    ∃ a b, vs = [.ref a, .ref b] ∧ (∃ ys, SqT X.K H a ys) ∧ (∃ ys, SqT X.K H b ys) ∧ R (Itz X.K a b) H := by
  unfold fZip at h
  split at h
  · cases h
    cases r with
    | cons r1 r2 =>
      cases r2 with
      | cons r2 r3 =>
        cases r3
        cases r1 with
        | tup a1 a2 =>
          cases r2 with
          | tup b1 b2 => exact ⟨_, _, rfl, ⟨_, sqT_mono s a1⟩, ⟨_, sqT_mono s b1⟩, k _ (walk_zip a1 a2 b1 b2)⟩
  · cases h
theorem ai_zip {ps : Pa (List D)} (hg : Gl X "zip") (hm : X.mg "zip" = none) (ha : AA X [e1, e2] ps) (hs : starEach [e1, e2] X.env = [(false, eval e1 X.env), (false, eval e2 X.env)]) (hs2 : starEach [e2] X.env = [(false, eval e2 X.env)]) : AI X (.Tuple elts x1 tp) (.Call (.Name "zip" p) [e1, e2] [] pos) (pCallL fZip ps) :=
  fun G F σ H ρ R S w => semI (pi_zip hg hm pa_sem hs hs2) (ha G F σ H ρ _ _ _ S w fun ds vs F1 H1 s1 S1 _ r1 w1 => by
    obtain ⟨out, hd, k⟩ := w1.opt
    exact zip_go S1.fh r1 hd (k F1 H1 (Same.refl _) S1))
end
theorem relabel_free {env : Env} : ∀ {names : List (Str × NameKind)} {x : Str}, names.lookup x = some .free →
    (names.map fun (n, k) => if (k == NameKind.free && env.scope.kind == .function && env.kindOf n == some .cell) then (n, NameKind.cell) else (n, k)).lookup x = some .cell
    ∨ (names.map fun (n, k) => if (k == NameKind.free && env.scope.kind == .function && env.kindOf n == some .cell) then (n, NameKind.cell) else (n, k)).lookup x = some .free
  | [], _, h => by simp at h
  | (n, k) :: r, x, h => by
    rw [List.map_cons]
    dsimp only
    by_cases hc : (k == NameKind.free && env.scope.kind == .function && env.kindOf n == some .cell) = true
    · rw [if_pos hc]
      by_cases hx : (x == n) = true
      · left; simp [List.lookup_cons, hx]
      · simp only [List.lookup_cons, Bool.not_eq_true] at h hx ⊢
        rw [hx] at h ⊢
        exact relabel_free h
    · rw [if_neg hc]
      by_cases hx : (x == n) = true
      · right; simp only [List.lookup_cons, hx] at h ⊢; exact h
      · simp only [List.lookup_cons, Bool.not_eq_true] at h hx ⊢
        rw [hx] at h ⊢
        exact relabel_free h
theorem compOk_in {X : Cx} {N N' : List Str} {k : Nat} {scope sc : Scope} {cl : List (Str × Addr)} {s2 : Shared} {H2 : Hp} {fp : List Addr} {C : Addr} (h : compChk N N' k scope sc = true) (hc : sc.names.all (fun y => y.2 != .cell) = true) :
    CompOk (compCx X N sc cl s2 H2 fp C) N' k scope := by
  have q : CompOk { X with N := N, env := { X.env with scope := sc } } N' k scope := compOk_of h rfl rfl
  refine ⟨q.kind, q.len, q.nocell, q.names, q.outer, fun y hy hf => ?_⟩
  rcases q.free y hy hf with z | z
  · exfalso
    have z' : sc.names.lookup y.1 = some .cell := z
    rw [List.all_eq_true] at hc
    have : ∀ (l : List (Str × NameKind)) (x : Str), (∀ y ∈ l, y.2 ≠ .cell) → l.lookup x ≠ some .cell := fun l x => by
      induction l with
      | nil => intro _ e; cases e
      | cons a l ih =>
        intro hl e
        rw [List.lookup_cons] at e
        split at e
        · exact hl a (by simp) (by simpa using e)
        · exact ih (fun y hy => hl y (by simp [hy])) e
    exact this _ _ (fun y hy => by simpa using hc y hy) z'
  · exact relabel_free (env := X.env) (names := sc.names) z
end L4
set_option Elab.async false
set_option linter.all false
set_option maxRecDepth 100000
namespace L4
open PySem PySem.Spec PyProof.Rows L2 L3
theorem CF.zeroL {P : Program} {w : World} {K : Fg} {mg : Str → Option Value} {base : Heap} {x : Str} {f : Addr} {fd : FuncData} {ps : List Str} (k n : Nat) (h1 : mg x = some (.ref f)) (h2 : PySem.W.keepIn K (.ref f) = true) (h3 : L2.Binds K fd ps []) :
    CF P w K mg base x k (spL K n fun _ => .bad) := ⟨f, fd, ps, ⟨fun vs H Q E h => (by obtain ⟨_, _, _, _, _, _, z, _⟩ := h; cases z), fun A outer s H args us vs Q E hr e0 hb hv h => (by obtain ⟨_, _, _, _, _, _, z, _⟩ := h; cases z)⟩, h1, h2, h3⟩
theorem repL_times {K : Fg} {F : Hp} {vs : List V} {ds : List D} (h : RepL K F vs ds) : ∀ k : Nat, RepL K F (List.replicate k vs).flatten (List.replicate k ds).flatten
  | 0 => .nil
  | k + 1 => by
    rw [List.replicate_succ, List.flatten_cons, List.replicate_succ, List.flatten_cons]
    exact h.append (repL_times h k)
def pRep (qa : Pu (List D)) (pb : Pu D) : Pu (List D) := fun ρ => bd (qa ρ) fun ds => bd (pb ρ) fun y => oM (opMulL (.list ds) y)
section
variable {X : Cx} {a : Expr} {pos pos' : Pos} {qa : Pu (List D)}
theorem al_repV {j : Nat} {x : Str} (ha : AL X a qa) (hN : X.N[j]? = some x) (hv : Vis X.env.scope x) (hd : (x == ("__debug__" : Str)) = false := by decide) (hcd : (x == ("__classdict__" : Str)) = false := by decide) :
    AL X (.BinOp a .Mult (.Name x pos') pos) (pRep qa (pVar j)) := fun G F σ H ρ Q S w =>
  sem (pe_op op_rep pe_sem (pe_var hN hv hd hcd)) (ha G F σ H ρ _ S (w.bind.imp fun ds F1 H1 s1 S1 w1 v fr => by
    obtain ⟨l, rfl, oa, nn⟩ := fr
    obtain ⟨vs, h1, h2⟩ := oa.he
    unfold pVar at w1
    split at w1
    case h_2 => exact w1.elim
    rename_i d q
    have w2 := w1.bind
    obtain ⟨v, e1, r1⟩ := S1.fz j d q
    have w3 := w2 F1 H1 (Same.refl _) S1
    obtain ⟨res, hr, k⟩ := w3.opt
    cases d with
    | int i =>
      unfold opMulL at hr
      dsimp only at hr
      split at hr
      · rename_i hc
        cases hr
        simp only [Bool.and_eq_true, decide_eq_true_eq] at hc
        cases r1
        refine ⟨_, e1, l, i, vs, rfl, rfl, h1, hc.1.1, hc.1.2, by rw [h2.length]; exact hc.2, fun p hp => ?_⟩
        obtain ⟨S2, r2⟩ := S1.newLst hp (repL_times h2 i.toNat)
        exact k F1 _ (Same.refl _) S2 _ r2
      · cases hr
    | _ => cases hr))
end
def mExt (ds es : List D) : Option (List D) := if decide (ds.length + es.length ≤ sizeLine) then some (ds ++ es) else none
section
variable {S : Type} {X : Cx} {e c : Expr} {ml : Ev S (List D)} {pos pos' apos cpos : Pos} {m : SM S}
theorem as_extL {i : Nat} {x : Str} (hN : X.N[i]? = some x) (hv : Vis X.env.scope x) (he : AEl X e ml)
    (hbase : attributeBase (.Name x pos') "extend" X.env (eval (.Name x pos') X.env) = eval (.Name x pos') X.env)
    (hfew : ((backTo cpos (starEach [e] X.env)).all (fun x => !x.1) && (backToKw cpos (keywordEach [] X.env)).all (fun x => x.1.isSome)
      && decide ([e].length + ([] : List Keyword).length + (if ([] : List Keyword).isEmpty then 0 else 1) < 30)) = true)
    (hline : (apos.endLine == cpos.line) = true) (hs : starEach [e] X.env = (false, eval e X.env) :: starEach [] X.env) (hplain : (backTo cpos (starEach [] X.env)).any (·.1) = false)
    (hsw : swapsWith (.Call (.Attribute (.Name x pos') "extend" apos) [e] [] cpos) none pos.line X.env = pure false) (hd : (x == ("__debug__" : Str)) = false := by decide) (hcd : (x == ("__classdict__" : Str)) = false := by decide) :
    AS X (.Expr (.Call (.Attribute (.Name x pos') "extend" apos) [e] [] cpos) pos) (sMut i mExt ml) := fun OK K G F σ H ρ E hO hX St ok eo =>
  semS (ps_expr (pe_bm PySem.F.plainAttrs_list PySem.F.slot_list_extend PySem.F.type_list_extend mt_extend (pe_var hN hv hd hcd) (pa_cons pe_sem pa_nil hs) hbase hfew hline hs hplain) hsw) (by
    unfold sMut at ok
    split at ok
    case h_2 => exact (hO ok).elim
    · rename_i ds0 h0
      obtain ⟨a, vs0, ea, hh, _⟩ := own_ref St h0
      refine ⟨_, ea, .inl ⟨rfl, vs0, .inl (.inl hh)⟩, he OK K.x _ G F σ H ρ _ hO hX St ok fun es v F1 H1 ρ1 s1 S1 fr o1 => ?_⟩
      split at o1
      · rename_i ds hds
        obtain ⟨ds', hf, o2⟩ := opt_ok hO o1
        obtain ⟨a', vs, ea', hh', rv⟩ := own_ref S1 hds
        rw [ea] at ea'
        injection ea' with ea'; injection ea' with ea'; injection ea' with ea'
        subst ea'
        obtain ⟨b, rfl, ob, _⟩ := fr
        obtain ⟨ws, g1, g2⟩ := ob.he
        unfold mExt at hf
        split at hf
        · rename_i hz
          cases hf
          refine ⟨a, b, vs, ws, rfl, rfl, hh', g1, by rw [rv.length, g2.length]; simpa using hz, ?_⟩
          exact eo.nx F1 σ _ _ s1 (own_set S1 hds ea (rv.append g2)) o2
        · cases hf
      · exact (hO o1).elim)
def deadB (ρ : En) (j : Nat) : Bool := match ρ[j]? with
  | some none => true
  | _ => false
@[reducible] def stopK (K : KS S) : KS S := { K with nx := fun _ => .bad, ct := fun _ => .bad, bk := fun _ => .bad }
noncomputable def sForQ (i j : Nat) (pt : Pu Bool) (m : SM S) : SM S := fun K ρ => match ownL ρ i with
  | some ds => (match deadB ρ j with
    | true => forS (fun (_ : Unit) d kn => (pt (ρ.set j (some (.fz d)))).on (fun e => K.x e (ρ.set j (some (.fz d)))) (fun b => if b then m (stopK K) (ρ.set j (some (.fz d))) else kn ())) ds () (fun _ => K.nx ρ)
    | false => .bad)
  | none => .bad
theorem as_forQ {i j : Nat} {x y : Str} {A : List Stmt} {pt : Pu Bool} {ipos : Pos} (hp : PassesOwn (model X.prog X.w) X.A X.env X.xe) (hc : X.calm = true) (hN : X.N[i]? = some x) (hv : Vis X.env.scope x) (hij : i < j)
    (hnd : X.N.Nodup) (hj : X.N[j]? = some y) (hl : Loc X.env.scope y) (hf : X.fn y = true ∨ X.env.scope.names.lookup y = some .local)
    (ht : AT X c pt) (hb : ASs X A m) (hs : ∀ z, foldedSetIterable (.Name x pos') X.env z = pure z) (hd : (x == ("__debug__" : Str)) = false := by decide) (hcd : (x == ("__classdict__" : Str)) = false := by decide) :
    AS X (.For (.Name y apos) (.Name x pos') [.If c A [] ipos] [] pos) (sForQ i j pt m) := fun OK K G F σ H ρ E hO hX St ok eo =>
  semS (ps_for hp hc (pi_seq (pe_var hN hv hd hcd)) (pg_name hnd hj hl hf) pss_sem hs) (by
    unfold sForQ at ok
    split at ok
    case h_2 => exact (hO ok).elim
    rename_i ds hds
    split at ok
    case h_2 => exact (hO ok).elim
    rename_i hdead
    have ej : ρ[j]? = some none := by
      unfold deadB at hdead
      split at hdead
      · assumption
      · cases hdead
    obtain ⟨a, vs0, ea, hh, _⟩ := own_ref St hds
    rw [forS_is] at ok
    generalize hstep : (fun (_ : Unit) (d : D) (kn : Unit → M S) => (pt (ρ.set j (some (.fz d)))).on (fun e => K.x e (ρ.set j (some (.fz d)))) (fun b => if b then m (stopK K) (ρ.set j (some (.fz d))) else kn ())) = step at ok
    refine ⟨_, ea, .inl ⟨a, rfl, ⟨vs0, .inl (.inl hh)⟩, fun i' m' σ' H' => ∃ F', m' = ds.length - i' ∧ i' ≤ ds.length ∧ Same F F' ∧ StOk X.K G F' σ' H' ρ ∧ σ'[i]? = some (some (.ref a)) ∧ OK (forC step (ds.drop i') () (fun _ => K.nx ρ)), ⟨ds.length, F, rfl, Nat.zero_le _, Same.refl _, St, ea, ok⟩, ?_⟩⟩
    rintro i' m' σ' H' ⟨F', rfl, hi', s2, S2, ea2, go⟩
    have own2 : ∃ vs, H' a = some (.lst vs) ∧ RepL X.K F' vs ds := by
      obtain ⟨a', vs, e1, e2, e3⟩ := own_ref S2 hds
      rw [ea2] at e1
      injection e1 with e1; injection e1 with e1; injection e1 with e1
      subst e1
      exact ⟨vs, e2, e3⟩
    obtain ⟨vs, hv1, hv2⟩ := own2
    by_cases hlt : i' < ds.length
    · have ed : ds.drop i' = ds[i'] :: ds.drop (i' + 1) := List.drop_eq_getElem_cons hlt
      rw [ed] at go
      dsimp only [forC] at go
      rw [← hstep] at go
      obtain ⟨v, e1, e2⟩ := hv2.get (i := i') (d := ds[i']) (by simp [hlt])
      refine .inr ⟨⟨vs, v, .inl (.inl hv1), e1⟩, fun σ4 H4 => ∃ m2, m2 < ds.length - i' ∧ ∃ F', m2 = ds.length - (i' + 1) ∧ i' + 1 ≤ ds.length ∧ Same F F' ∧ StOk X.K G F' σ4 H4 ρ ∧ σ4[i]? = some (some (.ref a)) ∧ OK (forC step (ds.drop (i' + 1)) () (fun _ => K.nx ρ)), fun σ4 H4 h4 => h4, fun x1 H2 ⟨y1, y2⟩ => ?_⟩
      subst y1
      have ex := y2 vs (.inl (.inl hv1))
      rw [e1] at ex
      cases ex
      have jl : j < ρ.length := (List.getElem?_eq_some_iff.mp ej).1
      have S3 := S2.store (j := j) (v := v) (by rw [ej]; exact fun c z => nomatch z) jl (.inl ⟨ds[i'], rfl, e2⟩)
      have ne : (σ'.set j (some v))[i]? = some (some (.ref a)) := by rw [List.getElem?_set_ne (by omega)]; exact ea2
      have go2 : OK (ePu pt K.x (fun b ρ2 => if b = true then m (stopK K) ρ2 else forC (fun (_ : Unit) (d : D) (kn : Unit → M S) => (pt (ρ.set j (some (.fz d)))).on (fun e => K.x e (ρ.set j (some (.fz d)))) (fun b => if b then m (stopK K) (ρ.set j (some (.fz d))) else kn ())) (ds.drop (i' + 1)) () (fun _ => K.nx ρ)) (ρ.set j (some (.fz ds[i'])))) := go
      refine semB (pss_one (ps_if pt_sem pss_sem pss_sem)) (ht G F' _ H2 _ _ S3 (W.of hO hX go2 fun b F4 H4 s4 S4 o4 => ?_))
      cases b with
      | true => exact hb OK (stopK K) G F4 _ H4 _ _ hO hX S4 o4 ⟨fun _ _ _ _ _ _ o => (hO o).elim, fun F5 σ5 H5 ρ5 d v s5 => eo.rt F5 σ5 H5 ρ5 d v ((s2.trans s4).trans s5), fun F5 σ5 H5 ρ5 d v s5 => eo.rl F5 σ5 H5 ρ5 d v ((s2.trans s4).trans s5), fun _ _ _ _ _ _ o => (hO o).elim, fun _ _ _ _ _ _ o => (hO o).elim⟩
      | false =>
        refine semB pss_nil ⟨ds.length - (i' + 1), by omega, F4, rfl, hlt, s2.trans s4, ?_, ne, ?_⟩
        · have := S4.drop (i := j) (by rw [List.getElem?_set_self jl]; exact fun c z => nomatch z)
          rw [List.set_set] at this
          have eq : ρ.set j none = ρ := by
            obtain ⟨_, e9⟩ := List.getElem?_eq_some_iff.mp ej
            rw [← e9]; exact List.set_getElem_self jl
          rwa [eq] at this
        · have o5 : OK (forC (fun (_ : Unit) (d : D) (kn : Unit → M S) => (pt (ρ.set j (some (.fz d)))).on (fun e => K.x e (ρ.set j (some (.fz d)))) (fun b => if b then m (stopK K) (ρ.set j (some (.fz d))) else kn ())) (ds.drop (i' + 1)) () (fun _ => K.nx ρ)) := o4
          rw [hstep] at o5
          exact o5
    · have ei : i' = ds.length := by omega
      subst ei
      rw [List.drop_length] at go
      exact .inl ⟨⟨vs, .inl (.inl hv1), by rw [hv2.length]; exact Nat.le_refl _⟩, eo.nx F' σ' H' ρ s2 S2 go⟩)
end
end L4
set_option Elab.async false
set_option linter.all false
set_option maxRecDepth 100000
set_option maxHeartbeats 8000000
namespace K65
open PySem PySem.Spec PyProof.Rows L2 L3 L4
noncomputable section
def top (i : Nat) : Stmt := PySem.Challenge.pw_passersby_k65_rows_of_questions.main.body.getD i (.Pass ⟨0, 0, 0, 0⟩)
structure BN (mg : Str → Option Value) : Prop where
  range : mg "range" = none
  len : mg "len" = none
  tuple : mg "tuple" = none
  list : mg "list" = none
  max : mg "max" = none
  min : mg "min" = none
  sum : mg "sum" = none
  abs : mg "abs" = none
  repr : mg "repr" = none
  enumerate : mg "enumerate" = none
  isinstance : mg "isinstance" = none
  all : mg "all" = none
  any : mg "any" = none
  int : mg "int" = none
  str : mg "str" = none
  bool : mg "bool" = none
  zip : mg "zip" = none
  sorted : mg "sorted" = none
  set : mg "set" = none
  dict : mg "dict" = none
  reversed : mg "reversed" = none
structure KN (mg : Str → Option Value) : Prop where
  GREATEST : ∃ u, mg "GREATEST" = some u ∧ RelV (.int 1000000000000000) u
  MOST_DIVIDES : ∃ u, mg "MOST_DIVIDES" = some u ∧ RelV (.int 99) u
  MOST_QUESTIONS : ∃ u, mg "MOST_QUESTIONS" = some u ∧ RelV (.int 7) u
  MOST_WITHIN : ∃ u, mg "MOST_WITHIN" = some u ∧ RelV (.int 4) u
  MOST_LEAST : ∃ u, mg "MOST_LEAST" = some u ∧ RelV (.int 9) u
  MOST_REST : ∃ u, mg "MOST_REST" = some u ∧ RelV (.int 9) u
section
variable {P : Program} {w : World} {K : Fg} {mg : Str → Option Value} {base : Heap}
abbrev s_is_whole : Stmt := top 1
abbrev N_is_whole : List Str := ["thing"]
theorem sc_is_whole : FnScope N_is_whole ["thing"] (defScope s_is_whole) := ⟨rfl, rfl, rfl, by decide +kernel, rfl, by decide +kernel, by decide +kernel⟩
def c_is_whole (p_thing : D) : M D :=
  bd (bd (if (isT "int" p_thing) then .ret (!(isT "bool" p_thing)) else .ret false) fun b1 => .ret (.bool b1)) fun x2 => .ret x2
def mf_is_whole : List D → M D := fun l => match l with
  | [p_thing] => c_is_whole p_thing
  | _ => .bad
set_option maxHeartbeats 4000000 in
theorem fn_is_whole {f : Addr} {fd : FuncData} (Fn : Fun K "is_whole" "is_whole" s_is_whole f fd) (B : BN mg) (Kn : KN mg) : FnOk P w K mg base CX0 1 f fd ["thing"] (spD K 1 mf_is_whole) :=
  fn_okD (k := 0) Fn sc_is_whole (fun cdv A outer s H E hr =>
  (ass_one (as_ret (ae_pu (ap_b (ab_and (ab_is (T := "int") (by decide) rfl B.isinstance rfl B.int (by decide +kernel) (ao (ap_var (i := 0) rfl (by first | exact Or.inl rfl | exact Or.inr (Or.inl rfl) | exact Or.inr (Or.inr rfl)))) rfl rfl rfl) (ab_one (ab_not (ab_is (T := "bool") (by decide) rfl B.isinstance rfl B.bool (by decide +kernel) (ao (ap_var (i := 0) rfl (by first | exact Or.inl rfl | exact Or.inr (Or.inl rfl) | exact Or.inr (Or.inr rfl)))) rfl rfl rfl)))))))))
  (fun ds hl => match ds, hl with | [p_thing], _ => by kernel_rfl)
theorem ok_is_whole {f : Addr} {fd : FuncData} (Fn : Fun K "is_whole" "is_whole" s_is_whole f fd) (hmg : mg "is_whole" = some (.ref f)) (B : BN mg) (Kn : KN mg) : CF P w K mg base "is_whole" 1 (spD K 1 mf_is_whole) :=
  ⟨f, fd, ["thing"], fn_is_whole Fn B Kn, hmg, Fn.kp, (Fn.binds fun _ _ _ _ _ _ us hl => match us, hl with | [_], _ => rfl)⟩
abbrev s_is_within : Stmt := top 2
abbrev N_is_within : List Str := ["thing", "least", "most"]
theorem sc_is_within : FnScope N_is_within ["thing", "least", "most"] (defScope s_is_within) := ⟨rfl, rfl, rfl, by decide +kernel, rfl, by decide +kernel, by decide +kernel⟩
def c_is_within (p_thing : D) (p_least : D) (p_most : D) : M D :=
  bd (bd (bd (bd (c_is_whole p_thing) fun x1 => asB x1) fun b3 => if b3 then bd (oM (opLe p_least p_thing)) fun b2 => if b2 then oM (opLe p_thing p_most) else .ret false else .ret false) fun b4 => .ret (.bool b4)) fun x5 => .ret x5
def mf_is_within : List D → M D := fun l => match l with
  | [p_thing, p_least, p_most] => c_is_within p_thing p_least p_most
  | _ => .bad
set_option maxHeartbeats 4000000 in
theorem fn_is_within {f : Addr} {fd : FuncData} (Fn : Fun K "is_within" "is_within" s_is_within f fd) (B : BN mg) (Kn : KN mg) (C_is_whole : CF P w K mg base "is_whole" 1 (spD K 1 mf_is_whole)) : FnOk P w K mg base CX0 2 f fd ["thing", "least", "most"] (spD K 3 mf_is_within) :=
  fn_okD (k := 1) Fn sc_is_within (fun cdv A outer s H E hr =>
  (ass_one (as_ret (ae_pu (ap_b (ab_and (ab_as (ap_fn C_is_whole (hr.mono (by decide)) rfl (aa_cons (ap_var (i := 0) rfl (by first | exact Or.inl rfl | exact Or.inr (Or.inl rfl) | exact Or.inr (Or.inr rfl))) aa_nil (star_ok rfl)) rfl (by decide) rfl rfl)) (ab_one (ab_chain op_le op_le ok_le ok_le (ao (ap_var (i := 1) rfl (by first | exact Or.inl rfl | exact Or.inr (Or.inl rfl) | exact Or.inr (Or.inr rfl)))) (ao (ap_var (i := 0) rfl (by first | exact Or.inl rfl | exact Or.inr (Or.inl rfl) | exact Or.inr (Or.inr rfl)))) (ao (ap_var (i := 2) rfl (by first | exact Or.inl rfl | exact Or.inr (Or.inl rfl) | exact Or.inr (Or.inr rfl)))) (by with_unfolding_all rfl)))))))))
  (fun ds hl => match ds, hl with | [p_thing, p_least, p_most], _ => by kernel_rfl)
theorem ok_is_within {f : Addr} {fd : FuncData} (Fn : Fun K "is_within" "is_within" s_is_within f fd) (hmg : mg "is_within" = some (.ref f)) (B : BN mg) (Kn : KN mg) (C_is_whole : CF P w K mg base "is_whole" 1 (spD K 1 mf_is_whole)) : CF P w K mg base "is_within" 2 (spD K 3 mf_is_within) :=
  ⟨f, fd, ["thing", "least", "most"], fn_is_within Fn B Kn C_is_whole, hmg, Fn.kp, (Fn.binds fun _ _ _ _ _ _ us hl => match us, hl with | [_, _, _], _ => rfl)⟩
abbrev s_is_tuple_of : Stmt := top 3
abbrev N_is_tuple_of : List Str := ["thing", "many"]
theorem sc_is_tuple_of : FnScope N_is_tuple_of ["thing", "many"] (defScope s_is_tuple_of) := ⟨rfl, rfl, rfl, by decide +kernel, rfl, by decide +kernel, by decide +kernel⟩
def c_is_tuple_of (p_thing : D) (p_many : D) : M D :=
  bd (bd (if (isT "tuple" p_thing) then bd (oM (fLen [p_thing])) fun x1 => oM (opEq x1 p_many) else .ret false) fun b2 => .ret (.bool b2)) fun x3 => .ret x3
def mf_is_tuple_of : List D → M D := fun l => match l with
  | [p_thing, p_many] => c_is_tuple_of p_thing p_many
  | _ => .bad
set_option maxHeartbeats 4000000 in
theorem fn_is_tuple_of {f : Addr} {fd : FuncData} (Fn : Fun K "is_tuple_of" "is_tuple_of" s_is_tuple_of f fd) (B : BN mg) (Kn : KN mg) : FnOk P w K mg base CX0 1 f fd ["thing", "many"] (spD K 2 mf_is_tuple_of) :=
  fn_okD (k := 0) Fn sc_is_tuple_of (fun cdv A outer s H E hr =>
  (ass_one (as_ret (ae_pu (ap_b (ab_and (ab_is (T := "tuple") (by decide) rfl B.isinstance rfl B.tuple (by decide +kernel) (ao (ap_var (i := 0) rfl (by first | exact Or.inl rfl | exact Or.inr (Or.inl rfl) | exact Or.inr (Or.inr rfl)))) rfl rfl rfl) (ab_one (ab_cmp (opr_eq (room_u hr)) ok_D2 (ao (ap_callB call_lenA ok_len rfl B.len PySem.boot_len (aao_cons (ao (ap_var (i := 0) rfl (by first | exact Or.inl rfl | exact Or.inr (Or.inl rfl) | exact Or.inr (Or.inr rfl)))) aao_nil (star_ok rfl)) (by decide) (by decide) rfl rfl)) (ao (ap_var (i := 1) rfl (by first | exact Or.inl rfl | exact Or.inr (Or.inl rfl) | exact Or.inr (Or.inr rfl)))) rfl))))))))
  (fun ds hl => match ds, hl with | [p_thing, p_many], _ => by kernel_rfl)
theorem ok_is_tuple_of {f : Addr} {fd : FuncData} (Fn : Fun K "is_tuple_of" "is_tuple_of" s_is_tuple_of f fd) (hmg : mg "is_tuple_of" = some (.ref f)) (B : BN mg) (Kn : KN mg) : CF P w K mg base "is_tuple_of" 1 (spD K 2 mf_is_tuple_of) :=
  ⟨f, fd, ["thing", "many"], fn_is_tuple_of Fn B Kn, hmg, Fn.kp, (Fn.binds fun _ _ _ _ _ _ us hl => match us, hl with | [_, _], _ => rfl)⟩
abbrev s_are_sorts : Stmt := top 4
abbrev N_are_sorts : List Str := ["sorts", "thing", "ahead", "sort"]
theorem sc_are_sorts : FnScope N_are_sorts ["sorts", "thing"] (defScope s_are_sorts) := ⟨rfl, rfl, rfl, by decide +kernel, rfl, by decide +kernel, by decide +kernel⟩
def c_are_sorts_r2 (v_sorts : D) (v_ahead : D) : M D :=
  .ret (.bool true)
def c_are_sorts_s1 (v_sorts : D) (v_ahead : D) (d_ : D) (kn3 : D × D × Unit → M D) : M D :=
  bd (bd (bd (bd (oM (opAdd v_ahead (.int 1))) fun x4 => bd (oM (opSub v_sorts (.int 1))) fun x5 => c_is_within d_ x4 x5) fun x6 => oM (truD x6)) fun b7 => .ret (!b7)) fun b8 => if b8 then
    .ret (.bool false)
   else
    kn3 (v_sorts, d_, ())
def c_are_sorts (p_sorts : D) (p_thing : D) : M D :=
  if (!(isT "tuple" p_thing)) then
    .ret (.bool false)
   else
    bd (oM (opNeg (.int 1))) fun x1 => bd (oM (seqD p_thing)) fun l2 => forS (fun s9 d10 kn => c_are_sorts_s1 s9.1 s9.2.1 d10 kn) l2 (p_sorts, x1, ()) (fun s9 => c_are_sorts_r2 s9.1 s9.2.1)
def mf_are_sorts : List D → M D := fun l => match l with
  | [p_sorts, p_thing] => c_are_sorts p_sorts p_thing
  | _ => .bad
set_option maxHeartbeats 4000000 in
theorem fn_are_sorts {f : Addr} {fd : FuncData} (Fn : Fun K "are_sorts" "are_sorts" s_are_sorts f fd) (B : BN mg) (Kn : KN mg) (C_is_within : CF P w K mg base "is_within" 2 (spD K 3 mf_is_within)) : FnOk P w K mg base CX0 3 f fd ["sorts", "thing"] (spD K 2 mf_are_sorts) :=
  fn_okD (k := 2) Fn sc_are_sorts (fun cdv A outer s H E hr =>
  (ass_cons (as_if (aet_pu (at_not (at_b (ab_is (T := "tuple") (by decide) rfl B.isinstance rfl B.tuple (by decide +kernel) (ao (ap_var (i := 1) rfl (by first | exact Or.inl rfl | exact Or.inr (Or.inl rfl) | exact Or.inr (Or.inr rfl)))) rfl rfl rfl) (fun _ => rfl))))
    (ass_one (as_ret (ae_pu ap_bl)))
    ass_nil)
   (ass_cons (as_to (sh := [.f, .f, .f, .dead]) (as_set (i := 2) sc_are_sorts.nd rfl (by first | exact Or.inl rfl | exact Or.inr rfl) (ae_pu (ap_un un_neg ok_neg (ao ap_int))) rfl (.inl rfl)))
   (ass_cons (as_forS (sh := [.f, .dead, .f, .dead]) PassesOwn.never rfl (aei_pu (ai_seq (ap_var (i := 1) rfl (by first | exact Or.inl rfl | exact Or.inr (Or.inl rfl) | exact Or.inr (Or.inr rfl))))) (ag_name (i := 3) (Nat.zero_le _) sc_are_sorts.nd rfl (by first | exact Or.inl rfl | exact Or.inr rfl) (.inl rfl))
    (ass_cons (as_if (aet_pu (at_not (at_tru (ao (ap_fn C_is_within (hr.mono (by decide)) rfl (aa_cons (ap_var (i := 3) rfl (by first | exact Or.inl rfl | exact Or.inr (Or.inl rfl) | exact Or.inr (Or.inr rfl))) (aa_cons (ap_bin op_addA ok_add (ao (ap_var (i := 2) rfl (by first | exact Or.inl rfl | exact Or.inr (Or.inl rfl) | exact Or.inr (Or.inr rfl)))) (ao ap_int)) (aa_cons (ap_bin op_sub ok_sub (ao (ap_var (i := 0) rfl (by first | exact Or.inl rfl | exact Or.inr (Or.inl rfl) | exact Or.inr (Or.inr rfl)))) (ao ap_int)) aa_nil (star_ok rfl)) (star_ok rfl)) (star_ok rfl)) rfl (by decide) rfl rfl)) (fun _ => rfl))))
    (ass_one (as_ret (ae_pu ap_bl)))
    ass_nil)
   (ass_one (as_set (i := 2) sc_are_sorts.nd rfl (by first | exact Or.inl rfl | exact Or.inr rfl) (ae_pu (ap_var (i := 3) rfl (by first | exact Or.inl rfl | exact Or.inr (Or.inl rfl) | exact Or.inr (Or.inr rfl)))) rfl (.inl rfl)))) (fun _ => rfl))
   (ass_one (as_ret (ae_pu ap_bl)))))))
  (fun ds hl => match ds, hl with | [p_sorts, p_thing], _ => by kernel_rfl)
theorem ok_are_sorts {f : Addr} {fd : FuncData} (Fn : Fun K "are_sorts" "are_sorts" s_are_sorts f fd) (hmg : mg "are_sorts" = some (.ref f)) (B : BN mg) (Kn : KN mg) (C_is_within : CF P w K mg base "is_within" 2 (spD K 3 mf_is_within)) : CF P w K mg base "are_sorts" 3 (spD K 2 mf_are_sorts) :=
  ⟨f, fd, ["sorts", "thing"], fn_are_sorts Fn B Kn C_is_within, hmg, Fn.kp, (Fn.binds fun _ _ _ _ _ _ us hl => match us, hl with | [_, _], _ => rfl)⟩
abbrev s_is_bounded : Stmt := top 8
abbrev N_is_bounded : List Str := ["thing"]
theorem sc_is_bounded : FnScope N_is_bounded ["thing"] (defScope s_is_bounded) := ⟨rfl, rfl, rfl, by decide +kernel, rfl, by decide +kernel, by decide +kernel⟩
def c_is_bounded (p_thing : D) : M D :=
  bd (bd (oM (opNeg (.int 1000000000000000))) fun x1 => c_is_within p_thing x1 (.int 1000000000000000)) fun x2 => .ret x2
def mf_is_bounded : List D → M D := fun l => match l with
  | [p_thing] => c_is_bounded p_thing
  | _ => .bad
set_option maxHeartbeats 4000000 in
theorem fn_is_bounded {f : Addr} {fd : FuncData} (Fn : Fun K "is_bounded" "is_bounded" s_is_bounded f fd) (B : BN mg) (Kn : KN mg) (C_is_within : CF P w K mg base "is_within" 2 (spD K 3 mf_is_within)) : FnOk P w K mg base CX0 3 f fd ["thing"] (spD K 1 mf_is_bounded) :=
  fn_okD (k := 2) Fn sc_is_bounded (fun cdv A outer s H E hr =>
  (ass_one (as_ret (ae_pu (ap_fn C_is_within (hr.mono (by decide)) rfl (aa_cons (ap_var (i := 0) rfl (by first | exact Or.inl rfl | exact Or.inr (Or.inl rfl) | exact Or.inr (Or.inr rfl))) (aa_cons (ap_un un_neg ok_neg (ao (ap_glob rfl Kn.GREATEST.choose_spec.1 Kn.GREATEST.choose_spec.2 (fun _ => .int _) (by decide)))) (aa_cons (ap_glob rfl Kn.GREATEST.choose_spec.1 Kn.GREATEST.choose_spec.2 (fun _ => .int _) (by decide)) aa_nil (star_ok rfl)) (star_ok rfl)) (star_ok rfl)) rfl (by decide) rfl rfl)))))
  (fun ds hl => match ds, hl with | [p_thing], _ => by kernel_rfl)
theorem ok_is_bounded {f : Addr} {fd : FuncData} (Fn : Fun K "is_bounded" "is_bounded" s_is_bounded f fd) (hmg : mg "is_bounded" = some (.ref f)) (B : BN mg) (Kn : KN mg) (C_is_within : CF P w K mg base "is_within" 2 (spD K 3 mf_is_within)) : CF P w K mg base "is_bounded" 3 (spD K 1 mf_is_bounded) :=
  ⟨f, fd, ["thing"], fn_is_bounded Fn B Kn C_is_within, hmg, Fn.kp, (Fn.binds fun _ _ _ _ _ _ us hl => match us, hl with | [_], _ => rfl)⟩
abbrev s_are_bounded : Stmt := top 9
abbrev N_are_bounded : List Str := ["many", "thing"]
theorem sc_are_bounded : FnScope N_are_bounded ["many", "thing"] (defScope s_are_bounded) := ⟨rfl, rfl, rfl, by decide +kernel, rfl, by decide +kernel, by decide +kernel⟩
abbrev N_are_bounded_0 : List Str := ["many", "thing", "number"]
theorem nd_N_are_bounded_0 : N_are_bounded_0.Nodup := by decide +kernel
def c_are_bounded (p_many : D) (p_thing : D) : M D :=
  bd (bd (bd (bd (c_is_tuple_of p_thing p_many) fun x1 => asB x1) fun b7 => if b7 then bd (bd (bd (oM (seqD p_thing)) fun l4 => bd (compC (fun d2 => bd (c_is_bounded d2) fun x3 => .ret (some x3)) l4) fitM) fun l5 => .ret (PyData.list l5)) fun x6 => oM (fAll [x6]) else .ret false) fun b8 => .ret (.bool b8)) fun x9 => .ret x9
def mf_are_bounded : List D → M D := fun l => match l with
  | [p_many, p_thing] => c_are_bounded p_many p_thing
  | _ => .bad
set_option maxHeartbeats 4000000 in
theorem fn_are_bounded {f : Addr} {fd : FuncData} (Fn : Fun K "are_bounded" "are_bounded" s_are_bounded f fd) (B : BN mg) (Kn : KN mg) (C_is_tuple_of : CF P w K mg base "is_tuple_of" 1 (spD K 2 mf_is_tuple_of)) (C_is_bounded : CF P w K mg base "is_bounded" 3 (spD K 1 mf_is_bounded)) : FnOk P w K mg base CX0 4 f fd ["many", "thing"] (spD K 2 mf_are_bounded) :=
  fn_okD (k := 3) Fn sc_are_bounded (fun cdv A outer s H E hr =>
  (ass_one (as_ret (ae_pu (ap_b (ab_and (ab_as (ap_fn C_is_tuple_of (hr.mono (by decide)) rfl (aa_cons (ap_var (i := 1) rfl (by first | exact Or.inl rfl | exact Or.inr (Or.inl rfl) | exact Or.inr (Or.inr rfl))) (aa_cons (ap_var (i := 0) rfl (by first | exact Or.inl rfl | exact Or.inr (Or.inl rfl) | exact Or.inr (Or.inr rfl))) aa_nil (star_ok rfl)) (star_ok rfl)) rfl (by decide) rfl rfl)) (ab_one (ab_callB (call_all rfl) ok_all rfl B.all (by decide +kernel) (aao_cons (ao (ap_z (al_comp (N' := N_are_bounded_0) (k := 1) rfl (compOk_of (N := N_are_bounded) (sc := (defScope s_are_bounded)) (by decide +kernel) rfl rfl) (ai_seq (ap_var (i := 1) rfl (by first | exact Or.inl rfl | exact Or.inr (Or.inl rfl) | exact Or.inr (Or.inr rfl)))) (fun cl s' H' fp C' => (ag_name (i := 2) (show 2 ≤ 2 by decide) nd_N_are_bounded_0 rfl (by first | exact Or.inl rfl | exact Or.inr rfl) (.inr rfl))) (fun cl s' H' fp C' => ats_nil) (fun cl s' H' fp C' => (ap_fn C_is_bounded (hr.mono (by decide)) rfl (aa_cons (ap_var (i := 2) rfl (by first | exact Or.inl rfl | exact Or.inr (Or.inl rfl) | exact Or.inr (Or.inr rfl))) aa_nil (star_ok rfl)) rfl (by decide) rfl rfl)) (fun _ => rfl)))) aao_nil (star_ok rfl)) (by decide) (by decide) rfl rfl))))))))
  (fun ds hl => match ds, hl with | [p_many, p_thing], _ => by kernel_rfl)
theorem ok_are_bounded {f : Addr} {fd : FuncData} (Fn : Fun K "are_bounded" "are_bounded" s_are_bounded f fd) (hmg : mg "are_bounded" = some (.ref f)) (B : BN mg) (Kn : KN mg) (C_is_tuple_of : CF P w K mg base "is_tuple_of" 1 (spD K 2 mf_is_tuple_of)) (C_is_bounded : CF P w K mg base "is_bounded" 3 (spD K 1 mf_is_bounded)) : CF P w K mg base "are_bounded" 4 (spD K 2 mf_are_bounded) :=
  ⟨f, fd, ["many", "thing"], fn_are_bounded Fn B Kn C_is_tuple_of C_is_bounded, hmg, Fn.kp, (Fn.binds fun _ _ _ _ _ _ us hl => match us, hl with | [_, _], _ => rfl)⟩
abbrev s_is_form : Stmt := top 7
abbrev N_is_form : List Str := ["rooms", "sorts", "thing"]
theorem sc_is_form : FnScope N_is_form ["rooms", "sorts", "thing"] (defScope s_is_form) := ⟨rfl, rfl, rfl, by decide +kernel, rfl, by decide +kernel, by decide +kernel⟩
def c_is_form (p_rooms : D) (p_sorts : D) (p_thing : D) : M D :=
  bd (bd (bd (bd (c_is_tuple_of p_thing (.int 3)) fun x1 => oM (truD x1)) fun b2 => .ret (!b2)) fun b6 => if b6 then .ret true else bd (bd (bd (oM (opIx p_thing (.int 0))) fun x3 => c_is_bounded x3) fun x4 => oM (truD x4)) fun b5 => .ret (!b5)) fun b7 => if b7 then
    .ret (.bool false)
   else
    bd (bd (bd (bd (bd (oM (opIx p_thing (.int 1))) fun x8 => c_are_bounded p_rooms x8) fun x9 => asB x9) fun b12 => if b12 then bd (bd (oM (opIx p_thing (.int 2))) fun x10 => c_are_bounded p_sorts x10) fun x11 => asB x11 else .ret false) fun b13 => .ret (.bool b13)) fun x14 => .ret x14
def mf_is_form : List D → M D := fun l => match l with
  | [p_rooms, p_sorts, p_thing] => c_is_form p_rooms p_sorts p_thing
  | _ => .bad
set_option maxHeartbeats 4000000 in
theorem fn_is_form {f : Addr} {fd : FuncData} (Fn : Fun K "is_form" "is_form" s_is_form f fd) (B : BN mg) (Kn : KN mg) (C_are_bounded : CF P w K mg base "are_bounded" 4 (spD K 2 mf_are_bounded)) (C_is_tuple_of : CF P w K mg base "is_tuple_of" 1 (spD K 2 mf_is_tuple_of)) (C_is_bounded : CF P w K mg base "is_bounded" 3 (spD K 1 mf_is_bounded)) : FnOk P w K mg base CX0 5 f fd ["rooms", "sorts", "thing"] (spD K 3 mf_is_form) :=
  fn_okD (k := 4) Fn sc_is_form (fun cdv A outer s H E hr =>
  (ass_cons (as_if (aet_pu (at_aw (aw_or (at_not (at_tru (ao (ap_fn C_is_tuple_of (hr.mono (by decide)) rfl (aa_cons (ap_var (i := 2) rfl (by first | exact Or.inl rfl | exact Or.inr (Or.inl rfl) | exact Or.inr (Or.inr rfl))) (aa_cons ap_int aa_nil (star_ok rfl)) (star_ok rfl)) rfl (by decide) rfl rfl)) (fun _ => rfl))) (aw_or1 (at_not (at_tru (ao (ap_fn C_is_bounded (hr.mono (by decide)) rfl (aa_cons (ap_ix ix_seq ok_ix (ao (ap_var (i := 2) rfl (by first | exact Or.inl rfl | exact Or.inr (Or.inl rfl) | exact Or.inr (Or.inr rfl)))) (ao ap_int) (fun _ _ => rfl)) aa_nil (star_ok rfl)) rfl (by decide) rfl rfl)) (fun _ => rfl)))))))
    (ass_one (as_ret (ae_pu ap_bl)))
    ass_nil)
   (ass_one (as_ret (ae_pu (ap_b (ab_and (ab_as (ap_fn C_are_bounded (hr.mono (by decide)) rfl (aa_cons (ap_var (i := 0) rfl (by first | exact Or.inl rfl | exact Or.inr (Or.inl rfl) | exact Or.inr (Or.inr rfl))) (aa_cons (ap_ix ix_seq ok_ix (ao (ap_var (i := 2) rfl (by first | exact Or.inl rfl | exact Or.inr (Or.inl rfl) | exact Or.inr (Or.inr rfl)))) (ao ap_int) (fun _ _ => rfl)) aa_nil (star_ok rfl)) (star_ok rfl)) rfl (by decide) rfl rfl)) (ab_one (ab_as (ap_fn C_are_bounded (hr.mono (by decide)) rfl (aa_cons (ap_var (i := 1) rfl (by first | exact Or.inl rfl | exact Or.inr (Or.inl rfl) | exact Or.inr (Or.inr rfl))) (aa_cons (ap_ix ix_seq ok_ix (ao (ap_var (i := 2) rfl (by first | exact Or.inl rfl | exact Or.inr (Or.inl rfl) | exact Or.inr (Or.inr rfl)))) (ao ap_int) (fun _ _ => rfl)) aa_nil (star_ok rfl)) (star_ok rfl)) rfl (by decide) rfl rfl))))))))))
  (fun ds hl => match ds, hl with | [p_rooms, p_sorts, p_thing], _ => by kernel_rfl)
theorem ok_is_form {f : Addr} {fd : FuncData} (Fn : Fun K "is_form" "is_form" s_is_form f fd) (hmg : mg "is_form" = some (.ref f)) (B : BN mg) (Kn : KN mg) (C_are_bounded : CF P w K mg base "are_bounded" 4 (spD K 2 mf_are_bounded)) (C_is_tuple_of : CF P w K mg base "is_tuple_of" 1 (spD K 2 mf_is_tuple_of)) (C_is_bounded : CF P w K mg base "is_bounded" 3 (spD K 1 mf_is_bounded)) : CF P w K mg base "is_form" 5 (spD K 3 mf_is_form) :=
  ⟨f, fd, ["rooms", "sorts", "thing"], fn_is_form Fn B Kn C_are_bounded C_is_tuple_of C_is_bounded, hmg, Fn.kp, (Fn.binds fun _ _ _ _ _ _ us hl => match us, hl with | [_, _, _], _ => rfl)⟩
abbrev s_value_at : Stmt := top 10
abbrev N_value_at : List Str := ["form", "crowd", "counts", "value", "times", "many"]
theorem sc_value_at : FnScope N_value_at ["form", "crowd", "counts"] (defScope s_value_at) := ⟨rfl, rfl, rfl, by decide +kernel, rfl, by decide +kernel, by decide +kernel⟩
def c_value_at_r4 (v_value : D) : M D :=
  .ret v_value
def c_value_at_s3 (v_value : D) (d_ : D) (kn6 : D × Unit → M D) : M D :=
  un2 d_ fun y7 y8 => bd (oM (opMulI y7 y8)) fun x9 => bd (oM (opAddI v_value x9)) fun x10 => kn6 (x10, ())
def c_value_at_r2 (v_form : D) (v_counts : D) (v_value : D) : M D :=
  bd (bd (oM (opIx v_form (.int 2))) fun x4 => oM (fZip [x4, v_counts])) fun l5 => forS (fun s11 d12 kn => c_value_at_s3 s11.1 d12 kn) l5 (v_value, ()) (fun s11 => c_value_at_r4 s11.1)
def c_value_at_s1 (v_form : D) (v_counts : D) (v_value : D) (d_ : D) (kn13 : D × D × D × Unit → M D) : M D :=
  un2 d_ fun y14 y15 => bd (oM (opMulI y14 y15)) fun x16 => bd (oM (opAddI v_value x16)) fun x17 => kn13 (v_form, v_counts, x17, ())
def c_value_at (p_form : D) (p_crowd : D) (p_counts : D) : M D :=
  bd (oM (opIx p_form (.int 0))) fun x1 => bd (bd (oM (opIx p_form (.int 1))) fun x2 => oM (fZip [x2, p_crowd])) fun l3 => forS (fun s18 d19 kn => c_value_at_s1 s18.1 s18.2.1 s18.2.2.1 d19 kn) l3 (p_form, p_counts, x1, ()) (fun s18 => c_value_at_r2 s18.1 s18.2.1 s18.2.2.1)
def mf_value_at : List D → M D := fun l => match l with
  | [p_form, p_crowd, p_counts] => c_value_at p_form p_crowd p_counts
  | _ => .bad
set_option maxHeartbeats 4000000 in
theorem fn_value_at {f : Addr} {fd : FuncData} (Fn : Fun K "value_at" "value_at" s_value_at f fd) (B : BN mg) (Kn : KN mg) : FnOk P w K mg base CX0 1 f fd ["form", "crowd", "counts"] (spD K 3 mf_value_at) :=
  fn_okD (k := 0) Fn sc_value_at (fun cdv A outer s H E hr =>
  (ass_cons (as_to (sh := [.f, .f, .f, .f, .dead, .dead]) (as_set (i := 3) sc_value_at.nd rfl (by first | exact Or.inl rfl | exact Or.inr rfl) (ae_pu (ap_ix ix_seq ok_ix (ao (ap_var (i := 0) rfl (by first | exact Or.inl rfl | exact Or.inr (Or.inl rfl) | exact Or.inr (Or.inr rfl)))) (ao ap_int) (fun _ _ => rfl))) rfl (.inl rfl)))
   (ass_cons (as_forS (sh := [.f, .dead, .f, .f, .dead, .dead]) PassesOwn.never rfl (aei_pu (ai_zip rfl B.zip (aa_cons (ap_ix ix_seq ok_ix (ao (ap_var (i := 0) rfl (by first | exact Or.inl rfl | exact Or.inr (Or.inl rfl) | exact Or.inr (Or.inr rfl)))) (ao ap_int) (fun _ _ => rfl)) (aa_cons (ap_var (i := 1) rfl (by first | exact Or.inl rfl | exact Or.inr (Or.inl rfl) | exact Or.inr (Or.inr rfl))) aa_nil (star_ok rfl)) (star_ok rfl)) rfl rfl)) (ag_tup2 rfl (ags_cons (ag_name (i := 4) (Nat.zero_le _) sc_value_at.nd rfl (by first | exact Or.inl rfl | exact Or.inr rfl) (.inl rfl)) (ags_cons (ag_name (i := 5) (Nat.zero_le _) sc_value_at.nd rfl (by first | exact Or.inl rfl | exact Or.inr rfl) (.inl rfl)) ags_nil rfl) rfl) rfl rfl)
    (ass_one (as_aug (i := 3) sc_value_at.nd rfl (by first | exact Or.inl rfl | exact Or.inr rfl) ip_add ipd_add (ae_pu (ap_bin op_mul ok_mul (ao (ap_var (i := 4) rfl (by first | exact Or.inl rfl | exact Or.inr (Or.inl rfl) | exact Or.inr (Or.inr rfl)))) (ao (ap_var (i := 5) rfl (by first | exact Or.inl rfl | exact Or.inr (Or.inl rfl) | exact Or.inr (Or.inr rfl)))))) (.inl rfl))) (fun _ => rfl))
   (ass_cons (as_forS (sh := [.dead, .dead, .dead, .f, .dead, .dead]) PassesOwn.never rfl (aei_pu (ai_zip rfl B.zip (aa_cons (ap_ix ix_seq ok_ix (ao (ap_var (i := 0) rfl (by first | exact Or.inl rfl | exact Or.inr (Or.inl rfl) | exact Or.inr (Or.inr rfl)))) (ao ap_int) (fun _ _ => rfl)) (aa_cons (ap_var (i := 2) rfl (by first | exact Or.inl rfl | exact Or.inr (Or.inl rfl) | exact Or.inr (Or.inr rfl))) aa_nil (star_ok rfl)) (star_ok rfl)) rfl rfl)) (ag_tup2 rfl (ags_cons (ag_name (i := 4) (Nat.zero_le _) sc_value_at.nd rfl (by first | exact Or.inl rfl | exact Or.inr rfl) (.inl rfl)) (ags_cons (ag_name (i := 5) (Nat.zero_le _) sc_value_at.nd rfl (by first | exact Or.inl rfl | exact Or.inr rfl) (.inl rfl)) ags_nil rfl) rfl) rfl rfl)
    (ass_one (as_aug (i := 3) sc_value_at.nd rfl (by first | exact Or.inl rfl | exact Or.inr rfl) ip_add ipd_add (ae_pu (ap_bin op_mul ok_mul (ao (ap_var (i := 4) rfl (by first | exact Or.inl rfl | exact Or.inr (Or.inl rfl) | exact Or.inr (Or.inr rfl)))) (ao (ap_var (i := 5) rfl (by first | exact Or.inl rfl | exact Or.inr (Or.inl rfl) | exact Or.inr (Or.inr rfl)))))) (.inl rfl))) (fun _ => rfl))
   (ass_one (as_ret (ae_pu (ap_var (i := 3) rfl (by first | exact Or.inl rfl | exact Or.inr (Or.inl rfl) | exact Or.inr (Or.inr rfl))))))))))
  (fun ds hl => match ds, hl with | [p_form, p_crowd, p_counts], _ => by kernel_rfl)
theorem ok_value_at {f : Addr} {fd : FuncData} (Fn : Fun K "value_at" "value_at" s_value_at f fd) (hmg : mg "value_at" = some (.ref f)) (B : BN mg) (Kn : KN mg) : CF P w K mg base "value_at" 1 (spD K 3 mf_value_at) :=
  ⟨f, fd, ["form", "crowd", "counts"], fn_value_at Fn B Kn, hmg, Fn.kp, (Fn.binds fun _ _ _ _ _ _ us hl => match us, hl with | [_, _, _], _ => rfl)⟩
abbrev s_plus : Stmt := top 11
abbrev N_plus : List Str := ["form", "number"]
theorem sc_plus : FnScope N_plus ["form", "number"] (defScope s_plus) := ⟨rfl, rfl, rfl, by decide +kernel, rfl, by decide +kernel, by decide +kernel⟩
def c_plus (p_form : D) (p_number : D) : M D :=
  bd (bd (bd (oM (opIx p_form (.int 0))) fun x1 => oM (opAdd x1 p_number)) fun x2 => bd (oM (opIx p_form (.int 1))) fun x3 => bd (oM (opIx p_form (.int 2))) fun x4 => .ret (.tuple [x2, x3, x4])) fun x5 => .ret x5
def mf_plus : List D → M D := fun l => match l with
  | [p_form, p_number] => c_plus p_form p_number
  | _ => .bad
set_option maxHeartbeats 4000000 in
theorem fn_plus {f : Addr} {fd : FuncData} (Fn : Fun K "plus" "plus" s_plus f fd) (B : BN mg) (Kn : KN mg) : FnOk P w K mg base CX0 1 f fd ["form", "number"] (spD K 2 mf_plus) :=
  fn_okD (k := 0) Fn sc_plus (fun cdv A outer s H E hr =>
  (ass_one (as_ret (ae_pu (ap_tup (aa_cons (ap_bin op_addA ok_add (ao (ap_ix ix_seq ok_ix (ao (ap_var (i := 0) rfl (by first | exact Or.inl rfl | exact Or.inr (Or.inl rfl) | exact Or.inr (Or.inr rfl)))) (ao ap_int) (fun _ _ => rfl))) (ao (ap_var (i := 1) rfl (by first | exact Or.inl rfl | exact Or.inr (Or.inl rfl) | exact Or.inr (Or.inr rfl))))) (aa_cons (ap_ix ix_seq ok_ix (ao (ap_var (i := 0) rfl (by first | exact Or.inl rfl | exact Or.inr (Or.inl rfl) | exact Or.inr (Or.inr rfl)))) (ao ap_int) (fun _ _ => rfl)) (aa_cons (ap_ix ix_seq ok_ix (ao (ap_var (i := 0) rfl (by first | exact Or.inl rfl | exact Or.inr (Or.inl rfl) | exact Or.inr (Or.inr rfl)))) (ao ap_int) (fun _ _ => rfl)) aa_nil (star_ok rfl)) (star_ok rfl)) (star_ok rfl)) (by decide +kernel))))))
  (fun ds hl => match ds, hl with | [p_form, p_number], _ => by kernel_rfl)
theorem ok_plus {f : Addr} {fd : FuncData} (Fn : Fun K "plus" "plus" s_plus f fd) (hmg : mg "plus" = some (.ref f)) (B : BN mg) (Kn : KN mg) : CF P w K mg base "plus" 1 (spD K 2 mf_plus) :=
  ⟨f, fd, ["form", "number"], fn_plus Fn B Kn, hmg, Fn.kp, (Fn.binds fun _ _ _ _ _ _ us hl => match us, hl with | [_, _], _ => rfl)⟩
abbrev s_hands_form : Stmt := top 15
abbrev N_hands_form : List Str := ["rooms", "sorts", "these", "those", "ofs", "sort"]
theorem sc_hands_form : FnScope N_hands_form ["rooms", "sorts", "these", "those"] (defScope s_hands_form) := ⟨rfl, rfl, rfl, by decide +kernel, rfl, by decide +kernel, by decide +kernel⟩
def c_hands_form_r4 (v_rooms : D) (v_ofs : List D) : M D :=
  bd (bd (oM (opMulT (.tuple [(.int 0)]) v_rooms)) fun x4 => bd (oM (fTuple [(PyData.list v_ofs)])) fun x5 => .ret (.tuple [(.int 0), x4, x5])) fun x6 => .ret x6
def c_hands_form_s3 (v_rooms : D) (v_ofs : List D) (d_ : D) (kn7 : D × List D × Unit → M D) : M D :=
  bd (oM (opNeg (.int 1))) fun x8 => bd (oM (putD v_ofs d_ x8)) fun l9 => kn7 (v_rooms, l9, ())
def c_hands_form_r2 (v_rooms : D) (v_those : D) (v_ofs : List D) : M D :=
  bd (oM (seqD v_those)) fun l3 => forS (fun s10 d11 kn => c_hands_form_s3 s10.1 s10.2.1 d11 kn) l3 (v_rooms, v_ofs, ()) (fun s10 => c_hands_form_r4 s10.1 s10.2.1)
def c_hands_form_s1 (v_rooms : D) (v_those : D) (v_ofs : List D) (d_ : D) (kn12 : D × D × List D × Unit → M D) : M D :=
  bd (oM (putD v_ofs d_ (.int 1))) fun l13 => kn12 (v_rooms, v_those, l13, ())
def c_hands_form (p_rooms : D) (p_sorts : D) (p_these : D) (p_those : D) : M D :=
  bd (oM (opMulL (PyData.list [(.int 0)]) p_sorts)) fun l1 => bd (oM (seqD p_these)) fun l2 => forS (fun s14 d15 kn => c_hands_form_s1 s14.1 s14.2.1 s14.2.2.1 d15 kn) l2 (p_rooms, p_those, l1, ()) (fun s14 => c_hands_form_r2 s14.1 s14.2.1 s14.2.2.1)
def mf_hands_form : List D → M D := fun l => match l with
  | [p_rooms, p_sorts, p_these, p_those] => c_hands_form p_rooms p_sorts p_these p_those
  | _ => .bad
set_option maxHeartbeats 4000000 in
theorem fn_hands_form {f : Addr} {fd : FuncData} (Fn : Fun K "hands_form" "hands_form" s_hands_form f fd) (B : BN mg) (Kn : KN mg) : FnOk P w K mg base CX0 1 f fd ["rooms", "sorts", "these", "those"] (spD K 4 mf_hands_form) :=
  fn_okD (k := 0) Fn sc_hands_form (fun cdv A outer s H E hr =>
  (ass_cons (as_to (sh := [.f, .dead, .f, .f, .o, .dead]) (as_setL (i := 4) sc_hands_form.nd rfl (by first | exact Or.inl rfl | exact Or.inr rfl) (ael_pu (al_repV (j := 1) (al_lst (aa_cons ap_int aa_nil (star_ok rfl)) (by decide +kernel)) rfl (by first | exact Or.inl rfl | exact Or.inr (Or.inl rfl) | exact Or.inr (Or.inr rfl)))) rfl (.inl rfl)))
   (ass_cons (as_forS (sh := [.f, .dead, .dead, .f, .o, .dead]) PassesOwn.never rfl (aei_pu (ai_seq (ap_var (i := 2) rfl (by first | exact Or.inl rfl | exact Or.inr (Or.inl rfl) | exact Or.inr (Or.inr rfl))))) (ag_name (i := 5) (Nat.zero_le _) sc_hands_form.nd rfl (by first | exact Or.inl rfl | exact Or.inr rfl) (.inl rfl))
    (ass_one (as_put (i := 4) rfl (by first | exact Or.inl rfl | exact Or.inr (Or.inl rfl) | exact Or.inr (Or.inr rfl)) (ae_pu (ap_var (i := 5) rfl (by first | exact Or.inl rfl | exact Or.inr (Or.inl rfl) | exact Or.inr (Or.inr rfl)))) (ae_pu ap_int) (fun _ => rfl) rfl rfl rfl)) (fun _ => rfl))
   (ass_cons (as_forS (sh := [.f, .dead, .dead, .dead, .o, .dead]) PassesOwn.never rfl (aei_pu (ai_seq (ap_var (i := 3) rfl (by first | exact Or.inl rfl | exact Or.inr (Or.inl rfl) | exact Or.inr (Or.inr rfl))))) (ag_name (i := 5) (Nat.zero_le _) sc_hands_form.nd rfl (by first | exact Or.inl rfl | exact Or.inr rfl) (.inl rfl))
    (ass_one (as_put (i := 4) rfl (by first | exact Or.inl rfl | exact Or.inr (Or.inl rfl) | exact Or.inr (Or.inr rfl)) (ae_pu (ap_var (i := 5) rfl (by first | exact Or.inl rfl | exact Or.inr (Or.inl rfl) | exact Or.inr (Or.inr rfl)))) (ae_pu (ap_un un_neg ok_neg (ao ap_int))) (fun _ => rfl) rfl rfl rfl)) (fun _ => rfl))
   (ass_one (as_ret (ae_pu (ap_tup (aa_cons ap_int (aa_cons (ap_bin op_mulT ok_mulT (ao (ap_tup (aa_cons ap_int aa_nil (star_ok rfl)) (by decide +kernel))) (ao (ap_var (i := 0) rfl (by first | exact Or.inl rfl | exact Or.inr (Or.inl rfl) | exact Or.inr (Or.inr rfl))))) (aa_cons (ap_callTy call_tuple_of ok_tuple rfl B.tuple (by decide +kernel) (aao_cons (ao_peek (i := 4) rfl (by first | exact Or.inl rfl | exact Or.inr (Or.inl rfl) | exact Or.inr (Or.inr rfl))) aao_nil (star_ok rfl)) (by decide) (by decide) rfl rfl) aa_nil (star_ok rfl)) (star_ok rfl)) (star_ok rfl)) (by decide +kernel)))))))))
  (fun ds hl => match ds, hl with | [p_rooms, p_sorts, p_these, p_those], _ => by kernel_rfl)
theorem ok_hands_form {f : Addr} {fd : FuncData} (Fn : Fun K "hands_form" "hands_form" s_hands_form f fd) (hmg : mg "hands_form" = some (.ref f)) (B : BN mg) (Kn : KN mg) : CF P w K mg base "hands_form" 1 (spD K 4 mf_hands_form) :=
  ⟨f, fd, ["rooms", "sorts", "these", "those"], fn_hands_form Fn B Kn, hmg, Fn.kp, (Fn.binds fun _ _ _ _ _ _ us hl => match us, hl with | [_, _, _, _], _ => rfl)⟩
abbrev s_rest_rows : Stmt := top 18
abbrev N_rest_rows : List Str := ["rooms", "sorts", "question", "truth", "form", "rests"]
theorem sc_rest_rows : FnScope N_rest_rows ["rooms", "sorts", "question", "truth"] (defScope s_rest_rows) := ⟨rfl, rfl, rfl, by decide +kernel, rfl, by decide +kernel, by decide +kernel⟩
abbrev N_rest_rows_0 : List Str := ["rooms", "sorts", "question", "truth", "form", "rests", "k"]
theorem nd_N_rest_rows_0 : N_rest_rows_0.Nodup := by decide +kernel
abbrev N_rest_rows_1 : List Str := ["rooms", "sorts", "question", "truth", "form", "rests", "k"]
theorem nd_N_rest_rows_1 : N_rest_rows_1.Nodup := by decide +kernel
def c_rest_rows (p_rooms : D) (p_sorts : D) (p_question : D) (p_truth : D) : M (List D) :=
  bd (bd (oM (opIx p_question (.int 1))) fun x1 => c_hands_form p_rooms p_sorts x1 (.tuple [])) fun x2 => bd (bd (bd (bd (oM (opIx p_question (.int 2))) fun x3 => oM (fRange1 [x3])) fun l9 => bd (compC (fun d4 => bd (bd (bd (bd (oM (opIx p_question (.int 3))) fun x5 => oM (opEq d4 x5)) fun b6 => .ret (.bool b6)) fun x7 => oM (opEq x7 p_truth)) fun b8 => if b8 then .ret (some d4) else .ret none) l9) fitM) fun l10 => .ret (PyData.list l10)) fun x11 => bd (bd (oM (seqD x11)) fun l18 => bd (compC (fun d12 => bd (bd (bd (bd (oM (opNeg d12)) fun x13 => c_plus x2 x13) fun x14 => bd (oM (opIx p_question (.int 2))) fun x15 => .ret (.tuple [(.str "rest"), x14, x15])) fun x16 => .ret (.tuple [x16])) fun x17 => .ret (some x17)) l18) fitM) fun l19 => .ret l19
def mf_rest_rows : List D → M (List D) := fun l => match l with
  | [p_rooms, p_sorts, p_question, p_truth] => c_rest_rows p_rooms p_sorts p_question p_truth
  | _ => .bad
set_option maxHeartbeats 4000000 in
theorem fn_rest_rows {f : Addr} {fd : FuncData} (Fn : Fun K "rest_rows" "rest_rows" s_rest_rows f fd) (B : BN mg) (Kn : KN mg) (C_hands_form : CF P w K mg base "hands_form" 1 (spD K 4 mf_hands_form)) (C_plus : CF P w K mg base "plus" 1 (spD K 2 mf_plus)) : FnOk P w K mg base CX0 2 f fd ["rooms", "sorts", "question", "truth"] (spL K 4 mf_rest_rows) :=
  fn_okL (k := 1) Fn sc_rest_rows (fun cdv A outer s H E hr =>
  (ass_cons (as_to (sh := [.dead, .dead, .f, .f, .f, .dead]) (as_set (i := 4) sc_rest_rows.nd rfl (by first | exact Or.inl rfl | exact Or.inr rfl) (ae_pu (ap_fn C_hands_form (hr.mono (by decide)) rfl (aa_cons (ap_var (i := 0) rfl (by first | exact Or.inl rfl | exact Or.inr (Or.inl rfl) | exact Or.inr (Or.inr rfl))) (aa_cons (ap_var (i := 1) rfl (by first | exact Or.inl rfl | exact Or.inr (Or.inl rfl) | exact Or.inr (Or.inr rfl))) (aa_cons (ap_ix ix_seq ok_ix (ao (ap_var (i := 2) rfl (by first | exact Or.inl rfl | exact Or.inr (Or.inl rfl) | exact Or.inr (Or.inr rfl)))) (ao ap_int) (fun _ _ => rfl)) (aa_cons (ap_tup aa_nil (by decide +kernel)) aa_nil (star_ok rfl)) (star_ok rfl)) (star_ok rfl)) (star_ok rfl)) rfl (by decide) rfl rfl)) rfl (.inl rfl)))
   (ass_cons (as_to (sh := [.dead, .dead, .f, .dead, .f, .f]) (as_setComp (i := 5) sc_rest_rows.nd rfl (by first | exact Or.inl rfl | exact Or.inr rfl) (.inl rfl) (N' := N_rest_rows_0) (k := 1) rfl (compOk_of (N := N_rest_rows) (sc := (defScope s_rest_rows)) (by decide +kernel) rfl rfl) (ai_range1 rfl B.range (aa_cons (ap_ix ix_seq ok_ix (ao (ap_var (i := 2) rfl (by first | exact Or.inl rfl | exact Or.inr (Or.inl rfl) | exact Or.inr (Or.inr rfl)))) (ao ap_int) (fun _ _ => rfl)) aa_nil (star_ok rfl)) rfl) (fun cl s' H' fp C' => (ag_name (i := 6) (show 6 ≤ 6 by decide) nd_N_rest_rows_0 rfl (by first | exact Or.inl rfl | exact Or.inr rfl) (.inr rfl))) (fun cl s' H' fp C' => (ats_one (at_cmp (opr_eq (room_u hr)) ok_D2 (ao (ap_b (ab_cmp (opr_eq (room_u hr)) ok_D2 (ao (ap_var (i := 6) rfl (by first | exact Or.inl rfl | exact Or.inr (Or.inl rfl) | exact Or.inr (Or.inr rfl)))) (ao (ap_ix ix_seq ok_ix (ao (ap_var (i := 2) rfl (by first | exact Or.inl rfl | exact Or.inr (Or.inl rfl) | exact Or.inr (Or.inr rfl)))) (ao ap_int) (fun _ _ => rfl))) rfl))) (ao (ap_var (i := 3) rfl (by first | exact Or.inl rfl | exact Or.inr (Or.inl rfl) | exact Or.inr (Or.inr rfl)))) rfl))) (fun cl s' H' fp C' => (ap_var (i := 6) rfl (by first | exact Or.inl rfl | exact Or.inr (Or.inl rfl) | exact Or.inr (Or.inr rfl)))) rfl (fun _ => rfl)))
   (ass_one (as_retL (ael_pu (al_comp (N' := N_rest_rows_1) (k := 1) rfl (compOk_of (N := N_rest_rows) (sc := (defScope s_rest_rows)) (by decide +kernel) rfl rfl) (ai_seq (ap_var (i := 5) rfl (by first | exact Or.inl rfl | exact Or.inr (Or.inl rfl) | exact Or.inr (Or.inr rfl)))) (fun cl s' H' fp C' => (ag_name (i := 6) (show 6 ≤ 6 by decide) nd_N_rest_rows_1 rfl (by first | exact Or.inl rfl | exact Or.inr rfl) (.inr rfl))) (fun cl s' H' fp C' => ats_nil) (fun cl s' H' fp C' => (ap_tup (aa_cons (ap_tup (aa_cons ap_str (aa_cons (ap_fn C_plus (hr.mono (by decide)) rfl (aa_cons (ap_var (i := 4) rfl (by first | exact Or.inl rfl | exact Or.inr (Or.inl rfl) | exact Or.inr (Or.inr rfl))) (aa_cons (ap_un un_neg ok_neg (ao (ap_var (i := 6) rfl (by first | exact Or.inl rfl | exact Or.inr (Or.inl rfl) | exact Or.inr (Or.inr rfl))))) aa_nil (star_ok rfl)) (star_ok rfl)) rfl (by decide) rfl rfl) (aa_cons (ap_ix ix_seq ok_ix (ao (ap_var (i := 2) rfl (by first | exact Or.inl rfl | exact Or.inr (Or.inl rfl) | exact Or.inr (Or.inr rfl)))) (ao ap_int) (fun _ _ => rfl)) aa_nil (star_ok rfl)) (star_ok rfl)) (star_ok rfl)) (by decide +kernel)) aa_nil (star_ok rfl)) (by decide +kernel))) (fun _ => rfl))))))))
  (fun ds hl => match ds, hl with | [p_rooms, p_sorts, p_question, p_truth], _ => by kernel_rfl)
theorem ok_rest_rows {f : Addr} {fd : FuncData} (Fn : Fun K "rest_rows" "rest_rows" s_rest_rows f fd) (hmg : mg "rest_rows" = some (.ref f)) (B : BN mg) (Kn : KN mg) (C_hands_form : CF P w K mg base "hands_form" 1 (spD K 4 mf_hands_form)) (C_plus : CF P w K mg base "plus" 1 (spD K 2 mf_plus)) : CF P w K mg base "rest_rows" 2 (spL K 4 mf_rest_rows) :=
  ⟨f, fd, ["rooms", "sorts", "question", "truth"], fn_rest_rows Fn B Kn C_hands_form C_plus, hmg, Fn.kp, (Fn.binds fun _ _ _ _ _ _ us hl => match us, hl with | [_, _, _, _], _ => rfl)⟩
abbrev s_crossed : Stmt := top 14
abbrev N_crossed : List Str := ["one", "other", "rows", "ahead"]
theorem sc_crossed : FnScope N_crossed ["one", "other"] (defScope s_crossed) := ⟨rfl, rfl, rfl, by decide +kernel, rfl, by decide +kernel, by decide +kernel⟩
abbrev N_crossed_0 : List Str := ["one", "other", "rows", "ahead", "behind"]
theorem nd_N_crossed_0 : N_crossed_0.Nodup := by decide +kernel
def c_crossed_r2 (v_other : D) (v_rows : List D) : M (List D) :=
  .ret v_rows
def c_crossed_s1 (v_other : D) (v_rows : List D) (d_ : D) (kn2 : D × List D × Unit → M (List D)) : M (List D) :=
  bd (bd (oM (seqD v_other)) fun l5 => bd (compC (fun d3 => bd (oM (opAdd d_ d3)) fun x4 => .ret (some x4)) l5) fitM) fun l6 => bd (oM (mExt v_rows l6)) fun l7 => kn2 (v_other, l7, ())
def c_crossed (p_one : D) (p_other : D) : M (List D) :=
  bd (oM (seqD p_one)) fun l1 => forS (fun s8 d9 kn => c_crossed_s1 s8.1 s8.2.1 d9 kn) l1 (p_other, [], ()) (fun s8 => c_crossed_r2 s8.1 s8.2.1)
def mf_crossed : List D → M (List D) := fun l => match l with
  | [p_one, p_other] => c_crossed p_one p_other
  | _ => .bad
set_option maxHeartbeats 4000000 in
theorem fn_crossed {f : Addr} {fd : FuncData} (Fn : Fun K "crossed" "crossed" s_crossed f fd) (B : BN mg) (Kn : KN mg) : FnOk P w K mg base CX0 1 f fd ["one", "other"] (spL K 2 mf_crossed) :=
  fn_okL (k := 0) Fn sc_crossed (fun cdv A outer s H E hr =>
  (ass_cons (as_to (sh := [.f, .f, .o, .dead]) (as_setL (i := 2) sc_crossed.nd rfl (by first | exact Or.inl rfl | exact Or.inr rfl) (ael_pu (al_lst aa_nil (by decide +kernel))) rfl (.inl rfl)))
   (ass_cons (as_forS (sh := [.dead, .f, .o, .dead]) PassesOwn.never rfl (aei_pu (ai_seq (ap_var (i := 0) rfl (by first | exact Or.inl rfl | exact Or.inr (Or.inl rfl) | exact Or.inr (Or.inr rfl))))) (ag_name (i := 3) (Nat.zero_le _) sc_crossed.nd rfl (by first | exact Or.inl rfl | exact Or.inr rfl) (.inl rfl))
    (ass_one (as_extL (i := 2) rfl (by first | exact Or.inl rfl | exact Or.inr (Or.inl rfl) | exact Or.inr (Or.inr rfl)) (ael_pu (al_comp (N' := N_crossed_0) (k := 1) rfl (compOk_of (N := N_crossed) (sc := (defScope s_crossed)) (by decide +kernel) rfl rfl) (ai_seq (ap_var (i := 1) rfl (by first | exact Or.inl rfl | exact Or.inr (Or.inl rfl) | exact Or.inr (Or.inr rfl)))) (fun cl s' H' fp C' => (ag_name (i := 4) (show 4 ≤ 4 by decide) nd_N_crossed_0 rfl (by first | exact Or.inl rfl | exact Or.inr rfl) (.inr rfl))) (fun cl s' H' fp C' => ats_nil) (fun cl s' H' fp C' => (ap_bin op_addA ok_add (ao (ap_var (i := 3) rfl (by first | exact Or.inl rfl | exact Or.inr (Or.inl rfl) | exact Or.inr (Or.inr rfl)))) (ao (ap_var (i := 4) rfl (by first | exact Or.inl rfl | exact Or.inr (Or.inl rfl) | exact Or.inr (Or.inr rfl)))))) (fun _ => rfl))) rfl rfl rfl rfl rfl rfl)) (fun _ => rfl))
   (ass_one (as_retO (i := 2) rfl (by first | exact Or.inl rfl | exact Or.inr (Or.inl rfl) | exact Or.inr (Or.inr rfl)))))))
  (fun ds hl => match ds, hl with | [p_one, p_other], _ => by kernel_rfl)
theorem ok_crossed {f : Addr} {fd : FuncData} (Fn : Fun K "crossed" "crossed" s_crossed f fd) (hmg : mg "crossed" = some (.ref f)) (B : BN mg) (Kn : KN mg) : CF P w K mg base "crossed" 1 (spL K 2 mf_crossed) :=
  ⟨f, fd, ["one", "other"], fn_crossed Fn B Kn, hmg, Fn.kp, (Fn.binds fun _ _ _ _ _ _ us hl => match us, hl with | [_, _], _ => rfl)⟩
abbrev s_least_fact : Stmt := top 16
abbrev N_least_fact : List Str := ["rooms", "sorts", "question", "truth"]
theorem sc_least_fact : FnScope N_least_fact ["rooms", "sorts", "question", "truth"] (defScope s_least_fact) := ⟨rfl, rfl, rfl, by decide +kernel, rfl, by decide +kernel, by decide +kernel⟩
def c_least_fact (p_rooms : D) (p_sorts : D) (p_question : D) (p_truth : D) : M D :=
  bd (oM (truD p_truth)) fun b1 => if b1 then
    bd (bd (bd (bd (oM (opIx p_question (.int 1))) fun x2 => c_hands_form p_rooms p_sorts x2 (.tuple [])) fun x3 => bd (bd (oM (opIx p_question (.int 2))) fun x4 => oM (opNeg x4)) fun x5 => c_plus x3 x5) fun x6 => .ret (.tuple [(.str "least"), x6])) fun x7 => .ret x7
   else
    bd (bd (bd (bd (oM (opIx p_question (.int 1))) fun x8 => c_hands_form p_rooms p_sorts (.tuple []) x8) fun x9 => bd (bd (oM (opIx p_question (.int 2))) fun x10 => oM (opSub x10 (.int 1))) fun x11 => c_plus x9 x11) fun x12 => .ret (.tuple [(.str "least"), x12])) fun x13 => .ret x13
def mf_least_fact : List D → M D := fun l => match l with
  | [p_rooms, p_sorts, p_question, p_truth] => c_least_fact p_rooms p_sorts p_question p_truth
  | _ => .bad
set_option maxHeartbeats 4000000 in
theorem fn_least_fact {f : Addr} {fd : FuncData} (Fn : Fun K "least_fact" "least_fact" s_least_fact f fd) (B : BN mg) (Kn : KN mg) (C_plus : CF P w K mg base "plus" 1 (spD K 2 mf_plus)) (C_hands_form : CF P w K mg base "hands_form" 1 (spD K 4 mf_hands_form)) : FnOk P w K mg base CX0 2 f fd ["rooms", "sorts", "question", "truth"] (spD K 4 mf_least_fact) :=
  fn_okD (k := 1) Fn sc_least_fact (fun cdv A outer s H E hr =>
  (ass_cons (as_if (aet_pu (at_tru (ao (ap_var (i := 3) rfl (by first | exact Or.inl rfl | exact Or.inr (Or.inl rfl) | exact Or.inr (Or.inr rfl)))) (fun _ => rfl)))
    (ass_one (as_ret (ae_pu (ap_tup (aa_cons ap_str (aa_cons (ap_fn C_plus (hr.mono (by decide)) rfl (aa_cons (ap_fn C_hands_form (hr.mono (by decide)) rfl (aa_cons (ap_var (i := 0) rfl (by first | exact Or.inl rfl | exact Or.inr (Or.inl rfl) | exact Or.inr (Or.inr rfl))) (aa_cons (ap_var (i := 1) rfl (by first | exact Or.inl rfl | exact Or.inr (Or.inl rfl) | exact Or.inr (Or.inr rfl))) (aa_cons (ap_ix ix_seq ok_ix (ao (ap_var (i := 2) rfl (by first | exact Or.inl rfl | exact Or.inr (Or.inl rfl) | exact Or.inr (Or.inr rfl)))) (ao ap_int) (fun _ _ => rfl)) (aa_cons (ap_tup aa_nil (by decide +kernel)) aa_nil (star_ok rfl)) (star_ok rfl)) (star_ok rfl)) (star_ok rfl)) rfl (by decide) rfl rfl) (aa_cons (ap_un un_neg ok_neg (ao (ap_ix ix_seq ok_ix (ao (ap_var (i := 2) rfl (by first | exact Or.inl rfl | exact Or.inr (Or.inl rfl) | exact Or.inr (Or.inr rfl)))) (ao ap_int) (fun _ _ => rfl)))) aa_nil (star_ok rfl)) (star_ok rfl)) rfl (by decide) rfl rfl) aa_nil (star_ok rfl)) (star_ok rfl)) (by decide +kernel)))))
    ass_nil)
   (ass_one (as_ret (ae_pu (ap_tup (aa_cons ap_str (aa_cons (ap_fn C_plus (hr.mono (by decide)) rfl (aa_cons (ap_fn C_hands_form (hr.mono (by decide)) rfl (aa_cons (ap_var (i := 0) rfl (by first | exact Or.inl rfl | exact Or.inr (Or.inl rfl) | exact Or.inr (Or.inr rfl))) (aa_cons (ap_var (i := 1) rfl (by first | exact Or.inl rfl | exact Or.inr (Or.inl rfl) | exact Or.inr (Or.inr rfl))) (aa_cons (ap_tup aa_nil (by decide +kernel)) (aa_cons (ap_ix ix_seq ok_ix (ao (ap_var (i := 2) rfl (by first | exact Or.inl rfl | exact Or.inr (Or.inl rfl) | exact Or.inr (Or.inr rfl)))) (ao ap_int) (fun _ _ => rfl)) aa_nil (star_ok rfl)) (star_ok rfl)) (star_ok rfl)) (star_ok rfl)) rfl (by decide) rfl rfl) (aa_cons (ap_bin op_sub ok_sub (ao (ap_ix ix_seq ok_ix (ao (ap_var (i := 2) rfl (by first | exact Or.inl rfl | exact Or.inr (Or.inl rfl) | exact Or.inr (Or.inr rfl)))) (ao ap_int) (fun _ _ => rfl))) (ao ap_int)) aa_nil (star_ok rfl)) (star_ok rfl)) rfl (by decide) rfl rfl) aa_nil (star_ok rfl)) (star_ok rfl)) (by decide +kernel)))))))
  (fun ds hl => match ds, hl with | [p_rooms, p_sorts, p_question, p_truth], _ => by kernel_rfl)
theorem ok_least_fact {f : Addr} {fd : FuncData} (Fn : Fun K "least_fact" "least_fact" s_least_fact f fd) (hmg : mg "least_fact" = some (.ref f)) (B : BN mg) (Kn : KN mg) (C_plus : CF P w K mg base "plus" 1 (spD K 2 mf_plus)) (C_hands_form : CF P w K mg base "hands_form" 1 (spD K 4 mf_hands_form)) : CF P w K mg base "least_fact" 2 (spD K 4 mf_least_fact) :=
  ⟨f, fd, ["rooms", "sorts", "question", "truth"], fn_least_fact Fn B Kn C_plus C_hands_form, hmg, Fn.kp, (Fn.binds fun _ _ _ _ _ _ us hl => match us, hl with | [_, _, _, _], _ => rfl)⟩
abbrev s_more_fact : Stmt := top 17
abbrev N_more_fact : List Str := ["rooms", "sorts", "question", "truth"]
theorem sc_more_fact : FnScope N_more_fact ["rooms", "sorts", "question", "truth"] (defScope s_more_fact) := ⟨rfl, rfl, rfl, by decide +kernel, rfl, by decide +kernel, by decide +kernel⟩
def c_more_fact (p_rooms : D) (p_sorts : D) (p_question : D) (p_truth : D) : M D :=
  bd (oM (truD p_truth)) fun b1 => if b1 then
    bd (bd (bd (bd (oM (opIx p_question (.int 1))) fun x2 => bd (oM (opIx p_question (.int 2))) fun x3 => c_hands_form p_rooms p_sorts x2 x3) fun x4 => bd (oM (opNeg (.int 1))) fun x5 => c_plus x4 x5) fun x6 => .ret (.tuple [(.str "least"), x6])) fun x7 => .ret x7
   else
    bd (bd (bd (oM (opIx p_question (.int 2))) fun x8 => bd (oM (opIx p_question (.int 1))) fun x9 => c_hands_form p_rooms p_sorts x8 x9) fun x10 => .ret (.tuple [(.str "least"), x10])) fun x11 => .ret x11
def mf_more_fact : List D → M D := fun l => match l with
  | [p_rooms, p_sorts, p_question, p_truth] => c_more_fact p_rooms p_sorts p_question p_truth
  | _ => .bad
set_option maxHeartbeats 4000000 in
theorem fn_more_fact {f : Addr} {fd : FuncData} (Fn : Fun K "more_fact" "more_fact" s_more_fact f fd) (B : BN mg) (Kn : KN mg) (C_hands_form : CF P w K mg base "hands_form" 1 (spD K 4 mf_hands_form)) (C_plus : CF P w K mg base "plus" 1 (spD K 2 mf_plus)) : FnOk P w K mg base CX0 2 f fd ["rooms", "sorts", "question", "truth"] (spD K 4 mf_more_fact) :=
  fn_okD (k := 1) Fn sc_more_fact (fun cdv A outer s H E hr =>
  (ass_cons (as_if (aet_pu (at_tru (ao (ap_var (i := 3) rfl (by first | exact Or.inl rfl | exact Or.inr (Or.inl rfl) | exact Or.inr (Or.inr rfl)))) (fun _ => rfl)))
    (ass_one (as_ret (ae_pu (ap_tup (aa_cons ap_str (aa_cons (ap_fn C_plus (hr.mono (by decide)) rfl (aa_cons (ap_fn C_hands_form (hr.mono (by decide)) rfl (aa_cons (ap_var (i := 0) rfl (by first | exact Or.inl rfl | exact Or.inr (Or.inl rfl) | exact Or.inr (Or.inr rfl))) (aa_cons (ap_var (i := 1) rfl (by first | exact Or.inl rfl | exact Or.inr (Or.inl rfl) | exact Or.inr (Or.inr rfl))) (aa_cons (ap_ix ix_seq ok_ix (ao (ap_var (i := 2) rfl (by first | exact Or.inl rfl | exact Or.inr (Or.inl rfl) | exact Or.inr (Or.inr rfl)))) (ao ap_int) (fun _ _ => rfl)) (aa_cons (ap_ix ix_seq ok_ix (ao (ap_var (i := 2) rfl (by first | exact Or.inl rfl | exact Or.inr (Or.inl rfl) | exact Or.inr (Or.inr rfl)))) (ao ap_int) (fun _ _ => rfl)) aa_nil (star_ok rfl)) (star_ok rfl)) (star_ok rfl)) (star_ok rfl)) rfl (by decide) rfl rfl) (aa_cons (ap_un un_neg ok_neg (ao ap_int)) aa_nil (star_ok rfl)) (star_ok rfl)) rfl (by decide) rfl rfl) aa_nil (star_ok rfl)) (star_ok rfl)) (by decide +kernel)))))
    ass_nil)
   (ass_one (as_ret (ae_pu (ap_tup (aa_cons ap_str (aa_cons (ap_fn C_hands_form (hr.mono (by decide)) rfl (aa_cons (ap_var (i := 0) rfl (by first | exact Or.inl rfl | exact Or.inr (Or.inl rfl) | exact Or.inr (Or.inr rfl))) (aa_cons (ap_var (i := 1) rfl (by first | exact Or.inl rfl | exact Or.inr (Or.inl rfl) | exact Or.inr (Or.inr rfl))) (aa_cons (ap_ix ix_seq ok_ix (ao (ap_var (i := 2) rfl (by first | exact Or.inl rfl | exact Or.inr (Or.inl rfl) | exact Or.inr (Or.inr rfl)))) (ao ap_int) (fun _ _ => rfl)) (aa_cons (ap_ix ix_seq ok_ix (ao (ap_var (i := 2) rfl (by first | exact Or.inl rfl | exact Or.inr (Or.inl rfl) | exact Or.inr (Or.inr rfl)))) (ao ap_int) (fun _ _ => rfl)) aa_nil (star_ok rfl)) (star_ok rfl)) (star_ok rfl)) (star_ok rfl)) rfl (by decide) rfl rfl) aa_nil (star_ok rfl)) (star_ok rfl)) (by decide +kernel)))))))
  (fun ds hl => match ds, hl with | [p_rooms, p_sorts, p_question, p_truth], _ => by kernel_rfl)
theorem ok_more_fact {f : Addr} {fd : FuncData} (Fn : Fun K "more_fact" "more_fact" s_more_fact f fd) (hmg : mg "more_fact" = some (.ref f)) (B : BN mg) (Kn : KN mg) (C_hands_form : CF P w K mg base "hands_form" 1 (spD K 4 mf_hands_form)) (C_plus : CF P w K mg base "plus" 1 (spD K 2 mf_plus)) : CF P w K mg base "more_fact" 2 (spD K 4 mf_more_fact) :=
  ⟨f, fd, ["rooms", "sorts", "question", "truth"], fn_more_fact Fn B Kn C_hands_form C_plus, hmg, Fn.kp, (Fn.binds fun _ _ _ _ _ _ us hl => match us, hl with | [_, _, _, _], _ => rfl)⟩
abbrev s_rows_of : Stmt := top 13
abbrev N_rows_of : List Str := ["rooms", "sorts", "question", "truth", "word", "one", "other"]
theorem sc_rows_of : FnScope N_rows_of ["rooms", "sorts", "question", "truth"] (defScope s_rows_of) := ⟨rfl, rfl, rfl, by decide +kernel, rfl, by decide +kernel, by decide +kernel⟩
def c_rows_of_b (self : D → D → D → D → M (List D)) (p_rooms : D) (p_sorts : D) (p_question : D) (p_truth : D) : M (List D) :=
  bd (oM (opIx p_question (.int 0))) fun x1 => bd (oM (opEq x1 (.str "not"))) fun b2 => if b2 then
    bd (bd (oM (opIx p_question (.int 1))) fun x3 => bd (bd (bd (oM (truD p_truth)) fun b4 => .ret (!b4)) fun b5 => .ret (.bool b5)) fun x6 => self p_rooms p_sorts x3 x6) fun l7 => .ret l7
   else
    bd (oM (opIn x1 (.tuple [(.str "both"), (.str "either")]))) fun b8 => if b8 then
    bd (bd (bd (oM (opIx p_question (.int 1))) fun x9 => self p_rooms p_sorts x9 p_truth) fun l10 => .ret (PyData.list l10)) fun x11 => bd (bd (bd (oM (opIx p_question (.int 2))) fun x12 => self p_rooms p_sorts x12 p_truth) fun l13 => .ret (PyData.list l13)) fun x14 => bd (bd (bd (bd (oM (opEq x1 (.str "both"))) fun b15 => .ret (.bool b15)) fun x16 => oM (opEq p_truth x16)) fun b17 => if b17 then c_crossed x11 x14 else oM (opAddL x11 x14)) fun l18 => .ret l18
   else
    bd (oM (opEq x1 (.str "least"))) fun b19 => if b19 then
    bd (bd (bd (c_least_fact p_rooms p_sorts p_question p_truth) fun x20 => .ret (.tuple [x20])) fun x21 => .ret [x21]) fun l22 => .ret l22
   else
    bd (oM (opEq x1 (.str "more"))) fun b23 => if b23 then
    bd (bd (bd (c_more_fact p_rooms p_sorts p_question p_truth) fun x24 => .ret (.tuple [x24])) fun x25 => .ret [x25]) fun l26 => .ret l26
   else
    bd (c_rest_rows p_rooms p_sorts p_question p_truth) fun l27 => .ret l27
def c_rows_of : Nat → D → D → D → D → M (List D)
  | 0 => fun _ _ _ _ => .bad
  | i + 1 => c_rows_of_b (c_rows_of i)
def mf_rows_of (i : Nat) : List D → M (List D) := fun l => match l with
  | [p_rooms, p_sorts, p_question, p_truth] => c_rows_of i p_rooms p_sorts p_question p_truth
  | _ => .bad
set_option maxHeartbeats 4000000 in
theorem fn_rows_of {f : Addr} {fd : FuncData} (Fn : Fun K "rows_of" "rows_of" s_rows_of f fd) (B : BN mg) (Kn : KN mg) (C_rest_rows : CF P w K mg base "rest_rows" 2 (spL K 4 mf_rest_rows)) (C_crossed : CF P w K mg base "crossed" 1 (spL K 2 mf_crossed)) (C_least_fact : CF P w K mg base "least_fact" 2 (spD K 4 mf_least_fact)) (C_more_fact : CF P w K mg base "more_fact" 2 (spD K 4 mf_more_fact)) (i : Nat) (Cself : CF P w K mg base "rows_of" (3 + i) (spL K 4 (mf_rows_of i))) : FnOk P w K mg base CX0 (3 + i + 1) f fd ["rooms", "sorts", "question", "truth"] (spL K 4 (mf_rows_of (i + 1))) :=
  fn_okL (k := 3 + i) Fn sc_rows_of (fun cdv A outer s H E hr =>
  (ass_cons (as_to (sh := [.f, .f, .f, .f, .f, .dead, .dead]) (as_set (i := 4) sc_rows_of.nd rfl (by first | exact Or.inl rfl | exact Or.inr rfl) (ae_pu (ap_ix ix_seq ok_ix (ao (ap_var (i := 2) rfl (by first | exact Or.inl rfl | exact Or.inr (Or.inl rfl) | exact Or.inr (Or.inr rfl)))) (ao ap_int) (fun _ _ => rfl))) rfl (.inl rfl)))
   (ass_cons (as_if (aet_pu (at_cmp (opr_eq (room_u hr)) ok_D2 (ao (ap_var (i := 4) rfl (by first | exact Or.inl rfl | exact Or.inr (Or.inl rfl) | exact Or.inr (Or.inr rfl)))) (ao ap_str) rfl))
    (ass_one (as_retL (ael_pu (al_fn Cself (hr.mono (by omega)) rfl (aa_cons (ap_var (i := 0) rfl (by first | exact Or.inl rfl | exact Or.inr (Or.inl rfl) | exact Or.inr (Or.inr rfl))) (aa_cons (ap_var (i := 1) rfl (by first | exact Or.inl rfl | exact Or.inr (Or.inl rfl) | exact Or.inr (Or.inr rfl))) (aa_cons (ap_ix ix_seq ok_ix (ao (ap_var (i := 2) rfl (by first | exact Or.inl rfl | exact Or.inr (Or.inl rfl) | exact Or.inr (Or.inr rfl)))) (ao ap_int) (fun _ _ => rfl)) (aa_cons (ap_b (ab_notO (ao (ap_var (i := 3) rfl (by first | exact Or.inl rfl | exact Or.inr (Or.inl rfl) | exact Or.inr (Or.inr rfl)))))) aa_nil (star_ok rfl)) (star_ok rfl)) (star_ok rfl)) (star_ok rfl)) rfl (by decide) rfl rfl))))
    ass_nil)
   (ass_cons (as_if (aet_pu (at_cmp (opr_in (room_u hr)) ok_D2 (ao (ap_var (i := 4) rfl (by first | exact Or.inl rfl | exact Or.inr (Or.inl rfl) | exact Or.inr (Or.inr rfl)))) (ao (ap_tup (aa_cons ap_str (aa_cons ap_str aa_nil (star_ok rfl)) (star_ok rfl)) (by decide +kernel))) rfl))
    (ass_cons (as_to (sh := [.f, .f, .f, .f, .f, .f, .dead]) (as_set (i := 5) sc_rows_of.nd rfl (by first | exact Or.inl rfl | exact Or.inr rfl) (ae_pu (ap_z (al_fn Cself (hr.mono (by omega)) rfl (aa_cons (ap_var (i := 0) rfl (by first | exact Or.inl rfl | exact Or.inr (Or.inl rfl) | exact Or.inr (Or.inr rfl))) (aa_cons (ap_var (i := 1) rfl (by first | exact Or.inl rfl | exact Or.inr (Or.inl rfl) | exact Or.inr (Or.inr rfl))) (aa_cons (ap_ix ix_seq ok_ix (ao (ap_var (i := 2) rfl (by first | exact Or.inl rfl | exact Or.inr (Or.inl rfl) | exact Or.inr (Or.inr rfl)))) (ao ap_int) (fun _ _ => rfl)) (aa_cons (ap_var (i := 3) rfl (by first | exact Or.inl rfl | exact Or.inr (Or.inl rfl) | exact Or.inr (Or.inr rfl))) aa_nil (star_ok rfl)) (star_ok rfl)) (star_ok rfl)) (star_ok rfl)) rfl (by decide) rfl rfl))) rfl (.inl rfl)))
   (ass_cons (as_to (sh := [.dead, .dead, .dead, .f, .f, .f, .f]) (as_set (i := 6) sc_rows_of.nd rfl (by first | exact Or.inl rfl | exact Or.inr rfl) (ae_pu (ap_z (al_fn Cself (hr.mono (by omega)) rfl (aa_cons (ap_var (i := 0) rfl (by first | exact Or.inl rfl | exact Or.inr (Or.inl rfl) | exact Or.inr (Or.inr rfl))) (aa_cons (ap_var (i := 1) rfl (by first | exact Or.inl rfl | exact Or.inr (Or.inl rfl) | exact Or.inr (Or.inr rfl))) (aa_cons (ap_ix ix_seq ok_ix (ao (ap_var (i := 2) rfl (by first | exact Or.inl rfl | exact Or.inr (Or.inl rfl) | exact Or.inr (Or.inr rfl)))) (ao ap_int) (fun _ _ => rfl)) (aa_cons (ap_var (i := 3) rfl (by first | exact Or.inl rfl | exact Or.inr (Or.inl rfl) | exact Or.inr (Or.inr rfl))) aa_nil (star_ok rfl)) (star_ok rfl)) (star_ok rfl)) (star_ok rfl)) rfl (by decide) rfl rfl))) rfl (.inl rfl)))
   (ass_one (as_retL (ael_pu (al_if (at_cmp (opr_eq (room_u hr)) ok_D2 (ao (ap_var (i := 3) rfl (by first | exact Or.inl rfl | exact Or.inr (Or.inl rfl) | exact Or.inr (Or.inr rfl)))) (ao (ap_b (ab_cmp (opr_eq (room_u hr)) ok_D2 (ao (ap_var (i := 4) rfl (by first | exact Or.inl rfl | exact Or.inr (Or.inl rfl) | exact Or.inr (Or.inr rfl)))) (ao ap_str) rfl))) rfl) (al_fn C_crossed (hr.mono (by omega)) rfl (aa_cons (ap_var (i := 5) rfl (by first | exact Or.inl rfl | exact Or.inr (Or.inl rfl) | exact Or.inr (Or.inr rfl))) (aa_cons (ap_var (i := 6) rfl (by first | exact Or.inl rfl | exact Or.inr (Or.inl rfl) | exact Or.inr (Or.inr rfl))) aa_nil (star_ok rfl)) (star_ok rfl)) rfl (by decide) rfl rfl) (al_bin op_catL ok_catL (ao (ap_var (i := 5) rfl (by first | exact Or.inl rfl | exact Or.inr (Or.inl rfl) | exact Or.inr (Or.inr rfl)))) (ao (ap_var (i := 6) rfl (by first | exact Or.inl rfl | exact Or.inr (Or.inl rfl) | exact Or.inr (Or.inr rfl)))))))))))
    ass_nil)
   (ass_cons (as_if (aet_pu (at_cmp (opr_eq (room_u hr)) ok_D2 (ao (ap_var (i := 4) rfl (by first | exact Or.inl rfl | exact Or.inr (Or.inl rfl) | exact Or.inr (Or.inr rfl)))) (ao ap_str) rfl))
    (ass_one (as_retL (ael_pu (al_lst (aa_cons (ap_tup (aa_cons (ap_fn C_least_fact (hr.mono (by omega)) rfl (aa_cons (ap_var (i := 0) rfl (by first | exact Or.inl rfl | exact Or.inr (Or.inl rfl) | exact Or.inr (Or.inr rfl))) (aa_cons (ap_var (i := 1) rfl (by first | exact Or.inl rfl | exact Or.inr (Or.inl rfl) | exact Or.inr (Or.inr rfl))) (aa_cons (ap_var (i := 2) rfl (by first | exact Or.inl rfl | exact Or.inr (Or.inl rfl) | exact Or.inr (Or.inr rfl))) (aa_cons (ap_var (i := 3) rfl (by first | exact Or.inl rfl | exact Or.inr (Or.inl rfl) | exact Or.inr (Or.inr rfl))) aa_nil (star_ok rfl)) (star_ok rfl)) (star_ok rfl)) (star_ok rfl)) rfl (by decide) rfl rfl) aa_nil (star_ok rfl)) (by decide +kernel)) aa_nil (star_ok rfl)) (by decide +kernel)))))
    ass_nil)
   (ass_cons (as_if (aet_pu (at_cmp (opr_eq (room_u hr)) ok_D2 (ao (ap_var (i := 4) rfl (by first | exact Or.inl rfl | exact Or.inr (Or.inl rfl) | exact Or.inr (Or.inr rfl)))) (ao ap_str) rfl))
    (ass_one (as_retL (ael_pu (al_lst (aa_cons (ap_tup (aa_cons (ap_fn C_more_fact (hr.mono (by omega)) rfl (aa_cons (ap_var (i := 0) rfl (by first | exact Or.inl rfl | exact Or.inr (Or.inl rfl) | exact Or.inr (Or.inr rfl))) (aa_cons (ap_var (i := 1) rfl (by first | exact Or.inl rfl | exact Or.inr (Or.inl rfl) | exact Or.inr (Or.inr rfl))) (aa_cons (ap_var (i := 2) rfl (by first | exact Or.inl rfl | exact Or.inr (Or.inl rfl) | exact Or.inr (Or.inr rfl))) (aa_cons (ap_var (i := 3) rfl (by first | exact Or.inl rfl | exact Or.inr (Or.inl rfl) | exact Or.inr (Or.inr rfl))) aa_nil (star_ok rfl)) (star_ok rfl)) (star_ok rfl)) (star_ok rfl)) rfl (by decide) rfl rfl) aa_nil (star_ok rfl)) (by decide +kernel)) aa_nil (star_ok rfl)) (by decide +kernel)))))
    ass_nil)
   (ass_one (as_retL (ael_pu (al_fn C_rest_rows (hr.mono (by omega)) rfl (aa_cons (ap_var (i := 0) rfl (by first | exact Or.inl rfl | exact Or.inr (Or.inl rfl) | exact Or.inr (Or.inr rfl))) (aa_cons (ap_var (i := 1) rfl (by first | exact Or.inl rfl | exact Or.inr (Or.inl rfl) | exact Or.inr (Or.inr rfl))) (aa_cons (ap_var (i := 2) rfl (by first | exact Or.inl rfl | exact Or.inr (Or.inl rfl) | exact Or.inr (Or.inr rfl))) (aa_cons (ap_var (i := 3) rfl (by first | exact Or.inl rfl | exact Or.inr (Or.inl rfl) | exact Or.inr (Or.inr rfl))) aa_nil (star_ok rfl)) (star_ok rfl)) (star_ok rfl)) (star_ok rfl)) rfl (by decide) rfl rfl))))))))))
  (fun ds hl => match ds, hl with | [p_rooms, p_sorts, p_question, p_truth], _ => by kernel_rfl)
theorem ok_rows_of {f : Addr} {fd : FuncData} (Fn : Fun K "rows_of" "rows_of" s_rows_of f fd) (hmg : mg "rows_of" = some (.ref f)) (B : BN mg) (Kn : KN mg) (C_rest_rows : CF P w K mg base "rest_rows" 2 (spL K 4 mf_rest_rows)) (C_crossed : CF P w K mg base "crossed" 1 (spL K 2 mf_crossed)) (C_least_fact : CF P w K mg base "least_fact" 2 (spD K 4 mf_least_fact)) (C_more_fact : CF P w K mg base "more_fact" 2 (spD K 4 mf_more_fact)) (i : Nat) : CF P w K mg base "rows_of" (3 + i) (spL K 4 (mf_rows_of i)) := by
  induction i with
  | zero =>
    have e : mf_rows_of 0 = fun _ => .bad := by
      funext l; unfold mf_rows_of; split <;> rfl
    rw [e]
    exact CF.zeroL (ps := ["rooms", "sorts", "question", "truth"]) _ _ hmg Fn.kp (Fn.binds fun _ _ _ _ _ _ us hl => match us, hl with | [_, _, _, _], _ => rfl)
  | succ i ih => exact ⟨f, fd, ["rooms", "sorts", "question", "truth"], fn_rows_of Fn B Kn C_rest_rows C_crossed C_least_fact C_more_fact i ih, hmg, Fn.kp, (Fn.binds fun _ _ _ _ _ _ us hl => match us, hl with | [_, _, _, _], _ => rfl)⟩
abbrev s_is_fact : Stmt := top 21
abbrev N_is_fact : List Str := ["rooms", "sorts", "thing"]
theorem sc_is_fact : FnScope N_is_fact ["rooms", "sorts", "thing"] (defScope s_is_fact) := ⟨rfl, rfl, rfl, by decide +kernel, rfl, by decide +kernel, by decide +kernel⟩
def c_is_fact (p_rooms : D) (p_sorts : D) (p_thing : D) : M D :=
  bd (if (!(isT "tuple" p_thing)) then .ret true else bd (bd (oM (fLen [p_thing])) fun x1 => oM (opLt x1 (.int 2))) fun b5 => if b5 then .ret true else bd (bd (bd (oM (opIx p_thing (.int 1))) fun x2 => c_is_form p_rooms p_sorts x2) fun x3 => oM (truD x3)) fun b4 => .ret (!b4)) fun b6 => if b6 then
    .ret (.bool false)
   else
    bd (bd (oM (opIx p_thing (.int 0))) fun x7 => oM (opIn x7 (.tuple [(.str "least"), (.str "same")]))) fun b8 => if b8 then
    bd (bd (bd (oM (fLen [p_thing])) fun x9 => oM (opEq x9 (.int 2))) fun b10 => .ret (.bool b10)) fun x11 => .ret x11
   else
    bd (bd (bd (bd (oM (opIx p_thing (.int 0))) fun x12 => oM (opEq x12 (.str "rest"))) fun b17 => if b17 then bd (bd (oM (fLen [p_thing])) fun x13 => oM (opEq x13 (.int 3))) fun b16 => if b16 then bd (bd (oM (opIx p_thing (.int 2))) fun x14 => c_is_within x14 (.int 2) (.int 99)) fun x15 => asB x15 else .ret false else .ret false) fun b18 => .ret (.bool b18)) fun x19 => .ret x19
def mf_is_fact : List D → M D := fun l => match l with
  | [p_rooms, p_sorts, p_thing] => c_is_fact p_rooms p_sorts p_thing
  | _ => .bad
set_option maxHeartbeats 4000000 in
theorem fn_is_fact {f : Addr} {fd : FuncData} (Fn : Fun K "is_fact" "is_fact" s_is_fact f fd) (B : BN mg) (Kn : KN mg) (C_is_within : CF P w K mg base "is_within" 2 (spD K 3 mf_is_within)) (C_is_form : CF P w K mg base "is_form" 5 (spD K 3 mf_is_form)) : FnOk P w K mg base CX0 6 f fd ["rooms", "sorts", "thing"] (spD K 3 mf_is_fact) :=
  fn_okD (k := 5) Fn sc_is_fact (fun cdv A outer s H E hr =>
  (ass_cons (as_if (aet_pu (at_aw (aw_or (at_not (at_b (ab_is (T := "tuple") (by decide) rfl B.isinstance rfl B.tuple (by decide +kernel) (ao (ap_var (i := 2) rfl (by first | exact Or.inl rfl | exact Or.inr (Or.inl rfl) | exact Or.inr (Or.inr rfl)))) rfl rfl rfl) (fun _ => rfl))) (aw_or (at_cmp op_lt ok_lt (ao (ap_callB call_lenA ok_len rfl B.len PySem.boot_len (aao_cons (ao (ap_var (i := 2) rfl (by first | exact Or.inl rfl | exact Or.inr (Or.inl rfl) | exact Or.inr (Or.inr rfl)))) aao_nil (star_ok rfl)) (by decide) (by decide) rfl rfl)) (ao ap_int) rfl) (aw_or1 (at_not (at_tru (ao (ap_fn C_is_form (hr.mono (by decide)) rfl (aa_cons (ap_var (i := 0) rfl (by first | exact Or.inl rfl | exact Or.inr (Or.inl rfl) | exact Or.inr (Or.inr rfl))) (aa_cons (ap_var (i := 1) rfl (by first | exact Or.inl rfl | exact Or.inr (Or.inl rfl) | exact Or.inr (Or.inr rfl))) (aa_cons (ap_ix ix_seq ok_ix (ao (ap_var (i := 2) rfl (by first | exact Or.inl rfl | exact Or.inr (Or.inl rfl) | exact Or.inr (Or.inr rfl)))) (ao ap_int) (fun _ _ => rfl)) aa_nil (star_ok rfl)) (star_ok rfl)) (star_ok rfl)) rfl (by decide) rfl rfl)) (fun _ => rfl))))))))
    (ass_one (as_ret (ae_pu ap_bl)))
    ass_nil)
   (ass_cons (as_if (aet_pu (at_cmp (opr_in (room_u hr)) ok_D2 (ao (ap_ix ix_seq ok_ix (ao (ap_var (i := 2) rfl (by first | exact Or.inl rfl | exact Or.inr (Or.inl rfl) | exact Or.inr (Or.inr rfl)))) (ao ap_int) (fun _ _ => rfl))) (ao (ap_tup (aa_cons ap_str (aa_cons ap_str aa_nil (star_ok rfl)) (star_ok rfl)) (by decide +kernel))) rfl))
    (ass_one (as_ret (ae_pu (ap_b (ab_cmp (opr_eq (room_u hr)) ok_D2 (ao (ap_callB call_lenA ok_len rfl B.len PySem.boot_len (aao_cons (ao (ap_var (i := 2) rfl (by first | exact Or.inl rfl | exact Or.inr (Or.inl rfl) | exact Or.inr (Or.inr rfl)))) aao_nil (star_ok rfl)) (by decide) (by decide) rfl rfl)) (ao ap_int) rfl)))))
    ass_nil)
   (ass_one (as_ret (ae_pu (ap_b (ab_and (ab_cmp (opr_eq (room_u hr)) ok_D2 (ao (ap_ix ix_seq ok_ix (ao (ap_var (i := 2) rfl (by first | exact Or.inl rfl | exact Or.inr (Or.inl rfl) | exact Or.inr (Or.inr rfl)))) (ao ap_int) (fun _ _ => rfl))) (ao ap_str) rfl) (ab_and (ab_cmp (opr_eq (room_u hr)) ok_D2 (ao (ap_callB call_lenA ok_len rfl B.len PySem.boot_len (aao_cons (ao (ap_var (i := 2) rfl (by first | exact Or.inl rfl | exact Or.inr (Or.inl rfl) | exact Or.inr (Or.inr rfl)))) aao_nil (star_ok rfl)) (by decide) (by decide) rfl rfl)) (ao ap_int) rfl) (ab_one (ab_as (ap_fn C_is_within (hr.mono (by decide)) rfl (aa_cons (ap_ix ix_seq ok_ix (ao (ap_var (i := 2) rfl (by first | exact Or.inl rfl | exact Or.inr (Or.inl rfl) | exact Or.inr (Or.inr rfl)))) (ao ap_int) (fun _ _ => rfl)) (aa_cons ap_int (aa_cons (ap_glob rfl Kn.MOST_DIVIDES.choose_spec.1 Kn.MOST_DIVIDES.choose_spec.2 (fun _ => .int _) (by decide)) aa_nil (star_ok rfl)) (star_ok rfl)) (star_ok rfl)) rfl (by decide) rfl rfl))))))))))))
  (fun ds hl => match ds, hl with | [p_rooms, p_sorts, p_thing], _ => by kernel_rfl)
theorem ok_is_fact {f : Addr} {fd : FuncData} (Fn : Fun K "is_fact" "is_fact" s_is_fact f fd) (hmg : mg "is_fact" = some (.ref f)) (B : BN mg) (Kn : KN mg) (C_is_within : CF P w K mg base "is_within" 2 (spD K 3 mf_is_within)) (C_is_form : CF P w K mg base "is_form" 5 (spD K 3 mf_is_form)) : CF P w K mg base "is_fact" 6 (spD K 3 mf_is_fact) :=
  ⟨f, fd, ["rooms", "sorts", "thing"], fn_is_fact Fn B Kn C_is_within C_is_form, hmg, Fn.kp, (Fn.binds fun _ _ _ _ _ _ us hl => match us, hl with | [_, _, _], _ => rfl)⟩
abbrev s_fact_holds : Stmt := top 22
abbrev N_fact_holds : List Str := ["fact", "crowd", "counts", "value"]
theorem sc_fact_holds : FnScope N_fact_holds ["fact", "crowd", "counts"] (defScope s_fact_holds) := ⟨rfl, rfl, rfl, by decide +kernel, rfl, by decide +kernel, by decide +kernel⟩
def c_fact_holds (p_fact : D) (p_crowd : D) (p_counts : D) : M D :=
  bd (bd (oM (opIx p_fact (.int 1))) fun x1 => c_value_at x1 p_crowd p_counts) fun x2 => bd (bd (oM (opIx p_fact (.int 0))) fun x3 => oM (opEq x3 (.str "least"))) fun b4 => if b4 then
    bd (bd (oM (opGe x2 (.int 0))) fun b5 => .ret (.bool b5)) fun x6 => .ret x6
   else
    bd (bd (oM (opIx p_fact (.int 0))) fun x7 => oM (opEq x7 (.str "same"))) fun b8 => if b8 then
    bd (bd (oM (opEq x2 (.int 0))) fun b9 => .ret (.bool b9)) fun x10 => .ret x10
   else
    bd (bd (bd (bd (oM (opIx p_fact (.int 2))) fun x11 => oM (opMod x2 x11)) fun x12 => oM (opEq x12 (.int 0))) fun b13 => .ret (.bool b13)) fun x14 => .ret x14
def mf_fact_holds : List D → M D := fun l => match l with
  | [p_fact, p_crowd, p_counts] => c_fact_holds p_fact p_crowd p_counts
  | _ => .bad
set_option maxHeartbeats 4000000 in
theorem fn_fact_holds {f : Addr} {fd : FuncData} (Fn : Fun K "fact_holds" "fact_holds" s_fact_holds f fd) (B : BN mg) (Kn : KN mg) (C_value_at : CF P w K mg base "value_at" 1 (spD K 3 mf_value_at)) : FnOk P w K mg base CX0 2 f fd ["fact", "crowd", "counts"] (spD K 3 mf_fact_holds) :=
  fn_okD (k := 1) Fn sc_fact_holds (fun cdv A outer s H E hr =>
  (ass_cons (as_to (sh := [.f, .dead, .dead, .f]) (as_set (i := 3) sc_fact_holds.nd rfl (by first | exact Or.inl rfl | exact Or.inr rfl) (ae_pu (ap_fn C_value_at (hr.mono (by decide)) rfl (aa_cons (ap_ix ix_seq ok_ix (ao (ap_var (i := 0) rfl (by first | exact Or.inl rfl | exact Or.inr (Or.inl rfl) | exact Or.inr (Or.inr rfl)))) (ao ap_int) (fun _ _ => rfl)) (aa_cons (ap_var (i := 1) rfl (by first | exact Or.inl rfl | exact Or.inr (Or.inl rfl) | exact Or.inr (Or.inr rfl))) (aa_cons (ap_var (i := 2) rfl (by first | exact Or.inl rfl | exact Or.inr (Or.inl rfl) | exact Or.inr (Or.inr rfl))) aa_nil (star_ok rfl)) (star_ok rfl)) (star_ok rfl)) rfl (by decide) rfl rfl)) rfl (.inl rfl)))
   (ass_cons (as_if (aet_pu (at_cmp (opr_eq (room_u hr)) ok_D2 (ao (ap_ix ix_seq ok_ix (ao (ap_var (i := 0) rfl (by first | exact Or.inl rfl | exact Or.inr (Or.inl rfl) | exact Or.inr (Or.inr rfl)))) (ao ap_int) (fun _ _ => rfl))) (ao ap_str) rfl))
    (ass_one (as_ret (ae_pu (ap_b (ab_cmp op_ge ok_ge (ao (ap_var (i := 3) rfl (by first | exact Or.inl rfl | exact Or.inr (Or.inl rfl) | exact Or.inr (Or.inr rfl)))) (ao ap_int) rfl)))))
    ass_nil)
   (ass_cons (as_if (aet_pu (at_cmp (opr_eq (room_u hr)) ok_D2 (ao (ap_ix ix_seq ok_ix (ao (ap_var (i := 0) rfl (by first | exact Or.inl rfl | exact Or.inr (Or.inl rfl) | exact Or.inr (Or.inr rfl)))) (ao ap_int) (fun _ _ => rfl))) (ao ap_str) rfl))
    (ass_one (as_ret (ae_pu (ap_b (ab_cmp (opr_eq (room_u hr)) ok_D2 (ao (ap_var (i := 3) rfl (by first | exact Or.inl rfl | exact Or.inr (Or.inl rfl) | exact Or.inr (Or.inr rfl)))) (ao ap_int) rfl)))))
    ass_nil)
   (ass_one (as_ret (ae_pu (ap_b (ab_cmp (opr_eq (room_u hr)) ok_D2 (ao (ap_bin op_mod ok_mod (ao (ap_var (i := 3) rfl (by first | exact Or.inl rfl | exact Or.inr (Or.inl rfl) | exact Or.inr (Or.inr rfl)))) (ao (ap_ix ix_seq ok_ix (ao (ap_var (i := 0) rfl (by first | exact Or.inl rfl | exact Or.inr (Or.inl rfl) | exact Or.inr (Or.inr rfl)))) (ao ap_int) (fun _ _ => rfl))))) (ao ap_int) rfl)))))))))
  (fun ds hl => match ds, hl with | [p_fact, p_crowd, p_counts], _ => by kernel_rfl)
theorem ok_fact_holds {f : Addr} {fd : FuncData} (Fn : Fun K "fact_holds" "fact_holds" s_fact_holds f fd) (hmg : mg "fact_holds" = some (.ref f)) (B : BN mg) (Kn : KN mg) (C_value_at : CF P w K mg base "value_at" 1 (spD K 3 mf_value_at)) : CF P w K mg base "fact_holds" 2 (spD K 3 mf_fact_holds) :=
  ⟨f, fd, ["fact", "crowd", "counts"], fn_fact_holds Fn B Kn C_value_at, hmg, Fn.kp, (Fn.binds fun _ _ _ _ _ _ us hl => match us, hl with | [_, _, _], _ => rfl)⟩
abbrev s_parts_of : Stmt := top 30
abbrev N_parts_of : List Str := ["word"]
theorem sc_parts_of : FnScope N_parts_of ["word"] (defScope s_parts_of) := ⟨rfl, rfl, rfl, by decide +kernel, rfl, by decide +kernel, by decide +kernel⟩
def c_parts_of (p_word : D) : M D :=
  bd (oM (opIn p_word (.tuple [(.str "both"), (.str "either")]))) fun b1 => if b1 then
    .ret (.int 2)
   else
    bd (bd (oM (opEq p_word (.str "not"))) fun b2 => if b2 then .ret (.int 1) else .ret (.int 0)) fun x3 => .ret x3
def mf_parts_of : List D → M D := fun l => match l with
  | [p_word] => c_parts_of p_word
  | _ => .bad
set_option maxHeartbeats 4000000 in
theorem fn_parts_of {f : Addr} {fd : FuncData} (Fn : Fun K "parts_of" "parts_of" s_parts_of f fd) (B : BN mg) (Kn : KN mg) : FnOk P w K mg base CX0 1 f fd ["word"] (spD K 1 mf_parts_of) :=
  fn_okD (k := 0) Fn sc_parts_of (fun cdv A outer s H E hr =>
  (ass_cons (as_if (aet_pu (at_cmp (opr_in (room_u hr)) ok_D2 (ao (ap_var (i := 0) rfl (by first | exact Or.inl rfl | exact Or.inr (Or.inl rfl) | exact Or.inr (Or.inr rfl)))) (ao (ap_tup (aa_cons ap_str (aa_cons ap_str aa_nil (star_ok rfl)) (star_ok rfl)) (by decide +kernel))) rfl))
    (ass_one (as_ret (ae_pu ap_int)))
    ass_nil)
   (ass_one (as_ret (ae_pu (ap_if (at_cmp (opr_eq (room_u hr)) ok_D2 (ao (ap_var (i := 0) rfl (by first | exact Or.inl rfl | exact Or.inr (Or.inl rfl) | exact Or.inr (Or.inr rfl)))) (ao ap_str) rfl) ap_int ap_int))))))
  (fun ds hl => match ds, hl with | [p_word], _ => by kernel_rfl)
theorem ok_parts_of {f : Addr} {fd : FuncData} (Fn : Fun K "parts_of" "parts_of" s_parts_of f fd) (hmg : mg "parts_of" = some (.ref f)) (B : BN mg) (Kn : KN mg) : CF P w K mg base "parts_of" 1 (spD K 1 mf_parts_of) :=
  ⟨f, fd, ["word"], fn_parts_of Fn B Kn, hmg, Fn.kp, (Fn.binds fun _ _ _ _ _ _ us hl => match us, hl with | [_], _ => rfl)⟩
abbrev s_are_some : Stmt := top 32
abbrev N_are_some : List Str := ["sorts", "thing"]
theorem sc_are_some : FnScope N_are_some ["sorts", "thing"] (defScope s_are_some) := ⟨rfl, rfl, rfl, by decide +kernel, rfl, by decide +kernel, by decide +kernel⟩
def c_are_some (p_sorts : D) (p_thing : D) : M D :=
  bd (bd (bd (bd (c_are_sorts p_sorts p_thing) fun x1 => asB x1) fun b3 => if b3 then bd (oM (fLen [p_thing])) fun x2 => oM (opGt x2 (.int 0)) else .ret false) fun b4 => .ret (.bool b4)) fun x5 => .ret x5
def mf_are_some : List D → M D := fun l => match l with
  | [p_sorts, p_thing] => c_are_some p_sorts p_thing
  | _ => .bad
set_option maxHeartbeats 4000000 in
theorem fn_are_some {f : Addr} {fd : FuncData} (Fn : Fun K "are_some" "are_some" s_are_some f fd) (B : BN mg) (Kn : KN mg) (C_are_sorts : CF P w K mg base "are_sorts" 3 (spD K 2 mf_are_sorts)) : FnOk P w K mg base CX0 4 f fd ["sorts", "thing"] (spD K 2 mf_are_some) :=
  fn_okD (k := 3) Fn sc_are_some (fun cdv A outer s H E hr =>
  (ass_one (as_ret (ae_pu (ap_b (ab_and (ab_as (ap_fn C_are_sorts (hr.mono (by decide)) rfl (aa_cons (ap_var (i := 0) rfl (by first | exact Or.inl rfl | exact Or.inr (Or.inl rfl) | exact Or.inr (Or.inr rfl))) (aa_cons (ap_var (i := 1) rfl (by first | exact Or.inl rfl | exact Or.inr (Or.inl rfl) | exact Or.inr (Or.inr rfl))) aa_nil (star_ok rfl)) (star_ok rfl)) rfl (by decide) rfl rfl)) (ab_one (ab_cmp op_gt ok_gt (ao (ap_callB call_lenA ok_len rfl B.len PySem.boot_len (aao_cons (ao (ap_var (i := 1) rfl (by first | exact Or.inl rfl | exact Or.inr (Or.inl rfl) | exact Or.inr (Or.inr rfl)))) aao_nil (star_ok rfl)) (by decide) (by decide) rfl rfl)) (ao ap_int) rfl))))))))
  (fun ds hl => match ds, hl with | [p_sorts, p_thing], _ => by kernel_rfl)
theorem ok_are_some {f : Addr} {fd : FuncData} (Fn : Fun K "are_some" "are_some" s_are_some f fd) (hmg : mg "are_some" = some (.ref f)) (B : BN mg) (Kn : KN mg) (C_are_sorts : CF P w K mg base "are_sorts" 3 (spD K 2 mf_are_sorts)) : CF P w K mg base "are_some" 4 (spD K 2 mf_are_some) :=
  ⟨f, fd, ["sorts", "thing"], fn_are_some Fn B Kn C_are_sorts, hmg, Fn.kp, (Fn.binds fun _ _ _ _ _ _ us hl => match us, hl with | [_, _], _ => rfl)⟩
abbrev s_are_apart : Stmt := top 33
abbrev N_are_apart : List Str := ["sorts", "these", "those"]
theorem sc_are_apart : FnScope N_are_apart ["sorts", "these", "those"] (defScope s_are_apart) := ⟨rfl, rfl, rfl, by decide +kernel, rfl, by decide +kernel, by decide +kernel⟩
abbrev N_are_apart_0 : List Str := ["sorts", "these", "those", "sort"]
theorem nd_N_are_apart_0 : N_are_apart_0.Nodup := by decide +kernel
def c_are_apart (p_sorts : D) (p_these : D) (p_those : D) : M D :=
  bd (bd (bd (bd (c_are_sorts p_sorts p_these) fun x1 => oM (truD x1)) fun b2 => .ret (!b2)) fun b5 => if b5 then .ret true else bd (bd (c_are_sorts p_sorts p_those) fun x3 => oM (truD x3)) fun b4 => .ret (!b4)) fun b6 => if b6 then
    .ret (.bool false)
   else
    bd (bd (bd (bd (bd (bd (oM (seqD p_those)) fun l10 => bd (compC (fun d7 => bd (bd (oM (opIn d7 p_these)) fun b8 => .ret (.bool b8)) fun x9 => .ret (some x9)) l10) fitM) fun l11 => .ret (PyData.list l11)) fun x12 => oM (fAny [x12])) fun b13 => .ret (!b13)) fun b14 => .ret (.bool b14)) fun x15 => .ret x15
def mf_are_apart : List D → M D := fun l => match l with
  | [p_sorts, p_these, p_those] => c_are_apart p_sorts p_these p_those
  | _ => .bad
set_option maxHeartbeats 4000000 in
theorem fn_are_apart {f : Addr} {fd : FuncData} (Fn : Fun K "are_apart" "are_apart" s_are_apart f fd) (B : BN mg) (Kn : KN mg) (C_are_sorts : CF P w K mg base "are_sorts" 3 (spD K 2 mf_are_sorts)) : FnOk P w K mg base CX0 4 f fd ["sorts", "these", "those"] (spD K 3 mf_are_apart) :=
  fn_okD (k := 3) Fn sc_are_apart (fun cdv A outer s H E hr =>
  (ass_cons (as_if (aet_pu (at_aw (aw_or (at_not (at_tru (ao (ap_fn C_are_sorts (hr.mono (by decide)) rfl (aa_cons (ap_var (i := 0) rfl (by first | exact Or.inl rfl | exact Or.inr (Or.inl rfl) | exact Or.inr (Or.inr rfl))) (aa_cons (ap_var (i := 1) rfl (by first | exact Or.inl rfl | exact Or.inr (Or.inl rfl) | exact Or.inr (Or.inr rfl))) aa_nil (star_ok rfl)) (star_ok rfl)) rfl (by decide) rfl rfl)) (fun _ => rfl))) (aw_or1 (at_not (at_tru (ao (ap_fn C_are_sorts (hr.mono (by decide)) rfl (aa_cons (ap_var (i := 0) rfl (by first | exact Or.inl rfl | exact Or.inr (Or.inl rfl) | exact Or.inr (Or.inr rfl))) (aa_cons (ap_var (i := 2) rfl (by first | exact Or.inl rfl | exact Or.inr (Or.inl rfl) | exact Or.inr (Or.inr rfl))) aa_nil (star_ok rfl)) (star_ok rfl)) rfl (by decide) rfl rfl)) (fun _ => rfl)))))))
    (ass_one (as_ret (ae_pu ap_bl)))
    ass_nil)
   (ass_one (as_ret (ae_pu (ap_b (ab_not (ab_callB (call_any rfl) ok_any rfl B.any (by decide +kernel) (aao_cons (ao (ap_z (al_comp (N' := N_are_apart_0) (k := 1) rfl (compOk_of (N := N_are_apart) (sc := (defScope s_are_apart)) (by decide +kernel) rfl rfl) (ai_seq (ap_var (i := 2) rfl (by first | exact Or.inl rfl | exact Or.inr (Or.inl rfl) | exact Or.inr (Or.inr rfl)))) (fun cl s' H' fp C' => (ag_name (i := 3) (show 3 ≤ 3 by decide) nd_N_are_apart_0 rfl (by first | exact Or.inl rfl | exact Or.inr rfl) (.inr rfl))) (fun cl s' H' fp C' => ats_nil) (fun cl s' H' fp C' => (ap_b (ab_cmp (opr_in (room_u hr)) ok_D2 (ao (ap_var (i := 3) rfl (by first | exact Or.inl rfl | exact Or.inr (Or.inl rfl) | exact Or.inr (Or.inr rfl)))) (ao (ap_var (i := 1) rfl (by first | exact Or.inl rfl | exact Or.inr (Or.inl rfl) | exact Or.inr (Or.inr rfl)))) rfl))) (fun _ => rfl)))) aao_nil (star_ok rfl)) (by decide) (by decide) rfl rfl))))))))
  (fun ds hl => match ds, hl with | [p_sorts, p_these, p_those], _ => by kernel_rfl)
theorem ok_are_apart {f : Addr} {fd : FuncData} (Fn : Fun K "are_apart" "are_apart" s_are_apart f fd) (hmg : mg "are_apart" = some (.ref f)) (B : BN mg) (Kn : KN mg) (C_are_sorts : CF P w K mg base "are_sorts" 3 (spD K 2 mf_are_sorts)) : CF P w K mg base "are_apart" 4 (spD K 3 mf_are_apart) :=
  ⟨f, fd, ["sorts", "these", "those"], fn_are_apart Fn B Kn C_are_sorts, hmg, Fn.kp, (Fn.binds fun _ _ _ _ _ _ us hl => match us, hl with | [_, _, _], _ => rfl)⟩
abbrev s_is_rest : Stmt := top 34
abbrev N_is_rest : List Str := ["by", "rest"]
theorem sc_is_rest : FnScope N_is_rest ["by", "rest"] (defScope s_is_rest) := ⟨rfl, rfl, rfl, by decide +kernel, rfl, by decide +kernel, by decide +kernel⟩
def c_is_rest (p_by : D) (p_rest : D) : M D :=
  bd (bd (bd (bd (c_is_within p_by (.int 2) (.int 9)) fun x1 => asB x1) fun b4 => if b4 then bd (bd (oM (opSub p_by (.int 1))) fun x2 => c_is_within p_rest (.int 0) x2) fun x3 => asB x3 else .ret false) fun b5 => .ret (.bool b5)) fun x6 => .ret x6
def mf_is_rest : List D → M D := fun l => match l with
  | [p_by, p_rest] => c_is_rest p_by p_rest
  | _ => .bad
set_option maxHeartbeats 4000000 in
theorem fn_is_rest {f : Addr} {fd : FuncData} (Fn : Fun K "is_rest" "is_rest" s_is_rest f fd) (B : BN mg) (Kn : KN mg) (C_is_within : CF P w K mg base "is_within" 2 (spD K 3 mf_is_within)) : FnOk P w K mg base CX0 3 f fd ["by", "rest"] (spD K 2 mf_is_rest) :=
  fn_okD (k := 2) Fn sc_is_rest (fun cdv A outer s H E hr =>
  (ass_one (as_ret (ae_pu (ap_b (ab_and (ab_as (ap_fn C_is_within (hr.mono (by decide)) rfl (aa_cons (ap_var (i := 0) rfl (by first | exact Or.inl rfl | exact Or.inr (Or.inl rfl) | exact Or.inr (Or.inr rfl))) (aa_cons ap_int (aa_cons (ap_glob rfl Kn.MOST_REST.choose_spec.1 Kn.MOST_REST.choose_spec.2 (fun _ => .int _) (by decide)) aa_nil (star_ok rfl)) (star_ok rfl)) (star_ok rfl)) rfl (by decide) rfl rfl)) (ab_one (ab_as (ap_fn C_is_within (hr.mono (by decide)) rfl (aa_cons (ap_var (i := 1) rfl (by first | exact Or.inl rfl | exact Or.inr (Or.inl rfl) | exact Or.inr (Or.inr rfl))) (aa_cons ap_int (aa_cons (ap_bin op_sub ok_sub (ao (ap_var (i := 0) rfl (by first | exact Or.inl rfl | exact Or.inr (Or.inl rfl) | exact Or.inr (Or.inr rfl)))) (ao ap_int)) aa_nil (star_ok rfl)) (star_ok rfl)) (star_ok rfl)) rfl (by decide) rfl rfl)))))))))
  (fun ds hl => match ds, hl with | [p_by, p_rest], _ => by kernel_rfl)
theorem ok_is_rest {f : Addr} {fd : FuncData} (Fn : Fun K "is_rest" "is_rest" s_is_rest f fd) (hmg : mg "is_rest" = some (.ref f)) (B : BN mg) (Kn : KN mg) (C_is_within : CF P w K mg base "is_within" 2 (spD K 3 mf_is_within)) : CF P w K mg base "is_rest" 3 (spD K 2 mf_is_rest) :=
  ⟨f, fd, ["by", "rest"], fn_is_rest Fn B Kn C_is_within, hmg, Fn.kp, (Fn.binds fun _ _ _ _ _ _ us hl => match us, hl with | [_, _], _ => rfl)⟩
abbrev s_is_plain : Stmt := top 31
abbrev N_is_plain : List Str := ["sorts", "thing", "word"]
theorem sc_is_plain : FnScope N_is_plain ["sorts", "thing"] (defScope s_is_plain) := ⟨rfl, rfl, rfl, by decide +kernel, rfl, by decide +kernel, by decide +kernel⟩
def c_is_plain (p_sorts : D) (p_thing : D) : M D :=
  bd (oM (opIx p_thing (.int 0))) fun x1 => bd (oM (opEq x1 (.str "least"))) fun b2 => if b2 then
    bd (bd (bd (bd (oM (fLen [p_thing])) fun x3 => oM (opEq x3 (.int 3))) fun b9 => if b9 then bd (bd (bd (oM (opIx p_thing (.int 1))) fun x4 => c_are_some p_sorts x4) fun x5 => asB x5) fun b8 => if b8 then bd (bd (oM (opIx p_thing (.int 2))) fun x6 => c_is_within x6 (.int 1) (.int 9)) fun x7 => asB x7 else .ret false else .ret false) fun b10 => .ret (.bool b10)) fun x11 => .ret x11
   else
    bd (oM (opEq x1 (.str "more"))) fun b12 => if b12 then
    bd (bd (bd (bd (oM (fLen [p_thing])) fun x13 => oM (opEq x13 (.int 3))) fun b17 => if b17 then bd (bd (oM (opIx p_thing (.int 1))) fun x14 => bd (oM (opIx p_thing (.int 2))) fun x15 => c_are_apart p_sorts x14 x15) fun x16 => asB x16 else .ret false) fun b18 => .ret (.bool b18)) fun x19 => .ret x19
   else
    bd (oM (opEq x1 (.str "rest"))) fun b20 => if b20 then
    bd (bd (bd (bd (oM (fLen [p_thing])) fun x21 => oM (opEq x21 (.int 4))) fun b28 => if b28 then bd (bd (bd (oM (opIx p_thing (.int 1))) fun x22 => c_are_some p_sorts x22) fun x23 => asB x23) fun b27 => if b27 then bd (bd (oM (opIx p_thing (.int 2))) fun x24 => bd (oM (opIx p_thing (.int 3))) fun x25 => c_is_rest x24 x25) fun x26 => asB x26 else .ret false else .ret false) fun b29 => .ret (.bool b29)) fun x30 => .ret x30
   else
    .ret (.bool false)
def mf_is_plain : List D → M D := fun l => match l with
  | [p_sorts, p_thing] => c_is_plain p_sorts p_thing
  | _ => .bad
set_option maxHeartbeats 4000000 in
theorem fn_is_plain {f : Addr} {fd : FuncData} (Fn : Fun K "is_plain" "is_plain" s_is_plain f fd) (B : BN mg) (Kn : KN mg) (C_are_some : CF P w K mg base "are_some" 4 (spD K 2 mf_are_some)) (C_is_within : CF P w K mg base "is_within" 2 (spD K 3 mf_is_within)) (C_are_apart : CF P w K mg base "are_apart" 4 (spD K 3 mf_are_apart)) (C_is_rest : CF P w K mg base "is_rest" 3 (spD K 2 mf_is_rest)) : FnOk P w K mg base CX0 5 f fd ["sorts", "thing"] (spD K 2 mf_is_plain) :=
  fn_okD (k := 4) Fn sc_is_plain (fun cdv A outer s H E hr =>
  (ass_cons (as_to (sh := [.f, .f, .f]) (as_set (i := 2) sc_is_plain.nd rfl (by first | exact Or.inl rfl | exact Or.inr rfl) (ae_pu (ap_ix ix_seq ok_ix (ao (ap_var (i := 1) rfl (by first | exact Or.inl rfl | exact Or.inr (Or.inl rfl) | exact Or.inr (Or.inr rfl)))) (ao ap_int) (fun _ _ => rfl))) rfl (.inl rfl)))
   (ass_cons (as_if (aet_pu (at_cmp (opr_eq (room_u hr)) ok_D2 (ao (ap_var (i := 2) rfl (by first | exact Or.inl rfl | exact Or.inr (Or.inl rfl) | exact Or.inr (Or.inr rfl)))) (ao ap_str) rfl))
    (ass_one (as_ret (ae_pu (ap_b (ab_and (ab_cmp (opr_eq (room_u hr)) ok_D2 (ao (ap_callB call_lenA ok_len rfl B.len PySem.boot_len (aao_cons (ao (ap_var (i := 1) rfl (by first | exact Or.inl rfl | exact Or.inr (Or.inl rfl) | exact Or.inr (Or.inr rfl)))) aao_nil (star_ok rfl)) (by decide) (by decide) rfl rfl)) (ao ap_int) rfl) (ab_and (ab_as (ap_fn C_are_some (hr.mono (by decide)) rfl (aa_cons (ap_var (i := 0) rfl (by first | exact Or.inl rfl | exact Or.inr (Or.inl rfl) | exact Or.inr (Or.inr rfl))) (aa_cons (ap_ix ix_seq ok_ix (ao (ap_var (i := 1) rfl (by first | exact Or.inl rfl | exact Or.inr (Or.inl rfl) | exact Or.inr (Or.inr rfl)))) (ao ap_int) (fun _ _ => rfl)) aa_nil (star_ok rfl)) (star_ok rfl)) rfl (by decide) rfl rfl)) (ab_one (ab_as (ap_fn C_is_within (hr.mono (by decide)) rfl (aa_cons (ap_ix ix_seq ok_ix (ao (ap_var (i := 1) rfl (by first | exact Or.inl rfl | exact Or.inr (Or.inl rfl) | exact Or.inr (Or.inr rfl)))) (ao ap_int) (fun _ _ => rfl)) (aa_cons ap_int (aa_cons (ap_glob rfl Kn.MOST_LEAST.choose_spec.1 Kn.MOST_LEAST.choose_spec.2 (fun _ => .int _) (by decide)) aa_nil (star_ok rfl)) (star_ok rfl)) (star_ok rfl)) rfl (by decide) rfl rfl)))))))))
    ass_nil)
   (ass_cons (as_if (aet_pu (at_cmp (opr_eq (room_u hr)) ok_D2 (ao (ap_var (i := 2) rfl (by first | exact Or.inl rfl | exact Or.inr (Or.inl rfl) | exact Or.inr (Or.inr rfl)))) (ao ap_str) rfl))
    (ass_one (as_ret (ae_pu (ap_b (ab_and (ab_cmp (opr_eq (room_u hr)) ok_D2 (ao (ap_callB call_lenA ok_len rfl B.len PySem.boot_len (aao_cons (ao (ap_var (i := 1) rfl (by first | exact Or.inl rfl | exact Or.inr (Or.inl rfl) | exact Or.inr (Or.inr rfl)))) aao_nil (star_ok rfl)) (by decide) (by decide) rfl rfl)) (ao ap_int) rfl) (ab_one (ab_as (ap_fn C_are_apart (hr.mono (by decide)) rfl (aa_cons (ap_var (i := 0) rfl (by first | exact Or.inl rfl | exact Or.inr (Or.inl rfl) | exact Or.inr (Or.inr rfl))) (aa_cons (ap_ix ix_seq ok_ix (ao (ap_var (i := 1) rfl (by first | exact Or.inl rfl | exact Or.inr (Or.inl rfl) | exact Or.inr (Or.inr rfl)))) (ao ap_int) (fun _ _ => rfl)) (aa_cons (ap_ix ix_seq ok_ix (ao (ap_var (i := 1) rfl (by first | exact Or.inl rfl | exact Or.inr (Or.inl rfl) | exact Or.inr (Or.inr rfl)))) (ao ap_int) (fun _ _ => rfl)) aa_nil (star_ok rfl)) (star_ok rfl)) (star_ok rfl)) rfl (by decide) rfl rfl))))))))
    ass_nil)
   (ass_cons (as_if (aet_pu (at_cmp (opr_eq (room_u hr)) ok_D2 (ao (ap_var (i := 2) rfl (by first | exact Or.inl rfl | exact Or.inr (Or.inl rfl) | exact Or.inr (Or.inr rfl)))) (ao ap_str) rfl))
    (ass_one (as_ret (ae_pu (ap_b (ab_and (ab_cmp (opr_eq (room_u hr)) ok_D2 (ao (ap_callB call_lenA ok_len rfl B.len PySem.boot_len (aao_cons (ao (ap_var (i := 1) rfl (by first | exact Or.inl rfl | exact Or.inr (Or.inl rfl) | exact Or.inr (Or.inr rfl)))) aao_nil (star_ok rfl)) (by decide) (by decide) rfl rfl)) (ao ap_int) rfl) (ab_and (ab_as (ap_fn C_are_some (hr.mono (by decide)) rfl (aa_cons (ap_var (i := 0) rfl (by first | exact Or.inl rfl | exact Or.inr (Or.inl rfl) | exact Or.inr (Or.inr rfl))) (aa_cons (ap_ix ix_seq ok_ix (ao (ap_var (i := 1) rfl (by first | exact Or.inl rfl | exact Or.inr (Or.inl rfl) | exact Or.inr (Or.inr rfl)))) (ao ap_int) (fun _ _ => rfl)) aa_nil (star_ok rfl)) (star_ok rfl)) rfl (by decide) rfl rfl)) (ab_one (ab_as (ap_fn C_is_rest (hr.mono (by decide)) rfl (aa_cons (ap_ix ix_seq ok_ix (ao (ap_var (i := 1) rfl (by first | exact Or.inl rfl | exact Or.inr (Or.inl rfl) | exact Or.inr (Or.inr rfl)))) (ao ap_int) (fun _ _ => rfl)) (aa_cons (ap_ix ix_seq ok_ix (ao (ap_var (i := 1) rfl (by first | exact Or.inl rfl | exact Or.inr (Or.inl rfl) | exact Or.inr (Or.inr rfl)))) (ao ap_int) (fun _ _ => rfl)) aa_nil (star_ok rfl)) (star_ok rfl)) rfl (by decide) rfl rfl)))))))))
    ass_nil)
   (ass_one (as_ret (ae_pu ap_bl))))))))
  (fun ds hl => match ds, hl with | [p_sorts, p_thing], _ => by kernel_rfl)
theorem ok_is_plain {f : Addr} {fd : FuncData} (Fn : Fun K "is_plain" "is_plain" s_is_plain f fd) (hmg : mg "is_plain" = some (.ref f)) (B : BN mg) (Kn : KN mg) (C_are_some : CF P w K mg base "are_some" 4 (spD K 2 mf_are_some)) (C_is_within : CF P w K mg base "is_within" 2 (spD K 3 mf_is_within)) (C_are_apart : CF P w K mg base "are_apart" 4 (spD K 3 mf_are_apart)) (C_is_rest : CF P w K mg base "is_rest" 3 (spD K 2 mf_is_rest)) : CF P w K mg base "is_plain" 5 (spD K 2 mf_is_plain) :=
  ⟨f, fd, ["sorts", "thing"], fn_is_plain Fn B Kn C_are_some C_is_within C_are_apart C_is_rest, hmg, Fn.kp, (Fn.binds fun _ _ _ _ _ _ us hl => match us, hl with | [_, _], _ => rfl)⟩
abbrev s_questions_in : Stmt := top 29
abbrev N_questions_in : List Str := ["sorts", "thing", "within", "parts", "inner"]
theorem sc_questions_in : FnScope N_questions_in ["sorts", "thing", "within"] (defScope s_questions_in) := ⟨rfl, rfl, rfl, by decide +kernel, rfl, by decide +kernel, by decide +kernel⟩
abbrev N_questions_in_0 : List Str := ["sorts", "thing", "within", "parts", "inner", "part"]
theorem nd_N_questions_in_0 : N_questions_in_0.Nodup := by decide +kernel
def c_questions_in_b (self : D → D → D → M D) (p_sorts : D) (p_thing : D) (p_within : D) : M D :=
  bd (bd (oM (opEq p_within (.int 4))) fun b2 => if b2 then .ret true else if (!(isT "tuple" p_thing)) then .ret true else bd (oM (fLen [p_thing])) fun x1 => oM (opEq x1 (.int 0))) fun b3 => if b3 then
    .ret (.int 0)
   else
    bd (bd (oM (opIx p_thing (.int 0))) fun x4 => c_parts_of x4) fun x5 => bd (oM (opEq x5 (.int 0))) fun b6 => if b6 then
    bd (bd (bd (c_is_plain p_sorts p_thing) fun x7 => oM (truD x7)) fun b8 => if b8 then .ret (.int 1) else .ret (.int 0)) fun x9 => .ret x9
   else
    bd (bd (oM (fLen [p_thing])) fun x10 => bd (oM (opAdd x5 (.int 1))) fun x11 => oM (opNe x10 x11)) fun b12 => if b12 then
    .ret (.int 0)
   else
    bd (bd (bd (bd (bd (asI (.int 1)) fun lo13 => oM (fCut p_thing lo13 none)) fun x14 => oM (seqD x14)) fun l18 => bd (compC (fun d15 => bd (bd (oM (opAdd p_within (.int 1))) fun x16 => self p_sorts d15 x16) fun x17 => .ret (some x17)) l18) fitM) fun l19 => .ret (PyData.list l19)) fun x20 => bd (bd (oM (opIn (.int 0) x20)) fun b22 => if b22 then .ret (.int 0) else bd (oM (fSum [x20])) fun x21 => oM (opAdd (.int 1) x21)) fun x23 => .ret x23
def c_questions_in : Nat → D → D → D → M D
  | 0 => fun _ _ _ => .bad
  | i + 1 => c_questions_in_b (c_questions_in i)
def mf_questions_in (i : Nat) : List D → M D := fun l => match l with
  | [p_sorts, p_thing, p_within] => c_questions_in i p_sorts p_thing p_within
  | _ => .bad
set_option maxHeartbeats 4000000 in
theorem fn_questions_in {f : Addr} {fd : FuncData} (Fn : Fun K "questions_in" "questions_in" s_questions_in f fd) (B : BN mg) (Kn : KN mg) (C_parts_of : CF P w K mg base "parts_of" 1 (spD K 1 mf_parts_of)) (C_is_plain : CF P w K mg base "is_plain" 5 (spD K 2 mf_is_plain)) (i : Nat) (Cself : CF P w K mg base "questions_in" (6 + i) (spD K 3 (mf_questions_in i))) : FnOk P w K mg base CX0 (6 + i + 1) f fd ["sorts", "thing", "within"] (spD K 3 (mf_questions_in (i + 1))) :=
  fn_okD (k := 6 + i) Fn sc_questions_in (fun cdv A outer s H E hr =>
  (ass_cons (as_if (aet_pu (at_aw (aw_or (at_cmp (opr_eq (room_u hr)) ok_D2 (ao (ap_var (i := 2) rfl (by first | exact Or.inl rfl | exact Or.inr (Or.inl rfl) | exact Or.inr (Or.inr rfl)))) (ao (ap_glob rfl Kn.MOST_WITHIN.choose_spec.1 Kn.MOST_WITHIN.choose_spec.2 (fun _ => .int _) (by decide))) rfl) (aw_or (at_not (at_b (ab_is (T := "tuple") (by decide) rfl B.isinstance rfl B.tuple (by decide +kernel) (ao (ap_var (i := 1) rfl (by first | exact Or.inl rfl | exact Or.inr (Or.inl rfl) | exact Or.inr (Or.inr rfl)))) rfl rfl rfl) (fun _ => rfl))) (aw_or1 (at_cmp (opr_eq (room_u hr)) ok_D2 (ao (ap_callB call_lenA ok_len rfl B.len PySem.boot_len (aao_cons (ao (ap_var (i := 1) rfl (by first | exact Or.inl rfl | exact Or.inr (Or.inl rfl) | exact Or.inr (Or.inr rfl)))) aao_nil (star_ok rfl)) (by decide) (by decide) rfl rfl)) (ao ap_int) rfl))))))
    (ass_one (as_ret (ae_pu ap_int)))
    ass_nil)
   (ass_cons (as_to (sh := [.f, .f, .f, .f, .dead]) (as_set (i := 3) sc_questions_in.nd rfl (by first | exact Or.inl rfl | exact Or.inr rfl) (ae_pu (ap_fn C_parts_of (hr.mono (by omega)) rfl (aa_cons (ap_ix ix_seq ok_ix (ao (ap_var (i := 1) rfl (by first | exact Or.inl rfl | exact Or.inr (Or.inl rfl) | exact Or.inr (Or.inr rfl)))) (ao ap_int) (fun _ _ => rfl)) aa_nil (star_ok rfl)) rfl (by decide) rfl rfl)) rfl (.inl rfl)))
   (ass_cons (as_if (aet_pu (at_cmp (opr_eq (room_u hr)) ok_D2 (ao (ap_var (i := 3) rfl (by first | exact Or.inl rfl | exact Or.inr (Or.inl rfl) | exact Or.inr (Or.inr rfl)))) (ao ap_int) rfl))
    (ass_one (as_ret (ae_pu (ap_if (at_tru (ao (ap_fn C_is_plain (hr.mono (by omega)) rfl (aa_cons (ap_var (i := 0) rfl (by first | exact Or.inl rfl | exact Or.inr (Or.inl rfl) | exact Or.inr (Or.inr rfl))) (aa_cons (ap_var (i := 1) rfl (by first | exact Or.inl rfl | exact Or.inr (Or.inl rfl) | exact Or.inr (Or.inr rfl))) aa_nil (star_ok rfl)) (star_ok rfl)) rfl (by decide) rfl rfl)) (fun _ => rfl)) ap_int ap_int))))
    ass_nil)
   (ass_cons (as_if (aet_pu (at_cmp (opr_ne (room_u hr)) ok_D2 (ao (ap_callB call_lenA ok_len rfl B.len PySem.boot_len (aao_cons (ao (ap_var (i := 1) rfl (by first | exact Or.inl rfl | exact Or.inr (Or.inl rfl) | exact Or.inr (Or.inr rfl)))) aao_nil (star_ok rfl)) (by decide) (by decide) rfl rfl)) (ao (ap_bin op_addA ok_add (ao (ap_var (i := 3) rfl (by first | exact Or.inl rfl | exact Or.inr (Or.inl rfl) | exact Or.inr (Or.inr rfl)))) (ao ap_int))) rfl))
    (ass_one (as_ret (ae_pu ap_int)))
    ass_nil)
   (ass_cons (as_to (sh := [.dead, .dead, .dead, .dead, .f]) (as_setComp (i := 4) sc_questions_in.nd rfl (by first | exact Or.inl rfl | exact Or.inr rfl) (.inl rfl) (N' := N_questions_in_0) (k := 1) rfl (compOk_of (N := N_questions_in) (sc := (defScope s_questions_in)) (by decide +kernel) rfl rfl) (ai_seq (ap_slice (ao (ap_var (i := 1) rfl (by first | exact Or.inl rfl | exact Or.inr (Or.inl rfl) | exact Or.inr (Or.inr rfl)))) (apo_some ap_int) apo_none)) (fun cl s' H' fp C' => (ag_name (i := 5) (show 5 ≤ 5 by decide) nd_N_questions_in_0 rfl (by first | exact Or.inl rfl | exact Or.inr rfl) (.inr rfl))) (fun cl s' H' fp C' => ats_nil) (fun cl s' H' fp C' => (ap_fn Cself (hr.mono (by omega)) rfl (aa_cons (ap_var (i := 0) rfl (by first | exact Or.inl rfl | exact Or.inr (Or.inl rfl) | exact Or.inr (Or.inr rfl))) (aa_cons (ap_var (i := 5) rfl (by first | exact Or.inl rfl | exact Or.inr (Or.inl rfl) | exact Or.inr (Or.inr rfl))) (aa_cons (ap_bin op_addA ok_add (ao (ap_var (i := 2) rfl (by first | exact Or.inl rfl | exact Or.inr (Or.inl rfl) | exact Or.inr (Or.inr rfl)))) (ao ap_int)) aa_nil (star_ok rfl)) (star_ok rfl)) (star_ok rfl)) rfl (by decide) rfl rfl)) rfl (fun _ => rfl)))
   (ass_one (as_ret (ae_pu (ap_if (at_cmp (opr_in (room_u hr)) ok_D2 (ao ap_int) (ao (ap_var (i := 4) rfl (by first | exact Or.inl rfl | exact Or.inr (Or.inl rfl) | exact Or.inr (Or.inr rfl)))) rfl) ap_int (ap_bin op_addA ok_add (ao ap_int) (ao (ap_callB (call_sumL rfl) ok_sum rfl B.sum (by decide +kernel) (aao_cons (ao (ap_var (i := 4) rfl (by first | exact Or.inl rfl | exact Or.inr (Or.inl rfl) | exact Or.inr (Or.inr rfl)))) aao_nil (star_ok rfl)) (by decide) (by decide) rfl rfl)))))))))))))
  (fun ds hl => match ds, hl with | [p_sorts, p_thing, p_within], _ => by kernel_rfl)
theorem ok_questions_in {f : Addr} {fd : FuncData} (Fn : Fun K "questions_in" "questions_in" s_questions_in f fd) (hmg : mg "questions_in" = some (.ref f)) (B : BN mg) (Kn : KN mg) (C_parts_of : CF P w K mg base "parts_of" 1 (spD K 1 mf_parts_of)) (C_is_plain : CF P w K mg base "is_plain" 5 (spD K 2 mf_is_plain)) (i : Nat) : CF P w K mg base "questions_in" (6 + i) (spD K 3 (mf_questions_in i)) := by
  induction i with
  | zero =>
    have e : mf_questions_in 0 = fun _ => .bad := by
      funext l; unfold mf_questions_in; split <;> rfl
    rw [e]
    exact CF.zero (ps := ["sorts", "thing", "within"]) _ _ hmg Fn.kp (Fn.binds fun _ _ _ _ _ _ us hl => match us, hl with | [_, _, _], _ => rfl)
  | succ i ih => exact ⟨f, fd, ["sorts", "thing", "within"], fn_questions_in Fn B Kn C_parts_of C_is_plain i ih, hmg, Fn.kp, (Fn.binds fun _ _ _ _ _ _ us hl => match us, hl with | [_, _, _], _ => rfl)⟩
abbrev s_is_question : Stmt := top 28
abbrev N_is_question : List Str := ["sorts", "thing"]
theorem sc_is_question : FnScope N_is_question ["sorts", "thing"] (defScope s_is_question) := ⟨rfl, rfl, rfl, by decide +kernel, rfl, by decide +kernel, by decide +kernel⟩
def c_is_question (p_sorts : D) (p_thing : D) : M D :=
  bd (bd (bd (c_questions_in 6 p_sorts p_thing (.int 0)) fun x1 => bd (oM (opLe (.int 1) x1)) fun b2 => if b2 then oM (opLe x1 (.int 7)) else .ret false) fun b3 => .ret (.bool b3)) fun x4 => .ret x4
def mf_is_question : List D → M D := fun l => match l with
  | [p_sorts, p_thing] => c_is_question p_sorts p_thing
  | _ => .bad
set_option maxHeartbeats 4000000 in
theorem fn_is_question {f : Addr} {fd : FuncData} (Fn : Fun K "is_question" "is_question" s_is_question f fd) (B : BN mg) (Kn : KN mg) (C_questions_in : CF P w K mg base "questions_in" 12 (spD K 3 (mf_questions_in 6))) : FnOk P w K mg base CX0 13 f fd ["sorts", "thing"] (spD K 2 mf_is_question) :=
  fn_okD (k := 12) Fn sc_is_question (fun cdv A outer s H E hr =>
  (ass_one (as_ret (ae_pu (ap_b (ab_chain op_le op_le ok_le ok_le (ao ap_int) (ao (ap_fn C_questions_in (hr.mono (by decide)) rfl (aa_cons (ap_var (i := 0) rfl (by first | exact Or.inl rfl | exact Or.inr (Or.inl rfl) | exact Or.inr (Or.inr rfl))) (aa_cons (ap_var (i := 1) rfl (by first | exact Or.inl rfl | exact Or.inr (Or.inl rfl) | exact Or.inr (Or.inr rfl))) (aa_cons ap_int aa_nil (star_ok rfl)) (star_ok rfl)) (star_ok rfl)) rfl (by decide) rfl rfl)) (ao (ap_glob rfl Kn.MOST_QUESTIONS.choose_spec.1 Kn.MOST_QUESTIONS.choose_spec.2 (fun _ => .int _) (by decide))) (by with_unfolding_all rfl)))))))
  (fun ds hl => match ds, hl with | [p_sorts, p_thing], _ => by kernel_rfl)
theorem ok_is_question {f : Addr} {fd : FuncData} (Fn : Fun K "is_question" "is_question" s_is_question f fd) (hmg : mg "is_question" = some (.ref f)) (B : BN mg) (Kn : KN mg) (C_questions_in : CF P w K mg base "questions_in" 12 (spD K 3 (mf_questions_in 6))) : CF P w K mg base "is_question" 13 (spD K 2 mf_is_question) :=
  ⟨f, fd, ["sorts", "thing"], fn_is_question Fn B Kn C_questions_in, hmg, Fn.kp, (Fn.binds fun _ _ _ _ _ _ us hl => match us, hl with | [_, _], _ => rfl)⟩
abbrev s_hands_of : Stmt := top 36
abbrev N_hands_of : List Str := ["some", "counts"]
theorem sc_hands_of : FnScope N_hands_of ["some", "counts"] (defScope s_hands_of) := ⟨rfl, rfl, rfl, by decide +kernel, rfl, by decide +kernel, by decide +kernel⟩
abbrev N_hands_of_0 : List Str := ["some", "counts", "sort"]
theorem nd_N_hands_of_0 : N_hands_of_0.Nodup := by decide +kernel
def c_hands_of (p_some : D) (p_counts : D) : M D :=
  bd (bd (bd (bd (oM (seqD p_some)) fun l3 => bd (compC (fun d1 => bd (oM (opIx p_counts d1)) fun x2 => .ret (some x2)) l3) fitM) fun l4 => .ret (PyData.list l4)) fun x5 => oM (fSum [x5])) fun x6 => .ret x6
def mf_hands_of : List D → M D := fun l => match l with
  | [p_some, p_counts] => c_hands_of p_some p_counts
  | _ => .bad
set_option maxHeartbeats 4000000 in
theorem fn_hands_of {f : Addr} {fd : FuncData} (Fn : Fun K "hands_of" "hands_of" s_hands_of f fd) (B : BN mg) (Kn : KN mg) : FnOk P w K mg base CX0 1 f fd ["some", "counts"] (spD K 2 mf_hands_of) :=
  fn_okD (k := 0) Fn sc_hands_of (fun cdv A outer s H E hr =>
  (ass_one (as_ret (ae_pu (ap_callB (call_sumL rfl) ok_sum rfl B.sum (by decide +kernel) (aao_cons (ao (ap_z (al_comp (N' := N_hands_of_0) (k := 1) rfl (compOk_of (N := N_hands_of) (sc := (defScope s_hands_of)) (by decide +kernel) rfl rfl) (ai_seq (ap_var (i := 0) rfl (by first | exact Or.inl rfl | exact Or.inr (Or.inl rfl) | exact Or.inr (Or.inr rfl)))) (fun cl s' H' fp C' => (ag_name (i := 2) (show 2 ≤ 2 by decide) nd_N_hands_of_0 rfl (by first | exact Or.inl rfl | exact Or.inr rfl) (.inr rfl))) (fun cl s' H' fp C' => ats_nil) (fun cl s' H' fp C' => (ap_ix ix_seq ok_ix (ao (ap_var (i := 1) rfl (by first | exact Or.inl rfl | exact Or.inr (Or.inl rfl) | exact Or.inr (Or.inr rfl)))) (ao (ap_var (i := 2) rfl (by first | exact Or.inl rfl | exact Or.inr (Or.inl rfl) | exact Or.inr (Or.inr rfl)))) (fun _ _ => rfl))) (fun _ => rfl)))) aao_nil (star_ok rfl)) (by decide) (by decide) rfl rfl)))))
  (fun ds hl => match ds, hl with | [p_some, p_counts], _ => by kernel_rfl)
theorem ok_hands_of {f : Addr} {fd : FuncData} (Fn : Fun K "hands_of" "hands_of" s_hands_of f fd) (hmg : mg "hands_of" = some (.ref f)) (B : BN mg) (Kn : KN mg) : CF P w K mg base "hands_of" 1 (spD K 2 mf_hands_of) :=
  ⟨f, fd, ["some", "counts"], fn_hands_of Fn B Kn, hmg, Fn.kp, (Fn.binds fun _ _ _ _ _ _ us hl => match us, hl with | [_, _], _ => rfl)⟩
abbrev s_holds : Stmt := top 35
abbrev N_holds : List Str := ["question", "counts", "word", "many"]
theorem sc_holds : FnScope N_holds ["question", "counts"] (defScope s_holds) := ⟨rfl, rfl, rfl, by decide +kernel, rfl, by decide +kernel, by decide +kernel⟩
def c_holds_b (self : D → D → M D) (p_question : D) (p_counts : D) : M D :=
  bd (oM (opIx p_question (.int 0))) fun x1 => bd (oM (opEq x1 (.str "not"))) fun b2 => if b2 then
    bd (bd (bd (bd (bd (oM (opIx p_question (.int 1))) fun x3 => self x3 p_counts) fun x4 => oM (truD x4)) fun b5 => .ret (!b5)) fun b6 => .ret (.bool b6)) fun x7 => .ret x7
   else
    bd (oM (opEq x1 (.str "both"))) fun b8 => if b8 then
    bd (bd (bd (bd (bd (oM (opIx p_question (.int 1))) fun x9 => self x9 p_counts) fun x10 => asB x10) fun b13 => if b13 then bd (bd (oM (opIx p_question (.int 2))) fun x11 => self x11 p_counts) fun x12 => asB x12 else .ret false) fun b14 => .ret (.bool b14)) fun x15 => .ret x15
   else
    bd (oM (opEq x1 (.str "either"))) fun b16 => if b16 then
    bd (bd (bd (bd (bd (oM (opIx p_question (.int 1))) fun x17 => self x17 p_counts) fun x18 => asB x18) fun b21 => if b21 then .ret true else bd (bd (oM (opIx p_question (.int 2))) fun x19 => self x19 p_counts) fun x20 => asB x20) fun b22 => .ret (.bool b22)) fun x23 => .ret x23
   else
    bd (bd (oM (opIx p_question (.int 1))) fun x24 => c_hands_of x24 p_counts) fun x25 => bd (oM (opEq x1 (.str "least"))) fun b26 => if b26 then
    bd (bd (bd (oM (opIx p_question (.int 2))) fun x27 => oM (opGe x25 x27)) fun b28 => .ret (.bool b28)) fun x29 => .ret x29
   else
    bd (oM (opEq x1 (.str "more"))) fun b30 => if b30 then
    bd (bd (bd (bd (oM (opIx p_question (.int 2))) fun x31 => c_hands_of x31 p_counts) fun x32 => oM (opGt x25 x32)) fun b33 => .ret (.bool b33)) fun x34 => .ret x34
   else
    bd (bd (bd (bd (oM (opIx p_question (.int 2))) fun x35 => oM (opMod x25 x35)) fun x36 => bd (oM (opIx p_question (.int 3))) fun x37 => oM (opEq x36 x37)) fun b38 => .ret (.bool b38)) fun x39 => .ret x39
def c_holds : Nat → D → D → M D
  | 0 => fun _ _ => .bad
  | i + 1 => c_holds_b (c_holds i)
def mf_holds (i : Nat) : List D → M D := fun l => match l with
  | [p_question, p_counts] => c_holds i p_question p_counts
  | _ => .bad
set_option maxHeartbeats 4000000 in
theorem fn_holds {f : Addr} {fd : FuncData} (Fn : Fun K "holds" "holds" s_holds f fd) (B : BN mg) (Kn : KN mg) (C_hands_of : CF P w K mg base "hands_of" 1 (spD K 2 mf_hands_of)) (i : Nat) (Cself : CF P w K mg base "holds" (2 + i) (spD K 2 (mf_holds i))) : FnOk P w K mg base CX0 (2 + i + 1) f fd ["question", "counts"] (spD K 2 (mf_holds (i + 1))) :=
  fn_okD (k := 2 + i) Fn sc_holds (fun cdv A outer s H E hr =>
  (ass_cons (as_to (sh := [.f, .f, .f, .dead]) (as_set (i := 2) sc_holds.nd rfl (by first | exact Or.inl rfl | exact Or.inr rfl) (ae_pu (ap_ix ix_seq ok_ix (ao (ap_var (i := 0) rfl (by first | exact Or.inl rfl | exact Or.inr (Or.inl rfl) | exact Or.inr (Or.inr rfl)))) (ao ap_int) (fun _ _ => rfl))) rfl (.inl rfl)))
   (ass_cons (as_if (aet_pu (at_cmp (opr_eq (room_u hr)) ok_D2 (ao (ap_var (i := 2) rfl (by first | exact Or.inl rfl | exact Or.inr (Or.inl rfl) | exact Or.inr (Or.inr rfl)))) (ao ap_str) rfl))
    (ass_one (as_ret (ae_pu (ap_b (ab_notO (ao (ap_fn Cself (hr.mono (by omega)) rfl (aa_cons (ap_ix ix_seq ok_ix (ao (ap_var (i := 0) rfl (by first | exact Or.inl rfl | exact Or.inr (Or.inl rfl) | exact Or.inr (Or.inr rfl)))) (ao ap_int) (fun _ _ => rfl)) (aa_cons (ap_var (i := 1) rfl (by first | exact Or.inl rfl | exact Or.inr (Or.inl rfl) | exact Or.inr (Or.inr rfl))) aa_nil (star_ok rfl)) (star_ok rfl)) rfl (by decide) rfl rfl)))))))
    ass_nil)
   (ass_cons (as_if (aet_pu (at_cmp (opr_eq (room_u hr)) ok_D2 (ao (ap_var (i := 2) rfl (by first | exact Or.inl rfl | exact Or.inr (Or.inl rfl) | exact Or.inr (Or.inr rfl)))) (ao ap_str) rfl))
    (ass_one (as_ret (ae_pu (ap_b (ab_and (ab_as (ap_fn Cself (hr.mono (by omega)) rfl (aa_cons (ap_ix ix_seq ok_ix (ao (ap_var (i := 0) rfl (by first | exact Or.inl rfl | exact Or.inr (Or.inl rfl) | exact Or.inr (Or.inr rfl)))) (ao ap_int) (fun _ _ => rfl)) (aa_cons (ap_var (i := 1) rfl (by first | exact Or.inl rfl | exact Or.inr (Or.inl rfl) | exact Or.inr (Or.inr rfl))) aa_nil (star_ok rfl)) (star_ok rfl)) rfl (by decide) rfl rfl)) (ab_one (ab_as (ap_fn Cself (hr.mono (by omega)) rfl (aa_cons (ap_ix ix_seq ok_ix (ao (ap_var (i := 0) rfl (by first | exact Or.inl rfl | exact Or.inr (Or.inl rfl) | exact Or.inr (Or.inr rfl)))) (ao ap_int) (fun _ _ => rfl)) (aa_cons (ap_var (i := 1) rfl (by first | exact Or.inl rfl | exact Or.inr (Or.inl rfl) | exact Or.inr (Or.inr rfl))) aa_nil (star_ok rfl)) (star_ok rfl)) rfl (by decide) rfl rfl))))))))
    ass_nil)
   (ass_cons (as_if (aet_pu (at_cmp (opr_eq (room_u hr)) ok_D2 (ao (ap_var (i := 2) rfl (by first | exact Or.inl rfl | exact Or.inr (Or.inl rfl) | exact Or.inr (Or.inr rfl)))) (ao ap_str) rfl))
    (ass_one (as_ret (ae_pu (ap_b (ab_or (ab_as (ap_fn Cself (hr.mono (by omega)) rfl (aa_cons (ap_ix ix_seq ok_ix (ao (ap_var (i := 0) rfl (by first | exact Or.inl rfl | exact Or.inr (Or.inl rfl) | exact Or.inr (Or.inr rfl)))) (ao ap_int) (fun _ _ => rfl)) (aa_cons (ap_var (i := 1) rfl (by first | exact Or.inl rfl | exact Or.inr (Or.inl rfl) | exact Or.inr (Or.inr rfl))) aa_nil (star_ok rfl)) (star_ok rfl)) rfl (by decide) rfl rfl)) (ab_one (ab_as (ap_fn Cself (hr.mono (by omega)) rfl (aa_cons (ap_ix ix_seq ok_ix (ao (ap_var (i := 0) rfl (by first | exact Or.inl rfl | exact Or.inr (Or.inl rfl) | exact Or.inr (Or.inr rfl)))) (ao ap_int) (fun _ _ => rfl)) (aa_cons (ap_var (i := 1) rfl (by first | exact Or.inl rfl | exact Or.inr (Or.inl rfl) | exact Or.inr (Or.inr rfl))) aa_nil (star_ok rfl)) (star_ok rfl)) rfl (by decide) rfl rfl))))))))
    ass_nil)
   (ass_cons (as_to (sh := [.f, .f, .f, .f]) (as_set (i := 3) sc_holds.nd rfl (by first | exact Or.inl rfl | exact Or.inr rfl) (ae_pu (ap_fn C_hands_of (hr.mono (by omega)) rfl (aa_cons (ap_ix ix_seq ok_ix (ao (ap_var (i := 0) rfl (by first | exact Or.inl rfl | exact Or.inr (Or.inl rfl) | exact Or.inr (Or.inr rfl)))) (ao ap_int) (fun _ _ => rfl)) (aa_cons (ap_var (i := 1) rfl (by first | exact Or.inl rfl | exact Or.inr (Or.inl rfl) | exact Or.inr (Or.inr rfl))) aa_nil (star_ok rfl)) (star_ok rfl)) rfl (by decide) rfl rfl)) rfl (.inl rfl)))
   (ass_cons (as_if (aet_pu (at_cmp (opr_eq (room_u hr)) ok_D2 (ao (ap_var (i := 2) rfl (by first | exact Or.inl rfl | exact Or.inr (Or.inl rfl) | exact Or.inr (Or.inr rfl)))) (ao ap_str) rfl))
    (ass_one (as_ret (ae_pu (ap_b (ab_cmp op_ge ok_ge (ao (ap_var (i := 3) rfl (by first | exact Or.inl rfl | exact Or.inr (Or.inl rfl) | exact Or.inr (Or.inr rfl)))) (ao (ap_ix ix_seq ok_ix (ao (ap_var (i := 0) rfl (by first | exact Or.inl rfl | exact Or.inr (Or.inl rfl) | exact Or.inr (Or.inr rfl)))) (ao ap_int) (fun _ _ => rfl))) rfl)))))
    ass_nil)
   (ass_cons (as_if (aet_pu (at_cmp (opr_eq (room_u hr)) ok_D2 (ao (ap_var (i := 2) rfl (by first | exact Or.inl rfl | exact Or.inr (Or.inl rfl) | exact Or.inr (Or.inr rfl)))) (ao ap_str) rfl))
    (ass_one (as_ret (ae_pu (ap_b (ab_cmp op_gt ok_gt (ao (ap_var (i := 3) rfl (by first | exact Or.inl rfl | exact Or.inr (Or.inl rfl) | exact Or.inr (Or.inr rfl)))) (ao (ap_fn C_hands_of (hr.mono (by omega)) rfl (aa_cons (ap_ix ix_seq ok_ix (ao (ap_var (i := 0) rfl (by first | exact Or.inl rfl | exact Or.inr (Or.inl rfl) | exact Or.inr (Or.inr rfl)))) (ao ap_int) (fun _ _ => rfl)) (aa_cons (ap_var (i := 1) rfl (by first | exact Or.inl rfl | exact Or.inr (Or.inl rfl) | exact Or.inr (Or.inr rfl))) aa_nil (star_ok rfl)) (star_ok rfl)) rfl (by decide) rfl rfl)) rfl)))))
    ass_nil)
   (ass_one (as_ret (ae_pu (ap_b (ab_cmp (opr_eq (room_u hr)) ok_D2 (ao (ap_bin op_mod ok_mod (ao (ap_var (i := 3) rfl (by first | exact Or.inl rfl | exact Or.inr (Or.inl rfl) | exact Or.inr (Or.inr rfl)))) (ao (ap_ix ix_seq ok_ix (ao (ap_var (i := 0) rfl (by first | exact Or.inl rfl | exact Or.inr (Or.inl rfl) | exact Or.inr (Or.inr rfl)))) (ao ap_int) (fun _ _ => rfl))))) (ao (ap_ix ix_seq ok_ix (ao (ap_var (i := 0) rfl (by first | exact Or.inl rfl | exact Or.inr (Or.inl rfl) | exact Or.inr (Or.inr rfl)))) (ao ap_int) (fun _ _ => rfl))) rfl)))))))))))))
  (fun ds hl => match ds, hl with | [p_question, p_counts], _ => by kernel_rfl)
theorem ok_holds {f : Addr} {fd : FuncData} (Fn : Fun K "holds" "holds" s_holds f fd) (hmg : mg "holds" = some (.ref f)) (B : BN mg) (Kn : KN mg) (C_hands_of : CF P w K mg base "hands_of" 1 (spD K 2 mf_hands_of)) (i : Nat) : CF P w K mg base "holds" (2 + i) (spD K 2 (mf_holds i)) := by
  induction i with
  | zero =>
    have e : mf_holds 0 = fun _ => .bad := by
      funext l; unfold mf_holds; split <;> rfl
    rw [e]
    exact CF.zero (ps := ["question", "counts"]) _ _ hmg Fn.kp (Fn.binds fun _ _ _ _ _ _ us hl => match us, hl with | [_, _], _ => rfl)
  | succ i ih => exact ⟨f, fd, ["question", "counts"], fn_holds Fn B Kn C_hands_of i ih, hmg, Fn.kp, (Fn.binds fun _ _ _ _ _ _ us hl => match us, hl with | [_, _], _ => rfl)⟩
abbrev s__law_feed : Stmt := top 38
abbrev N__law_feed : List Str := ["_law_script", "_law_k", "_law_cell"]
theorem sc__law_feed : FnScope N__law_feed ["_law_script", "_law_k"] (defScope s__law_feed) := ⟨rfl, rfl, rfl, by decide +kernel, rfl, by decide +kernel, by decide +kernel⟩
def c__law_feed_j1 (v_law_cell : D) : M (List D) :=
  bd (bd (bd (bd (bd (bd (oM (opPow (.int 10) (.int 18))) fun x10 => oM (opGe v_law_cell x10)) fun b11 => .ret (.bool b11)) fun x12 => oM (fInt [x12])) fun x13 => oM (opMulI v_law_cell x13)) fun x14 => .ret [x14, v_law_cell, (.int 0)]) fun l15 => .ret l15
def c__law_feed (p_law_script : D) (p_law_k : D) : M (List D) :=
  bd (bd (oM (fLen [p_law_script])) fun x1 => oM (opGt x1 (.int 0))) fun b2 => if b2 then
    bd (bd (bd (bd (oM (fLen [p_law_script])) fun x3 => oM (opMod p_law_k x3)) fun x4 => oM (opIx p_law_script x4)) fun x7 => bd (bd (bd (oM (fLen [p_law_script])) fun x5 => oM (opDiv p_law_k x5)) fun x6 => oM (opMulI (.int 1009) x6)) fun x8 => oM (opAdd x7 x8)) fun x9 => c__law_feed_j1 x9
   else
    c__law_feed_j1 (.int 0)
def mf__law_feed : List D → M (List D) := fun l => match l with
  | [p_law_script, p_law_k] => c__law_feed p_law_script p_law_k
  | _ => .bad
set_option maxHeartbeats 4000000 in
theorem fn__law_feed {f : Addr} {fd : FuncData} (Fn : Fun K "_law_feed" "_law_feed" s__law_feed f fd) (B : BN mg) (Kn : KN mg) : FnOk P w K mg base CX0 1 f fd ["_law_script", "_law_k"] (spL K 2 mf__law_feed) :=
  fn_okL (k := 0) Fn sc__law_feed (fun cdv A outer s H E hr =>
  (ass_cons (as_to (sh := [.f, .f, .f]) (as_set (i := 2) sc__law_feed.nd rfl (by first | exact Or.inl rfl | exact Or.inr rfl) (ae_pu ap_int) rfl (.inl rfl)))
   (ass_cons (as_to (sh := [.dead, .dead, .f]) (as_if (aet_pu (at_cmp op_gt ok_gt (ao (ap_callB call_lenA ok_len rfl B.len PySem.boot_len (aao_cons (ao (ap_var (i := 0) rfl (by first | exact Or.inl rfl | exact Or.inr (Or.inl rfl) | exact Or.inr (Or.inr rfl)))) aao_nil (star_ok rfl)) (by decide) (by decide) rfl rfl)) (ao ap_int) rfl))
    (ass_one (as_set (i := 2) sc__law_feed.nd rfl (by first | exact Or.inl rfl | exact Or.inr rfl) (ae_pu (ap_bin op_addA ok_add (ao (ap_ix ix_seq ok_ix (ao (ap_var (i := 0) rfl (by first | exact Or.inl rfl | exact Or.inr (Or.inl rfl) | exact Or.inr (Or.inr rfl)))) (ao (ap_bin op_mod ok_mod (ao (ap_var (i := 1) rfl (by first | exact Or.inl rfl | exact Or.inr (Or.inl rfl) | exact Or.inr (Or.inr rfl)))) (ao (ap_callB call_lenA ok_len rfl B.len PySem.boot_len (aao_cons (ao (ap_var (i := 0) rfl (by first | exact Or.inl rfl | exact Or.inr (Or.inl rfl) | exact Or.inr (Or.inr rfl)))) aao_nil (star_ok rfl)) (by decide) (by decide) rfl rfl)))) (fun _ _ => rfl))) (ao (ap_bin op_mul ok_mul (ao ap_int) (ao (ap_bin op_fdiv ok_div (ao (ap_var (i := 1) rfl (by first | exact Or.inl rfl | exact Or.inr (Or.inl rfl) | exact Or.inr (Or.inr rfl)))) (ao (ap_callB call_lenA ok_len rfl B.len PySem.boot_len (aao_cons (ao (ap_var (i := 0) rfl (by first | exact Or.inl rfl | exact Or.inr (Or.inl rfl) | exact Or.inr (Or.inr rfl)))) aao_nil (star_ok rfl)) (by decide) (by decide) rfl rfl)))))))) rfl (.inl rfl)))
    ass_nil))
   (ass_one (as_retL (ael_pu (al_lst (aa_cons (ap_bin op_mul ok_mul (ao (ap_var (i := 2) rfl (by first | exact Or.inl rfl | exact Or.inr (Or.inl rfl) | exact Or.inr (Or.inr rfl)))) (ao (ap_callTy call_int1 ok_int rfl B.int (by decide +kernel) (aao_cons (ao (ap_b (ab_cmp op_ge ok_ge (ao (ap_var (i := 2) rfl (by first | exact Or.inl rfl | exact Or.inr (Or.inl rfl) | exact Or.inr (Or.inr rfl)))) (ao (ap_bin op_pow ok_pow (ao ap_int) (ao ap_int))) rfl))) aao_nil (star_ok rfl)) (by decide) (by decide) rfl rfl))) (aa_cons (ap_var (i := 2) rfl (by first | exact Or.inl rfl | exact Or.inr (Or.inl rfl) | exact Or.inr (Or.inr rfl))) (aa_cons ap_int aa_nil (star_ok rfl)) (star_ok rfl)) (star_ok rfl)) (by decide +kernel))))))))
  (fun ds hl => match ds, hl with | [p_law_script, p_law_k], _ => by kernel_rfl)
theorem ok__law_feed {f : Addr} {fd : FuncData} (Fn : Fun K "_law_feed" "_law_feed" s__law_feed f fd) (hmg : mg "_law_feed" = some (.ref f)) (B : BN mg) (Kn : KN mg) : CF P w K mg base "_law_feed" 1 (spL K 2 mf__law_feed) :=
  ⟨f, fd, ["_law_script", "_law_k"], fn__law_feed Fn B Kn, hmg, Fn.kp, (Fn.binds fun _ _ _ _ _ _ us hl => match us, hl with | [_, _], _ => rfl)⟩
abbrev s__law_take : Stmt := top 39
abbrev N__law_take : List Str := ["_law_feed_here", "_law_many", "_law_found", "_law_mixed"]
theorem sc__law_take : FnScope N__law_take ["_law_feed_here", "_law_many"] (defScope s__law_take) := ⟨rfl, rfl, rfl, by decide +kernel, rfl, by decide +kernel, by decide +kernel⟩
def c__law_take (p_law_feed_here : List D) (p_law_many : D) : M (D × List D) :=
  bd (bd (oM (opIx (PyData.list p_law_feed_here) (.int 0))) fun x1 => oM (opGt x1 (.int 0))) fun b2 => if b2 then
    bd (bd (oM (opIx (PyData.list p_law_feed_here) (.int 0))) fun x3 => oM (opMod x3 p_law_many)) fun x4 => bd (bd (oM (opIx (PyData.list p_law_feed_here) (.int 0))) fun x5 => oM (opDiv x5 p_law_many)) fun x6 => bd (oM (putD p_law_feed_here (.int 0) x6)) fun l7 => .ret (x4, l7)
   else
    bd (bd (oM (opIx (PyData.list p_law_feed_here) (.int 2))) fun x8 => oM (opAdd x8 (.int 1))) fun x9 => bd (oM (putD p_law_feed_here (.int 2) x9)) fun l10 => bd (bd (bd (bd (bd (oM (opIx (PyData.list l10) (.int 1))) fun x11 => oM (opMod x11 (.int 2147483579))) fun x15 => bd (bd (bd (oM (opIx (PyData.list l10) (.int 2))) fun x12 => oM (opMulI (.int 7717) x12)) fun x13 => bd (oM (opIx (PyData.list l10) (.int 2))) fun x14 => oM (opMulI x13 x14)) fun x16 => oM (opAdd x15 x16)) fun x17 => oM (opMulI x17 (.int 48271))) fun x18 => oM (opMod x18 (.int 2147483647))) fun x19 => bd (bd (bd (bd (oM (opDiv x19 (.int 13))) fun x21 => bd (bd (oM (opIx (PyData.list l10) (.int 2))) fun x20 => oM (opMulI (.int 19) x20)) fun x22 => oM (opAdd x21 x22)) fun x23 => oM (opMulI x23 (.int 69621))) fun x24 => oM (opMod x24 (.int 2147483549))) fun x25 => bd (bd (oM (opDiv x25 (.int 11))) fun x26 => oM (opMod x26 p_law_many)) fun x27 => .ret (x27, l10)
def mf__law_take : List D → List D → M (D × List D) := fun p_law_feed_here l => match l with
  | [p_law_many] => c__law_take p_law_feed_here p_law_many
  | _ => .bad
set_option maxHeartbeats 4000000 in
theorem fn__law_take {f : Addr} {fd : FuncData} (Fn : Fun K "_law_take" "_law_take" s__law_take f fd) (B : BN mg) (Kn : KN mg) : FnOk P w K mg base CX0 1 f fd ["_law_feed_here", "_law_many"] (sp1 K 2 mf__law_take) :=
  fn_ok1 (k := 0) Fn sc__law_take (fun cdv A outer s H E hr =>
  (ass_cons (as_if (aet_pu (at_cmp op_gt ok_gt (ao (ap_ix ix_seq ok_ix (ao_peek (i := 0) rfl (by first | exact Or.inl rfl | exact Or.inr (Or.inl rfl) | exact Or.inr (Or.inr rfl))) (ao ap_int) (fun _ _ => rfl))) (ao ap_int) rfl))
    (ass_cons (as_to (sh := [.p, .f, .f, .dead]) (as_set (i := 2) sc__law_take.nd rfl (by first | exact Or.inl rfl | exact Or.inr rfl) (ae_pu (ap_bin op_mod ok_mod (ao (ap_ix ix_seq ok_ix (ao_peek (i := 0) rfl (by first | exact Or.inl rfl | exact Or.inr (Or.inl rfl) | exact Or.inr (Or.inr rfl))) (ao ap_int) (fun _ _ => rfl))) (ao (ap_var (i := 1) rfl (by first | exact Or.inl rfl | exact Or.inr (Or.inl rfl) | exact Or.inr (Or.inr rfl)))))) rfl (.inl rfl)))
   (ass_cons (as_to (sh := [.p, .dead, .f, .dead]) (as_put (i := 0) rfl (by first | exact Or.inl rfl | exact Or.inr (Or.inl rfl) | exact Or.inr (Or.inr rfl)) (ae_pu ap_int) (ae_pu (ap_bin op_fdiv ok_div (ao (ap_ix ix_seq ok_ix (ao_peek (i := 0) rfl (by first | exact Or.inl rfl | exact Or.inr (Or.inl rfl) | exact Or.inr (Or.inr rfl))) (ao ap_int) (fun _ _ => rfl))) (ao (ap_var (i := 1) rfl (by first | exact Or.inl rfl | exact Or.inr (Or.inl rfl) | exact Or.inr (Or.inr rfl)))))) (fun _ => rfl) rfl rfl rfl))
   (ass_one (as_ret (ae_pu (ap_var (i := 2) rfl (by first | exact Or.inl rfl | exact Or.inr (Or.inl rfl) | exact Or.inr (Or.inr rfl))))))))
    ass_nil)
   (ass_cons (as_to (sh := [.p, .f, .dead, .dead]) (as_put (i := 0) rfl (by first | exact Or.inl rfl | exact Or.inr (Or.inl rfl) | exact Or.inr (Or.inr rfl)) (ae_pu ap_int) (ae_pu (ap_bin op_addA ok_add (ao (ap_ix ix_seq ok_ix (ao_peek (i := 0) rfl (by first | exact Or.inl rfl | exact Or.inr (Or.inl rfl) | exact Or.inr (Or.inr rfl))) (ao ap_int) (fun _ _ => rfl))) (ao ap_int))) (fun _ => rfl) rfl rfl rfl))
   (ass_cons (as_to (sh := [.p, .f, .dead, .f]) (as_set (i := 3) sc__law_take.nd rfl (by first | exact Or.inl rfl | exact Or.inr rfl) (ae_pu (ap_bin op_mod ok_mod (ao (ap_bin op_mul ok_mul (ao (ap_bin op_addA ok_add (ao (ap_bin op_mod ok_mod (ao (ap_ix ix_seq ok_ix (ao_peek (i := 0) rfl (by first | exact Or.inl rfl | exact Or.inr (Or.inl rfl) | exact Or.inr (Or.inr rfl))) (ao ap_int) (fun _ _ => rfl))) (ao ap_int))) (ao (ap_bin op_mul ok_mul (ao (ap_bin op_mul ok_mul (ao ap_int) (ao (ap_ix ix_seq ok_ix (ao_peek (i := 0) rfl (by first | exact Or.inl rfl | exact Or.inr (Or.inl rfl) | exact Or.inr (Or.inr rfl))) (ao ap_int) (fun _ _ => rfl))))) (ao (ap_ix ix_seq ok_ix (ao_peek (i := 0) rfl (by first | exact Or.inl rfl | exact Or.inr (Or.inl rfl) | exact Or.inr (Or.inr rfl))) (ao ap_int) (fun _ _ => rfl))))))) (ao ap_int))) (ao ap_int))) rfl (.inl rfl)))
   (ass_cons (as_to (sh := [.p, .f, .dead, .f]) (as_set (i := 3) sc__law_take.nd rfl (by first | exact Or.inl rfl | exact Or.inr rfl) (ae_pu (ap_bin op_mod ok_mod (ao (ap_bin op_mul ok_mul (ao (ap_bin op_addA ok_add (ao (ap_bin op_fdiv ok_div (ao (ap_var (i := 3) rfl (by first | exact Or.inl rfl | exact Or.inr (Or.inl rfl) | exact Or.inr (Or.inr rfl)))) (ao ap_int))) (ao (ap_bin op_mul ok_mul (ao ap_int) (ao (ap_ix ix_seq ok_ix (ao_peek (i := 0) rfl (by first | exact Or.inl rfl | exact Or.inr (Or.inl rfl) | exact Or.inr (Or.inr rfl))) (ao ap_int) (fun _ _ => rfl))))))) (ao ap_int))) (ao ap_int))) rfl (.inl rfl)))
   (ass_one (as_ret (ae_pu (ap_bin op_mod ok_mod (ao (ap_bin op_fdiv ok_div (ao (ap_var (i := 3) rfl (by first | exact Or.inl rfl | exact Or.inr (Or.inl rfl) | exact Or.inr (Or.inr rfl)))) (ao ap_int))) (ao (ap_var (i := 1) rfl (by first | exact Or.inl rfl | exact Or.inr (Or.inl rfl) | exact Or.inr (Or.inr rfl)))))))))))))
  (fun g ds hl => match ds, hl with | [p_law_many], _ => by kernel_rfl)
theorem ok__law_take {f : Addr} {fd : FuncData} (Fn : Fun K "_law_take" "_law_take" s__law_take f fd) (hmg : mg "_law_take" = some (.ref f)) (B : BN mg) (Kn : KN mg) : CF P w K mg base "_law_take" 1 (sp1 K 2 mf__law_take) :=
  ⟨f, fd, ["_law_feed_here", "_law_many"], fn__law_take Fn B Kn, hmg, Fn.kp, (Fn.binds fun _ _ _ _ _ _ us hl => match us, hl with | [_, _], _ => rfl)⟩
abbrev s__law_sorts : Stmt := top 40
abbrev N__law_sorts : List Str := ["_law_feed_here", "_law_sorts_here", "_law_found"]
theorem sc__law_sorts : FnScope N__law_sorts ["_law_feed_here", "_law_sorts_here"] (defScope s__law_sorts) := ⟨rfl, rfl, rfl, by decide +kernel, rfl, by decide +kernel, by decide +kernel⟩
abbrev N__law_sorts_0 : List Str := ["_law_feed_here", "_law_sorts_here", "_law_found", "_law_sort"]
theorem nd_N__law_sorts_0 : N__law_sorts_0.Nodup := by decide +kernel
def c__law_sorts (p_law_feed_here : List D) (p_law_sorts_here : D) : M (D × List D) :=
  bd (oM (fRange1 [p_law_sorts_here])) fun l1 => bd (compE (fun s2 d3 => bd (c__law_take s2.1 (.int 2)) fun r4 => bd (oM (opEq r4.1 (.int 0))) fun b5 => if b5 then .ret (some d3, (r4.2, s2.2.1, ())) else .ret (none, (r4.2, s2.2.1, ()))) l1 (p_law_feed_here, p_law_sorts_here, ())) fun r6 => bd (fitM r6.1) fun l7 => bd (oM (opNe (PyData.list l7) (PyData.list []))) fun b8 => if b8 then bd (oM (fTuple [(PyData.list l7)])) fun x9 => .ret (x9, r6.2.1) else bd (c__law_take r6.2.1 r6.2.2.1) fun r10 => .ret ((.tuple [r10.1]), r10.2)
def mf__law_sorts : List D → List D → M (D × List D) := fun p_law_feed_here l => match l with
  | [p_law_sorts_here] => c__law_sorts p_law_feed_here p_law_sorts_here
  | _ => .bad
set_option maxHeartbeats 4000000 in
theorem fn__law_sorts {f : Addr} {fd : FuncData} (Fn : Fun K "_law_sorts" "_law_sorts" s__law_sorts f fd) (B : BN mg) (Kn : KN mg) (C__law_take : CF P w K mg base "_law_take" 1 (sp1 K 2 mf__law_take)) : FnOk P w K mg base CX0 2 f fd ["_law_feed_here", "_law_sorts_here"] (sp1 K 2 mf__law_sorts) :=
  fn_ok1 (k := 1) Fn sc__law_sorts (fun cdv A outer s H E hr =>
  (ass_cons (as_to (sh := [.p, .f, .f]) (as_setEComp (i := 2) sc__law_sorts.nd rfl (by first | exact Or.inl rfl | exact Or.inr rfl) (.inl rfl) (sh := [.p, .f, .dead]) (N' := N__law_sorts_0) (k := 1) rfl (compOk_of (N := N__law_sorts) (sc := (defScope s__law_sorts)) (by decide +kernel) rfl rfl) (aei_pu (ai_range1 rfl B.range (aa_cons (ap_var (i := 1) rfl (by first | exact Or.inl rfl | exact Or.inr (Or.inl rfl) | exact Or.inr (Or.inr rfl))) aa_nil (star_ok rfl)) rfl)) (fun cl s' H' fp C' => (ag_name (i := 3) (show 3 ≤ 3 by decide) nd_N__law_sorts_0 rfl (by first | exact Or.inl rfl | exact Or.inr rfl) (.inr rfl))) (fun cl s' H' fp C' => (aets_one (aet_cmp (opr_eq (room_u hr)) ok_D2 (ae_fn1 (i := 0) C__law_take (hr.mono (by decide)) rfl rfl (by first | exact Or.inl rfl | exact Or.inr (Or.inl rfl) | exact Or.inr (Or.inr rfl)) (aea_cons (ae_pu ap_int) aea_nil (star_ok rfl)) rfl (by decide) rfl rfl) (ae_pu ap_int) rfl))) (fun cl s' H' fp C' => (ae_pu (ap_var (i := 3) rfl (by first | exact Or.inl rfl | exact Or.inr (Or.inl rfl) | exact Or.inr (Or.inr rfl))))) rfl (fun _ => rfl)))
   (ass_one (as_ret (ae_if (aet_pu (at_cmp (opr_ne (room_u hr)) ok_D2 (ao (ap_var (i := 2) rfl (by first | exact Or.inl rfl | exact Or.inr (Or.inl rfl) | exact Or.inr (Or.inr rfl)))) (ao (ap_z (al_lst aa_nil (by decide +kernel)))) rfl)) (ae_pu (ap_callTy call_tuple_of ok_tuple rfl B.tuple (by decide +kernel) (aao_cons (ao (ap_var (i := 2) rfl (by first | exact Or.inl rfl | exact Or.inr (Or.inl rfl) | exact Or.inr (Or.inr rfl)))) aao_nil (star_ok rfl)) (by decide) (by decide) rfl rfl)) (ae_tup (aea_cons (ae_fn1 (i := 0) C__law_take (hr.mono (by decide)) rfl rfl (by first | exact Or.inl rfl | exact Or.inr (Or.inl rfl) | exact Or.inr (Or.inr rfl)) (aea_cons (ae_pu (ap_var (i := 1) rfl (by first | exact Or.inl rfl | exact Or.inr (Or.inl rfl) | exact Or.inr (Or.inr rfl)))) aea_nil (star_ok rfl)) rfl (by decide) rfl rfl) aea_nil (star_ok rfl)) (by decide +kernel)))))))
  (fun g ds hl => match ds, hl with | [p_law_sorts_here], _ => by kernel_rfl)
theorem ok__law_sorts {f : Addr} {fd : FuncData} (Fn : Fun K "_law_sorts" "_law_sorts" s__law_sorts f fd) (hmg : mg "_law_sorts" = some (.ref f)) (B : BN mg) (Kn : KN mg) (C__law_take : CF P w K mg base "_law_take" 1 (sp1 K 2 mf__law_take)) : CF P w K mg base "_law_sorts" 2 (sp1 K 2 mf__law_sorts) :=
  ⟨f, fd, ["_law_feed_here", "_law_sorts_here"], fn__law_sorts Fn B Kn C__law_take, hmg, Fn.kp, (Fn.binds fun _ _ _ _ _ _ us hl => match us, hl with | [_, _], _ => rfl)⟩
abbrev s__law_question : Stmt := top 41
abbrev N__law_question : List Str := ["_law_feed_here", "_law_sorts_here", "_law_deep", "_law_way", "_law_one", "_law_sides", "_law_these", "_law_by"]
theorem sc__law_question : FnScope N__law_question ["_law_feed_here", "_law_sorts_here", "_law_deep"] (defScope s__law_question) := ⟨rfl, rfl, rfl, by decide +kernel, rfl, by decide +kernel, by decide +kernel⟩
abbrev N__law_question_0 : List Str := ["_law_feed_here", "_law_sorts_here", "_law_deep", "_law_way", "_law_one", "_law_sides", "_law_these", "_law_by", "_law_sort"]
theorem nd_N__law_question_0 : N__law_question_0.Nodup := by decide +kernel
abbrev N__law_question_1 : List Str := ["_law_feed_here", "_law_sorts_here", "_law_deep", "_law_way", "_law_one", "_law_sides", "_law_these", "_law_by", "_law_sort"]
theorem nd_N__law_question_1 : N__law_question_1.Nodup := by decide +kernel
abbrev N__law_question_2 : List Str := ["_law_feed_here", "_law_sorts_here", "_law_deep", "_law_way", "_law_one", "_law_sides", "_law_these", "_law_by", "_law_sort"]
theorem nd_N__law_question_2 : N__law_question_2.Nodup := by decide +kernel
def c__law_question_b (self : List D → D → D → M (D × List D)) (p_law_feed_here : List D) (p_law_sorts_here : D) (p_law_deep : D) : M (D × List D) :=
  bd (c__law_take p_law_feed_here (.int 9)) fun r1 => bd (bd (oM (opGt p_law_deep (.int 0))) fun b2 => if b2 then oM (opGt r1.1 (.int 4)) else .ret false) fun b3 => if b3 then
    bd (oM (opSub p_law_deep (.int 1))) fun x4 => bd (self r1.2 p_law_sorts_here x4) fun r5 => bd (oM (opEq r1.1 (.int 5))) fun b6 => if b6 then
    .ret ((.tuple [(.str "not"), r5.1]), r5.2)
   else
    bd (bd (oM (opMod r1.1 (.int 2))) fun x7 => oM (opIx (PyData.list [(.str "both"), (.str "either")]) x7)) fun x8 => bd (oM (opSub p_law_deep (.int 1))) fun x9 => bd (self r5.2 p_law_sorts_here x9) fun r10 => .ret ((.tuple [x8, r5.1, r10.1]), r10.2)
   else
    bd (bd (oM (opMod r1.1 (.int 3))) fun x11 => oM (opEq x11 (.int 0))) fun b12 => if b12 then
    bd (c__law_sorts r1.2 p_law_sorts_here) fun r13 => bd (c__law_take r13.2 (.int 5)) fun r14 => bd (oM (opIx (PyData.list [(.int 1), (.int 2), (.int 1), (.int 3), (.int 9)]) r14.1)) fun x15 => .ret ((.tuple [(.str "least"), r13.1, x15]), r14.2)
   else
    bd (bd (oM (opMod r1.1 (.int 3))) fun x16 => oM (opEq x16 (.int 1))) fun b17 => if b17 then
    bd (oM (fRange1 [p_law_sorts_here])) fun l18 => bd (compE (fun s19 d20 => bd (c__law_take s19.1 (.int 3)) fun r21 => .ret (some r21.1, (r21.2, s19.2.1, ()))) l18 (r1.2, p_law_sorts_here, ())) fun r22 => bd (fitM r22.1) fun l23 => bd (bd (bd (bd (oM (fRange1 [r22.2.2.1])) fun l27 => bd (compC (fun d24 => bd (bd (oM (opIx (PyData.list l23) d24)) fun x25 => oM (opEq x25 (.int 1))) fun b26 => if b26 then .ret (some d24) else .ret none) l27) fitM) fun l28 => .ret (PyData.list l28)) fun x29 => oM (fTuple [x29])) fun x30 => bd (bd (bd (bd (bd (oM (fRange1 [r22.2.2.1])) fun l34 => bd (compC (fun d31 => bd (bd (oM (opIx (PyData.list l23) d31)) fun x32 => oM (opEq x32 (.int 2))) fun b33 => if b33 then .ret (some d31) else .ret none) l34) fitM) fun l35 => .ret (PyData.list l35)) fun x36 => oM (fTuple [x36])) fun x37 => .ret (.tuple [(.str "more"), x30, x37])) fun x38 => .ret (x38, r22.2.1)
   else
    bd (c__law_take r1.2 (.int 4)) fun r39 => bd (oM (opIx (PyData.list [(.int 2), (.int 3), (.int 2), (.int 9)]) r39.1)) fun x40 => bd (c__law_sorts r39.2 p_law_sorts_here) fun r41 => bd (c__law_take r41.2 x40) fun r42 => .ret ((.tuple [(.str "rest"), r41.1, x40, r42.1]), r42.2)
def c__law_question : Nat → List D → D → D → M (D × List D)
  | 0 => fun _ _ _ => .bad
  | i + 1 => c__law_question_b (c__law_question i)
def mf__law_question (i : Nat) : List D → List D → M (D × List D) := fun p_law_feed_here l => match l with
  | [p_law_sorts_here, p_law_deep] => c__law_question i p_law_feed_here p_law_sorts_here p_law_deep
  | _ => .bad
set_option maxHeartbeats 4000000 in
theorem fn__law_question {f : Addr} {fd : FuncData} (Fn : Fun K "_law_question" "_law_question" s__law_question f fd) (B : BN mg) (Kn : KN mg) (C__law_take : CF P w K mg base "_law_take" 1 (sp1 K 2 mf__law_take)) (C__law_sorts : CF P w K mg base "_law_sorts" 2 (sp1 K 2 mf__law_sorts)) (i : Nat) (Cself : CF P w K mg base "_law_question" (3 + i) (sp1 K 3 (mf__law_question i))) : FnOk P w K mg base CX0 (3 + i + 1) f fd ["_law_feed_here", "_law_sorts_here", "_law_deep"] (sp1 K 3 (mf__law_question (i + 1))) :=
  fn_ok1 (k := 3 + i) Fn sc__law_question (fun cdv A outer s H E hr =>
  (ass_cons (as_to (sh := [.p, .f, .f, .f, .dead, .dead, .dead, .dead]) (as_set (i := 3) sc__law_question.nd rfl (by first | exact Or.inl rfl | exact Or.inr rfl) (ae_fn1 (i := 0) C__law_take (hr.mono (by omega)) rfl rfl (by first | exact Or.inl rfl | exact Or.inr (Or.inl rfl) | exact Or.inr (Or.inr rfl)) (aea_cons (ae_pu ap_int) aea_nil (star_ok rfl)) rfl (by decide) rfl rfl) rfl (.inl rfl)))
   (ass_cons (as_if (aet_pu (at_aw (aw_and (at_cmp op_gt ok_gt (ao (ap_var (i := 2) rfl (by first | exact Or.inl rfl | exact Or.inr (Or.inl rfl) | exact Or.inr (Or.inr rfl)))) (ao ap_int) rfl) (aw_and1 (at_cmp op_gt ok_gt (ao (ap_var (i := 3) rfl (by first | exact Or.inl rfl | exact Or.inr (Or.inl rfl) | exact Or.inr (Or.inr rfl)))) (ao ap_int) rfl)))))
    (ass_cons (as_to (sh := [.p, .f, .f, .f, .f, .dead, .dead, .dead]) (as_set (i := 4) sc__law_question.nd rfl (by first | exact Or.inl rfl | exact Or.inr rfl) (ae_fn1 (i := 0) Cself (hr.mono (by omega)) rfl rfl (by first | exact Or.inl rfl | exact Or.inr (Or.inl rfl) | exact Or.inr (Or.inr rfl)) (aea_cons (ae_pu (ap_var (i := 1) rfl (by first | exact Or.inl rfl | exact Or.inr (Or.inl rfl) | exact Or.inr (Or.inr rfl)))) (aea_cons (ae_pu (ap_bin op_sub ok_sub (ao (ap_var (i := 2) rfl (by first | exact Or.inl rfl | exact Or.inr (Or.inl rfl) | exact Or.inr (Or.inr rfl)))) (ao ap_int))) aea_nil (star_ok rfl)) (star_ok rfl)) rfl (by decide) rfl rfl) rfl (.inl rfl)))
   (ass_cons (as_if (aet_pu (at_cmp (opr_eq (room_u hr)) ok_D2 (ao (ap_var (i := 3) rfl (by first | exact Or.inl rfl | exact Or.inr (Or.inl rfl) | exact Or.inr (Or.inr rfl)))) (ao ap_int) rfl))
    (ass_one (as_ret (ae_pu (ap_tup (aa_cons ap_str (aa_cons (ap_var (i := 4) rfl (by first | exact Or.inl rfl | exact Or.inr (Or.inl rfl) | exact Or.inr (Or.inr rfl))) aa_nil (star_ok rfl)) (star_ok rfl)) (by decide +kernel)))))
    ass_nil)
   (ass_one (as_ret (ae_tup (aea_cons (ae_pu (ap_ix ix_seq ok_ix (ao (ap_z (al_lst (aa_cons ap_str (aa_cons ap_str aa_nil (star_ok rfl)) (star_ok rfl)) (by decide +kernel)))) (ao (ap_bin op_mod ok_mod (ao (ap_var (i := 3) rfl (by first | exact Or.inl rfl | exact Or.inr (Or.inl rfl) | exact Or.inr (Or.inr rfl)))) (ao ap_int))) (fun _ _ => rfl))) (aea_cons (ae_pu (ap_var (i := 4) rfl (by first | exact Or.inl rfl | exact Or.inr (Or.inl rfl) | exact Or.inr (Or.inr rfl)))) (aea_cons (ae_fn1 (i := 0) Cself (hr.mono (by omega)) rfl rfl (by first | exact Or.inl rfl | exact Or.inr (Or.inl rfl) | exact Or.inr (Or.inr rfl)) (aea_cons (ae_pu (ap_var (i := 1) rfl (by first | exact Or.inl rfl | exact Or.inr (Or.inl rfl) | exact Or.inr (Or.inr rfl)))) (aea_cons (ae_pu (ap_bin op_sub ok_sub (ao (ap_var (i := 2) rfl (by first | exact Or.inl rfl | exact Or.inr (Or.inl rfl) | exact Or.inr (Or.inr rfl)))) (ao ap_int))) aea_nil (star_ok rfl)) (star_ok rfl)) rfl (by decide) rfl rfl) aea_nil (star_ok rfl)) (star_ok rfl)) (star_ok rfl)) (by decide +kernel))))))
    ass_nil)
   (ass_cons (as_if (aet_pu (at_cmp (opr_eq (room_u hr)) ok_D2 (ao (ap_bin op_mod ok_mod (ao (ap_var (i := 3) rfl (by first | exact Or.inl rfl | exact Or.inr (Or.inl rfl) | exact Or.inr (Or.inr rfl)))) (ao ap_int))) (ao ap_int) rfl))
    (ass_one (as_ret (ae_tup (aea_cons (ae_pu ap_str) (aea_cons (ae_fn1 (i := 0) C__law_sorts (hr.mono (by omega)) rfl rfl (by first | exact Or.inl rfl | exact Or.inr (Or.inl rfl) | exact Or.inr (Or.inr rfl)) (aea_cons (ae_pu (ap_var (i := 1) rfl (by first | exact Or.inl rfl | exact Or.inr (Or.inl rfl) | exact Or.inr (Or.inr rfl)))) aea_nil (star_ok rfl)) rfl (by decide) rfl rfl) (aea_cons (ae_ix ix_seq ok_ix (ae_pu (ap_z (al_lst (aa_cons ap_int (aa_cons ap_int (aa_cons ap_int (aa_cons ap_int (aa_cons ap_int aa_nil (star_ok rfl)) (star_ok rfl)) (star_ok rfl)) (star_ok rfl)) (star_ok rfl)) (by decide +kernel)))) (ae_fn1 (i := 0) C__law_take (hr.mono (by omega)) rfl rfl (by first | exact Or.inl rfl | exact Or.inr (Or.inl rfl) | exact Or.inr (Or.inr rfl)) (aea_cons (ae_pu ap_int) aea_nil (star_ok rfl)) rfl (by decide) rfl rfl) (fun _ _ => rfl)) aea_nil (star_ok rfl)) (star_ok rfl)) (star_ok rfl)) (by decide +kernel))))
    ass_nil)
   (ass_cons (as_if (aet_pu (at_cmp (opr_eq (room_u hr)) ok_D2 (ao (ap_bin op_mod ok_mod (ao (ap_var (i := 3) rfl (by first | exact Or.inl rfl | exact Or.inr (Or.inl rfl) | exact Or.inr (Or.inr rfl)))) (ao ap_int))) (ao ap_int) rfl))
    (ass_cons (as_to (sh := [.p, .f, .dead, .dead, .dead, .f, .dead, .dead]) (as_set (i := 5) sc__law_question.nd rfl (by first | exact Or.inl rfl | exact Or.inr rfl) (ae_z (ael_comp (sh := [.p, .f, .dead, .dead, .dead, .dead, .dead, .dead]) (N' := N__law_question_0) (k := 1) rfl (compOk_of (N := N__law_question) (sc := (defScope s__law_question)) (by decide +kernel) rfl rfl) (aei_pu (ai_range1 rfl B.range (aa_cons (ap_var (i := 1) rfl (by first | exact Or.inl rfl | exact Or.inr (Or.inl rfl) | exact Or.inr (Or.inr rfl))) aa_nil (star_ok rfl)) rfl)) (fun cl s' H' fp C' => (ag_name (i := 8) (show 8 ≤ 8 by decide) nd_N__law_question_0 rfl (by first | exact Or.inl rfl | exact Or.inr rfl) (.inr rfl))) (fun cl s' H' fp C' => (aets_pu ats_nil)) (fun cl s' H' fp C' => (ae_fn1 (i := 0) C__law_take (hr.mono (by omega)) rfl rfl (by first | exact Or.inl rfl | exact Or.inr (Or.inl rfl) | exact Or.inr (Or.inr rfl)) (aea_cons (ae_pu ap_int) aea_nil (star_ok rfl)) rfl (by decide) rfl rfl)) (fun _ => rfl))) rfl (.inl rfl)))
   (ass_cons (as_to (sh := [.p, .f, .dead, .dead, .dead, .f, .f, .dead]) (as_set (i := 6) sc__law_question.nd rfl (by first | exact Or.inl rfl | exact Or.inr rfl) (ae_pu (ap_callTy call_tuple_of ok_tuple rfl B.tuple (by decide +kernel) (aao_cons (ao (ap_z (al_comp (N' := N__law_question_1) (k := 1) rfl (compOk_of (N := N__law_question) (sc := (defScope s__law_question)) (by decide +kernel) rfl rfl) (ai_range1 rfl B.range (aa_cons (ap_var (i := 1) rfl (by first | exact Or.inl rfl | exact Or.inr (Or.inl rfl) | exact Or.inr (Or.inr rfl))) aa_nil (star_ok rfl)) rfl) (fun cl s' H' fp C' => (ag_name (i := 8) (show 8 ≤ 8 by decide) nd_N__law_question_1 rfl (by first | exact Or.inl rfl | exact Or.inr rfl) (.inr rfl))) (fun cl s' H' fp C' => (ats_one (at_cmp (opr_eq (room_u hr)) ok_D2 (ao (ap_ix ix_seq ok_ix (ao (ap_var (i := 5) rfl (by first | exact Or.inl rfl | exact Or.inr (Or.inl rfl) | exact Or.inr (Or.inr rfl)))) (ao (ap_var (i := 8) rfl (by first | exact Or.inl rfl | exact Or.inr (Or.inl rfl) | exact Or.inr (Or.inr rfl)))) (fun _ _ => rfl))) (ao ap_int) rfl))) (fun cl s' H' fp C' => (ap_var (i := 8) rfl (by first | exact Or.inl rfl | exact Or.inr (Or.inl rfl) | exact Or.inr (Or.inr rfl)))) (fun _ => rfl)))) aao_nil (star_ok rfl)) (by decide) (by decide) rfl rfl)) rfl (.inl rfl)))
   (ass_one (as_ret (ae_pu (ap_tup (aa_cons ap_str (aa_cons (ap_var (i := 6) rfl (by first | exact Or.inl rfl | exact Or.inr (Or.inl rfl) | exact Or.inr (Or.inr rfl))) (aa_cons (ap_callTy call_tuple_of ok_tuple rfl B.tuple (by decide +kernel) (aao_cons (ao (ap_z (al_comp (N' := N__law_question_2) (k := 1) rfl (compOk_of (N := N__law_question) (sc := (defScope s__law_question)) (by decide +kernel) rfl rfl) (ai_range1 rfl B.range (aa_cons (ap_var (i := 1) rfl (by first | exact Or.inl rfl | exact Or.inr (Or.inl rfl) | exact Or.inr (Or.inr rfl))) aa_nil (star_ok rfl)) rfl) (fun cl s' H' fp C' => (ag_name (i := 8) (show 8 ≤ 8 by decide) nd_N__law_question_2 rfl (by first | exact Or.inl rfl | exact Or.inr rfl) (.inr rfl))) (fun cl s' H' fp C' => (ats_one (at_cmp (opr_eq (room_u hr)) ok_D2 (ao (ap_ix ix_seq ok_ix (ao (ap_var (i := 5) rfl (by first | exact Or.inl rfl | exact Or.inr (Or.inl rfl) | exact Or.inr (Or.inr rfl)))) (ao (ap_var (i := 8) rfl (by first | exact Or.inl rfl | exact Or.inr (Or.inl rfl) | exact Or.inr (Or.inr rfl)))) (fun _ _ => rfl))) (ao ap_int) rfl))) (fun cl s' H' fp C' => (ap_var (i := 8) rfl (by first | exact Or.inl rfl | exact Or.inr (Or.inl rfl) | exact Or.inr (Or.inr rfl)))) (fun _ => rfl)))) aao_nil (star_ok rfl)) (by decide) (by decide) rfl rfl) aa_nil (star_ok rfl)) (star_ok rfl)) (star_ok rfl)) (by decide +kernel)))))))
    ass_nil)
   (ass_cons (as_to (sh := [.p, .f, .dead, .dead, .dead, .dead, .dead, .f]) (as_set (i := 7) sc__law_question.nd rfl (by first | exact Or.inl rfl | exact Or.inr rfl) (ae_ix ix_seq ok_ix (ae_pu (ap_z (al_lst (aa_cons ap_int (aa_cons ap_int (aa_cons ap_int (aa_cons ap_int aa_nil (star_ok rfl)) (star_ok rfl)) (star_ok rfl)) (star_ok rfl)) (by decide +kernel)))) (ae_fn1 (i := 0) C__law_take (hr.mono (by omega)) rfl rfl (by first | exact Or.inl rfl | exact Or.inr (Or.inl rfl) | exact Or.inr (Or.inr rfl)) (aea_cons (ae_pu ap_int) aea_nil (star_ok rfl)) rfl (by decide) rfl rfl) (fun _ _ => rfl)) rfl (.inl rfl)))
   (ass_one (as_ret (ae_tup (aea_cons (ae_pu ap_str) (aea_cons (ae_fn1 (i := 0) C__law_sorts (hr.mono (by omega)) rfl rfl (by first | exact Or.inl rfl | exact Or.inr (Or.inl rfl) | exact Or.inr (Or.inr rfl)) (aea_cons (ae_pu (ap_var (i := 1) rfl (by first | exact Or.inl rfl | exact Or.inr (Or.inl rfl) | exact Or.inr (Or.inr rfl)))) aea_nil (star_ok rfl)) rfl (by decide) rfl rfl) (aea_cons (ae_pu (ap_var (i := 7) rfl (by first | exact Or.inl rfl | exact Or.inr (Or.inl rfl) | exact Or.inr (Or.inr rfl)))) (aea_cons (ae_fn1 (i := 0) C__law_take (hr.mono (by omega)) rfl rfl (by first | exact Or.inl rfl | exact Or.inr (Or.inl rfl) | exact Or.inr (Or.inr rfl)) (aea_cons (ae_pu (ap_var (i := 7) rfl (by first | exact Or.inl rfl | exact Or.inr (Or.inl rfl) | exact Or.inr (Or.inr rfl)))) aea_nil (star_ok rfl)) rfl (by decide) rfl rfl) aea_nil (star_ok rfl)) (star_ok rfl)) (star_ok rfl)) (star_ok rfl)) (by decide +kernel))))))))))
  (fun g ds hl => match ds, hl with | [p_law_sorts_here, p_law_deep], _ => by kernel_rfl)
theorem ok__law_question {f : Addr} {fd : FuncData} (Fn : Fun K "_law_question" "_law_question" s__law_question f fd) (hmg : mg "_law_question" = some (.ref f)) (B : BN mg) (Kn : KN mg) (C__law_take : CF P w K mg base "_law_take" 1 (sp1 K 2 mf__law_take)) (C__law_sorts : CF P w K mg base "_law_sorts" 2 (sp1 K 2 mf__law_sorts)) (i : Nat) : CF P w K mg base "_law_question" (3 + i) (sp1 K 3 (mf__law_question i)) := by
  induction i with
  | zero =>
    have e : mf__law_question 0 = fun _ _ => .bad := by
      funext g l; unfold mf__law_question; split <;> rfl
    rw [e]
    exact CF.zero1 (ps := ["_law_feed_here", "_law_sorts_here", "_law_deep"]) _ _ hmg Fn.kp (Fn.binds fun _ _ _ _ _ _ us hl => match us, hl with | [_, _, _], _ => rfl)
  | succ i ih => exact ⟨f, fd, ["_law_feed_here", "_law_sorts_here", "_law_deep"], fn__law_question Fn B Kn C__law_take C__law_sorts i ih, hmg, Fn.kp, (Fn.binds fun _ _ _ _ _ _ us hl => match us, hl with | [_, _, _], _ => rfl)⟩
abbrev s__law_of : Stmt := top 42
abbrev N__law_of : List Str := ["_law_sizes", "_law_some", "_law_sign", "_law_number", "_law_ofs"]
theorem sc__law_of : FnScope N__law_of ["_law_sizes", "_law_some", "_law_sign", "_law_number"] (defScope s__law_of) := ⟨rfl, rfl, rfl, by decide +kernel, rfl, by decide +kernel, by decide +kernel⟩
abbrev N__law_of_0 : List Str := ["_law_sizes", "_law_some", "_law_sign", "_law_number", "_law_ofs", "_law_sort"]
theorem nd_N__law_of_0 : N__law_of_0.Nodup := by decide +kernel
def c__law_of (p_law_sizes : D) (p_law_some : D) (p_law_sign : D) (p_law_number : D) : M D :=
  bd (bd (bd (bd (bd (oM (opIx p_law_sizes (.int 1))) fun x1 => oM (fRange1 [x1])) fun l7 => bd (compC (fun d2 => bd (bd (bd (bd (oM (opIn d2 p_law_some)) fun b3 => .ret (.bool b3)) fun x4 => oM (fInt [x4])) fun x5 => oM (opMulI p_law_sign x5)) fun x6 => .ret (some x6)) l7) fitM) fun l8 => .ret (PyData.list l8)) fun x9 => oM (fTuple [x9])) fun x10 => bd (bd (bd (oM (opIx p_law_sizes (.int 0))) fun x11 => oM (opMulT (.tuple [(.int 0)]) x11)) fun x12 => .ret (.tuple [p_law_number, x12, x10])) fun x13 => .ret x13
def mf__law_of : List D → M D := fun l => match l with
  | [p_law_sizes, p_law_some, p_law_sign, p_law_number] => c__law_of p_law_sizes p_law_some p_law_sign p_law_number
  | _ => .bad
set_option maxHeartbeats 4000000 in
theorem fn__law_of {f : Addr} {fd : FuncData} (Fn : Fun K "_law_of" "_law_of" s__law_of f fd) (B : BN mg) (Kn : KN mg) : FnOk P w K mg base CX0 1 f fd ["_law_sizes", "_law_some", "_law_sign", "_law_number"] (spD K 4 mf__law_of) :=
  fn_okD (k := 0) Fn sc__law_of (fun cdv A outer s H E hr =>
  (ass_cons (as_to (sh := [.f, .dead, .dead, .f, .f]) (as_set (i := 4) sc__law_of.nd rfl (by first | exact Or.inl rfl | exact Or.inr rfl) (ae_pu (ap_callTy call_tuple_of ok_tuple rfl B.tuple (by decide +kernel) (aao_cons (ao (ap_z (al_comp (N' := N__law_of_0) (k := 1) rfl (compOk_of (N := N__law_of) (sc := (defScope s__law_of)) (by decide +kernel) rfl rfl) (ai_range1 rfl B.range (aa_cons (ap_ix ix_seq ok_ix (ao (ap_var (i := 0) rfl (by first | exact Or.inl rfl | exact Or.inr (Or.inl rfl) | exact Or.inr (Or.inr rfl)))) (ao ap_int) (fun _ _ => rfl)) aa_nil (star_ok rfl)) rfl) (fun cl s' H' fp C' => (ag_name (i := 5) (show 5 ≤ 5 by decide) nd_N__law_of_0 rfl (by first | exact Or.inl rfl | exact Or.inr rfl) (.inr rfl))) (fun cl s' H' fp C' => ats_nil) (fun cl s' H' fp C' => (ap_bin op_mul ok_mul (ao (ap_var (i := 2) rfl (by first | exact Or.inl rfl | exact Or.inr (Or.inl rfl) | exact Or.inr (Or.inr rfl)))) (ao (ap_callTy call_int1 ok_int rfl B.int (by decide +kernel) (aao_cons (ao (ap_b (ab_cmp (opr_in (room_u hr)) ok_D2 (ao (ap_var (i := 5) rfl (by first | exact Or.inl rfl | exact Or.inr (Or.inl rfl) | exact Or.inr (Or.inr rfl)))) (ao (ap_var (i := 1) rfl (by first | exact Or.inl rfl | exact Or.inr (Or.inl rfl) | exact Or.inr (Or.inr rfl)))) rfl))) aao_nil (star_ok rfl)) (by decide) (by decide) rfl rfl)))) (fun _ => rfl)))) aao_nil (star_ok rfl)) (by decide) (by decide) rfl rfl)) rfl (.inl rfl)))
   (ass_one (as_ret (ae_pu (ap_tup (aa_cons (ap_var (i := 3) rfl (by first | exact Or.inl rfl | exact Or.inr (Or.inl rfl) | exact Or.inr (Or.inr rfl))) (aa_cons (ap_bin op_mulT ok_mulT (ao (ap_tup (aa_cons ap_int aa_nil (star_ok rfl)) (by decide +kernel))) (ao (ap_ix ix_seq ok_ix (ao (ap_var (i := 0) rfl (by first | exact Or.inl rfl | exact Or.inr (Or.inl rfl) | exact Or.inr (Or.inr rfl)))) (ao ap_int) (fun _ _ => rfl)))) (aa_cons (ap_var (i := 4) rfl (by first | exact Or.inl rfl | exact Or.inr (Or.inl rfl) | exact Or.inr (Or.inr rfl))) aa_nil (star_ok rfl)) (star_ok rfl)) (star_ok rfl)) (by decide +kernel)))))))
  (fun ds hl => match ds, hl with | [p_law_sizes, p_law_some, p_law_sign, p_law_number], _ => by kernel_rfl)
theorem ok__law_of {f : Addr} {fd : FuncData} (Fn : Fun K "_law_of" "_law_of" s__law_of f fd) (hmg : mg "_law_of" = some (.ref f)) (B : BN mg) (Kn : KN mg) : CF P w K mg base "_law_of" 1 (spD K 4 mf__law_of) :=
  ⟨f, fd, ["_law_sizes", "_law_some", "_law_sign", "_law_number"], fn__law_of Fn B Kn, hmg, Fn.kp, (Fn.binds fun _ _ _ _ _ _ us hl => match us, hl with | [_, _, _, _], _ => rfl)⟩
abbrev s__law_rows : Stmt := top 43
abbrev N__law_rows : List Str := ["_law_sizes", "_law_question_here", "_law_truth_here", "_law_ofs", "_law_some", "_law_ones", "_law_others", "_law_found", "_law_row"]
theorem sc__law_rows : FnScope N__law_rows ["_law_sizes", "_law_question_here", "_law_truth_here"] (defScope s__law_rows) := ⟨rfl, rfl, rfl, by decide +kernel, rfl, by decide +kernel, by decide +kernel⟩
abbrev N__law_rows_0 : List Str := ["_law_sizes", "_law_question_here", "_law_truth_here", "_law_ofs", "_law_some", "_law_ones", "_law_others", "_law_found", "_law_row", "_law_sort"]
theorem nd_N__law_rows_0 : N__law_rows_0.Nodup := by decide +kernel
abbrev N__law_rows_1 : List Str := ["_law_sizes", "_law_question_here", "_law_truth_here", "_law_ofs", "_law_some", "_law_ones", "_law_others", "_law_found", "_law_row", "_law_one"]
theorem nd_N__law_rows_1 : N__law_rows_1.Nodup := by decide +kernel
abbrev N__law_rows_2 : List Str := ["_law_sizes", "_law_question_here", "_law_truth_here", "_law_ofs", "_law_some", "_law_ones", "_law_others", "_law_found", "_law_row", "_law_k"]
theorem nd_N__law_rows_2 : N__law_rows_2.Nodup := by decide +kernel
abbrev N__law_rows_3 : List Str := ["_law_sizes", "_law_question_here", "_law_truth_here", "_law_ofs", "_law_some", "_law_ones", "_law_others", "_law_found", "_law_row", "_law_k"]
theorem nd_N__law_rows_3 : N__law_rows_3.Nodup := by decide +kernel
abbrev N__law_rows_4 : List Str := ["_law_sizes", "_law_question_here", "_law_truth_here", "_law_ofs", "_law_some", "_law_ones", "_law_others", "_law_found", "_law_row", "_law_more"]
theorem nd_N__law_rows_4 : N__law_rows_4.Nodup := by decide +kernel
def c__law_rows_r2 (self : D → D → D → M D) (v_law_others : D) (v_law_found : List D) : M D :=
  .ret (PyData.list v_law_found)
def c__law_rows_s1 (self : D → D → D → M D) (v_law_others : D) (v_law_found : List D) (d_ : D) (kn98 : D × List D × Unit → M D) : M D :=
  bd (bd (oM (seqD v_law_others)) fun l101 => bd (compC (fun d99 => bd (oM (opAdd d_ d99)) fun x100 => .ret (some x100)) l101) fitM) fun l102 => bd (oM (mExt v_law_found l102)) fun l103 => kn98 (v_law_others, l103, ())
def c__law_rows_b (self : D → D → D → M D) (p_law_sizes : D) (p_law_question_here : D) (p_law_truth_here : D) : M D :=
  bd (bd (oM (opIx p_law_question_here (.int 0))) fun x1 => oM (opEq x1 (.str "not"))) fun b2 => if b2 then
    bd (bd (oM (opIx p_law_question_here (.int 1))) fun x3 => bd (bd (bd (oM (truD p_law_truth_here)) fun b4 => .ret (!b4)) fun b5 => .ret (.bool b5)) fun x6 => self p_law_sizes x3 x6) fun x7 => .ret x7
   else
    bd (bd (oM (opIx p_law_question_here (.int 0))) fun x8 => oM (opEq x8 (.str "least"))) fun b9 => if b9 then
    bd (oM (truD p_law_truth_here)) fun b10 => if b10 then
    bd (bd (bd (bd (bd (bd (oM (opIx p_law_question_here (.int 1))) fun x11 => bd (bd (oM (opIx p_law_question_here (.int 2))) fun x12 => oM (opNeg x12)) fun x13 => c__law_of p_law_sizes x11 (.int 1) x13) fun x14 => .ret (.tuple [(.str "least"), x14])) fun x15 => .ret (.tuple [x15])) fun x16 => .ret [x16]) fun l17 => .ret (PyData.list l17)) fun x18 => .ret x18
   else
    bd (bd (bd (bd (bd (bd (oM (opIx p_law_question_here (.int 1))) fun x19 => bd (oM (opNeg (.int 1))) fun x20 => bd (bd (oM (opIx p_law_question_here (.int 2))) fun x21 => oM (opSub x21 (.int 1))) fun x22 => c__law_of p_law_sizes x19 x20 x22) fun x23 => .ret (.tuple [(.str "least"), x23])) fun x24 => .ret (.tuple [x24])) fun x25 => .ret [x25]) fun l26 => .ret (PyData.list l26)) fun x27 => .ret x27
   else
    bd (bd (oM (opIx p_law_question_here (.int 0))) fun x28 => oM (opEq x28 (.str "more"))) fun b29 => if b29 then
    bd (bd (bd (bd (oM (opIx p_law_sizes (.int 1))) fun x30 => oM (fRange1 [x30])) fun l41 => bd (compC (fun d31 => bd (bd (bd (bd (bd (oM (opIx p_law_question_here (.int 1))) fun x32 => oM (opIn d31 x32)) fun b33 => .ret (.bool b33)) fun x34 => oM (fInt [x34])) fun x38 => bd (bd (bd (bd (oM (opIx p_law_question_here (.int 2))) fun x35 => oM (opIn d31 x35)) fun b36 => .ret (.bool b36)) fun x37 => oM (fInt [x37])) fun x39 => oM (opSub x38 x39)) fun x40 => .ret (some x40)) l41) fitM) fun l42 => .ret (PyData.list l42)) fun x43 => bd (oM (truD p_law_truth_here)) fun b44 => if b44 then
    bd (bd (bd (bd (bd (bd (oM (opNeg (.int 1))) fun x45 => bd (bd (oM (opIx p_law_sizes (.int 0))) fun x46 => oM (opMulT (.tuple [(.int 0)]) x46)) fun x47 => bd (oM (fTuple [x43])) fun x48 => .ret (.tuple [x45, x47, x48])) fun x49 => .ret (.tuple [(.str "least"), x49])) fun x50 => .ret (.tuple [x50])) fun x51 => .ret [x51]) fun l52 => .ret (PyData.list l52)) fun x53 => .ret x53
   else
    bd (bd (bd (bd (bd (bd (bd (oM (opIx p_law_sizes (.int 0))) fun x54 => oM (opMulT (.tuple [(.int 0)]) x54)) fun x55 => bd (bd (bd (bd (oM (seqD x43)) fun l58 => bd (compC (fun d56 => bd (oM (opNeg d56)) fun x57 => .ret (some x57)) l58) fitM) fun l59 => .ret (PyData.list l59)) fun x60 => oM (fTuple [x60])) fun x61 => .ret (.tuple [(.int 0), x55, x61])) fun x62 => .ret (.tuple [(.str "least"), x62])) fun x63 => .ret (.tuple [x63])) fun x64 => .ret [x64]) fun l65 => .ret (PyData.list l65)) fun x66 => .ret x66
   else
    bd (bd (oM (opIx p_law_question_here (.int 0))) fun x67 => oM (opEq x67 (.str "rest"))) fun b68 => if b68 then
    bd (bd (bd (bd (oM (opIx p_law_question_here (.int 2))) fun x69 => oM (fRange1 [x69])) fun l75 => bd (compC (fun d70 => bd (bd (bd (bd (oM (opIx p_law_question_here (.int 3))) fun x71 => oM (opEq d70 x71)) fun b72 => .ret (.bool b72)) fun x73 => oM (opEq x73 p_law_truth_here)) fun b74 => if b74 then .ret (some d70) else .ret none) l75) fitM) fun l76 => .ret (PyData.list l76)) fun x77 => bd (bd (bd (oM (seqD x77)) fun l85 => bd (compC (fun d78 => bd (bd (bd (bd (oM (opIx p_law_question_here (.int 1))) fun x79 => bd (oM (opNeg d78)) fun x80 => c__law_of p_law_sizes x79 (.int 1) x80) fun x81 => bd (oM (opIx p_law_question_here (.int 2))) fun x82 => .ret (.tuple [(.str "rest"), x81, x82])) fun x83 => .ret (.tuple [x83])) fun x84 => .ret (some x84)) l85) fitM) fun l86 => .ret (PyData.list l86)) fun x87 => .ret x87
   else
    bd (bd (oM (opIx p_law_question_here (.int 1))) fun x88 => self p_law_sizes x88 p_law_truth_here) fun x89 => bd (bd (oM (opIx p_law_question_here (.int 2))) fun x90 => self p_law_sizes x90 p_law_truth_here) fun x91 => bd (bd (bd (bd (oM (opIx p_law_question_here (.int 0))) fun x92 => oM (opEq x92 (.str "both"))) fun b93 => .ret (.bool b93)) fun x94 => oM (opNe x94 p_law_truth_here)) fun b95 => if b95 then
    bd (oM (opAdd x89 x91)) fun x96 => .ret x96
   else
    bd (oM (seqD x89)) fun l97 => forS (fun s104 d105 kn => c__law_rows_s1 self s104.1 s104.2.1 d105 kn) l97 (x91, [], ()) (fun s104 => c__law_rows_r2 self s104.1 s104.2.1)
def c__law_rows : Nat → D → D → D → M D
  | 0 => fun _ _ _ => .bad
  | i + 1 => c__law_rows_b (c__law_rows i)
def mf__law_rows (i : Nat) : List D → M D := fun l => match l with
  | [p_law_sizes, p_law_question_here, p_law_truth_here] => c__law_rows i p_law_sizes p_law_question_here p_law_truth_here
  | _ => .bad
set_option maxHeartbeats 4000000 in
theorem fn__law_rows {f : Addr} {fd : FuncData} (Fn : Fun K "_law_rows" "_law_rows" s__law_rows f fd) (B : BN mg) (Kn : KN mg) (C__law_of : CF P w K mg base "_law_of" 1 (spD K 4 mf__law_of)) (i : Nat) (Cself : CF P w K mg base "_law_rows" (2 + i) (spD K 3 (mf__law_rows i))) : FnOk P w K mg base CX0 (2 + i + 1) f fd ["_law_sizes", "_law_question_here", "_law_truth_here"] (spD K 3 (mf__law_rows (i + 1))) :=
  fn_okD (k := 2 + i) Fn sc__law_rows (fun cdv A outer s H E hr =>
  (ass_cons (as_if (aet_pu (at_cmp (opr_eq (room_u hr)) ok_D2 (ao (ap_ix ix_seq ok_ix (ao (ap_var (i := 1) rfl (by first | exact Or.inl rfl | exact Or.inr (Or.inl rfl) | exact Or.inr (Or.inr rfl)))) (ao ap_int) (fun _ _ => rfl))) (ao ap_str) rfl))
    (ass_one (as_ret (ae_pu (ap_fn Cself (hr.mono (by omega)) rfl (aa_cons (ap_var (i := 0) rfl (by first | exact Or.inl rfl | exact Or.inr (Or.inl rfl) | exact Or.inr (Or.inr rfl))) (aa_cons (ap_ix ix_seq ok_ix (ao (ap_var (i := 1) rfl (by first | exact Or.inl rfl | exact Or.inr (Or.inl rfl) | exact Or.inr (Or.inr rfl)))) (ao ap_int) (fun _ _ => rfl)) (aa_cons (ap_b (ab_notO (ao (ap_var (i := 2) rfl (by first | exact Or.inl rfl | exact Or.inr (Or.inl rfl) | exact Or.inr (Or.inr rfl)))))) aa_nil (star_ok rfl)) (star_ok rfl)) (star_ok rfl)) rfl (by decide) rfl rfl))))
    ass_nil)
   (ass_cons (as_if (aet_pu (at_cmp (opr_eq (room_u hr)) ok_D2 (ao (ap_ix ix_seq ok_ix (ao (ap_var (i := 1) rfl (by first | exact Or.inl rfl | exact Or.inr (Or.inl rfl) | exact Or.inr (Or.inr rfl)))) (ao ap_int) (fun _ _ => rfl))) (ao ap_str) rfl))
    (ass_cons (as_if (aet_pu (at_tru (ao (ap_var (i := 2) rfl (by first | exact Or.inl rfl | exact Or.inr (Or.inl rfl) | exact Or.inr (Or.inr rfl)))) (fun _ => rfl)))
    (ass_one (as_ret (ae_pu (ap_z (al_lst (aa_cons (ap_tup (aa_cons (ap_tup (aa_cons ap_str (aa_cons (ap_fn C__law_of (hr.mono (by omega)) rfl (aa_cons (ap_var (i := 0) rfl (by first | exact Or.inl rfl | exact Or.inr (Or.inl rfl) | exact Or.inr (Or.inr rfl))) (aa_cons (ap_ix ix_seq ok_ix (ao (ap_var (i := 1) rfl (by first | exact Or.inl rfl | exact Or.inr (Or.inl rfl) | exact Or.inr (Or.inr rfl)))) (ao ap_int) (fun _ _ => rfl)) (aa_cons ap_int (aa_cons (ap_un un_neg ok_neg (ao (ap_ix ix_seq ok_ix (ao (ap_var (i := 1) rfl (by first | exact Or.inl rfl | exact Or.inr (Or.inl rfl) | exact Or.inr (Or.inr rfl)))) (ao ap_int) (fun _ _ => rfl)))) aa_nil (star_ok rfl)) (star_ok rfl)) (star_ok rfl)) (star_ok rfl)) rfl (by decide) rfl rfl) aa_nil (star_ok rfl)) (star_ok rfl)) (by decide +kernel)) aa_nil (star_ok rfl)) (by decide +kernel)) aa_nil (star_ok rfl)) (by decide +kernel))))))
    ass_nil)
   (ass_one (as_ret (ae_pu (ap_z (al_lst (aa_cons (ap_tup (aa_cons (ap_tup (aa_cons ap_str (aa_cons (ap_fn C__law_of (hr.mono (by omega)) rfl (aa_cons (ap_var (i := 0) rfl (by first | exact Or.inl rfl | exact Or.inr (Or.inl rfl) | exact Or.inr (Or.inr rfl))) (aa_cons (ap_ix ix_seq ok_ix (ao (ap_var (i := 1) rfl (by first | exact Or.inl rfl | exact Or.inr (Or.inl rfl) | exact Or.inr (Or.inr rfl)))) (ao ap_int) (fun _ _ => rfl)) (aa_cons (ap_un un_neg ok_neg (ao ap_int)) (aa_cons (ap_bin op_sub ok_sub (ao (ap_ix ix_seq ok_ix (ao (ap_var (i := 1) rfl (by first | exact Or.inl rfl | exact Or.inr (Or.inl rfl) | exact Or.inr (Or.inr rfl)))) (ao ap_int) (fun _ _ => rfl))) (ao ap_int)) aa_nil (star_ok rfl)) (star_ok rfl)) (star_ok rfl)) (star_ok rfl)) rfl (by decide) rfl rfl) aa_nil (star_ok rfl)) (star_ok rfl)) (by decide +kernel)) aa_nil (star_ok rfl)) (by decide +kernel)) aa_nil (star_ok rfl)) (by decide +kernel)))))))
    ass_nil)
   (ass_cons (as_if (aet_pu (at_cmp (opr_eq (room_u hr)) ok_D2 (ao (ap_ix ix_seq ok_ix (ao (ap_var (i := 1) rfl (by first | exact Or.inl rfl | exact Or.inr (Or.inl rfl) | exact Or.inr (Or.inr rfl)))) (ao ap_int) (fun _ _ => rfl))) (ao ap_str) rfl))
    (ass_cons (as_to (sh := [.f, .dead, .f, .f, .dead, .dead, .dead, .dead, .dead]) (as_setComp (i := 3) sc__law_rows.nd rfl (by first | exact Or.inl rfl | exact Or.inr rfl) (.inl rfl) (N' := N__law_rows_0) (k := 1) rfl (compOk_of (N := N__law_rows) (sc := (defScope s__law_rows)) (by decide +kernel) rfl rfl) (ai_range1 rfl B.range (aa_cons (ap_ix ix_seq ok_ix (ao (ap_var (i := 0) rfl (by first | exact Or.inl rfl | exact Or.inr (Or.inl rfl) | exact Or.inr (Or.inr rfl)))) (ao ap_int) (fun _ _ => rfl)) aa_nil (star_ok rfl)) rfl) (fun cl s' H' fp C' => (ag_name (i := 9) (show 9 ≤ 9 by decide) nd_N__law_rows_0 rfl (by first | exact Or.inl rfl | exact Or.inr rfl) (.inr rfl))) (fun cl s' H' fp C' => ats_nil) (fun cl s' H' fp C' => (ap_bin op_sub ok_sub (ao (ap_callTy call_int1 ok_int rfl B.int (by decide +kernel) (aao_cons (ao (ap_b (ab_cmp (opr_in (room_u hr)) ok_D2 (ao (ap_var (i := 9) rfl (by first | exact Or.inl rfl | exact Or.inr (Or.inl rfl) | exact Or.inr (Or.inr rfl)))) (ao (ap_ix ix_seq ok_ix (ao (ap_var (i := 1) rfl (by first | exact Or.inl rfl | exact Or.inr (Or.inl rfl) | exact Or.inr (Or.inr rfl)))) (ao ap_int) (fun _ _ => rfl))) rfl))) aao_nil (star_ok rfl)) (by decide) (by decide) rfl rfl)) (ao (ap_callTy call_int1 ok_int rfl B.int (by decide +kernel) (aao_cons (ao (ap_b (ab_cmp (opr_in (room_u hr)) ok_D2 (ao (ap_var (i := 9) rfl (by first | exact Or.inl rfl | exact Or.inr (Or.inl rfl) | exact Or.inr (Or.inr rfl)))) (ao (ap_ix ix_seq ok_ix (ao (ap_var (i := 1) rfl (by first | exact Or.inl rfl | exact Or.inr (Or.inl rfl) | exact Or.inr (Or.inr rfl)))) (ao ap_int) (fun _ _ => rfl))) rfl))) aao_nil (star_ok rfl)) (by decide) (by decide) rfl rfl)))) rfl (fun _ => rfl)))
   (ass_cons (as_if (aet_pu (at_tru (ao (ap_var (i := 2) rfl (by first | exact Or.inl rfl | exact Or.inr (Or.inl rfl) | exact Or.inr (Or.inr rfl)))) (fun _ => rfl)))
    (ass_one (as_ret (ae_pu (ap_z (al_lst (aa_cons (ap_tup (aa_cons (ap_tup (aa_cons ap_str (aa_cons (ap_tup (aa_cons (ap_un un_neg ok_neg (ao ap_int)) (aa_cons (ap_bin op_mulT ok_mulT (ao (ap_tup (aa_cons ap_int aa_nil (star_ok rfl)) (by decide +kernel))) (ao (ap_ix ix_seq ok_ix (ao (ap_var (i := 0) rfl (by first | exact Or.inl rfl | exact Or.inr (Or.inl rfl) | exact Or.inr (Or.inr rfl)))) (ao ap_int) (fun _ _ => rfl)))) (aa_cons (ap_callTy call_tuple_of ok_tuple rfl B.tuple (by decide +kernel) (aao_cons (ao (ap_var (i := 3) rfl (by first | exact Or.inl rfl | exact Or.inr (Or.inl rfl) | exact Or.inr (Or.inr rfl)))) aao_nil (star_ok rfl)) (by decide) (by decide) rfl rfl) aa_nil (star_ok rfl)) (star_ok rfl)) (star_ok rfl)) (by decide +kernel)) aa_nil (star_ok rfl)) (star_ok rfl)) (by decide +kernel)) aa_nil (star_ok rfl)) (by decide +kernel)) aa_nil (star_ok rfl)) (by decide +kernel))))))
    ass_nil)
   (ass_one (as_ret (ae_pu (ap_z (al_lst (aa_cons (ap_tup (aa_cons (ap_tup (aa_cons ap_str (aa_cons (ap_tup (aa_cons ap_int (aa_cons (ap_bin op_mulT ok_mulT (ao (ap_tup (aa_cons ap_int aa_nil (star_ok rfl)) (by decide +kernel))) (ao (ap_ix ix_seq ok_ix (ao (ap_var (i := 0) rfl (by first | exact Or.inl rfl | exact Or.inr (Or.inl rfl) | exact Or.inr (Or.inr rfl)))) (ao ap_int) (fun _ _ => rfl)))) (aa_cons (ap_callTy call_tuple_of ok_tuple rfl B.tuple (by decide +kernel) (aao_cons (ao (ap_z (al_comp (N' := N__law_rows_1) (k := 1) rfl (compOk_of (N := N__law_rows) (sc := (defScope s__law_rows)) (by decide +kernel) rfl rfl) (ai_seq (ap_var (i := 3) rfl (by first | exact Or.inl rfl | exact Or.inr (Or.inl rfl) | exact Or.inr (Or.inr rfl)))) (fun cl s' H' fp C' => (ag_name (i := 9) (show 9 ≤ 9 by decide) nd_N__law_rows_1 rfl (by first | exact Or.inl rfl | exact Or.inr rfl) (.inr rfl))) (fun cl s' H' fp C' => ats_nil) (fun cl s' H' fp C' => (ap_un un_neg ok_neg (ao (ap_var (i := 9) rfl (by first | exact Or.inl rfl | exact Or.inr (Or.inl rfl) | exact Or.inr (Or.inr rfl)))))) (fun _ => rfl)))) aao_nil (star_ok rfl)) (by decide) (by decide) rfl rfl) aa_nil (star_ok rfl)) (star_ok rfl)) (star_ok rfl)) (by decide +kernel)) aa_nil (star_ok rfl)) (star_ok rfl)) (by decide +kernel)) aa_nil (star_ok rfl)) (by decide +kernel)) aa_nil (star_ok rfl)) (by decide +kernel))))))))
    ass_nil)
   (ass_cons (as_if (aet_pu (at_cmp (opr_eq (room_u hr)) ok_D2 (ao (ap_ix ix_seq ok_ix (ao (ap_var (i := 1) rfl (by first | exact Or.inl rfl | exact Or.inr (Or.inl rfl) | exact Or.inr (Or.inr rfl)))) (ao ap_int) (fun _ _ => rfl))) (ao ap_str) rfl))
    (ass_cons (as_to (sh := [.f, .f, .dead, .dead, .f, .dead, .dead, .dead, .dead]) (as_setComp (i := 4) sc__law_rows.nd rfl (by first | exact Or.inl rfl | exact Or.inr rfl) (.inl rfl) (N' := N__law_rows_2) (k := 1) rfl (compOk_of (N := N__law_rows) (sc := (defScope s__law_rows)) (by decide +kernel) rfl rfl) (ai_range1 rfl B.range (aa_cons (ap_ix ix_seq ok_ix (ao (ap_var (i := 1) rfl (by first | exact Or.inl rfl | exact Or.inr (Or.inl rfl) | exact Or.inr (Or.inr rfl)))) (ao ap_int) (fun _ _ => rfl)) aa_nil (star_ok rfl)) rfl) (fun cl s' H' fp C' => (ag_name (i := 9) (show 9 ≤ 9 by decide) nd_N__law_rows_2 rfl (by first | exact Or.inl rfl | exact Or.inr rfl) (.inr rfl))) (fun cl s' H' fp C' => (ats_one (at_cmp (opr_eq (room_u hr)) ok_D2 (ao (ap_b (ab_cmp (opr_eq (room_u hr)) ok_D2 (ao (ap_var (i := 9) rfl (by first | exact Or.inl rfl | exact Or.inr (Or.inl rfl) | exact Or.inr (Or.inr rfl)))) (ao (ap_ix ix_seq ok_ix (ao (ap_var (i := 1) rfl (by first | exact Or.inl rfl | exact Or.inr (Or.inl rfl) | exact Or.inr (Or.inr rfl)))) (ao ap_int) (fun _ _ => rfl))) rfl))) (ao (ap_var (i := 2) rfl (by first | exact Or.inl rfl | exact Or.inr (Or.inl rfl) | exact Or.inr (Or.inr rfl)))) rfl))) (fun cl s' H' fp C' => (ap_var (i := 9) rfl (by first | exact Or.inl rfl | exact Or.inr (Or.inl rfl) | exact Or.inr (Or.inr rfl)))) rfl (fun _ => rfl)))
   (ass_one (as_ret (ae_pu (ap_z (al_comp (N' := N__law_rows_3) (k := 1) rfl (compOk_of (N := N__law_rows) (sc := (defScope s__law_rows)) (by decide +kernel) rfl rfl) (ai_seq (ap_var (i := 4) rfl (by first | exact Or.inl rfl | exact Or.inr (Or.inl rfl) | exact Or.inr (Or.inr rfl)))) (fun cl s' H' fp C' => (ag_name (i := 9) (show 9 ≤ 9 by decide) nd_N__law_rows_3 rfl (by first | exact Or.inl rfl | exact Or.inr rfl) (.inr rfl))) (fun cl s' H' fp C' => ats_nil) (fun cl s' H' fp C' => (ap_tup (aa_cons (ap_tup (aa_cons ap_str (aa_cons (ap_fn C__law_of (hr.mono (by omega)) rfl (aa_cons (ap_var (i := 0) rfl (by first | exact Or.inl rfl | exact Or.inr (Or.inl rfl) | exact Or.inr (Or.inr rfl))) (aa_cons (ap_ix ix_seq ok_ix (ao (ap_var (i := 1) rfl (by first | exact Or.inl rfl | exact Or.inr (Or.inl rfl) | exact Or.inr (Or.inr rfl)))) (ao ap_int) (fun _ _ => rfl)) (aa_cons ap_int (aa_cons (ap_un un_neg ok_neg (ao (ap_var (i := 9) rfl (by first | exact Or.inl rfl | exact Or.inr (Or.inl rfl) | exact Or.inr (Or.inr rfl))))) aa_nil (star_ok rfl)) (star_ok rfl)) (star_ok rfl)) (star_ok rfl)) rfl (by decide) rfl rfl) (aa_cons (ap_ix ix_seq ok_ix (ao (ap_var (i := 1) rfl (by first | exact Or.inl rfl | exact Or.inr (Or.inl rfl) | exact Or.inr (Or.inr rfl)))) (ao ap_int) (fun _ _ => rfl)) aa_nil (star_ok rfl)) (star_ok rfl)) (star_ok rfl)) (by decide +kernel)) aa_nil (star_ok rfl)) (by decide +kernel))) (fun _ => rfl)))))))
    ass_nil)
   (ass_cons (as_to (sh := [.f, .f, .f, .dead, .dead, .f, .dead, .dead, .dead]) (as_set (i := 5) sc__law_rows.nd rfl (by first | exact Or.inl rfl | exact Or.inr rfl) (ae_pu (ap_fn Cself (hr.mono (by omega)) rfl (aa_cons (ap_var (i := 0) rfl (by first | exact Or.inl rfl | exact Or.inr (Or.inl rfl) | exact Or.inr (Or.inr rfl))) (aa_cons (ap_ix ix_seq ok_ix (ao (ap_var (i := 1) rfl (by first | exact Or.inl rfl | exact Or.inr (Or.inl rfl) | exact Or.inr (Or.inr rfl)))) (ao ap_int) (fun _ _ => rfl)) (aa_cons (ap_var (i := 2) rfl (by first | exact Or.inl rfl | exact Or.inr (Or.inl rfl) | exact Or.inr (Or.inr rfl))) aa_nil (star_ok rfl)) (star_ok rfl)) (star_ok rfl)) rfl (by decide) rfl rfl)) rfl (.inl rfl)))
   (ass_cons (as_to (sh := [.dead, .f, .f, .dead, .dead, .f, .f, .dead, .dead]) (as_set (i := 6) sc__law_rows.nd rfl (by first | exact Or.inl rfl | exact Or.inr rfl) (ae_pu (ap_fn Cself (hr.mono (by omega)) rfl (aa_cons (ap_var (i := 0) rfl (by first | exact Or.inl rfl | exact Or.inr (Or.inl rfl) | exact Or.inr (Or.inr rfl))) (aa_cons (ap_ix ix_seq ok_ix (ao (ap_var (i := 1) rfl (by first | exact Or.inl rfl | exact Or.inr (Or.inl rfl) | exact Or.inr (Or.inr rfl)))) (ao ap_int) (fun _ _ => rfl)) (aa_cons (ap_var (i := 2) rfl (by first | exact Or.inl rfl | exact Or.inr (Or.inl rfl) | exact Or.inr (Or.inr rfl))) aa_nil (star_ok rfl)) (star_ok rfl)) (star_ok rfl)) rfl (by decide) rfl rfl)) rfl (.inl rfl)))
   (ass_cons (as_if (aet_pu (at_cmp (opr_ne (room_u hr)) ok_D2 (ao (ap_b (ab_cmp (opr_eq (room_u hr)) ok_D2 (ao (ap_ix ix_seq ok_ix (ao (ap_var (i := 1) rfl (by first | exact Or.inl rfl | exact Or.inr (Or.inl rfl) | exact Or.inr (Or.inr rfl)))) (ao ap_int) (fun _ _ => rfl))) (ao ap_str) rfl))) (ao (ap_var (i := 2) rfl (by first | exact Or.inl rfl | exact Or.inr (Or.inl rfl) | exact Or.inr (Or.inr rfl)))) rfl))
    (ass_one (as_ret (ae_pu (ap_bin op_addA ok_add (ao (ap_var (i := 5) rfl (by first | exact Or.inl rfl | exact Or.inr (Or.inl rfl) | exact Or.inr (Or.inr rfl)))) (ao (ap_var (i := 6) rfl (by first | exact Or.inl rfl | exact Or.inr (Or.inl rfl) | exact Or.inr (Or.inr rfl))))))))
    ass_nil)
   (ass_cons (as_to (sh := [.dead, .dead, .dead, .dead, .dead, .f, .f, .o, .dead]) (as_setL (i := 7) sc__law_rows.nd rfl (by first | exact Or.inl rfl | exact Or.inr rfl) (ael_pu (al_lst aa_nil (by decide +kernel))) rfl (.inl rfl)))
   (ass_cons (as_forS (sh := [.dead, .dead, .dead, .dead, .dead, .dead, .f, .o, .dead]) PassesOwn.never rfl (aei_pu (ai_seq (ap_var (i := 5) rfl (by first | exact Or.inl rfl | exact Or.inr (Or.inl rfl) | exact Or.inr (Or.inr rfl))))) (ag_name (i := 8) (Nat.zero_le _) sc__law_rows.nd rfl (by first | exact Or.inl rfl | exact Or.inr rfl) (.inl rfl))
    (ass_one (as_extL (i := 7) rfl (by first | exact Or.inl rfl | exact Or.inr (Or.inl rfl) | exact Or.inr (Or.inr rfl)) (ael_pu (al_comp (N' := N__law_rows_4) (k := 1) rfl (compOk_of (N := N__law_rows) (sc := (defScope s__law_rows)) (by decide +kernel) rfl rfl) (ai_seq (ap_var (i := 6) rfl (by first | exact Or.inl rfl | exact Or.inr (Or.inl rfl) | exact Or.inr (Or.inr rfl)))) (fun cl s' H' fp C' => (ag_name (i := 9) (show 9 ≤ 9 by decide) nd_N__law_rows_4 rfl (by first | exact Or.inl rfl | exact Or.inr rfl) (.inr rfl))) (fun cl s' H' fp C' => ats_nil) (fun cl s' H' fp C' => (ap_bin op_addA ok_add (ao (ap_var (i := 8) rfl (by first | exact Or.inl rfl | exact Or.inr (Or.inl rfl) | exact Or.inr (Or.inr rfl)))) (ao (ap_var (i := 9) rfl (by first | exact Or.inl rfl | exact Or.inr (Or.inl rfl) | exact Or.inr (Or.inr rfl)))))) (fun _ => rfl))) rfl rfl rfl rfl rfl rfl)) (fun _ => rfl))
   (ass_one (as_frz (i := 7) (as_ret (ae_pu (ap_var (i := 7) rfl (by first | exact Or.inl rfl | exact Or.inr (Or.inl rfl) | exact Or.inr (Or.inr rfl)))))))))))))))))
  (fun ds hl => match ds, hl with | [p_law_sizes, p_law_question_here, p_law_truth_here], _ => by kernel_rfl)
theorem ok__law_rows {f : Addr} {fd : FuncData} (Fn : Fun K "_law_rows" "_law_rows" s__law_rows f fd) (hmg : mg "_law_rows" = some (.ref f)) (B : BN mg) (Kn : KN mg) (C__law_of : CF P w K mg base "_law_of" 1 (spD K 4 mf__law_of)) (i : Nat) : CF P w K mg base "_law_rows" (2 + i) (spD K 3 (mf__law_rows i)) := by
  induction i with
  | zero =>
    have e : mf__law_rows 0 = fun _ => .bad := by
      funext l; unfold mf__law_rows; split <;> rfl
    rw [e]
    exact CF.zero (ps := ["_law_sizes", "_law_question_here", "_law_truth_here"]) _ _ hmg Fn.kp (Fn.binds fun _ _ _ _ _ _ us hl => match us, hl with | [_, _, _], _ => rfl)
  | succ i ih => exact ⟨f, fd, ["_law_sizes", "_law_question_here", "_law_truth_here"], fn__law_rows Fn B Kn C__law_of i ih, hmg, Fn.kp, (Fn.binds fun _ _ _ _ _ _ us hl => match us, hl with | [_, _, _], _ => rfl)⟩
abbrev s__law_truth : Stmt := top 44
abbrev N__law_truth : List Str := ["_law_question_here", "_law_counts_here", "_law_truths", "_law_many"]
theorem sc__law_truth : FnScope N__law_truth ["_law_question_here", "_law_counts_here"] (defScope s__law_truth) := ⟨rfl, rfl, rfl, by decide +kernel, rfl, by decide +kernel, by decide +kernel⟩
abbrev N__law_truth_0 : List Str := ["_law_question_here", "_law_counts_here", "_law_truths", "_law_many", "_law_part"]
theorem nd_N__law_truth_0 : N__law_truth_0.Nodup := by decide +kernel
abbrev N__law_truth_1 : List Str := ["_law_question_here", "_law_counts_here", "_law_truths", "_law_many", "_law_sort"]
theorem nd_N__law_truth_1 : N__law_truth_1.Nodup := by decide +kernel
abbrev N__law_truth_2 : List Str := ["_law_question_here", "_law_counts_here", "_law_truths", "_law_many", "_law_sort"]
theorem nd_N__law_truth_2 : N__law_truth_2.Nodup := by decide +kernel
def c__law_truth_b (self : D → D → M D) (p_law_question_here : D) (p_law_counts_here : D) : M D :=
  bd (bd (oM (opIx p_law_question_here (.int 0))) fun x1 => oM (opEq x1 (.str "not"))) fun b2 => if b2 then
    bd (bd (bd (bd (bd (oM (opIx p_law_question_here (.int 1))) fun x3 => self x3 p_law_counts_here) fun x4 => oM (truD x4)) fun b5 => .ret (!b5)) fun b6 => .ret (.bool b6)) fun x7 => .ret x7
   else
    bd (bd (oM (opIx p_law_question_here (.int 0))) fun x8 => oM (opIn x8 (.tuple [(.str "both"), (.str "either")]))) fun b9 => if b9 then
    bd (bd (bd (bd (bd (asI (.int 1)) fun lo10 => oM (fCut p_law_question_here lo10 none)) fun x11 => oM (seqD x11)) fun l14 => bd (compC (fun d12 => bd (self d12 p_law_counts_here) fun x13 => .ret (some x13)) l14) fitM) fun l15 => .ret (PyData.list l15)) fun x16 => bd (bd (bd (oM (opIx p_law_question_here (.int 0))) fun x17 => oM (opEq x17 (.str "both"))) fun b20 => if b20 then bd (oM (opNotIn (.bool false) x16)) fun b18 => .ret (.bool b18) else bd (oM (opIn (.bool true) x16)) fun b19 => .ret (.bool b19)) fun x21 => .ret x21
   else
    bd (bd (bd (bd (bd (oM (opIx p_law_question_here (.int 1))) fun x22 => oM (seqD x22)) fun l25 => bd (compC (fun d23 => bd (oM (opIx p_law_counts_here d23)) fun x24 => .ret (some x24)) l25) fitM) fun l26 => .ret (PyData.list l26)) fun x27 => oM (fSum [x27])) fun x28 => bd (bd (oM (opIx p_law_question_here (.int 0))) fun x29 => oM (opEq x29 (.str "least"))) fun b30 => if b30 then
    bd (bd (bd (oM (opIx p_law_question_here (.int 2))) fun x31 => oM (opGe x28 x31)) fun b32 => .ret (.bool b32)) fun x33 => .ret x33
   else
    bd (bd (oM (opIx p_law_question_here (.int 0))) fun x34 => oM (opEq x34 (.str "more"))) fun b35 => if b35 then
    bd (bd (bd (bd (bd (bd (bd (oM (opIx p_law_question_here (.int 2))) fun x36 => oM (seqD x36)) fun l39 => bd (compC (fun d37 => bd (oM (opIx p_law_counts_here d37)) fun x38 => .ret (some x38)) l39) fitM) fun l40 => .ret (PyData.list l40)) fun x41 => oM (fSum [x41])) fun x42 => oM (opGt x28 x42)) fun b43 => .ret (.bool b43)) fun x44 => .ret x44
   else
    bd (bd (bd (bd (oM (opIx p_law_question_here (.int 2))) fun x45 => oM (opMod x28 x45)) fun x46 => bd (oM (opIx p_law_question_here (.int 3))) fun x47 => oM (opEq x46 x47)) fun b48 => .ret (.bool b48)) fun x49 => .ret x49
def c__law_truth : Nat → D → D → M D
  | 0 => fun _ _ => .bad
  | i + 1 => c__law_truth_b (c__law_truth i)
def mf__law_truth (i : Nat) : List D → M D := fun l => match l with
  | [p_law_question_here, p_law_counts_here] => c__law_truth i p_law_question_here p_law_counts_here
  | _ => .bad
set_option maxHeartbeats 4000000 in
theorem fn__law_truth {f : Addr} {fd : FuncData} (Fn : Fun K "_law_truth" "_law_truth" s__law_truth f fd) (B : BN mg) (Kn : KN mg) (i : Nat) (Cself : CF P w K mg base "_law_truth" (1 + i) (spD K 2 (mf__law_truth i))) : FnOk P w K mg base CX0 (1 + i + 1) f fd ["_law_question_here", "_law_counts_here"] (spD K 2 (mf__law_truth (i + 1))) :=
  fn_okD (k := 1 + i) Fn sc__law_truth (fun cdv A outer s H E hr =>
  (ass_cons (as_if (aet_pu (at_cmp (opr_eq (room_u hr)) ok_D2 (ao (ap_ix ix_seq ok_ix (ao (ap_var (i := 0) rfl (by first | exact Or.inl rfl | exact Or.inr (Or.inl rfl) | exact Or.inr (Or.inr rfl)))) (ao ap_int) (fun _ _ => rfl))) (ao ap_str) rfl))
    (ass_one (as_ret (ae_pu (ap_b (ab_notO (ao (ap_fn Cself (hr.mono (by omega)) rfl (aa_cons (ap_ix ix_seq ok_ix (ao (ap_var (i := 0) rfl (by first | exact Or.inl rfl | exact Or.inr (Or.inl rfl) | exact Or.inr (Or.inr rfl)))) (ao ap_int) (fun _ _ => rfl)) (aa_cons (ap_var (i := 1) rfl (by first | exact Or.inl rfl | exact Or.inr (Or.inl rfl) | exact Or.inr (Or.inr rfl))) aa_nil (star_ok rfl)) (star_ok rfl)) rfl (by decide) rfl rfl)))))))
    ass_nil)
   (ass_cons (as_if (aet_pu (at_cmp (opr_in (room_u hr)) ok_D2 (ao (ap_ix ix_seq ok_ix (ao (ap_var (i := 0) rfl (by first | exact Or.inl rfl | exact Or.inr (Or.inl rfl) | exact Or.inr (Or.inr rfl)))) (ao ap_int) (fun _ _ => rfl))) (ao (ap_tup (aa_cons ap_str (aa_cons ap_str aa_nil (star_ok rfl)) (star_ok rfl)) (by decide +kernel))) rfl))
    (ass_cons (as_to (sh := [.f, .dead, .f, .dead]) (as_setComp (i := 2) sc__law_truth.nd rfl (by first | exact Or.inl rfl | exact Or.inr rfl) (.inl rfl) (N' := N__law_truth_0) (k := 1) rfl (compOk_of (N := N__law_truth) (sc := (defScope s__law_truth)) (by decide +kernel) rfl rfl) (ai_seq (ap_slice (ao (ap_var (i := 0) rfl (by first | exact Or.inl rfl | exact Or.inr (Or.inl rfl) | exact Or.inr (Or.inr rfl)))) (apo_some ap_int) apo_none)) (fun cl s' H' fp C' => (ag_name (i := 4) (show 4 ≤ 4 by decide) nd_N__law_truth_0 rfl (by first | exact Or.inl rfl | exact Or.inr rfl) (.inr rfl))) (fun cl s' H' fp C' => ats_nil) (fun cl s' H' fp C' => (ap_fn Cself (hr.mono (by omega)) rfl (aa_cons (ap_var (i := 4) rfl (by first | exact Or.inl rfl | exact Or.inr (Or.inl rfl) | exact Or.inr (Or.inr rfl))) (aa_cons (ap_var (i := 1) rfl (by first | exact Or.inl rfl | exact Or.inr (Or.inl rfl) | exact Or.inr (Or.inr rfl))) aa_nil (star_ok rfl)) (star_ok rfl)) rfl (by decide) rfl rfl)) rfl (fun _ => rfl)))
   (ass_one (as_ret (ae_pu (ap_if (at_cmp (opr_eq (room_u hr)) ok_D2 (ao (ap_ix ix_seq ok_ix (ao (ap_var (i := 0) rfl (by first | exact Or.inl rfl | exact Or.inr (Or.inl rfl) | exact Or.inr (Or.inr rfl)))) (ao ap_int) (fun _ _ => rfl))) (ao ap_str) rfl) (ap_b (ab_cmp (opr_notIn (room_u hr)) ok_D2 (ao ap_bl) (ao (ap_var (i := 2) rfl (by first | exact Or.inl rfl | exact Or.inr (Or.inl rfl) | exact Or.inr (Or.inr rfl)))) rfl)) (ap_b (ab_cmp (opr_in (room_u hr)) ok_D2 (ao ap_bl) (ao (ap_var (i := 2) rfl (by first | exact Or.inl rfl | exact Or.inr (Or.inl rfl) | exact Or.inr (Or.inr rfl)))) rfl)))))))
    ass_nil)
   (ass_cons (as_to (sh := [.f, .f, .dead, .f]) (as_set (i := 3) sc__law_truth.nd rfl (by first | exact Or.inl rfl | exact Or.inr rfl) (ae_pu (ap_callB (call_sumL rfl) ok_sum rfl B.sum (by decide +kernel) (aao_cons (ao (ap_z (al_comp (N' := N__law_truth_1) (k := 1) rfl (compOk_of (N := N__law_truth) (sc := (defScope s__law_truth)) (by decide +kernel) rfl rfl) (ai_seq (ap_ix ix_seq ok_ix (ao (ap_var (i := 0) rfl (by first | exact Or.inl rfl | exact Or.inr (Or.inl rfl) | exact Or.inr (Or.inr rfl)))) (ao ap_int) (fun _ _ => rfl))) (fun cl s' H' fp C' => (ag_name (i := 4) (show 4 ≤ 4 by decide) nd_N__law_truth_1 rfl (by first | exact Or.inl rfl | exact Or.inr rfl) (.inr rfl))) (fun cl s' H' fp C' => ats_nil) (fun cl s' H' fp C' => (ap_ix ix_seq ok_ix (ao (ap_var (i := 1) rfl (by first | exact Or.inl rfl | exact Or.inr (Or.inl rfl) | exact Or.inr (Or.inr rfl)))) (ao (ap_var (i := 4) rfl (by first | exact Or.inl rfl | exact Or.inr (Or.inl rfl) | exact Or.inr (Or.inr rfl)))) (fun _ _ => rfl))) (fun _ => rfl)))) aao_nil (star_ok rfl)) (by decide) (by decide) rfl rfl)) rfl (.inl rfl)))
   (ass_cons (as_if (aet_pu (at_cmp (opr_eq (room_u hr)) ok_D2 (ao (ap_ix ix_seq ok_ix (ao (ap_var (i := 0) rfl (by first | exact Or.inl rfl | exact Or.inr (Or.inl rfl) | exact Or.inr (Or.inr rfl)))) (ao ap_int) (fun _ _ => rfl))) (ao ap_str) rfl))
    (ass_one (as_ret (ae_pu (ap_b (ab_cmp op_ge ok_ge (ao (ap_var (i := 3) rfl (by first | exact Or.inl rfl | exact Or.inr (Or.inl rfl) | exact Or.inr (Or.inr rfl)))) (ao (ap_ix ix_seq ok_ix (ao (ap_var (i := 0) rfl (by first | exact Or.inl rfl | exact Or.inr (Or.inl rfl) | exact Or.inr (Or.inr rfl)))) (ao ap_int) (fun _ _ => rfl))) rfl)))))
    ass_nil)
   (ass_cons (as_if (aet_pu (at_cmp (opr_eq (room_u hr)) ok_D2 (ao (ap_ix ix_seq ok_ix (ao (ap_var (i := 0) rfl (by first | exact Or.inl rfl | exact Or.inr (Or.inl rfl) | exact Or.inr (Or.inr rfl)))) (ao ap_int) (fun _ _ => rfl))) (ao ap_str) rfl))
    (ass_one (as_ret (ae_pu (ap_b (ab_cmp op_gt ok_gt (ao (ap_var (i := 3) rfl (by first | exact Or.inl rfl | exact Or.inr (Or.inl rfl) | exact Or.inr (Or.inr rfl)))) (ao (ap_callB (call_sumL rfl) ok_sum rfl B.sum (by decide +kernel) (aao_cons (ao (ap_z (al_comp (N' := N__law_truth_2) (k := 1) rfl (compOk_of (N := N__law_truth) (sc := (defScope s__law_truth)) (by decide +kernel) rfl rfl) (ai_seq (ap_ix ix_seq ok_ix (ao (ap_var (i := 0) rfl (by first | exact Or.inl rfl | exact Or.inr (Or.inl rfl) | exact Or.inr (Or.inr rfl)))) (ao ap_int) (fun _ _ => rfl))) (fun cl s' H' fp C' => (ag_name (i := 4) (show 4 ≤ 4 by decide) nd_N__law_truth_2 rfl (by first | exact Or.inl rfl | exact Or.inr rfl) (.inr rfl))) (fun cl s' H' fp C' => ats_nil) (fun cl s' H' fp C' => (ap_ix ix_seq ok_ix (ao (ap_var (i := 1) rfl (by first | exact Or.inl rfl | exact Or.inr (Or.inl rfl) | exact Or.inr (Or.inr rfl)))) (ao (ap_var (i := 4) rfl (by first | exact Or.inl rfl | exact Or.inr (Or.inl rfl) | exact Or.inr (Or.inr rfl)))) (fun _ _ => rfl))) (fun _ => rfl)))) aao_nil (star_ok rfl)) (by decide) (by decide) rfl rfl)) rfl)))))
    ass_nil)
   (ass_one (as_ret (ae_pu (ap_b (ab_cmp (opr_eq (room_u hr)) ok_D2 (ao (ap_bin op_mod ok_mod (ao (ap_var (i := 3) rfl (by first | exact Or.inl rfl | exact Or.inr (Or.inl rfl) | exact Or.inr (Or.inr rfl)))) (ao (ap_ix ix_seq ok_ix (ao (ap_var (i := 0) rfl (by first | exact Or.inl rfl | exact Or.inr (Or.inl rfl) | exact Or.inr (Or.inr rfl)))) (ao ap_int) (fun _ _ => rfl))))) (ao (ap_ix ix_seq ok_ix (ao (ap_var (i := 0) rfl (by first | exact Or.inl rfl | exact Or.inr (Or.inl rfl) | exact Or.inr (Or.inr rfl)))) (ao ap_int) (fun _ _ => rfl))) rfl)))))))))))
  (fun ds hl => match ds, hl with | [p_law_question_here, p_law_counts_here], _ => by kernel_rfl)
theorem ok__law_truth {f : Addr} {fd : FuncData} (Fn : Fun K "_law_truth" "_law_truth" s__law_truth f fd) (hmg : mg "_law_truth" = some (.ref f)) (B : BN mg) (Kn : KN mg) (i : Nat) : CF P w K mg base "_law_truth" (1 + i) (spD K 2 (mf__law_truth i)) := by
  induction i with
  | zero =>
    have e : mf__law_truth 0 = fun _ => .bad := by
      funext l; unfold mf__law_truth; split <;> rfl
    rw [e]
    exact CF.zero (ps := ["_law_question_here", "_law_counts_here"]) _ _ hmg Fn.kp (Fn.binds fun _ _ _ _ _ _ us hl => match us, hl with | [_, _], _ => rfl)
  | succ i ih => exact ⟨f, fd, ["_law_question_here", "_law_counts_here"], fn__law_truth Fn B Kn  i ih, hmg, Fn.kp, (Fn.binds fun _ _ _ _ _ _ us hl => match us, hl with | [_, _], _ => rfl)⟩
abbrev s__law_counts : Stmt := top 45
abbrev N__law_counts : List Str := ["_law_feed_here", "_law_sorts_here", "_law_found"]
theorem sc__law_counts : FnScope N__law_counts ["_law_feed_here", "_law_sorts_here"] (defScope s__law_counts) := ⟨rfl, rfl, rfl, by decide +kernel, rfl, by decide +kernel, by decide +kernel⟩
abbrev N__law_counts_0 : List Str := ["_law_feed_here", "_law_sorts_here", "_law_found", "_law_sort"]
theorem nd_N__law_counts_0 : N__law_counts_0.Nodup := by decide +kernel
def c__law_counts (p_law_feed_here : List D) (p_law_sorts_here : D) : M (D × List D) :=
  bd (oM (fRange1 [p_law_sorts_here])) fun l1 => bd (compE (fun s2 d3 => bd (bd (bd (oM (opPow (.int 10) (.int 6))) fun x4 => .ret [(.int 0), (.int 1), (.int 2), (.int 3), (.int 9), (.int 5), (.int 0), x4]) fun l5 => .ret (PyData.list l5)) fun x6 => bd (c__law_take s2.1 (.int 8)) fun r7 => bd (oM (opIx x6 r7.1)) fun x8 => .ret (some x8, (r7.2, s2.2.1, ()))) l1 (p_law_feed_here, p_law_sorts_here, ())) fun r9 => bd (fitM r9.1) fun l10 => bd (bd (bd (oM (fSum [(PyData.list l10)])) fun x11 => oM (opGt x11 (.int 0))) fun b12 => if b12 then oM (fTuple [(PyData.list l10)]) else oM (opMulT (.tuple [(.int 1)]) r9.2.2.1)) fun x13 => .ret (x13, r9.2.1)
def mf__law_counts : List D → List D → M (D × List D) := fun p_law_feed_here l => match l with
  | [p_law_sorts_here] => c__law_counts p_law_feed_here p_law_sorts_here
  | _ => .bad
set_option maxHeartbeats 4000000 in
theorem fn__law_counts {f : Addr} {fd : FuncData} (Fn : Fun K "_law_counts" "_law_counts" s__law_counts f fd) (B : BN mg) (Kn : KN mg) (C__law_take : CF P w K mg base "_law_take" 1 (sp1 K 2 mf__law_take)) : FnOk P w K mg base CX0 2 f fd ["_law_feed_here", "_law_sorts_here"] (sp1 K 2 mf__law_counts) :=
  fn_ok1 (k := 1) Fn sc__law_counts (fun cdv A outer s H E hr =>
  (ass_cons (as_to (sh := [.p, .f, .f]) (as_setEComp (i := 2) sc__law_counts.nd rfl (by first | exact Or.inl rfl | exact Or.inr rfl) (.inl rfl) (sh := [.p, .f, .dead]) (N' := N__law_counts_0) (k := 1) rfl (compOk_of (N := N__law_counts) (sc := (defScope s__law_counts)) (by decide +kernel) rfl rfl) (aei_pu (ai_range1 rfl B.range (aa_cons (ap_var (i := 1) rfl (by first | exact Or.inl rfl | exact Or.inr (Or.inl rfl) | exact Or.inr (Or.inr rfl))) aa_nil (star_ok rfl)) rfl)) (fun cl s' H' fp C' => (ag_name (i := 3) (show 3 ≤ 3 by decide) nd_N__law_counts_0 rfl (by first | exact Or.inl rfl | exact Or.inr rfl) (.inr rfl))) (fun cl s' H' fp C' => (aets_pu ats_nil)) (fun cl s' H' fp C' => (ae_ix ix_seq ok_ix (ae_pu (ap_z (al_lst (aa_cons ap_int (aa_cons ap_int (aa_cons ap_int (aa_cons ap_int (aa_cons ap_int (aa_cons ap_int (aa_cons ap_int (aa_cons (ap_bin op_pow ok_pow (ao ap_int) (ao ap_int)) aa_nil (star_ok rfl)) (star_ok rfl)) (star_ok rfl)) (star_ok rfl)) (star_ok rfl)) (star_ok rfl)) (star_ok rfl)) (star_ok rfl)) (by decide +kernel)))) (ae_fn1 (i := 0) C__law_take (hr.mono (by decide)) rfl rfl (by first | exact Or.inl rfl | exact Or.inr (Or.inl rfl) | exact Or.inr (Or.inr rfl)) (aea_cons (ae_pu ap_int) aea_nil (star_ok rfl)) rfl (by decide) rfl rfl) (fun _ _ => rfl))) rfl (fun _ => rfl)))
   (ass_one (as_ret (ae_pu (ap_if (at_cmp op_gt ok_gt (ao (ap_callB (call_sumL rfl) ok_sum rfl B.sum (by decide +kernel) (aao_cons (ao (ap_var (i := 2) rfl (by first | exact Or.inl rfl | exact Or.inr (Or.inl rfl) | exact Or.inr (Or.inr rfl)))) aao_nil (star_ok rfl)) (by decide) (by decide) rfl rfl)) (ao ap_int) rfl) (ap_callTy call_tuple_of ok_tuple rfl B.tuple (by decide +kernel) (aao_cons (ao (ap_var (i := 2) rfl (by first | exact Or.inl rfl | exact Or.inr (Or.inl rfl) | exact Or.inr (Or.inr rfl)))) aao_nil (star_ok rfl)) (by decide) (by decide) rfl rfl) (ap_bin op_mulT ok_mulT (ao (ap_tup (aa_cons ap_int aa_nil (star_ok rfl)) (by decide +kernel))) (ao (ap_var (i := 1) rfl (by first | exact Or.inl rfl | exact Or.inr (Or.inl rfl) | exact Or.inr (Or.inr rfl)))))))))))
  (fun g ds hl => match ds, hl with | [p_law_sorts_here], _ => by kernel_rfl)
theorem ok__law_counts {f : Addr} {fd : FuncData} (Fn : Fun K "_law_counts" "_law_counts" s__law_counts f fd) (hmg : mg "_law_counts" = some (.ref f)) (B : BN mg) (Kn : KN mg) (C__law_take : CF P w K mg base "_law_take" 1 (sp1 K 2 mf__law_take)) : CF P w K mg base "_law_counts" 2 (sp1 K 2 mf__law_counts) :=
  ⟨f, fd, ["_law_feed_here", "_law_sorts_here"], fn__law_counts Fn B Kn C__law_take, hmg, Fn.kp, (Fn.binds fun _ _ _ _ _ _ us hl => match us, hl with | [_, _], _ => rfl)⟩
abbrev s__law_rows_true : Stmt := top 46
abbrev N__law_rows_true : List Str := ["_law_sizes", "_law_question_here", "_law_rows_here", "_law_truth_here", "_law_counts_here", "_law_crowd", "_law_told"]
theorem sc__law_rows_true : FnScope N__law_rows_true ["_law_sizes", "_law_question_here", "_law_rows_here", "_law_truth_here", "_law_counts_here"] (defScope s__law_rows_true) := ⟨rfl, rfl, rfl, by decide +kernel, rfl, by decide +kernel, by decide +kernel⟩
abbrev N__law_rows_true_0 : List Str := ["_law_sizes", "_law_question_here", "_law_rows_here", "_law_truth_here", "_law_counts_here", "_law_crowd", "_law_told", "_law_row"]
theorem nd_N__law_rows_true_0 : N__law_rows_true_0.Nodup := by decide +kernel
abbrev N__law_rows_true_1 : List Str := ["_law_sizes", "_law_question_here", "_law_rows_here", "_law_truth_here", "_law_counts_here", "_law_crowd", "_law_told", "_law_row", "_law_fact"]
theorem nd_N__law_rows_true_1 : N__law_rows_true_1.Nodup := by decide +kernel
def c__law_rows_true (p_law_sizes : D) (p_law_question_here : D) (p_law_rows_here : D) (p_law_truth_here : D) (p_law_counts_here : D) : M D :=
  bd (bd (oM (opIx p_law_sizes (.int 0))) fun x1 => oM (opMulT (.tuple [(.int 1)]) x1)) fun x2 => bd (bd (bd (oM (seqD p_law_rows_here)) fun l11 => bd (compC (fun d3 => bd (bd (bd (bd (bd (oM (seqD d3)) fun l6 => bd (compC (fun d4 => bd (c_fact_holds d4 x2 p_law_counts_here) fun x5 => .ret (some x5)) l6) fitM) fun l7 => .ret (PyData.list l7)) fun x8 => oM (opNotIn (.bool false) x8)) fun b9 => .ret (.bool b9)) fun x10 => .ret (some x10)) l11) fitM) fun l12 => .ret (PyData.list l12)) fun x13 => bd (bd (bd (bd (oM (opIn (.bool true) x13)) fun b14 => .ret (.bool b14)) fun x17 => bd (bd (bd (c__law_truth 4 p_law_question_here p_law_counts_here) fun x15 => oM (opEq x15 p_law_truth_here)) fun b16 => .ret (.bool b16)) fun x18 => oM (opEq x17 x18)) fun b19 => .ret (.bool b19)) fun x20 => .ret x20
def mf__law_rows_true : List D → M D := fun l => match l with
  | [p_law_sizes, p_law_question_here, p_law_rows_here, p_law_truth_here, p_law_counts_here] => c__law_rows_true p_law_sizes p_law_question_here p_law_rows_here p_law_truth_here p_law_counts_here
  | _ => .bad
set_option maxHeartbeats 4000000 in
theorem fn__law_rows_true {f : Addr} {fd : FuncData} (Fn : Fun K "_law_rows_true" "_law_rows_true" s__law_rows_true f fd) (B : BN mg) (Kn : KN mg) (C__law_truth : CF P w K mg base "_law_truth" 5 (spD K 2 (mf__law_truth 4))) (C_fact_holds : CF P w K mg base "fact_holds" 2 (spD K 3 mf_fact_holds)) : FnOk P w K mg base CX0 6 f fd ["_law_sizes", "_law_question_here", "_law_rows_here", "_law_truth_here", "_law_counts_here"] (spD K 5 mf__law_rows_true) :=
  fn_okD (k := 5) Fn sc__law_rows_true (fun cdv A outer s H E hr =>
  (ass_cons (as_to (sh := [.dead, .f, .f, .f, .f, .f, .dead]) (as_set (i := 5) sc__law_rows_true.nd rfl (by first | exact Or.inl rfl | exact Or.inr rfl) (ae_pu (ap_bin op_mulT ok_mulT (ao (ap_tup (aa_cons ap_int aa_nil (star_ok rfl)) (by decide +kernel))) (ao (ap_ix ix_seq ok_ix (ao (ap_var (i := 0) rfl (by first | exact Or.inl rfl | exact Or.inr (Or.inl rfl) | exact Or.inr (Or.inr rfl)))) (ao ap_int) (fun _ _ => rfl))))) rfl (.inl rfl)))
   (ass_cons (as_to (sh := [.dead, .f, .dead, .f, .f, .dead, .f]) (as_setComp (i := 6) sc__law_rows_true.nd rfl (by first | exact Or.inl rfl | exact Or.inr rfl) (.inl rfl) (N' := N__law_rows_true_0) (k := 1) rfl (compOk_of (N := N__law_rows_true) (sc := (defScope s__law_rows_true)) (by decide +kernel) rfl rfl) (ai_seq (ap_var (i := 2) rfl (by first | exact Or.inl rfl | exact Or.inr (Or.inl rfl) | exact Or.inr (Or.inr rfl)))) (fun cl s' H' fp C' => (ag_name (i := 7) (show 7 ≤ 7 by decide) nd_N__law_rows_true_0 rfl (by first | exact Or.inl rfl | exact Or.inr rfl) (.inr rfl))) (fun cl s' H' fp C' => ats_nil) (fun cl s' H' fp C' => (ap_b (ab_cmp (opr_notIn (room_u hr)) ok_D2 (ao ap_bl) (ao (ap_z (al_comp (N' := N__law_rows_true_1) (k := 1) rfl (compOk_in (by decide +kernel) (by decide +kernel)) (ai_seq (ap_var (i := 7) rfl (by first | exact Or.inl rfl | exact Or.inr (Or.inl rfl) | exact Or.inr (Or.inr rfl)))) (fun cl s' H' fp C' => (ag_name (i := 8) (show 8 ≤ 8 by decide) nd_N__law_rows_true_1 rfl (by first | exact Or.inl rfl | exact Or.inr rfl) (.inr rfl))) (fun cl s' H' fp C' => ats_nil) (fun cl s' H' fp C' => (ap_fn C_fact_holds (hr.mono (by decide)) rfl (aa_cons (ap_var (i := 8) rfl (by first | exact Or.inl rfl | exact Or.inr (Or.inl rfl) | exact Or.inr (Or.inr rfl))) (aa_cons (ap_var (i := 5) rfl (by first | exact Or.inl rfl | exact Or.inr (Or.inl rfl) | exact Or.inr (Or.inr rfl))) (aa_cons (ap_var (i := 4) rfl (by first | exact Or.inl rfl | exact Or.inr (Or.inl rfl) | exact Or.inr (Or.inr rfl))) aa_nil (star_ok rfl)) (star_ok rfl)) (star_ok rfl)) rfl (by decide) rfl rfl)) (fun _ => rfl)))) rfl))) rfl (fun _ => rfl)))
   (ass_one (as_ret (ae_pu (ap_b (ab_cmp (opr_eq (room_u hr)) ok_D2 (ao (ap_b (ab_cmp (opr_in (room_u hr)) ok_D2 (ao ap_bl) (ao (ap_var (i := 6) rfl (by first | exact Or.inl rfl | exact Or.inr (Or.inl rfl) | exact Or.inr (Or.inr rfl)))) rfl))) (ao (ap_b (ab_cmp (opr_eq (room_u hr)) ok_D2 (ao (ap_fn C__law_truth (hr.mono (by decide)) rfl (aa_cons (ap_var (i := 1) rfl (by first | exact Or.inl rfl | exact Or.inr (Or.inl rfl) | exact Or.inr (Or.inr rfl))) (aa_cons (ap_var (i := 4) rfl (by first | exact Or.inl rfl | exact Or.inr (Or.inl rfl) | exact Or.inr (Or.inr rfl))) aa_nil (star_ok rfl)) (star_ok rfl)) rfl (by decide) rfl rfl)) (ao (ap_var (i := 3) rfl (by first | exact Or.inl rfl | exact Or.inr (Or.inl rfl) | exact Or.inr (Or.inr rfl)))) rfl))) rfl))))))))
  (fun ds hl => match ds, hl with | [p_law_sizes, p_law_question_here, p_law_rows_here, p_law_truth_here, p_law_counts_here], _ => by kernel_rfl)
theorem ok__law_rows_true {f : Addr} {fd : FuncData} (Fn : Fun K "_law_rows_true" "_law_rows_true" s__law_rows_true f fd) (hmg : mg "_law_rows_true" = some (.ref f)) (B : BN mg) (Kn : KN mg) (C__law_truth : CF P w K mg base "_law_truth" 5 (spD K 2 (mf__law_truth 4))) (C_fact_holds : CF P w K mg base "fact_holds" 2 (spD K 3 mf_fact_holds)) : CF P w K mg base "_law_rows_true" 6 (spD K 5 mf__law_rows_true) :=
  ⟨f, fd, ["_law_sizes", "_law_question_here", "_law_rows_here", "_law_truth_here", "_law_counts_here"], fn__law_rows_true Fn B Kn C__law_truth C_fact_holds, hmg, Fn.kp, (Fn.binds fun _ _ _ _ _ _ us hl => match us, hl with | [_, _, _, _, _], _ => rfl)⟩
abbrev s_law : Stmt := top 47
abbrev N_law : List Str := ["_law_script", "_law_k", "_law_feed_here", "_law_sizes", "_law_question_here", "_law_dues", "_law_truth_here", "_law_rows_here", "_law_row", "_law_turn", "_law_counts_here"]
theorem sc_law : FnScope N_law ["_law_script"] (defScope s_law) := ⟨rfl, rfl, rfl, by decide +kernel, rfl, by decide +kernel, by decide +kernel⟩
abbrev N_law_0 : List Str := ["_law_script", "_law_k", "_law_feed_here", "_law_sizes", "_law_question_here", "_law_dues", "_law_truth_here", "_law_rows_here", "_law_row", "_law_turn", "_law_counts_here", "_law_fact"]
theorem nd_N_law_0 : N_law_0.Nodup := by decide +kernel
def c_law_r2 (v_law_script : D) : M D :=
  .ret (.bool true)
def c_law_r6 (kn2 : D × Unit → M D) (v_law_script : D) (v_law_feed_here : List D) (v_law_sizes : D) (v_law_question_here : D) (v_law_dues : D) : M D :=
  kn2 (v_law_script, ())
def c_law_r8 (kn2 : D × Unit → M D) (kn25 : D × List D × D × D × D × Unit → M D) (v_law_script : D) (v_law_feed_here : List D) (v_law_sizes : D) (v_law_question_here : D) (v_law_dues : D) (v_law_counts_here : D) : M D :=
  kn25 (v_law_script, v_law_feed_here, v_law_sizes, v_law_question_here, v_law_dues, ())
def c_law_s7 (kn2 : D × Unit → M D) (kn25 : D × List D × D × D × D × Unit → M D) (v_law_script : D) (v_law_feed_here : List D) (v_law_sizes : D) (v_law_question_here : D) (v_law_dues : D) (v_law_counts_here : D) (d_ : D) (kn34 : D × List D × D × D × D × D × Unit → M D) : M D :=
  bd (bd (bd (bd (bd (oM (fInt [d_])) fun x35 => oM (opIx v_law_dues x35)) fun x36 => c__law_rows_true v_law_sizes v_law_question_here x36 d_ v_law_counts_here) fun x37 => oM (truD x37)) fun b38 => .ret (!b38)) fun b39 => if b39 then
    .ret (.bool false)
   else
    kn34 (v_law_script, v_law_feed_here, v_law_sizes, v_law_question_here, v_law_dues, v_law_counts_here, ())
def c_law_s5 (kn2 : D × Unit → M D) (v_law_script : D) (v_law_feed_here : List D) (v_law_sizes : D) (v_law_question_here : D) (v_law_dues : D) (d_ : D) (kn25 : D × List D × D × D × D × Unit → M D) : M D :=
  bd (oM (opIx v_law_sizes (.int 1))) fun x26 => bd (c__law_counts v_law_feed_here x26) fun r27 => bd (bd (bd (c_holds 4 v_law_question_here r27.1) fun x28 => oM (fRepr [x28])) fun x30 => bd (bd (c__law_truth 4 v_law_question_here r27.1) fun x29 => oM (fRepr [x29])) fun x31 => oM (opNe x30 x31)) fun b32 => if b32 then
    .ret (.bool false)
   else
    bd (oM (seqD (.tuple [(.bool false), (.bool true)]))) fun l33 => forS (fun s40 d41 kn => c_law_s7 kn2 kn25 s40.1 s40.2.1 s40.2.2.1 s40.2.2.2.1 s40.2.2.2.2.1 s40.2.2.2.2.2.1 d41 kn) l33 (v_law_script, r27.2, v_law_sizes, v_law_question_here, v_law_dues, r27.1, ()) (fun s40 => c_law_r8 kn2 kn25 s40.1 s40.2.1 s40.2.2.1 s40.2.2.2.1 s40.2.2.2.2.1 s40.2.2.2.2.2.1)
def c_law_r4 (kn2 : D × Unit → M D) (v_law_script : D) (v_law_feed_here : List D) (v_law_sizes : D) (v_law_question_here : D) (v_law_dues : D) : M D :=
  bd (oM (fRange1 [(.int 8)])) fun l24 => forS (fun s42 d43 kn => c_law_s5 kn2 s42.1 s42.2.1 s42.2.2.1 s42.2.2.2.1 s42.2.2.2.2.1 d43 kn) l24 (v_law_script, v_law_feed_here, v_law_sizes, v_law_question_here, v_law_dues, ()) (fun s42 => c_law_r6 kn2 s42.1 s42.2.1 s42.2.2.1 s42.2.2.2.1 s42.2.2.2.2.1)
def c_law_s3 (kn2 : D × Unit → M D) (v_law_script : D) (v_law_feed_here : List D) (v_law_sizes : D) (v_law_question_here : D) (v_law_dues : D) (d_ : D) (kn44 : D × List D × D × D × D × Unit → M D) : M D :=
  bd (bd (oM (opIx v_law_sizes (.int 0))) fun x45 => bd (oM (opIx v_law_sizes (.int 1))) fun x46 => c_rows_of 4 x45 x46 v_law_question_here d_) fun l47 => bd (bd (oM (fRepr [(PyData.list l47)])) fun x50 => bd (bd (bd (oM (fInt [d_])) fun x48 => oM (opIx v_law_dues x48)) fun x49 => oM (fRepr [x49])) fun x51 => oM (opNe x50 x51)) fun b52 => if b52 then
    .ret (.bool false)
   else
    forS (fun (_ : Unit) d53 kn54 => bd (bd (bd (bd (oM (seqD d53)) fun l60 => bd (compC (fun d56 => bd (bd (oM (opIx v_law_sizes (.int 0))) fun x57 => bd (oM (opIx v_law_sizes (.int 1))) fun x58 => c_is_fact x57 x58 d56) fun x59 => .ret (some x59)) l60) fitM) fun l61 => .ret (PyData.list l61)) fun x62 => oM (opIn (.bool false) x62)) fun b55 => if b55 then .ret (.bool false) else kn54 ()) l47 () (fun _ => bd (oM (mApp l47 [(.tuple [(.str "x")])])) fun l63 => kn44 (v_law_script, v_law_feed_here, v_law_sizes, v_law_question_here, v_law_dues, ()))
def c_law_s1 (v_law_script : D) (d_ : D) (kn2 : D × Unit → M D) : M D :=
  bd (c__law_feed v_law_script d_) fun l3 => bd (c__law_take l3 (.int 6)) fun r4 => bd (oM (opAdd (.int 1) r4.1)) fun x5 => bd (c__law_take r4.2 (.int 4)) fun r6 => bd (oM (opAdd (.int 1) r6.1)) fun x7 => bd (oM (opIx (.tuple [x5, x7]) (.int 1))) fun x8 => bd (c__law_question 3 r6.2 x8 (.int 2)) fun r9 => bd (bd (bd (c__law_rows 4 (.tuple [x5, x7]) r9.1 (.bool false)) fun x10 => bd (c__law_rows 4 (.tuple [x5, x7]) r9.1 (.bool true)) fun x11 => .ret [x10, x11]) fun l12 => .ret (PyData.list l12)) fun x13 => bd (bd (bd (oM (opIx (.tuple [x5, x7]) (.int 1))) fun x14 => c_is_question x14 r9.1) fun x15 => oM (opNotB x15 (.bool true))) fun b16 => if b16 then
    .ret (.bool false)
   else
    bd (bd (bd (bd (oM (opIx x13 (.int 0))) fun x17 => oM (fLen [x17])) fun x18 => bd (bd (oM (opIx x13 (.int 1))) fun x19 => oM (fLen [x19])) fun x20 => oM (fMax [x18, x20])) fun x21 => oM (opLe x21 (.int 300))) fun b22 => if b22 then
    bd (oM (seqD (.tuple [(.bool false), (.bool true), (.bool false)]))) fun l23 => forS (fun s64 d65 kn => c_law_s3 kn2 s64.1 s64.2.1 s64.2.2.1 s64.2.2.2.1 s64.2.2.2.2.1 d65 kn) l23 (v_law_script, r9.2, (.tuple [x5, x7]), r9.1, x13, ()) (fun s64 => c_law_r4 kn2 s64.1 s64.2.1 s64.2.2.1 s64.2.2.2.1 s64.2.2.2.2.1)
   else
    kn2 (v_law_script, ())
def c_law (p_law_script : D) : M D :=
  bd (oM (fRange1 [(.int 8)])) fun l1 => forS (fun s66 d67 kn => c_law_s1 s66.1 d67 kn) l1 (p_law_script, ()) (fun s66 => c_law_r2 s66.1)
def mf_law : List D → M D := fun l => match l with
  | [p_law_script] => c_law p_law_script
  | _ => .bad
set_option maxHeartbeats 4000000 in
theorem fn_law {f : Addr} {fd : FuncData} (Fn : Fun K "law" "law" s_law f fd) (B : BN mg) (Kn : KN mg) (C__law_feed : CF P w K mg base "_law_feed" 1 (spL K 2 mf__law_feed)) (C__law_question : CF P w K mg base "_law_question" 6 (sp1 K 3 (mf__law_question 3))) (C__law_rows : CF P w K mg base "_law_rows" 6 (spD K 3 (mf__law_rows 4))) (C_is_question : CF P w K mg base "is_question" 13 (spD K 2 mf_is_question)) (C__law_take : CF P w K mg base "_law_take" 1 (sp1 K 2 mf__law_take)) (C_rows_of : CF P w K mg base "rows_of" 7 (spL K 4 (mf_rows_of 4))) (C__law_counts : CF P w K mg base "_law_counts" 2 (sp1 K 2 mf__law_counts)) (C_holds : CF P w K mg base "holds" 6 (spD K 2 (mf_holds 4))) (C__law_truth : CF P w K mg base "_law_truth" 5 (spD K 2 (mf__law_truth 4))) (C__law_rows_true : CF P w K mg base "_law_rows_true" 6 (spD K 5 mf__law_rows_true)) (C_is_fact : CF P w K mg base "is_fact" 6 (spD K 3 mf_is_fact)) : FnOk P w K mg base CX0 14 f fd ["_law_script"] (spD K 1 mf_law) :=
  fn_okD (k := 13) Fn sc_law (fun cdv A outer s H E hr =>
  (ass_cons (as_forS (sh := [.f, .dead, .dead, .dead, .dead, .dead, .dead, .dead, .dead, .dead, .dead]) PassesOwn.never rfl (aei_pu (ai_range1 rfl B.range (aa_cons ap_int aa_nil (star_ok rfl)) rfl)) (ag_name (i := 1) (Nat.zero_le _) sc_law.nd rfl (by first | exact Or.inl rfl | exact Or.inr rfl) (.inl rfl))
    (ass_cons (as_to (sh := [.f, .dead, .o, .dead, .dead, .dead, .dead, .dead, .dead, .dead, .dead]) (as_setL (i := 2) sc_law.nd rfl (by first | exact Or.inl rfl | exact Or.inr rfl) (ael_pu (al_fn C__law_feed (hr.mono (by decide)) rfl (aa_cons (ap_var (i := 0) rfl (by first | exact Or.inl rfl | exact Or.inr (Or.inl rfl) | exact Or.inr (Or.inr rfl))) (aa_cons (ap_var (i := 1) rfl (by first | exact Or.inl rfl | exact Or.inr (Or.inl rfl) | exact Or.inr (Or.inr rfl))) aa_nil (star_ok rfl)) (star_ok rfl)) rfl (by decide) rfl rfl)) rfl (.inl rfl)))
   (ass_cons (as_to (sh := [.f, .dead, .o, .f, .dead, .dead, .dead, .dead, .dead, .dead, .dead]) (as_set (i := 3) sc_law.nd rfl (by first | exact Or.inl rfl | exact Or.inr rfl) (ae_tup (aea_cons (ae_bin op_addA ok_add (ae_pu ap_int) (ae_fn1 (i := 2) C__law_take (hr.mono (by decide)) rfl rfl (by first | exact Or.inl rfl | exact Or.inr (Or.inl rfl) | exact Or.inr (Or.inr rfl)) (aea_cons (ae_pu ap_int) aea_nil (star_ok rfl)) rfl (by decide) rfl rfl)) (aea_cons (ae_bin op_addA ok_add (ae_pu ap_int) (ae_fn1 (i := 2) C__law_take (hr.mono (by decide)) rfl rfl (by first | exact Or.inl rfl | exact Or.inr (Or.inl rfl) | exact Or.inr (Or.inr rfl)) (aea_cons (ae_pu ap_int) aea_nil (star_ok rfl)) rfl (by decide) rfl rfl)) aea_nil (star_ok rfl)) (star_ok rfl)) (by decide +kernel)) rfl (.inl rfl)))
   (ass_cons (as_to (sh := [.f, .dead, .o, .f, .f, .dead, .dead, .dead, .dead, .dead, .dead]) (as_set (i := 4) sc_law.nd rfl (by first | exact Or.inl rfl | exact Or.inr rfl) (ae_fn1 (i := 2) C__law_question (hr.mono (by decide)) rfl rfl (by first | exact Or.inl rfl | exact Or.inr (Or.inl rfl) | exact Or.inr (Or.inr rfl)) (aea_cons (ae_pu (ap_ix ix_seq ok_ix (ao (ap_var (i := 3) rfl (by first | exact Or.inl rfl | exact Or.inr (Or.inl rfl) | exact Or.inr (Or.inr rfl)))) (ao ap_int) (fun _ _ => rfl))) (aea_cons (ae_pu ap_int) aea_nil (star_ok rfl)) (star_ok rfl)) rfl (by decide) rfl rfl) rfl (.inl rfl)))
   (ass_cons (as_to (sh := [.f, .dead, .o, .f, .f, .f, .dead, .dead, .dead, .dead, .dead]) (as_set (i := 5) sc_law.nd rfl (by first | exact Or.inl rfl | exact Or.inr rfl) (ae_pu (ap_z (al_lst (aa_cons (ap_fn C__law_rows (hr.mono (by decide)) rfl (aa_cons (ap_var (i := 3) rfl (by first | exact Or.inl rfl | exact Or.inr (Or.inl rfl) | exact Or.inr (Or.inr rfl))) (aa_cons (ap_var (i := 4) rfl (by first | exact Or.inl rfl | exact Or.inr (Or.inl rfl) | exact Or.inr (Or.inr rfl))) (aa_cons ap_bl aa_nil (star_ok rfl)) (star_ok rfl)) (star_ok rfl)) rfl (by decide) rfl rfl) (aa_cons (ap_fn C__law_rows (hr.mono (by decide)) rfl (aa_cons (ap_var (i := 3) rfl (by first | exact Or.inl rfl | exact Or.inr (Or.inl rfl) | exact Or.inr (Or.inr rfl))) (aa_cons (ap_var (i := 4) rfl (by first | exact Or.inl rfl | exact Or.inr (Or.inl rfl) | exact Or.inr (Or.inr rfl))) (aa_cons ap_bl aa_nil (star_ok rfl)) (star_ok rfl)) (star_ok rfl)) rfl (by decide) rfl rfl) aa_nil (star_ok rfl)) (star_ok rfl)) (by decide +kernel)))) rfl (.inl rfl)))
   (ass_cons (as_if (aet_pu (at_cmp opr_notB ok_D2 (ao (ap_fn C_is_question (hr.mono (by decide)) rfl (aa_cons (ap_ix ix_seq ok_ix (ao (ap_var (i := 3) rfl (by first | exact Or.inl rfl | exact Or.inr (Or.inl rfl) | exact Or.inr (Or.inr rfl)))) (ao ap_int) (fun _ _ => rfl)) (aa_cons (ap_var (i := 4) rfl (by first | exact Or.inl rfl | exact Or.inr (Or.inl rfl) | exact Or.inr (Or.inr rfl))) aa_nil (star_ok rfl)) (star_ok rfl)) rfl (by decide) rfl rfl)) (ao ap_bl) rfl))
    (ass_one (as_ret (ae_pu ap_bl)))
    ass_nil)
   (ass_one (as_if (aet_pu (at_cmp op_le ok_le (ao (ap_callB ((call_maxL rfl).or (call_max2 rfl)) ok_max rfl B.max (by decide +kernel) (aao_cons (ao (ap_callB call_lenA ok_len rfl B.len PySem.boot_len (aao_cons (ao (ap_ix ix_seq ok_ix (ao (ap_var (i := 5) rfl (by first | exact Or.inl rfl | exact Or.inr (Or.inl rfl) | exact Or.inr (Or.inr rfl)))) (ao ap_int) (fun _ _ => rfl))) aao_nil (star_ok rfl)) (by decide) (by decide) rfl rfl)) (aao_cons (ao (ap_callB call_lenA ok_len rfl B.len PySem.boot_len (aao_cons (ao (ap_ix ix_seq ok_ix (ao (ap_var (i := 5) rfl (by first | exact Or.inl rfl | exact Or.inr (Or.inl rfl) | exact Or.inr (Or.inr rfl)))) (ao ap_int) (fun _ _ => rfl))) aao_nil (star_ok rfl)) (by decide) (by decide) rfl rfl)) aao_nil (star_ok rfl)) (star_ok rfl)) (by decide) (by decide) rfl rfl)) (ao ap_int) rfl))
    (ass_cons (as_forS (sh := [.f, .dead, .o, .f, .f, .f, .dead, .dead, .dead, .dead, .dead]) PassesOwn.never rfl (aei_pu (ai_seq (ap_tup (aa_cons ap_bl (aa_cons ap_bl (aa_cons ap_bl aa_nil (star_ok rfl)) (star_ok rfl)) (star_ok rfl)) (by decide +kernel)))) (ag_name (i := 6) (Nat.zero_le _) sc_law.nd rfl (by first | exact Or.inl rfl | exact Or.inr rfl) (.inl rfl))
    (ass_cons (as_to (sh := [.f, .dead, .o, .f, .f, .f, .f, .o, .dead, .dead, .dead]) (as_setL (i := 7) sc_law.nd rfl (by first | exact Or.inl rfl | exact Or.inr rfl) (ael_pu (al_fn C_rows_of (hr.mono (by decide)) rfl (aa_cons (ap_ix ix_seq ok_ix (ao (ap_var (i := 3) rfl (by first | exact Or.inl rfl | exact Or.inr (Or.inl rfl) | exact Or.inr (Or.inr rfl)))) (ao ap_int) (fun _ _ => rfl)) (aa_cons (ap_ix ix_seq ok_ix (ao (ap_var (i := 3) rfl (by first | exact Or.inl rfl | exact Or.inr (Or.inl rfl) | exact Or.inr (Or.inr rfl)))) (ao ap_int) (fun _ _ => rfl)) (aa_cons (ap_var (i := 4) rfl (by first | exact Or.inl rfl | exact Or.inr (Or.inl rfl) | exact Or.inr (Or.inr rfl))) (aa_cons (ap_var (i := 6) rfl (by first | exact Or.inl rfl | exact Or.inr (Or.inl rfl) | exact Or.inr (Or.inr rfl))) aa_nil (star_ok rfl)) (star_ok rfl)) (star_ok rfl)) (star_ok rfl)) rfl (by decide) rfl rfl)) rfl (.inl rfl)))
   (ass_cons (as_if (aet_pu (at_cmp (opr_ne (room_u hr)) ok_D2 (ao (ap_callB (call_repr (room_u hr) hr.gd) ok_repr rfl B.repr (by decide +kernel) (aao_cons (ao_peek (i := 7) rfl (by first | exact Or.inl rfl | exact Or.inr (Or.inl rfl) | exact Or.inr (Or.inr rfl))) aao_nil (star_ok rfl)) (by decide) (by decide) rfl rfl)) (ao (ap_callB (call_repr (room_u hr) hr.gd) ok_repr rfl B.repr (by decide +kernel) (aao_cons (ao (ap_ix ix_seq ok_ix (ao (ap_var (i := 5) rfl (by first | exact Or.inl rfl | exact Or.inr (Or.inl rfl) | exact Or.inr (Or.inr rfl)))) (ao (ap_callTy call_int1 ok_int rfl B.int (by decide +kernel) (aao_cons (ao (ap_var (i := 6) rfl (by first | exact Or.inl rfl | exact Or.inr (Or.inl rfl) | exact Or.inr (Or.inr rfl)))) aao_nil (star_ok rfl)) (by decide) (by decide) rfl rfl)) (fun _ _ => rfl))) aao_nil (star_ok rfl)) (by decide) (by decide) rfl rfl)) rfl))
    (ass_one (as_ret (ae_pu ap_bl)))
    ass_nil)
   (ass_cons (as_forQ (i := 7) (j := 8) PassesOwn.never rfl rfl (by first | exact Or.inl rfl | exact Or.inr (Or.inl rfl) | exact Or.inr (Or.inr rfl)) (by decide) sc_law.nd rfl (by first | exact Or.inl rfl | exact Or.inr rfl) (.inl rfl) (at_cmp (opr_in (room_u hr)) ok_D2 (ao ap_bl) (ao (ap_z (al_comp (N' := N_law_0) (k := 1) rfl (compOk_of (N := N_law) (sc := (defScope s_law)) (by decide +kernel) rfl rfl) (ai_seq (ap_var (i := 8) rfl (by first | exact Or.inl rfl | exact Or.inr (Or.inl rfl) | exact Or.inr (Or.inr rfl)))) (fun cl s' H' fp C' => (ag_name (i := 11) (show 11 ≤ 11 by decide) nd_N_law_0 rfl (by first | exact Or.inl rfl | exact Or.inr rfl) (.inr rfl))) (fun cl s' H' fp C' => ats_nil) (fun cl s' H' fp C' => (ap_fn C_is_fact (hr.mono (by decide)) rfl (aa_cons (ap_ix ix_seq ok_ix (ao (ap_var (i := 3) rfl (by first | exact Or.inl rfl | exact Or.inr (Or.inl rfl) | exact Or.inr (Or.inr rfl)))) (ao ap_int) (fun _ _ => rfl)) (aa_cons (ap_ix ix_seq ok_ix (ao (ap_var (i := 3) rfl (by first | exact Or.inl rfl | exact Or.inr (Or.inl rfl) | exact Or.inr (Or.inr rfl)))) (ao ap_int) (fun _ _ => rfl)) (aa_cons (ap_var (i := 11) rfl (by first | exact Or.inl rfl | exact Or.inr (Or.inl rfl) | exact Or.inr (Or.inr rfl))) aa_nil (star_ok rfl)) (star_ok rfl)) (star_ok rfl)) rfl (by decide) rfl rfl)) (fun _ => rfl)))) rfl) (ass_one (as_ret (ae_pu ap_bl))) (fun _ => rfl))
   (ass_one (as_app (i := 7) rfl (by first | exact Or.inl rfl | exact Or.inr (Or.inl rfl) | exact Or.inr (Or.inr rfl)) (aea_cons (ae_pu (ap_tup (aa_cons ap_str aa_nil (star_ok rfl)) (by decide +kernel))) aea_nil (star_ok rfl)) rfl rfl rfl rfl rfl rfl))))) (fun _ => rfl))
   (ass_one (as_forS (sh := [.f, .dead, .o, .f, .f, .f, .dead, .dead, .dead, .dead, .dead]) PassesOwn.never rfl (aei_pu (ai_range1 rfl B.range (aa_cons ap_int aa_nil (star_ok rfl)) rfl)) (ag_name (i := 9) (Nat.zero_le _) sc_law.nd rfl (by first | exact Or.inl rfl | exact Or.inr rfl) (.inl rfl))
    (ass_cons (as_to (sh := [.f, .dead, .o, .f, .f, .f, .dead, .dead, .dead, .dead, .f]) (as_set (i := 10) sc_law.nd rfl (by first | exact Or.inl rfl | exact Or.inr rfl) (ae_fn1 (i := 2) C__law_counts (hr.mono (by decide)) rfl rfl (by first | exact Or.inl rfl | exact Or.inr (Or.inl rfl) | exact Or.inr (Or.inr rfl)) (aea_cons (ae_pu (ap_ix ix_seq ok_ix (ao (ap_var (i := 3) rfl (by first | exact Or.inl rfl | exact Or.inr (Or.inl rfl) | exact Or.inr (Or.inr rfl)))) (ao ap_int) (fun _ _ => rfl))) aea_nil (star_ok rfl)) rfl (by decide) rfl rfl) rfl (.inl rfl)))
   (ass_cons (as_if (aet_pu (at_cmp (opr_ne (room_u hr)) ok_D2 (ao (ap_callB (call_repr (room_u hr) hr.gd) ok_repr rfl B.repr (by decide +kernel) (aao_cons (ao (ap_fn C_holds (hr.mono (by decide)) rfl (aa_cons (ap_var (i := 4) rfl (by first | exact Or.inl rfl | exact Or.inr (Or.inl rfl) | exact Or.inr (Or.inr rfl))) (aa_cons (ap_var (i := 10) rfl (by first | exact Or.inl rfl | exact Or.inr (Or.inl rfl) | exact Or.inr (Or.inr rfl))) aa_nil (star_ok rfl)) (star_ok rfl)) rfl (by decide) rfl rfl)) aao_nil (star_ok rfl)) (by decide) (by decide) rfl rfl)) (ao (ap_callB (call_repr (room_u hr) hr.gd) ok_repr rfl B.repr (by decide +kernel) (aao_cons (ao (ap_fn C__law_truth (hr.mono (by decide)) rfl (aa_cons (ap_var (i := 4) rfl (by first | exact Or.inl rfl | exact Or.inr (Or.inl rfl) | exact Or.inr (Or.inr rfl))) (aa_cons (ap_var (i := 10) rfl (by first | exact Or.inl rfl | exact Or.inr (Or.inl rfl) | exact Or.inr (Or.inr rfl))) aa_nil (star_ok rfl)) (star_ok rfl)) rfl (by decide) rfl rfl)) aao_nil (star_ok rfl)) (by decide) (by decide) rfl rfl)) rfl))
    (ass_one (as_ret (ae_pu ap_bl)))
    ass_nil)
   (ass_one (as_forS (sh := [.f, .dead, .o, .f, .f, .f, .dead, .dead, .dead, .dead, .f]) PassesOwn.never rfl (aei_pu (ai_seq (ap_tup (aa_cons ap_bl (aa_cons ap_bl aa_nil (star_ok rfl)) (star_ok rfl)) (by decide +kernel)))) (ag_name (i := 6) (Nat.zero_le _) sc_law.nd rfl (by first | exact Or.inl rfl | exact Or.inr rfl) (.inl rfl))
    (ass_one (as_if (aet_pu (at_not (at_tru (ao (ap_fn C__law_rows_true (hr.mono (by decide)) rfl (aa_cons (ap_var (i := 3) rfl (by first | exact Or.inl rfl | exact Or.inr (Or.inl rfl) | exact Or.inr (Or.inr rfl))) (aa_cons (ap_var (i := 4) rfl (by first | exact Or.inl rfl | exact Or.inr (Or.inl rfl) | exact Or.inr (Or.inr rfl))) (aa_cons (ap_ix ix_seq ok_ix (ao (ap_var (i := 5) rfl (by first | exact Or.inl rfl | exact Or.inr (Or.inl rfl) | exact Or.inr (Or.inr rfl)))) (ao (ap_callTy call_int1 ok_int rfl B.int (by decide +kernel) (aao_cons (ao (ap_var (i := 6) rfl (by first | exact Or.inl rfl | exact Or.inr (Or.inl rfl) | exact Or.inr (Or.inr rfl)))) aao_nil (star_ok rfl)) (by decide) (by decide) rfl rfl)) (fun _ _ => rfl)) (aa_cons (ap_var (i := 6) rfl (by first | exact Or.inl rfl | exact Or.inr (Or.inl rfl) | exact Or.inr (Or.inr rfl))) (aa_cons (ap_var (i := 10) rfl (by first | exact Or.inl rfl | exact Or.inr (Or.inl rfl) | exact Or.inr (Or.inr rfl))) aa_nil (star_ok rfl)) (star_ok rfl)) (star_ok rfl)) (star_ok rfl)) (star_ok rfl)) rfl (by decide) rfl rfl)) (fun _ => rfl))))
    (ass_one (as_ret (ae_pu ap_bl)))
    ass_nil)) (fun _ => rfl))))) (fun _ => rfl))))
    ass_nil))))))) (fun _ => rfl))
   (ass_one (as_ret (ae_pu ap_bl)))))
  (fun ds hl => match ds, hl with | [p_law_script], _ => by kernel_rfl)
theorem ok_law {f : Addr} {fd : FuncData} (Fn : Fun K "law" "law" s_law f fd) (hmg : mg "law" = some (.ref f)) (B : BN mg) (Kn : KN mg) (C__law_feed : CF P w K mg base "_law_feed" 1 (spL K 2 mf__law_feed)) (C__law_question : CF P w K mg base "_law_question" 6 (sp1 K 3 (mf__law_question 3))) (C__law_rows : CF P w K mg base "_law_rows" 6 (spD K 3 (mf__law_rows 4))) (C_is_question : CF P w K mg base "is_question" 13 (spD K 2 mf_is_question)) (C__law_take : CF P w K mg base "_law_take" 1 (sp1 K 2 mf__law_take)) (C_rows_of : CF P w K mg base "rows_of" 7 (spL K 4 (mf_rows_of 4))) (C__law_counts : CF P w K mg base "_law_counts" 2 (sp1 K 2 mf__law_counts)) (C_holds : CF P w K mg base "holds" 6 (spD K 2 (mf_holds 4))) (C__law_truth : CF P w K mg base "_law_truth" 5 (spD K 2 (mf__law_truth 4))) (C__law_rows_true : CF P w K mg base "_law_rows_true" 6 (spD K 5 mf__law_rows_true)) (C_is_fact : CF P w K mg base "is_fact" 6 (spD K 3 mf_is_fact)) : CF P w K mg base "law" 14 (spD K 1 mf_law) :=
  ⟨f, fd, ["_law_script"], fn_law Fn B Kn C__law_feed C__law_question C__law_rows C_is_question C__law_take C_rows_of C__law_counts C_holds C__law_truth C__law_rows_true C_is_fact, hmg, Fn.kp, (Fn.binds fun _ _ _ _ _ _ us hl => match us, hl with | [_], _ => rfl)⟩
end
end
end K65
set_option Elab.async false
set_option linter.all false
set_option maxRecDepth 100000
namespace L4
open PySem PySem.Spec PyProof.Rows L2 L3
theorem bdR {S T : Type} (s : S) (k : S → M T) : bd (.ret s) k = k s := id rfl
theorem oMS {S : Type} (s : S) : oM (some s) = .ret s := id rfl
theorem forC_ok {S T : Type} {step : T → D → (T → M S) → M S} {R : M S} {P : Nat → T → Prop} : ∀ (ds : List D) (i : Nat) (s : T) (k : T → M S),
    (∀ (j : Nat) (s : T) (d : D), d ∈ ds → i ≤ j → j < i + ds.length → P j s → ∀ kn : T → M S, (∀ s', P (j + 1) s' → kn s' = R) → step s d kn = R) →
    P i s → (∀ s', P (i + ds.length) s' → k s' = R) → forC step ds s k = R
  | [], i, s, k, _, hp, hk => hk s hp
  | d :: r, i, s, k, h, hp, hk => by
    show step s d _ = R
    refine h i s d List.mem_cons_self (Nat.le_refl _) (by simp) hp _ fun s' hp' => ?_
    refine forC_ok r (i + 1) s' k (fun j s d hd hj hl => h j s d (List.mem_cons_of_mem _ hd) (by omega) (by simp; omega)) hp' fun s' hs => hk s' ?_
    have : i + (d :: r).length = i + 1 + r.length := by simp; omega
    rw [this]; exact hs
theorem forS_ok {S T : Type} {step : T → D → (T → M S) → M S} {R : M S} {P : Nat → T → Prop} (ds : List D) (i : Nat) (s : T) (k : T → M S)
    (h : ∀ (j : Nat) (s : T) (d : D), d ∈ ds → i ≤ j → j < i + ds.length → P j s → ∀ kn : T → M S, (∀ s', P (j + 1) s' → kn s' = R) → step s d kn = R)
    (hp : P i s) (hk : ∀ s', P (i + ds.length) s' → k s' = R) : forS step ds s k = R := by
  rw [forS_is]
  exact forC_ok ds i s k h hp hk
theorem compC_ok {step : D → M (Option D)} {g : D → D} : ∀ (ds : List D), (∀ d ∈ ds, step d = .ret (some (g d))) → compC step ds = .ret (ds.map g)
  | [], _ => rfl
  | d :: r, h => by
    rw [compC, h d List.mem_cons_self, compC_ok r fun d hd => h d (List.mem_cons_of_mem _ hd)]
    rfl
theorem compE_ok {T : Type} {step : T → D → M (Option D × T)} {P : Nat → T → Prop} {R : D → Prop} : ∀ (ds : List D) (i : Nat) (s : T),
    (∀ (j : Nat) (s : T) (d : D), d ∈ ds → i ≤ j → j < i + ds.length → P j s → ∃ x s', step s d = .ret (some x, s') ∧ P (j + 1) s' ∧ R x) → P i s →
    ∃ xs s', compE step ds s = .ret (xs, s') ∧ P (i + ds.length) s' ∧ xs.length = ds.length ∧ ∀ x ∈ xs, R x
  | [], i, s, _, hp => ⟨[], s, rfl, hp, rfl, fun _ h => by cases h⟩
  | d :: r, i, s, h, hp => by
    obtain ⟨x, s1, e1, p1, r1⟩ := h i s d List.mem_cons_self (Nat.le_refl _) (by simp) hp
    obtain ⟨xs, s2, e2, p2, l2, r2⟩ := compE_ok r (i + 1) s1 (fun j s d hd hj hl => h j s d (List.mem_cons_of_mem _ hd) (by omega) (by simp; omega)) p1
    refine ⟨x :: xs, s2, ?_, ?_, by simp [l2], ?_⟩
    · rw [compE, e1]; simp only [bd_ret]; rw [e2]; rfl
    · have : i + (d :: r).length = i + 1 + r.length := by simp; omega
      rw [this]; exact p2
    · intro y hy
      cases hy with
      | head => exact r1
      | tail _ h => exact r2 y h
theorem fitM_ok {S : Type} {ds : List S} (h : ds.length ≤ 1000) : fitM ds = .ret ds := if_pos (le1000 h)
theorem range_ok (n : Nat) (h : n ≤ 1000) : fRange1 [.int n] = some (rangeD 0 n) := by
  unfold fRange1
  have : small62 (n : Int) = true := by
    unfold small62
    simp only [Bool.and_eq_true, decide_eq_true_eq]
    omega
  simp only [this, if_true]
  rfl
theorem rangeD_len (lo : Int) (n : Nat) : (rangeD lo n).length = n := by simp [rangeD]
theorem atI_nat {α : Type} (xs : List α) (i : Nat) (h : i < xs.length) : atI xs (i : Int) = some (xs[i]'h) := by
  unfold atI ixN
  rw [if_pos (Int.natCast_nonneg _), if_pos (by omega)]
  simp [h]
theorem atI_ok {α : Type} (xs : List α) (i : Int) (h0 : 0 ≤ i) (h : i < xs.length) : ∃ x ∈ xs, atI xs i = some x := by
  obtain ⟨n, rfl⟩ := Int.eq_ofNat_of_zero_le h0
  exact ⟨_, List.getElem_mem _, atI_nat xs n (by omega)⟩
def wordOk (s : Str) : Bool := PyData.strOk s && decide ((reprText s).length ≤ 24) && PyData.strOk (reprText s)
def Ok (k : Nat) : Nat → D → Prop
  | 0, _ => False
  | _ + 1, .none => True
  | _ + 1, .bool _ => True
  | _ + 1, .int i => i.natAbs < 10 ^ (16 + k)
  | _ + 1, .str s => wordOk s = true
  | n + 1, .list ds => ds.length ≤ 6 + k ∧ ∀ d ∈ ds, Ok k n d
  | n + 1, .tuple ds => ds.length ≤ 6 + k ∧ ∀ d ∈ ds, Ok k n d
  | _ + 1, .dict _ => False
theorem Ok.up {k : Nat} : ∀ {n : Nat} {d : D}, Ok k n d → Ok k (n + 1) d
  | 0, _, h => h.elim
  | n + 1, .none, h => trivial
  | n + 1, .bool _, h => trivial
  | n + 1, .int _, h => h
  | n + 1, .str _, h => h
  | n + 1, .list ds, h => ⟨h.1, fun d hd => Ok.up (h.2 d hd)⟩
  | n + 1, .tuple ds, h => ⟨h.1, fun d hd => Ok.up (h.2 d hd)⟩
  | n + 1, .dict _, h => h.elim
theorem Ok.le {k n m : Nat} {d : D} (h : Ok k n d) (hm : n ≤ m) : Ok k m d := by
  induction hm with
  | refl => exact h
  | step _ ih => exact ih.up
theorem Ok.bent {k : Nat} : ∀ {n : Nat} {d : D}, Ok k n d → Ok (k + 1) n d
  | 0, _, h => h.elim
  | n + 1, .none, h => trivial
  | n + 1, .bool _, h => trivial
  | n + 1, .int i, h => by
    have h' : i.natAbs < 10 ^ (16 + k) := h
    show i.natAbs < 10 ^ (16 + (k + 1))
    rw [← Nat.add_assoc, Nat.pow_succ]
    omega
  | n + 1, .str _, h => h
  | n + 1, .list ds, h => ⟨by have := h.1; omega, fun d hd => Ok.bent (h.2 d hd)⟩
  | n + 1, .tuple ds, h => ⟨by have := h.1; omega, fun d hd => Ok.bent (h.2 d hd)⟩
  | n + 1, .dict _, h => h.elim
theorem lay_all : ∀ {ds : List D}, (∀ d ∈ ds, d.canLay0 = true) → PyData.canLayAll0 ds = true
  | [], _ => by simp [PyData.canLayAll0]
  | d :: r, h => by
    simp only [PyData.canLayAll0, Bool.and_eq_true]
    exact ⟨h d List.mem_cons_self, lay_all fun e he => h e (List.mem_cons_of_mem _ he)⟩
theorem deep_all {n : Nat} : ∀ {ds : List D}, (∀ d ∈ ds, d.depth ≤ n) → PyData.depthAll ds ≤ n
  | [], _ => by simp [PyData.depthAll]
  | d :: r, h => by
    simp only [PyData.depthAll]
    exact Nat.max_le.mpr ⟨h d List.mem_cons_self, deep_all fun e he => h e (List.mem_cons_of_mem _ he)⟩
theorem show_all : ∀ {ds : List D}, (∀ d ∈ ds, d.showable = true) → PyData.showableAll ds = true
  | [], _ => by simp [PyData.showableAll]
  | d :: r, h => by
    simp only [PyData.showableAll, Bool.and_eq_true]
    exact ⟨h d List.mem_cons_self, show_all fun e he => h e (List.mem_cons_of_mem _ he)⟩
theorem Ok.lay {k : Nat} : ∀ {n : Nat} {d : D}, Ok k n d → d.canLay0 = true
  | 0, _, h => h.elim
  | n + 1, .none, h => by simp [PyData.canLay0]
  | n + 1, .bool _, h => by simp [PyData.canLay0]
  | n + 1, .int _, h => by simp [PyData.canLay0]
  | n + 1, .str s, h => by
    have h' : wordOk s = true := h
    unfold wordOk at h'
    simp only [Bool.and_eq_true] at h'
    simp [PyData.canLay0, h'.1.1]
  | n + 1, .list ds, h => by simp only [PyData.canLay0]; exact lay_all fun d hd => Ok.lay (h.2 d hd)
  | n + 1, .tuple ds, h => by simp only [PyData.canLay0]; exact lay_all fun d hd => Ok.lay (h.2 d hd)
  | n + 1, .dict _, h => h.elim
theorem Ok.deep {k : Nat} : ∀ {n : Nat} {d : D}, Ok k n d → d.depth ≤ n
  | 0, _, h => h.elim
  | n + 1, .none, h => by simp [PyData.depth]
  | n + 1, .bool _, h => by simp [PyData.depth]
  | n + 1, .int _, h => by simp [PyData.depth]
  | n + 1, .str s, h => by simp [PyData.depth]
  | n + 1, .list ds, h => by
    have := deep_all (n := n) fun d hd => Ok.deep (h.2 d hd)
    simp only [PyData.depth]; omega
  | n + 1, .tuple ds, h => by
    have := deep_all (n := n) fun d hd => Ok.deep (h.2 d hd)
    simp only [PyData.depth]; omega
  | n + 1, .dict _, h => h.elim
theorem log_lt {m : Nat} (h : m < 10 ^ 36) : m.log2 < 1920 := by
  by_cases h0 : m = 0
  · subst h0; decide
  · exact (Nat.log2_lt h0).mpr (Nat.lt_of_lt_of_le h (by decide +kernel))
theorem Ok.show {k : Nat} (hk : k ≤ 3) : ∀ {n : Nat} {d : D}, Ok k n d → d.showable = true
  | 0, _, h => h.elim
  | n + 1, .none, h => by simp [PyData.showable]
  | n + 1, .bool _, h => by simp [PyData.showable]
  | n + 1, .int i, h => by
    have h' : i.natAbs < 10 ^ (16 + k) := h
    simp only [PyData.showable, decide_eq_true_eq]
    exact log_lt (Nat.lt_of_lt_of_le h' (Nat.pow_le_pow_right (by decide) (by omega)))
  | n + 1, .str s, h => by simp [PyData.showable]
  | n + 1, .list ds, h => by simp only [PyData.showable]; exact show_all fun d hd => Ok.show hk (h.2 d hd)
  | n + 1, .tuple ds, h => by simp only [PyData.showable]; exact show_all fun d hd => Ok.show hk (h.2 d hd)
  | n + 1, .dict _, h => h.elim
theorem strOk_iff {s : Str} : PyData.strOk s = true ↔ ∀ c ∈ s.cps.toList, c < 1114112 := by
  unfold PyData.strOk
  rw [← Array.all_toList, List.all_eq_true]
  simp
theorem strOk_lit (s : String) : PyData.strOk (Str.ofString s) = true := by
  rw [strOk_iff, signs_ofString]
  intro c hc
  obtain ⟨ch, _, rfl⟩ := List.mem_map.mp hc
  have := ch.valid
  have e : ch.toNat = ch.val.toNat := rfl
  rw [e]
  rcases this with h | ⟨_, h⟩
  · have h' : ch.val.toNat < 0xd800 := h
    omega
  · have h' : ch.val.toNat < 0x110000 := h
    omega
theorem strOk_app {a b : Str} (ha : PyData.strOk a = true) (hb : PyData.strOk b = true) : PyData.strOk (a ++ b) = true := by
  rw [strOk_iff] at *
  intro c hc
  rcases mem_cps_append.mp hc with h | h
  · exact ha c h
  · exact hb c h
theorem strOk_join {sep : Str} {ts : List Str} (hs : PyData.strOk sep = true) (h : ∀ t ∈ ts, PyData.strOk t = true) : PyData.strOk (Str.join sep ts) = true := by
  rw [strOk_iff] at *
  intro c hc
  rcases (mem_join sep c ts).mp hc with ⟨t, ht, hc⟩ | ⟨_, hc⟩
  · exact strOk_iff.mp (h t ht) c hc
  · exact hs c hc
theorem piled_le {B : Nat} : ∀ {ts : List Str}, (∀ t ∈ ts, t.length ≤ B) → piled ts ≤ ts.length * (B + 2)
  | [], _ => Nat.zero_le _
  | t :: r, h => by
    have h1 := h t List.mem_cons_self
    have h2 := piled_le (ts := r) fun u hu => h u (List.mem_cons_of_mem _ hu)
    rw [piled_cons, List.length_cons, Nat.succ_mul]
    omega
theorem join_le {ts : List Str} : (Str.join ", " ts).length ≤ piled ts := by
  by_cases h : ts = []
  · subst h; exact Nat.zero_le _
  · have := join_length_add ts h; omega
theorem shownAll_mem : ∀ {ds : List D} {t : Str}, t ∈ PyData.shownAll ds → ∃ d ∈ ds, t = d.shown
  | [], t, h => by simp [PyData.shownAll] at h
  | d :: r, t, h => by
    simp only [PyData.shownAll, List.mem_cons] at h
    rcases h with rfl | h
    · exact ⟨d, List.mem_cons_self, rfl⟩
    · obtain ⟨e, he, q⟩ := shownAll_mem h
      exact ⟨e, List.mem_cons_of_mem _ he, q⟩
theorem shownAll_len : ∀ ds : List D, (PyData.shownAll ds).length = ds.length
  | [] => by simp [PyData.shownAll]
  | d :: r => by simp [PyData.shownAll, shownAll_len r]
def lim : Nat → Nat
  | 0 => 24
  | n + 1 => 4 + 9 * (lim n + 2)
theorem lim24 : ∀ n, 24 ≤ lim n
  | 0 => Nat.le_refl _
  | n + 1 => by have := lim24 n; unfold lim; omega
theorem seq_text {B : Nat} {ds : List D} (hl : ds.length ≤ 9) (h : ∀ d ∈ ds, d.shown.length ≤ B ∧ PyData.strOk d.shown = true) :
    ((PyData.list ds).shown.length ≤ 4 + 9 * (B + 2) ∧ PyData.strOk (PyData.list ds).shown = true) ∧ (PyData.tuple ds).shown.length ≤ 4 + 9 * (B + 2) ∧ PyData.strOk (PyData.tuple ds).shown = true := by
  have h1 : ∀ t ∈ PyData.shownAll ds, t.length ≤ B := fun t ht => by obtain ⟨d, hd, rfl⟩ := shownAll_mem ht; exact (h d hd).1
  have h2 : ∀ t ∈ PyData.shownAll ds, PyData.strOk t = true := fun t ht => by obtain ⟨d, hd, rfl⟩ := shownAll_mem ht; exact (h d hd).2
  have h3 := piled_le h1
  rw [shownAll_len] at h3
  have h4 : ds.length * (B + 2) ≤ 9 * (B + 2) := Nat.mul_le_mul_right _ hl
  have h5 : (Str.join ", " (PyData.shownAll ds)).length ≤ piled (PyData.shownAll ds) := join_le
  have h6 : PyData.strOk (Str.join ", " (PyData.shownAll ds)) = true := strOk_join (strOk_lit _) h2
  simp only [PyData.shown, listText_eq_join, tupleText]
  refine ⟨⟨?_, strOk_app (strOk_app (strOk_lit _) h6) (strOk_lit _)⟩, ?_, strOk_app (strOk_app (strOk_lit _) h6) (strOk_lit _)⟩
  · rw [strLen_append, strLen_append]
    have e1 : ((("[" : String) : Str)).length = 1 := rfl
    have e2 : ((("]" : String) : Str)).length = 1 := rfl
    rw [e1, e2]; omega
  · rw [strLen_append, strLen_append]
    have e1 : ((("(" : String) : Str)).length = 1 := rfl
    have e3 : (((if (PyData.shownAll ds).length == 1 then ",)" else ")" : String) : Str)).length ≤ 2 := by split <;> decide
    rw [e1]; omega
theorem Ok.text {k : Nat} (hk : k ≤ 3) : ∀ {n : Nat} {d : D}, Ok k n d → d.shown.length ≤ lim n ∧ PyData.strOk d.shown = true
  | 0, _, h => h.elim
  | n + 1, .none, h => by have := lim24 (n + 1); refine ⟨?_, by simp only [PyData.shown]; exact strOk_lit _⟩; simp only [PyData.shown]; exact Nat.le_trans (by decide) this
  | n + 1, .bool b, h => by
    have := lim24 (n + 1)
    refine ⟨?_, by cases b <;> simp only [PyData.shown] <;> exact strOk_lit _⟩
    cases b <;> simp only [PyData.shown] <;> exact Nat.le_trans (by decide) this
  | n + 1, .int i, h => by
    have h' : i.natAbs < 10 ^ (16 + k) := h
    have := lim24 (n + 1)
    refine ⟨?_, by simp only [PyData.shown]; exact strOk_lit _⟩
    simp only [PyData.shown]
    have h1 := int_text_length_le10 (a := i) (k := 19) (by decide) (Nat.lt_of_lt_of_le h' (Nat.pow_le_pow_right (by decide) (by omega)))
    have h2 : (Str.ofString (toString i)).length = (toString i).length := by
      show (Str.ofString (toString i)).cps.size = _
      rw [← Array.length_toList, signs_ofString, List.length_map, String.length_toList]
    omega
  | n + 1, .str s, h => by
    have h' : wordOk s = true := h
    have := lim24 (n + 1)
    unfold wordOk at h'
    simp only [Bool.and_eq_true, decide_eq_true_eq] at h'
    simp only [PyData.shown]
    exact ⟨by omega, h'.2⟩
  | n + 1, .list ds, h => (seq_text (by have := h.1; omega) fun d hd => Ok.text hk (h.2 d hd)).1
  | n + 1, .tuple ds, h => (seq_text (by have := h.1; omega) fun d hd => Ok.text hk (h.2 d hd)).2
  | n + 1, .dict _, h => h.elim
theorem Ok.repr {k n : Nat} {d : D} (hk : k ≤ 3) (hn : n ≤ 6) (h : Ok k n d) : fRepr [d] = some (.str d.shown) ∧ opEq (.str d.shown) (.str d.shown) = some true := by
  have hl : lim n ≤ sizeLine := by
    have : ∀ n, n ≤ 6 → lim n ≤ lim 6 := by decide
    exact Nat.le_trans (this n hn) (by decide)
  obtain ⟨t1, t2⟩ := h.text hk
  have hd := h.deep
  constructor
  · show (if reprOk d then some (PyData.str d.shown) else none) = _
    unfold reprOk
    rw [if_pos]
    simp only [Bool.and_eq_true, decide_eq_true_eq]
    exact ⟨⟨⟨h.show hk, h.lay⟩, by omega⟩, Nat.le_trans t1 hl⟩
  · unfold opEq eqOk
    rw [if_pos]
    · simp [PyData.eqv]
    · simp [PyData.canLay0, t2, PyData.depth]
end L4
set_option Elab.async false
set_option linter.all false
set_option maxRecDepth 100000
namespace L4
open PySem PySem.Spec PyProof.Rows L2 L3
theorem eqI (a b : Int) : opEq (.int a) (.int b) = some (a == b) := by
  unfold opEq eqOk
  simp [PyData.canLay0, PyData.depth, PyData.eqv]
theorem neI (a b : Int) : opNe (.int a) (.int b) = some (!(a == b)) := by
  unfold opNe eqOk
  simp [PyData.canLay0, PyData.depth, PyData.eqv]
theorem leI (a b : Int) : opLe (.int a) (.int b) = some (decide (a ≤ b)) := id rfl
theorem ltI (a b : Int) : opLt (.int a) (.int b) = some (decide (a < b)) := id rfl
theorem gtI (a b : Int) : opGt (.int a) (.int b) = some (decide (b < a)) := id rfl
theorem geI (a b : Int) : opGe (.int a) (.int b) = some (decide (b ≤ a)) := id rfl
theorem addI (a b : Int) : opAdd (.int a) (.int b) = some (.int (a + b)) := id rfl
theorem subI (a b : Int) : opSub (.int a) (.int b) = some (.int (a - b)) := id rfl
theorem modI (i j : Int) (h : 0 < j) : opMod (.int i) (.int j) = some (.int (i % j)) := if_pos h
theorem divI (i j : Int) (h : 0 < j) (h2 : j < 1073741824) : opDiv (.int i) (.int j) = some (.int (i / j)) := if_pos (by simp [h, h2])
theorem mulL (i j : Int) (h : -(2 ^ 64) < i) (h2 : i < 2 ^ 64) : opMulI (.int i) (.int j) = some (.int (i * j)) := if_pos (by simp only [mulOk, Bool.or_eq_true, Bool.and_eq_true, decide_eq_true_eq]; exact .inl ⟨h, h2⟩)
theorem mulR (i j : Int) (h : -(2 ^ 64) < j) (h2 : j < 2 ^ 64) : opMulI (.int i) (.int j) = some (.int (i * j)) := if_pos (by simp only [mulOk, Bool.or_eq_true, Bool.and_eq_true, decide_eq_true_eq]; exact .inr ⟨h, h2⟩)
theorem asB_b (b : Bool) : asB (.bool b) = .ret b := id rfl
theorem asI_i (i : Int) : asI (.int i) = .ret (some i) := id rfl
theorem tru_b (b : Bool) : truD (.bool b) = some b := id rfl
theorem lenT (ds : List D) : fLen [.tuple ds] = some (.int ds.length) := id rfl
theorem lenL (ds : List D) : fLen [.list ds] = some (.int ds.length) := id rfl
theorem seqT (ds : List D) : seqD (.tuple ds) = some ds := id rfl
theorem seqL (ds : List D) : seqD (.list ds) = some ds := id rfl
theorem tupL (ds : List D) : fTuple [.list ds] = some (.tuple ds) := id rfl
theorem tupT (ds : List D) : fTuple [.tuple ds] = some (.tuple ds) := id rfl
theorem cutT (ds : List D) (lo hi : Option Int) : fCut (.tuple ds) lo hi = some (.tuple (L4.cutD ds lo hi)) := id rfl
theorem cutLs (ds : List D) (lo hi : Option Int) : fCut (.list ds) lo hi = some (.list (L4.cutD ds lo hi)) := id rfl
theorem ixTn (ds : List D) (n : Nat) (h : n < ds.length) : opIx (.tuple ds) (.int n) = some ds[n] := atI_nat ds n h
theorem ixT0 (a : D) (r : List D) : opIx (.tuple (a :: r)) (.int 0) = some a := ixTn (a :: r) 0 (by simp)
theorem ixT1 (a b : D) (r : List D) : opIx (.tuple (a :: b :: r)) (.int 1) = some b := ixTn (a :: b :: r) 1 (by simp)
theorem ixT2 (a b c : D) (r : List D) : opIx (.tuple (a :: b :: c :: r)) (.int 2) = some c := ixTn (a :: b :: c :: r) 2 (by simp)
theorem ixT3 (a b c d : D) (r : List D) : opIx (.tuple (a :: b :: c :: d :: r)) (.int 3) = some d := ixTn (a :: b :: c :: d :: r) 3 (by simp)
theorem ix3_0 (a b c : D) : opIx (.list [a, b, c]) (.int 0) = some a := id rfl
theorem ix3_1 (a b c : D) : opIx (.list [a, b, c]) (.int 1) = some b := id rfl
theorem ix3_2 (a b c : D) : opIx (.list [a, b, c]) (.int 2) = some c := id rfl
theorem put3_0 (a b c d : D) : putD [a, b, c] (.int 0) d = some [d, b, c] := id rfl
theorem put3_2 (a b c d : D) : putD [a, b, c] (.int 2) d = some [a, b, d] := id rfl
theorem addT (a b : List D) (h : a.length + b.length ≤ 1000) : opAdd (.tuple a) (.tuple b) = some (.tuple (a ++ b)) := if_pos (le1000 h)
theorem addL (a b : List D) (h : a.length + b.length ≤ 1000) : opAdd (.list a) (.list b) = some (.list (a ++ b)) := if_pos (le1000 h)
theorem cut_lo (ds : List D) (n : Nat) : L4.cutD ds (some n) none = ds.drop n := by
  unfold L4.cutD
  rw [HT.sIx_nat, HT.sIx_none]
  by_cases h : n ≤ ds.length
  · rw [Nat.min_eq_left h, List.take_of_length_le (by rw [List.length_drop]; omega)]
  · rw [Nat.min_eq_right (by omega), List.drop_of_length_le (Nat.le_refl _), List.drop_of_length_le (by omega)]
    simp
theorem cut_hi (ds : List D) (n : Nat) : L4.cutD ds none (some n) = ds.take n := by
  unfold L4.cutD
  rw [HT.sIx_nat, HT.sIx_none]
  by_cases h : n ≤ ds.length
  · rw [Nat.min_eq_left h]; simp
  · rw [Nat.min_eq_right (by omega)]
    simp
    rw [List.take_of_length_le (by omega)]
theorem iteB (a b : Bool) : (if a = true then (M.ret b) else .ret false) = .ret (a && b) := by cases a <;> rfl
theorem iteO (a b : Bool) : (if a = true then (M.ret true) else .ret b) = .ret (a || b) := by cases a <;> rfl
theorem beq_len (n m : Nat) : ((n : Int) == (m : Int)) = decide (n = m) := by
  by_cases h : n = m
  · simp [h]
  · simp only [h, decide_false]; rw [beq_eq_false_iff_ne]; omega
theorem bools_map (ds : List D) (p : D → Bool) : boolsOf (ds.map fun d => PyData.bool (p d)) = some (ds.map p) := by
  have : (ds.map fun d => PyData.bool (p d)) = (ds.map p).map PyData.bool := by simp
  rw [this, boolsOf_map]
theorem all_map (ds : List D) (p : D → Bool) : fAll [.list (ds.map fun d => PyData.bool (p d))] = some (ds.all p) := by
  show (boolsOf _).map _ = _
  rw [bools_map]
  simp
theorem any_map (ds : List D) (p : D → Bool) : fAny [.list (ds.map fun d => PyData.bool (p d))] = some (ds.any p) := by
  show (boolsOf _).map _ = _
  rw [bools_map]
  simp
theorem lay_bools (ds : List D) (p : D → Bool) : inOk (.bool false) (ds.map fun d => PyData.bool (p d)) = true := by
  have h1 : PyData.canLayAll0 (ds.map fun d => PyData.bool (p d)) = true := lay_all fun d hd => by
    obtain ⟨x, _, rfl⟩ := List.mem_map.mp hd
    simp [PyData.canLay0]
  unfold inOk
  simp [h1, PyData.canLay0, PyData.depth]
theorem any_false (p : D → Bool) : ∀ ds : List D, ((ds.map fun d => PyData.bool (p d)).any fun y => PyData.eqv y (.bool false)) = !ds.all p
  | [] => rfl
  | d :: r => by
    rw [List.map_cons, List.any_cons, any_false p r, List.all_cons]
    simp only [PyData.eqv]
    cases p d <;> simp
theorem inF_bools (ds : List D) (p : D → Bool) : opIn (.bool false) (.list (ds.map fun d => PyData.bool (p d))) = some (!ds.all p) := by
  show (if inOk _ _ then _ else none) = _
  rw [if_pos (lay_bools ds p), any_false]
theorem notInF_bools (ds : List D) (p : D → Bool) : opNotIn (.bool false) (.list (ds.map fun d => PyData.bool (p d))) = some (ds.all p) := by
  show (if inOk _ _ then _ else none) = _
  rw [if_pos (lay_bools ds p), any_false, Bool.not_not]
theorem compC_filter {step : D → M (Option D)} {g : D → Bool} : ∀ (ds : List D), (∀ d ∈ ds, step d = if g d then .ret (some d) else .ret none) → compC step ds = .ret (ds.filter g)
  | [], _ => rfl
  | d :: r, h => by
    rw [compC, h d List.mem_cons_self, compC_filter r fun d hd => h d (List.mem_cons_of_mem _ hd)]
    cases q : g d <;> simp [bdR, List.filter, q]
def sW (lo hi : Int) : D → Bool
  | .int i => decide (lo ≤ i) && decide (i ≤ hi)
  | _ => false
def sS (w : Str) : D → Bool
  | .str s => s == w
  | _ => false
def Ey (d : D) : Prop := d.canLay0 = true ∧ d.depth ≤ 1000
theorem Ok.ey {k n : Nat} {d : D} (h : Ok k n d) (hn : n ≤ 1000) : Ey d := ⟨h.lay, Nat.le_trans h.deep hn⟩
theorem eqS {d : D} (h : Ey d) (w : String) : opEq d (.str w) = some (sS w d) := by
  unfold opEq eqOk
  have hw : PyData.canLay0 (.str w) = true := by simp [PyData.canLay0, strOk_lit]
  rw [if_pos (by simp [h.1, h.2, hw])]
  cases d <;> simp [PyData.eqv, sS]
theorem sS_symm (w : Str) (d : D) : PyData.eqv (.str w) d = sS w d := by
  cases d <;> simp [PyData.eqv, sS]
  rename_i s
  rw [Bool.eq_iff_iff]; simp; exact eq_comm
theorem inS2 {d : D} (h : Ey d) (a b : String) : opIn d (.tuple [(.str a), (.str b)]) = some (sS a d || sS b d) := by
  have hw : PyData.canLayAll0 [(.str (Str.ofString a)), (.str (Str.ofString b))] = true := by simp [PyData.canLayAll0, PyData.canLay0, strOk_lit]
  have hi : inOk d [(.str (Str.ofString a)), (.str (Str.ofString b))] = true := by unfold inOk; simp [h.1, h.2, hw]
  show (if inOk _ _ then _ else none) = _
  rw [if_pos hi]
  simp [sS_symm]
theorem notInS2 {d : D} (h : Ey d) (a b : String) : opNotIn d (.tuple [(.str a), (.str b)]) = some (!(sS a d || sS b d)) := by
  have hw : PyData.canLayAll0 [(.str (Str.ofString a)), (.str (Str.ofString b))] = true := by simp [PyData.canLayAll0, PyData.canLay0, strOk_lit]
  have hi : inOk d [(.str (Str.ofString a)), (.str (Str.ofString b))] = true := by unfold inOk; simp [h.1, h.2, hw]
  show (if inOk _ _ then _ else none) = _
  rw [if_pos hi]
  simp [sS_symm]
end L4
set_option Elab.async false
set_option linter.all false
set_option maxRecDepth 100000
namespace K65
open PySem PySem.Spec PyProof.Rows L2 L3 L4
def Fd (T : Nat) (f : List D) : Prop := ∃ a b t : Int, f = [.int a, .int b, .int t] ∧ 0 ≤ t ∧ t ≤ T
theorem Fd.le {T T' : Nat} {f : List D} (h : Fd T f) (hl : T ≤ T') : Fd T' f := by
  obtain ⟨a, b, t, e, h0, h1⟩ := h
  exact ⟨a, b, t, e, h0, by omega⟩
theorem mod_ok (i j : Int) (h : 0 < j) : opMod (.int i) (.int j) = some (.int (i % j)) := if_pos h
theorem div_ok (i j : Int) (h : 0 < j) (h2 : j < 1073741824) : opDiv (.int i) (.int j) = some (.int (i / j)) := if_pos (by simp [h, h2])
theorem mul_okL (i j : Int) (h : -(2 ^ 64) < i) (h2 : i < 2 ^ 64) : opMulI (.int i) (.int j) = some (.int (i * j)) := if_pos (by simp only [mulOk, Bool.or_eq_true, Bool.and_eq_true, decide_eq_true_eq]; exact .inl ⟨h, h2⟩)
theorem mul_okR (i j : Int) (h : -(2 ^ 64) < j) (h2 : j < 2 ^ 64) : opMulI (.int i) (.int j) = some (.int (i * j)) := if_pos (by simp only [mulOk, Bool.or_eq_true, Bool.and_eq_true, decide_eq_true_eq]; exact .inr ⟨h, h2⟩)
theorem add_ok (i j : Int) : opAdd (.int i) (.int j) = some (.int (i + j)) := rfl
theorem gt_ok (i j : Int) : opGt (.int i) (.int j) = some (decide (j < i)) := rfl
theorem take_ok {T : Nat} {f : List D} {m : Int} (h : Fd T f) (hT : T ≤ 1000000) (hm : 0 < m) (hm2 : m < 1073741824) :
    ∃ (r : Int) (f' : List D), c__law_take f (.int m) = .ret (.int r, f') ∧ 0 ≤ r ∧ r < m ∧ Fd (T + 1) f' := by
  obtain ⟨a, b, t, rfl, h0, h1⟩ := h
  unfold c__law_take
  rw [ix3_0, oM_some, bd_ret, gt_ok, oM_some, bd_ret]
  by_cases ha : 0 < a
  · simp only [ha, decide_true, if_true]
    simp only [oM_some, bd_ret, mod_ok _ _ hm, div_ok _ _ hm hm2, put3_0]
    exact ⟨_, _, rfl, Int.emod_nonneg _ (by omega), Int.emod_lt_of_pos _ hm, _, _, _, rfl, h0, by omega⟩
  · simp only [ha, decide_false]
    rw [if_neg (by decide)]
    simp only [oM_some, bd_ret, ix3_2, ix3_1, ix3_0, put3_2, add_ok]
    rw [mod_ok _ _ (by decide), mul_okL _ _ (by decide) (by decide)]
    simp only [oM_some, bd_ret]
    rw [mul_okR _ _ (by omega) (by omega)]
    simp only [oM_some, bd_ret, add_ok]
    rw [mul_okR _ _ (by decide) (by decide)]
    simp only [oM_some, bd_ret, add_ok]
    rw [mod_ok _ _ (by decide)]
    simp only [oM_some, bd_ret, add_ok]
    rw [div_ok _ _ (by decide) (by decide), mul_okL _ _ (by decide) (by decide)]
    simp only [oM_some, bd_ret, add_ok]
    rw [mul_okR _ _ (by decide) (by decide)]
    simp only [oM_some, bd_ret, add_ok]
    rw [mod_ok _ _ (by decide)]
    simp only [oM_some, bd_ret, add_ok]
    rw [div_ok _ _ (by decide) (by decide)]
    simp only [oM_some, bd_ret, add_ok]
    rw [mod_ok _ _ hm]
    exact ⟨_, _, rfl, Int.emod_nonneg _ (by omega), Int.emod_lt_of_pos _ hm, _, _, _, rfl, by omega, by omega⟩
theorem feed_ok (ns : List Int) (k : Int) (hn : ns.length ≤ 63) : ∃ f, c__law_feed (.list (ns.map PyData.int)) (.int k) = .ret f ∧ Fd 0 f := by
  have j1 : ∀ c : Int, ∃ f, c__law_feed_j1 (.int c) = .ret f ∧ Fd 0 f := fun c => by
    unfold c__law_feed_j1
    have e : opPow (.int 10) (.int 18) = some (.int (10 ^ 18)) := rfl
    rw [e]
    simp only [oM_some, bd_ret]
    have e2 : opGe (.int c) (.int (10 ^ 18)) = some (decide ((10 : Int) ^ 18 ≤ c)) := rfl
    rw [e2]
    simp only [oM_some, bd_ret]
    have e3 : ∀ b : Bool, fInt [.bool b] = some (.int (if b then 1 else 0)) := fun b => rfl
    rw [e3]
    simp only [oM_some, bd_ret]
    rw [mul_okR _ _ (by split <;> decide) (by split <;> decide)]
    exact ⟨_, rfl, _, _, _, rfl, Int.le_refl _, Int.le_refl _⟩
  unfold c__law_feed
  have e1 : fLen [.list (ns.map PyData.int)] = some (.int ns.length) := by show some (PyData.int (ns.map PyData.int).length) = _; rw [List.length_map]
  simp only [e1, oM_some, bd_ret, gt_ok]
  by_cases h : 0 < (ns.length : Int)
  · simp only [h, decide_true, if_true]
    rw [mod_ok _ _ h, div_ok _ _ h (by omega)]
    simp only [oM_some, bd_ret]
    rw [mul_okL _ _ (by decide) (by decide)]
    have m1 := Int.emod_nonneg k (b := (ns.length : Int)) (by omega)
    have m2 := Int.emod_lt_of_pos k h
    obtain ⟨x, hx, e⟩ := atI_ok (ns.map PyData.int) (k % ns.length) m1 (by rw [List.length_map]; exact m2)
    obtain ⟨i, hi, rfl⟩ := List.mem_map.mp hx
    have e2 : opIx (.list (ns.map PyData.int)) (.int (k % ns.length)) = some (.int i) := e
    rw [e2]
    simp only [oM_some, bd_ret, add_ok]
    exact j1 _
  · simp only [h, decide_false]
    rw [if_neg (by decide)]
    exact j1 0
end K65
set_option Elab.async false
set_option linter.all false
set_option maxRecDepth 100000
namespace K65
open PySem PySem.Spec PyProof.Rows L2 L3 L4
theorem cut_lohi (ds : List D) (m n : Nat) (h : m ≤ n) (h2 : n ≤ ds.length) : L4.cutD ds (some m) (some n) = (ds.drop m).take (n - m) := by
  unfold L4.cutD
  rw [HT.sIx_nat, HT.sIx_nat, Nat.min_eq_left h2, Nat.min_eq_left (Nat.le_trans h h2)]
def BI (d : D) : Prop := ∃ i : Int, d = .int i ∧ -1000000000000000 ≤ i ∧ i ≤ 1000000000000000
def nB : Int := -1000000000000000
theorem negB : opNeg (.int 1000000000000000) = some (.int nB) := rfl
theorem nB_lo : -1000000000000000 ≤ nB := Int.le_refl _
theorem nB_hi : nB ≤ 1000000000000000 := by unfold nB; decide
abbrev sz (R S : Nat) : D := .tuple [.int R, .int S]
abbrev iL (l : List Int) : List D := l.map PyData.int
abbrev tupI (l : List Int) : D := .tuple (iL l)
abbrev frm (n : Int) (is os : List Int) : D := .tuple [.int n, tupI is, tupI os]
theorem forC_cons {S T : Type} {step : T → D → (T → M S) → M S} (d : D) (r : List D) (s : T) (k : T → M S) : forC step (d :: r) s k = step s d fun s' => forC step r s' k := id rfl
def dot : List Int → List Int → Int
  | a :: as, b :: bs => a * b + dot as bs
  | _, _ => 0
theorem dot_nil (as : List Int) : dot as [] = 0 := by cases as <;> rfl
theorem nil_dot (as : List Int) : dot [] as = 0 := by cases as <;> rfl
def Few (l : List Int) : Prop := ∀ c ∈ l, -1000000000000 ≤ c ∧ c ≤ 1000000000000
theorem zipT (as bs : List D) : fZip [.tuple as, .tuple bs] = some (zipD as bs) := id rfl
theorem addII (a b : Int) : opAddI (.int a) (.int b) = some (.int (a + b)) := id rfl
theorem un2_ok {S : Type} (a b : D) (k : D → D → M S) : un2 (.tuple [a, b]) k = k a b := id rfl
theorem zip_cons (a b : D) (as bs : List D) : zipD (a :: as) (b :: bs) = .tuple [a, b] :: zipD as bs := id rfl
theorem loop1 (f c : D) (k : D × D × D × Unit → M D) : ∀ (as cs : List Int) (n : Int), Few cs →
    forC (fun s18 d19 kn => c_value_at_s1 s18.1 s18.2.1 s18.2.2.1 d19 kn) (zipD (iL as) (iL cs)) (f, c, .int n, ()) k = k (f, c, .int (n + dot as cs), ())
  | [], cs, n, _ => by simp [zipD, forC, nil_dot]
  | a :: as, [], n, _ => by simp [zipD, forC, dot]
  | a :: as, b :: cs, n, h => by
    have hb := h b (by simp)
    rw [show zipD (iL (a :: as)) (iL (b :: cs)) = .tuple [.int a, .int b] :: zipD (iL as) (iL cs) from id rfl, forC_cons]
    dsimp only
    unfold c_value_at_s1
    rw [un2_ok, mulR _ _ (by omega) (by omega)]
    simp only [oMS, bdR, addII]
    have := loop1 f c k as cs (n + a * b) (fun x hx => h x (by simp [hx]))
    rw [show n + dot (a :: as) (b :: cs) = n + a * b + dot as cs by simp only [dot]; omega]
    exact this
theorem loop2 (k : D × Unit → M D) : ∀ (as cs : List Int) (n : Int), Few cs →
    forC (fun s11 d12 kn => c_value_at_s3 s11.1 d12 kn) (zipD (iL as) (iL cs)) (.int n, ()) k = k (.int (n + dot as cs), ())
  | [], cs, n, _ => by simp [zipD, forC, nil_dot]
  | a :: as, [], n, _ => by simp [zipD, forC, dot]
  | a :: as, b :: cs, n, h => by
    have hb := h b (by simp)
    rw [show zipD (iL (a :: as)) (iL (b :: cs)) = .tuple [.int a, .int b] :: zipD (iL as) (iL cs) from id rfl, forC_cons]
    dsimp only
    unfold c_value_at_s3
    rw [un2_ok, mulR _ _ (by omega) (by omega)]
    simp only [oMS, bdR, addII]
    have := loop2 k as cs (n + a * b) (fun x hx => h x (by simp [hx]))
    rw [show n + dot (a :: as) (b :: cs) = n + a * b + dot as cs by simp only [dot]; omega]
    exact this
theorem value_ok (n : Int) (is os cs ks : List Int) (h1 : Few cs) (h2 : Few ks) : c_value_at (frm n is os) (tupI cs) (tupI ks) = .ret (.int (n + dot is cs + dot os ks)) := by
  unfold c_value_at
  simp only [ixT0, ixT1, oMS, bdR, zipT]
  rw [forS_is, loop1 _ _ _ is cs n h1]
  show c_value_at_r2 (frm n is os) (tupI ks) (.int (n + dot is cs)) = _
  unfold c_value_at_r2
  simp only [ixT2, oMS, bdR, zipT]
  rw [forS_is, loop2 _ os ks _ h2]
  rfl
theorem rangeS (lo : Nat) (n : Nat) : rangeD lo (n + 1) = .int lo :: rangeD ((lo + 1 : Nat) : Int) n := by
  unfold rangeD
  rw [List.range_succ_eq_map, List.map_cons, List.map_map]
  congr 1
  apply List.map_congr_left
  intro i _
  simp only [Function.comp]
  congr 1
  omega
theorem ixI (l : List Int) (i : Nat) (h : i < l.length) : opIx (tupI l) (.int i) = some (.int l[i]) := by
  have := ixTn (iL l) i (by simpa using h)
  rw [this]; simp
theorem plus_ok (n m : Int) (is os : List Int) : c_plus (frm n is os) (.int m) = .ret (frm (n + m) is os) := by
  unfold c_plus
  simp only [ixT0, ixT1, ixT2, oMS, bdR, addI]
theorem putI (l : List Int) (i : Nat) (x : Int) (h : i < l.length) : putD (iL l) (.int i) (.int x) = some (iL (l.set i x)) := by
  unfold putD
  dsimp only
  unfold ixN
  rw [if_pos (Int.natCast_nonneg _), if_pos (by simp; omega)]
  simp only [Option.map_some, Int.toNat_natCast, Option.some.injEq]
  exact (List.map_set (f := PyData.int)).symm
theorem ixIL (l : List Int) (i : Nat) (h : i < l.length) : opIx (.list (iL l)) (.int i) = some (.int l[i]) := by
  have : opIx (.list (iL l)) (.int i) = some ((iL l)[i]'(by simpa using h)) := atI_nat (iL l) i (by simpa using h)
  rw [this]; simp
theorem listT (ds : List D) : fList [.tuple ds] = some ds := id rfl
theorem compC_ex {step : D → M (Option D)} {R : D → Prop} : ∀ (ds : List D), (∀ d ∈ ds, ∃ x, step d = .ret (some x) ∧ R x) → ∃ xs, compC step ds = .ret xs ∧ xs.length = ds.length ∧ ∀ x ∈ xs, R x
  | [], _ => ⟨[], rfl, rfl, fun _ h => by cases h⟩
  | d :: r, h => by
    obtain ⟨x, e, p⟩ := h d List.mem_cons_self
    obtain ⟨xs, e2, l2, p2⟩ := compC_ex r fun d hd => h d (List.mem_cons_of_mem _ hd)
    refine ⟨x :: xs, by rw [compC, e, e2]; rfl, by simp [l2], fun y hy => ?_⟩
    cases hy with
    | head => exact p
    | tail _ h => exact p2 y h
theorem ints_of {P : Int → Prop} : ∀ {xs : List D}, (∀ x ∈ xs, ∃ i, x = .int i ∧ P i) → ∃ l, xs = iL l ∧ ∀ i ∈ l, P i
  | [], _ => ⟨[], rfl, fun _ h => by cases h⟩
  | x :: xs, h => by
    obtain ⟨i, rfl, p⟩ := h x List.mem_cons_self
    obtain ⟨l, rfl, p2⟩ := ints_of (xs := xs) fun y hy => h y (List.mem_cons_of_mem _ hy)
    refine ⟨i :: l, rfl, fun j hj => ?_⟩
    cases hj with
    | head => exact p
    | tail _ h => exact p2 j h
theorem mulT_ok (a : D) (r : List D) (k : Int) (h1 : -(2 ^ 63) ≤ k) (h2 : k < 2 ^ 63) (h3 : (a :: r).length * k.toNat ≤ sizeLine) : opMulT (.tuple (a :: r)) (.int k) = some (.tuple (List.replicate k.toNat (a :: r)).flatten) := by
  have hb : (decide (-(2 ^ 63) ≤ k) && decide (k < 2 ^ 63) && decide ((a :: r).length * k.toNat ≤ sizeLine)) = true := by
    rw [decide_eq_true h1, decide_eq_true h2, decide_eq_true h3]; rfl
  unfold opMulT
  simp only [hb, if_true]
theorem mul0 (k : Nat) (h : k ≤ 1000) : opMulT (.tuple [.int 0]) (.int k) = some (tupI (List.replicate k 0)) := by
  rw [mulT_ok _ _ _ (by omega) (by omega) (by simp; exact Nat.le_trans h (by decide))]
  have : ∀ k : Nat, (List.replicate k [PyData.int 0]).flatten = iL (List.replicate k 0) := fun k => by
    induction k with
    | zero => rfl
    | succ k ih => rw [List.replicate_succ, List.flatten_cons, ih]; rfl
  rw [Int.toNat_natCast, this]
theorem eq_ll : opEq (.str "least") (.str "least") = some true := by decide +kernel
theorem eq_sl : opEq (.str "same") (.str "least") = some false := by decide +kernel
theorem eq_ss : opEq (.str "same") (.str "same") = some true := by decide +kernel
theorem eq_rl : opEq (.str "rest") (.str "least") = some false := by decide +kernel
theorem eq_rs : opEq (.str "rest") (.str "same") = some false := by decide +kernel
theorem eqB (a b : Bool) : opEq (.bool a) (.bool b) = some (a == b) := by
  unfold opEq eqOk
  simp [PyData.canLay0, PyData.depth, PyData.eqv]
theorem ff {α : Type} (a b : α) : (if false = true then a else b) = b := rfl
theorem comp_map {step : D → M (Option D)} {g : Int → Int} (h : ∀ a : Int, step (.int a) = .ret (some (.int (g a)))) : ∀ as : List Int, compC step (iL as) = .ret (iL (as.map g))
  | [] => rfl
  | a :: as => by
    rw [show iL (a :: as) = .int a :: iL as from id rfl, compC, h, comp_map h as]
    rfl
theorem cut1 (a : D) (r : List D) : fCut (.tuple (a :: r)) (some 1) none = some (.tuple r) := by
  rw [cutT]
  have := L4.cut_lo (a :: r) 1
  rw [show ((1 : Nat) : Int) = 1 from rfl] at this
  rw [this]; rfl
theorem cut2 (a b : D) (r : List D) : fCut (.tuple (a :: b :: r)) (some 2) none = some (.tuple r) := by
  rw [cutT]
  have := L4.cut_lo (a :: b :: r) 2
  rw [show ((2 : Nat) : Int) = 2 from rfl] at this
  rw [this]; rfl
theorem okI {k n : Nat} {i : Int} (h : i.natAbs < 10 ^ 16) : Ok k (n + 1) (.int i) := Nat.lt_of_lt_of_le h (Nat.pow_le_pow_right (by decide) (by omega))
theorem okTup {n : Nat} {l : List Int} (hl : l.length ≤ 6) (h : ∀ i ∈ l, i.natAbs < 10 ^ 16) : Ok 0 (n + 2) (tupI l) :=
  ⟨by simp; omega, fun d hd => by obtain ⟨i, hi, rfl⟩ := List.mem_map.mp hd; exact okI (h i hi)⟩
theorem okFrm {n : Nat} {m : Int} {is os : List Int} (hm : m.natAbs < 10 ^ 16) (h1 : is.length ≤ 6) (h2 : os.length ≤ 6) (h3 : ∀ i ∈ is, i.natAbs < 10 ^ 16) (h4 : ∀ i ∈ os, i.natAbs < 10 ^ 16) : Ok 0 (n + 3) (frm m is os) :=
  ⟨by simp, fun d hd => by
    simp only [List.mem_cons, List.not_mem_nil, or_false] at hd
    rcases hd with rfl | rfl | rfl
    · exact okI hm
    · exact okTup h1 h3
    · exact okTup h2 h4⟩
theorem ne_self {n : Nat} {d : D} (h : Ok 0 n d) (hn : n ≤ 6) : opNe (.str d.shown) (.str d.shown) = some false := by
  have := (h.repr (by decide) hn).2
  unfold opEq at this
  unfold opNe
  split at this
  · rename_i q
    rw [if_pos q]
    injection this with this
    rw [this]; rfl
  · cases this
theorem okB (b : Bool) : Ok 0 1 (.bool b) := trivial
theorem okLeast {n : Nat} : Ok 0 (n + 1) (.str "least") := (show wordOk "least" = true by decide +kernel)
theorem comp2 {step : D → M (Option D)} {a b a' b' : D} (h1 : step a = .ret (some a')) (h2 : step b = .ret (some b')) : compC step [a, b] = .ret [a', b'] := by
  rw [compC, h1, compC, h2]
  rfl
theorem range_mem {n : Nat} {d : D} (h : d ∈ rangeD 0 n) : ∃ k : Nat, k < n ∧ d = .int k := by
  unfold rangeD at h
  obtain ⟨k, hk, rfl⟩ := List.mem_map.mp h
  exact ⟨k, List.mem_range.mp hk, by congr 1; omega⟩
theorem intsOf_iL : ∀ l : List Int, intsOf (iL l) = some l
  | [] => rfl
  | i :: l => by
    show (match intsOf (iL l) with | some l => some (i :: l) | none => none) = _
    rw [intsOf_iL l]
theorem whole_ok (i lo hi : Int) : c_is_within (.int i) (.int lo) (.int hi) = .ret (.bool (decide (lo ≤ i) && decide (i ≤ hi))) := by
  unfold c_is_within c_is_whole
  have t1 : isT "int" (.int i) = true := id rfl
  have t2 : isT "bool" (.int i) = false := id rfl
  simp only [t1, t2, if_true, Bool.not_false, bdR, asB_b, leI, oMS, iteB, Bool.true_and]
theorem bounded_ok {d : D} (h : BI d) : c_is_bounded d = .ret (.bool true) := by
  obtain ⟨i, rfl, h1, h2⟩ := h
  unfold c_is_bounded
  simp only [negB, oMS, bdR, whole_ok]
  have := nB_lo
  have e1 : nB ≤ i := by unfold nB; exact h1
  rw [decide_eq_true e1, decide_eq_true h2]
  rfl
theorem are_ok {as : List D} {n : Nat} (hl : as.length = n) (hn : n ≤ 100) (h : ∀ x ∈ as, BI x) : c_are_bounded (.int n) (.tuple as) = .ret (.bool true) := by
  unfold c_are_bounded c_is_tuple_of
  have t1 : isT "tuple" (.tuple as) = true := id rfl
  simp only [t1, if_true, lenT, oMS, bdR, eqI, asB_b, hl, beq_self_eq_true, seqT]
  rw [compC_ok (g := fun _ => .bool true) as fun d hd => by rw [bounded_ok (h d hd)]; rfl]
  simp only [bdR]
  rw [fitM_ok (by simp; omega)]
  simp only [bdR, all_map as (fun _ => true), oMS, asB_b]
  simp
theorem fIntB (b : Bool) : fInt [.bool b] = some (.int (if b then 1 else 0)) := id rfl
end K65
set_option Elab.async false
set_option linter.all false
set_option maxRecDepth 100000
namespace K65
open PySem PySem.Spec PyProof.Rows L2 L3 L4
abbrev nL (S : List Nat) : List Int := S.map fun (n : Nat) => (n : Int)
abbrev tupN (S : List Nat) : D := tupI (nL S)
theorem set_range (s a : Nat) (g : Nat → Int) (c : Int) : ((List.range s).map g).set a c = (List.range s).map fun k => if k = a then c else g k := by
  apply List.ext_getElem
  · simp
  · intro i h1 h2
    simp only [List.getElem_set, List.getElem_map, List.getElem_range]
    by_cases h : a = i
    · subst h; simp
    · rw [if_neg h, if_neg (Ne.symm h)]
theorem loopA (rooms those : D) (s : Nat) (k : D × D × List D × Unit → M D) : ∀ (A : List Nat) (g : Nat → Int), (∀ a ∈ A, a < s) →
    forC (fun s14 d15 kn => c_hands_form_s1 s14.1 s14.2.1 s14.2.2.1 d15 kn) (iL (nL A)) (rooms, those, iL ((List.range s).map g), ()) k = k (rooms, those, iL ((List.range s).map fun i => if i ∈ A then 1 else g i), ())
  | [], g, _ => by simp [forC]
  | a :: A, g, h => by
    have ha := h a (by simp)
    rw [show iL (nL (a :: A)) = .int a :: iL (nL A) from id rfl, forC_cons]
    dsimp only
    unfold c_hands_form_s1
    rw [putI _ a 1 (by simpa using ha)]
    simp only [oMS, bdR]
    rw [set_range]
    refine (loopA rooms those s k A _ (fun x hx => h x (by simp [hx]))).trans ?_
    congr 5
    apply List.map_congr_left
    intro i _
    by_cases h1 : i ∈ A
    · simp [h1]
    · by_cases h2 : i = a <;> simp [h1, h2]
theorem loopB (rooms : D) (s : Nat) (k : D × List D × Unit → M D) : ∀ (A : List Nat) (g : Nat → Int), (∀ a ∈ A, a < s) →
    forC (fun s10 d11 kn => c_hands_form_s3 s10.1 s10.2.1 d11 kn) (iL (nL A)) (rooms, iL ((List.range s).map g), ()) k = k (rooms, iL ((List.range s).map fun i => if i ∈ A then -1 else g i), ())
  | [], g, _ => by simp [forC]
  | a :: A, g, h => by
    have ha := h a (by simp)
    rw [show iL (nL (a :: A)) = .int a :: iL (nL A) from id rfl, forC_cons]
    dsimp only
    unfold c_hands_form_s3
    have e1 : opNeg (.int 1) = some (.int (-1)) := id rfl
    rw [e1]
    simp only [oMS, bdR]
    rw [putI _ a (-1) (by simpa using ha)]
    simp only [oMS, bdR]
    rw [set_range]
    refine (loopB rooms s k A _ (fun x hx => h x (by simp [hx]))).trans ?_
    congr 4
    apply List.map_congr_left
    intro i _
    by_cases h1 : i ∈ A
    · simp [h1]
    · by_cases h2 : i = a <;> simp [h1, h2]
def ofs (s : Nat) (A B : List Nat) : List Int := (List.range s).map fun i => if i ∈ B then -1 else if i ∈ A then 1 else 0
theorem mulL0 (s : Nat) (h : s ≤ 1000) : opMulL (.list [.int 0]) (.int s) = some (iL ((List.range s).map fun _ => 0)) := by
  have hb : (decide (-(2 ^ 63) ≤ (s : Int)) && decide ((s : Int) < 2 ^ 63) && decide ([PyData.int 0].length * (s : Int).toNat ≤ sizeLine)) = true := by
    simp only [Bool.and_eq_true, decide_eq_true_eq, List.length_cons, List.length_nil, Int.toNat_natCast]
    exact ⟨⟨by omega, by omega⟩, Nat.le_trans (show (0 + 1) * s ≤ 1000 by omega) (by decide)⟩
  have : ∀ k : Nat, (List.replicate k [PyData.int 0]).flatten = iL ((List.range k).map fun _ => 0) := fun k => by
    rw [List.map_const', List.length_range]
    induction k with
    | zero => rfl
    | succ k ih => rw [List.replicate_succ, List.flatten_cons, ih]; rfl
  unfold opMulL
  dsimp only
  rw [if_pos hb, Int.toNat_natCast, this]
theorem hands_ok (R s : Nat) (A B : List Nat) (hR : R ≤ 1000) (hs : s ≤ 1000) (hA : ∀ a ∈ A, a < s) (hB : ∀ a ∈ B, a < s) : c_hands_form (.int R) (.int s) (tupN A) (tupN B) = .ret (frm 0 (List.replicate R 0) (ofs s A B)) := by
  unfold c_hands_form
  simp only [mulL0 s hs, oMS, bdR, seqT]
  rw [forS_is, loopA _ _ _ _ A _ hA]
  dsimp only
  unfold c_hands_form_r2
  simp only [oMS, bdR, seqT]
  rw [forS_is, loopB _ _ _ B _ hB]
  dsimp only
  unfold c_hands_form_r4
  simp only [mul0 R hR, oMS, bdR, tupL]
  rfl
theorem lay_ints : ∀ l : List Int, PyData.canLayAll0 (iL l) = true
  | [] => by simp [PyData.canLayAll0]
  | i :: l => by simp only [List.map_cons, PyData.canLayAll0, PyData.canLay0, lay_ints l, Bool.and_self]
theorem inN (k : Nat) (A : List Nat) : opIn (.int k) (tupN A) = some (decide (k ∈ A)) := by
  show (if inOk (.int k) (iL (nL A)) then some ((iL (nL A)).any fun y => PyData.eqv y (.int k)) else none) = _
  rw [if_pos]
  · congr 1
    induction A with
    | nil => rfl
    | cons a A ih =>
      rw [show iL (nL (a :: A)) = .int a :: iL (nL A) from id rfl, List.any_cons, ih]
      have : PyData.eqv (.int a) (.int k) = ((a : Int) == (k : Int)) := by simp [PyData.eqv]
      rw [this, beq_len]
      by_cases h : a = k
      · subst h; simp
      · have h' : ¬ k = a := fun e => h e.symm
        simp [h, h']
  · unfold inOk
    simp only [Bool.and_eq_true, decide_eq_true_eq]
    exact ⟨⟨lay_ints _, by simp [PyData.canLay0]⟩, by simp [PyData.depth]⟩
theorem comp_range {step : D → M (Option D)} {g : Nat → Int} (s : Nat) (h : ∀ a : Nat, a < s → step (.int a) = .ret (some (.int (g a)))) : compC step (rangeD 0 s) = .ret (iL ((List.range s).map g)) := by
  have : ∀ l : List Nat, (∀ a ∈ l, a < s) → compC step (l.map fun (i : Nat) => PyData.int (0 + (i : Int))) = .ret (iL (l.map g)) := fun l => by
    induction l with
    | nil => intro _; rfl
    | cons a l ih =>
      intro hl
      rw [List.map_cons, compC, Int.zero_add, h a (hl a (by simp)), ih fun x hx => hl x (by simp [hx])]
      rfl
  exact this _ fun a ha => List.mem_range.mp ha
theorem lawOf_ok (R s : Nat) (A : List Nat) (c n : Int) (hR : R ≤ 1000) (hs : s ≤ 1000) (h1 : -2 ≤ c) (h2 : c ≤ 2) :
    c__law_of (sz R s) (tupN A) (.int c) (.int n) = .ret (frm n (List.replicate R 0) ((List.range s).map fun k => c * (if k ∈ A then 1 else 0))) := by
  unfold c__law_of
  simp only [ixT1, ixT0, oMS, bdR, range_ok s hs]
  rw [comp_range (g := fun k => c * (if k ∈ A then 1 else 0)) s fun a ha => by
    simp only [inN, oMS, bdR, fIntB, decide_eq_true_eq]
    rw [mulL _ _ (by omega) (by omega)]
    rfl]
  simp only [bdR]
  rw [fitM_ok (by simp; omega)]
  simp only [bdR, tupL, oMS, mul0 R hR]
end K65
set_option Elab.async false
set_option linter.all false
set_option maxRecDepth 100000
namespace K65
open PySem PySem.Spec PyProof.Rows L2 L3 L4
inductive Qn where
  | least (A : List Nat) (m : Nat)
  | more (A B : List Nat)
  | rest (A : List Nat) (b r : Nat)
  | neg (q : Qn)
  | both (q p : Qn)
  | either (q p : Qn)
def Qn.d : Qn → D
  | .least A m => .tuple [.str "least", tupN A, .int m]
  | .more A B => .tuple [.str "more", tupN A, tupN B]
  | .rest A b r => .tuple [.str "rest", tupN A, .int b, .int r]
  | .neg q => .tuple [.str "not", q.d]
  | .both q p => .tuple [.str "both", q.d, p.d]
  | .either q p => .tuple [.str "either", q.d, p.d]
def Qn.deep : Qn → Nat
  | .neg q => q.deep + 1
  | .both q p => max q.deep p.deep + 1
  | .either q p => max q.deep p.deep + 1
  | _ => 0
def Up (s : Nat) (A : List Nat) : Prop := A.Pairwise (· < ·) ∧ ∀ a ∈ A, a < s
def Qn.Wf (s : Nat) : Qn → Prop
  | .least A m => Up s A ∧ A ≠ [] ∧ 1 ≤ m ∧ m ≤ 9
  | .more A B => Up s A ∧ Up s B ∧ ∀ a ∈ A, a ∉ B
  | .rest A b r => Up s A ∧ A ≠ [] ∧ 2 ≤ b ∧ b ≤ 9 ∧ r < b
  | .neg q => q.Wf s
  | .both q p => q.Wf s ∧ p.Wf s
  | .either q p => q.Wf s ∧ p.Wf s
structure Ft where
  w : Option Nat
  n : Int
  o : List Int
def Ft.d (R : Nat) (f : Ft) : D := match f.w with
  | none => .tuple [.str "least", frm f.n (List.replicate R 0) f.o]
  | some b => .tuple [.str "rest", frm f.n (List.replicate R 0) f.o, .int b]
def cross (a b : List (List Ft)) : List (List Ft) := a.flatMap fun x => b.map fun y => x ++ y
def rows (s : Nat) : Qn → Bool → List (List Ft)
  | .least A m, t => if t then [[⟨none, -(m : Int), ofs s A []⟩]] else [[⟨none, (m : Int) - 1, ofs s [] A⟩]]
  | .more A B, t => if t then [[⟨none, -1, ofs s A B⟩]] else [[⟨none, 0, ofs s B A⟩]]
  | .rest A b r, t => ((List.range b).filter fun k => (decide (k = r)) == t).map fun (k : Nat) => [⟨some b, -(k : Int), ofs s A []⟩]
  | .neg q, t => rows s q (!t)
  | .both q p, t => if t then cross (rows s q t) (rows s p t) else rows s q t ++ rows s p t
  | .either q p, t => if t then rows s q t ++ rows s p t else cross (rows s q t) (rows s p t)
abbrev rowD (R : Nat) (r : List Ft) : D := .tuple (r.map (Ft.d R))
abbrev rowsD (R : Nat) (rs : List (List Ft)) : List D := rs.map (rowD R)
theorem few2 {t : Bool} {a b : List (List Ft)} {m n : Nat} (a1 : a.length ≤ 9 ^ (2 ^ m)) (b1 : ∀ r ∈ a, r.length ≤ 2 ^ m) (a2 : b.length ≤ 9 ^ (2 ^ n)) (b2 : ∀ r ∈ b, r.length ≤ 2 ^ n) :
    (if t then cross a b else a ++ b).length ≤ 9 ^ (2 ^ (max m n + 1)) ∧ ∀ r ∈ (if t then cross a b else a ++ b), r.length ≤ 2 ^ (max m n + 1) := by
  have m1 : 2 ^ m ≤ 2 ^ (max m n) := Nat.pow_le_pow_right (by decide) (by omega)
  have m2 : 2 ^ n ≤ 2 ^ (max m n) := Nat.pow_le_pow_right (by decide) (by omega)
  have p1 := Nat.le_trans a1 (Nat.pow_le_pow_right (n := 9) (by decide) m1)
  have p2 := Nat.le_trans a2 (Nat.pow_le_pow_right (n := 9) (by decide) m2)
  have e : 2 ^ (max m n + 1) = 2 ^ (max m n) + 2 ^ (max m n) := by rw [Nat.pow_succ]; omega
  have e9 : 9 ^ (2 ^ (max m n + 1)) = 9 ^ (2 ^ max m n) * 9 ^ (2 ^ max m n) := by rw [e, Nat.pow_add]
  have hb : 9 ≤ 9 ^ (2 ^ max m n) := Nat.le_trans (show 9 ≤ 9 ^ 1 by decide) (Nat.pow_le_pow_right (by decide) (Nat.one_le_two_pow))
  generalize 9 ^ (2 ^ max m n) = B at *
  rw [e9, e]
  cases t with
  | true =>
    simp only [if_true]
    have hl : (cross a b).length = a.length * b.length := by
      unfold cross
      rw [List.length_flatMap]
      simp only [List.length_map, List.map_const', List.sum_replicate_nat]
    refine ⟨by rw [hl]; exact Nat.mul_le_mul p1 p2, fun r hr => ?_⟩
    unfold cross at hr
    obtain ⟨x, hx, hr⟩ := List.mem_flatMap.mp hr
    obtain ⟨y, hy, rfl⟩ := List.mem_map.mp hr
    have := b1 x hx
    have := b2 y hy
    rw [List.length_append]; omega
  | false =>
    rw [if_neg (by decide)]
    refine ⟨?_, fun r hr => ?_⟩
    · rw [List.length_append]
      have : B * 2 ≤ B * B := Nat.mul_le_mul_left B (by omega)
      omega
    · rcases List.mem_append.mp hr with q | q
      · have := b1 r q; omega
      · have := b2 r q; omega
theorem rows_few (s : Nat) : ∀ (q : Qn) (t : Bool), (q.Wf s) → (rows s q t).length ≤ 9 ^ (2 ^ q.deep) ∧ ∀ r ∈ rows s q t, r.length ≤ 2 ^ q.deep
  | .least A m, t, _ => by cases t <;> simp [rows, Qn.deep]
  | .more A B, t, _ => by cases t <;> simp [rows, Qn.deep]
  | .rest A b r, t, h => by
    have hb : b ≤ 9 := h.2.2.2.1
    refine ⟨?_, fun x hx => ?_⟩
    · simp only [rows, List.length_map, Qn.deep]
      have := List.length_filter_le (fun k => (decide (k = r)) == t) (List.range b)
      rw [List.length_range] at this
      omega
    · simp only [rows, List.mem_map] at hx
      obtain ⟨k, _, rfl⟩ := hx
      simp [Qn.deep]
  | .neg q, t, h => by
    obtain ⟨a, b⟩ := rows_few s q (!t) h
    have e : 2 ^ q.deep ≤ 2 ^ (q.deep + 1) := Nat.pow_le_pow_right (by decide) (by omega)
    exact ⟨Nat.le_trans a (Nat.pow_le_pow_right (by decide) e), fun r hr => Nat.le_trans (b r hr) e⟩
  | .both q p, t, h => by
    obtain ⟨a1, b1⟩ := rows_few s q t h.1
    obtain ⟨a2, b2⟩ := rows_few s p t h.2
    exact few2 a1 b1 a2 b2
  | .either q p, t, h => by
    obtain ⟨a1, b1⟩ := rows_few s q t h.1
    obtain ⟨a2, b2⟩ := rows_few s p t h.2
    have := few2 (t := !t) a1 b1 a2 b2
    cases t <;> exact this
theorem crossS (R : Nat) (b : List (List Ft)) (x : List Ft) (hb : ∀ r ∈ b, r.length + x.length ≤ 1000) : ∀ (l : List (List Ft)), (∀ r ∈ l, r ∈ b) → compC (fun d3 => bd (oM (opAdd (rowD R x) d3)) fun x4 => .ret (some x4)) (rowsD R l) = .ret (rowsD R (l.map fun y => x ++ y))
  | [], _ => rfl
  | y :: l, h => by
    rw [show rowsD R (y :: l) = rowD R y :: rowsD R l from id rfl, compC, addT _ _ (by have := hb y (h y (by simp)); simp; omega), crossS R b x hb l fun r hr => h r (by simp [hr])]
    simp only [oMS, bdR, List.map_cons, ← List.map_append]
    rfl
end K65
set_option Elab.async false
set_option linter.all false
set_option maxRecDepth 100000
namespace K65
open PySem PySem.Spec PyProof.Rows L2 L3 L4
theorem w_least_least : opEq (.str "least") (.str "least") = some true := by decide +kernel
theorem w_least_more : opEq (.str "least") (.str "more") = some false := by decide +kernel
theorem w_least_rest : opEq (.str "least") (.str "rest") = some false := by decide +kernel
theorem w_least_not : opEq (.str "least") (.str "not") = some false := by decide +kernel
theorem w_least_both : opEq (.str "least") (.str "both") = some false := by decide +kernel
theorem w_least_either : opEq (.str "least") (.str "either") = some false := by decide +kernel
theorem i_least : opIn (.str "least") (.tuple [(.str "both"), (.str "either")]) = some false := by decide +kernel
theorem w_more_least : opEq (.str "more") (.str "least") = some false := by decide +kernel
theorem w_more_more : opEq (.str "more") (.str "more") = some true := by decide +kernel
theorem w_more_rest : opEq (.str "more") (.str "rest") = some false := by decide +kernel
theorem w_more_not : opEq (.str "more") (.str "not") = some false := by decide +kernel
theorem w_more_both : opEq (.str "more") (.str "both") = some false := by decide +kernel
theorem w_more_either : opEq (.str "more") (.str "either") = some false := by decide +kernel
theorem i_more : opIn (.str "more") (.tuple [(.str "both"), (.str "either")]) = some false := by decide +kernel
theorem w_rest_least : opEq (.str "rest") (.str "least") = some false := by decide +kernel
theorem w_rest_more : opEq (.str "rest") (.str "more") = some false := by decide +kernel
theorem w_rest_rest : opEq (.str "rest") (.str "rest") = some true := by decide +kernel
theorem w_rest_not : opEq (.str "rest") (.str "not") = some false := by decide +kernel
theorem w_rest_both : opEq (.str "rest") (.str "both") = some false := by decide +kernel
theorem w_rest_either : opEq (.str "rest") (.str "either") = some false := by decide +kernel
theorem i_rest : opIn (.str "rest") (.tuple [(.str "both"), (.str "either")]) = some false := by decide +kernel
theorem w_not_least : opEq (.str "not") (.str "least") = some false := by decide +kernel
theorem w_not_more : opEq (.str "not") (.str "more") = some false := by decide +kernel
theorem w_not_rest : opEq (.str "not") (.str "rest") = some false := by decide +kernel
theorem w_not_not : opEq (.str "not") (.str "not") = some true := by decide +kernel
theorem w_not_both : opEq (.str "not") (.str "both") = some false := by decide +kernel
theorem w_not_either : opEq (.str "not") (.str "either") = some false := by decide +kernel
theorem i_not : opIn (.str "not") (.tuple [(.str "both"), (.str "either")]) = some false := by decide +kernel
theorem w_both_least : opEq (.str "both") (.str "least") = some false := by decide +kernel
theorem w_both_more : opEq (.str "both") (.str "more") = some false := by decide +kernel
theorem w_both_rest : opEq (.str "both") (.str "rest") = some false := by decide +kernel
theorem w_both_not : opEq (.str "both") (.str "not") = some false := by decide +kernel
theorem w_both_both : opEq (.str "both") (.str "both") = some true := by decide +kernel
theorem w_both_either : opEq (.str "both") (.str "either") = some false := by decide +kernel
theorem i_both : opIn (.str "both") (.tuple [(.str "both"), (.str "either")]) = some true := by decide +kernel
theorem w_either_least : opEq (.str "either") (.str "least") = some false := by decide +kernel
theorem w_either_more : opEq (.str "either") (.str "more") = some false := by decide +kernel
theorem w_either_rest : opEq (.str "either") (.str "rest") = some false := by decide +kernel
theorem w_either_not : opEq (.str "either") (.str "not") = some false := by decide +kernel
theorem w_either_both : opEq (.str "either") (.str "both") = some false := by decide +kernel
theorem w_either_either : opEq (.str "either") (.str "either") = some true := by decide +kernel
theorem i_either : opIn (.str "either") (.tuple [(.str "both"), (.str "either")]) = some true := by decide +kernel
theorem ext_ok (a b : List D) (h : a.length + b.length ≤ 10000000) : mExt a b = some (a ++ b) := if_pos (decide_eq_true (Nat.le_trans h (by decide)))
theorem cross_cons (x : List Ft) (a b : List (List Ft)) : cross (x :: a) b = (b.map fun y => x ++ y) ++ cross a b := by simp [cross]
theorem cross_len (a b : List (List Ft)) : (cross a b).length = a.length * b.length := by
  unfold cross
  rw [List.length_flatMap]
  simp only [List.length_map, List.map_const', List.sum_replicate_nat]
theorem crossP (R : Nat) (b : List (List Ft)) (k : D × List D × Unit → M (List D)) (hb : b.length ≤ 1000) (hB : ∀ r ∈ b, r.length ≤ 400) : ∀ (a acc : List (List Ft)), (∀ r ∈ a, r.length ≤ 400) → acc.length + a.length * b.length ≤ 10000000 →
    forC (fun s8 d9 kn => c_crossed_s1 s8.1 s8.2.1 d9 kn) (rowsD R a) (.list (rowsD R b), rowsD R acc, ()) k = k (.list (rowsD R b), rowsD R (acc ++ cross a b), ())
  | [], acc, _, _ => by simp [forC, cross]
  | x :: a, acc, h, hl => by
    have hx := h x (by simp)
    rw [List.length_cons, Nat.add_mul] at hl
    rw [show rowsD R (x :: a) = rowD R x :: rowsD R a from id rfl, forC_cons]
    have st : ∀ kn : D × List D × Unit → M (List D), c_crossed_s1 (.list (rowsD R b)) (rowsD R acc) (rowD R x) kn = kn (.list (rowsD R b), rowsD R (acc ++ b.map fun y => x ++ y), ()) := fun kn => by
      unfold c_crossed_s1
      simp only [seqL, oMS, bdR]
      rw [crossS R b x (fun r hr => by have := hB r hr; omega) b fun r hr => hr]
      simp only [bdR]
      rw [fitM_ok (by simp; omega)]
      simp only [bdR]
      rw [ext_ok _ _ (by simp; omega)]
      simp only [oMS, bdR, ← List.map_append]
    dsimp only
    rw [st]
    refine (crossP R b k hb hB a _ (fun r hr => h r (by simp [hr])) (by simp; omega)).trans ?_
    rw [cross_cons, List.append_assoc]
theorem crossed_ok (R : Nat) (a b : List (List Ft)) (ha : a.length ≤ 1000) (hb : b.length ≤ 1000) (hA : ∀ r ∈ a, r.length ≤ 400) (hB : ∀ r ∈ b, r.length ≤ 400) : c_crossed (.list (rowsD R a)) (.list (rowsD R b)) = .ret (rowsD R (cross a b)) := by
  unfold c_crossed
  simp only [seqL, oMS, bdR]
  rw [forS_is]
  have := crossP R b (fun s8 => c_crossed_r2 s8.1 s8.2.1) hb hB a [] hA (by
    have : a.length * b.length ≤ 1000 * 1000 := Nat.mul_le_mul ha hb
    simp; omega)
  rw [show rowsD R [] = [] from id rfl] at this
  rw [this]
  rfl
theorem crossL (self : D → D → D → M D) (R : Nat) (b : List (List Ft)) (k : D × List D × Unit → M D) (hb : b.length ≤ 1000) (hB : ∀ r ∈ b, r.length ≤ 400) : ∀ (a acc : List (List Ft)), (∀ r ∈ a, r.length ≤ 400) → acc.length + a.length * b.length ≤ 10000000 →
    forC (fun s104 d105 kn => c__law_rows_s1 self s104.1 s104.2.1 d105 kn) (rowsD R a) (.list (rowsD R b), rowsD R acc, ()) k = k (.list (rowsD R b), rowsD R (acc ++ cross a b), ())
  | [], acc, _, _ => by simp [forC, cross]
  | x :: a, acc, h, hl => by
    have hx := h x (by simp)
    rw [List.length_cons, Nat.add_mul] at hl
    rw [show rowsD R (x :: a) = rowD R x :: rowsD R a from id rfl, forC_cons]
    have st : ∀ kn : D × List D × Unit → M D, c__law_rows_s1 self (.list (rowsD R b)) (rowsD R acc) (rowD R x) kn = kn (.list (rowsD R b), rowsD R (acc ++ b.map fun y => x ++ y), ()) := fun kn => by
      unfold c__law_rows_s1
      simp only [seqL, oMS, bdR]
      rw [crossS R b x (fun r hr => by have := hB r hr; omega) b fun r hr => hr]
      simp only [bdR]
      rw [fitM_ok (by simp; omega)]
      simp only [bdR]
      rw [ext_ok _ _ (by simp; omega)]
      simp only [oMS, bdR, ← List.map_append]
    dsimp only
    rw [st]
    refine (crossL self R b k hb hB a _ (fun r hr => h r (by simp [hr])) (by simp; omega)).trans ?_
    rw [cross_cons, List.append_assoc]
theorem comp_filter {step : D → M (Option D)} {p : Nat → Bool} (s : Nat) (h : ∀ a : Nat, a < s → step (.int a) = if p a then .ret (some (.int a)) else .ret none) : compC step (rangeD 0 s) = .ret (iL (nL ((List.range s).filter p))) := by
  have : ∀ l : List Nat, (∀ a ∈ l, a < s) → compC step (l.map fun (i : Nat) => PyData.int (0 + (i : Int))) = .ret (iL (nL (l.filter p))) := fun l => by
    induction l with
    | nil => intro _; rfl
    | cons a l ih =>
      intro hl
      rw [List.map_cons, compC, Int.zero_add, h a (hl a (by simp)), ih fun x hx => hl x (by simp [hx])]
      by_cases hp : p a = true
      · rw [if_pos hp, List.filter_cons_of_pos hp]; rfl
      · rw [if_neg hp, List.filter_cons_of_neg hp]; rfl
  exact this _ fun a ha => List.mem_range.mp ha
theorem comp_nat {step : D → M (Option D)} {g : Nat → D} (h : ∀ a : Nat, step (.int a) = .ret (some (g a))) : ∀ l : List Nat, compC step (iL (nL l)) = .ret (l.map g)
  | [] => rfl
  | a :: l => by
    rw [show iL (nL (a :: l)) = .int a :: iL (nL l) from id rfl, compC, h, comp_nat h l]
    rfl
theorem negI (i : Int) : opNeg (.int i) = some (.int (-i)) := id rfl
theorem least_ok (R s : Nat) (A : List Nat) (m : Nat) (t : Bool) (hR : R ≤ 1000) (hs : s ≤ 1000) (hA : ∀ a ∈ A, a < s) :
    c_least_fact (.int R) (.int s) (Qn.least A m).d (.bool t) = .ret (if t then Ft.d R ⟨none, -(m : Int), ofs s A []⟩ else Ft.d R ⟨none, (m : Int) - 1, ofs s [] A⟩) := by
  have nilS : (PyData.tuple [] : D) = tupN [] := rfl
  unfold c_least_fact Qn.d
  rw [nilS]
  cases t
  · simp only [tru_b, oMS, bdR, ff, ixT1, ixT2, hands_ok R s [] A hR hs (by simp) hA, subI, plus_ok, Ft.d, Int.zero_add]
  · simp only [tru_b, oMS, bdR, if_true, ixT1, ixT2, hands_ok R s A [] hR hs hA (by simp), negI, plus_ok, Ft.d, Int.zero_add]
theorem more_ok (R s : Nat) (A B : List Nat) (t : Bool) (hR : R ≤ 1000) (hs : s ≤ 1000) (hA : ∀ a ∈ A, a < s) (hB : ∀ a ∈ B, a < s) :
    c_more_fact (.int R) (.int s) (Qn.more A B).d (.bool t) = .ret (if t then Ft.d R ⟨none, -1, ofs s A B⟩ else Ft.d R ⟨none, 0, ofs s B A⟩) := by
  unfold c_more_fact Qn.d
  cases t
  · simp only [tru_b, oMS, bdR, ff, ixT1, ixT2, hands_ok R s B A hR hs hB hA, Ft.d]
  · simp only [tru_b, oMS, bdR, if_true, ixT1, ixT2, hands_ok R s A B hR hs hA hB, negI, plus_ok, Ft.d, Int.zero_add]
theorem rest_ok (R s : Nat) (A : List Nat) (b r : Nat) (t : Bool) (hR : R ≤ 1000) (hs : s ≤ 1000) (hA : ∀ a ∈ A, a < s) (hb : b ≤ 1000) :
    c_rest_rows (.int R) (.int s) (Qn.rest A b r).d (.bool t) = .ret (rowsD R (rows s (.rest A b r) t)) := by
  have nilS : (PyData.tuple [] : D) = tupN [] := rfl
  unfold c_rest_rows Qn.d
  rw [nilS]
  simp only [ixT1, ixT2, ixT3, oMS, bdR, hands_ok R s A [] hR hs hA (by simp), range_ok b hb]
  rw [comp_filter (p := fun k => (decide (k = r)) == t) b fun a ha => by
    simp only [eqI, oMS, bdR, eqB, beq_len]]
  simp only [bdR]
  have fl := List.length_filter_le (fun k => (decide (k = r)) == t) (List.range b)
  rw [List.length_range] at fl
  rw [fitM_ok (by simp; omega)]
  simp only [bdR, seqL, oMS]
  rw [comp_nat (g := fun k => rowD R [⟨some b, -(k : Int), ofs s A []⟩]) fun a => by
    simp only [negI, oMS, bdR, plus_ok, Int.zero_add]
    rfl]
  simp only [bdR]
  rw [fitM_ok (by simp; omega)]
  simp only [bdR, rows, List.map_map]
  rfl
end K65
set_option Elab.async false
set_option linter.all false
set_option maxRecDepth 100000
namespace K65
open PySem PySem.Spec PyProof.Rows L2 L3 L4
theorem addLL (a b : List D) (h : a.length + b.length ≤ 10000000) : opAddL (.list a) (.list b) = some (a ++ b) := by
  unfold opAddL
  dsimp only
  rw [if_pos (Nat.le_trans h (by decide))]
theorem addLD (a b : List D) (h : a.length + b.length ≤ 10000000) : opAdd (.list a) (.list b) = some (.list (a ++ b)) := if_pos (Nat.le_trans h (by decide))
theorem few_of {s : Nat} {q : Qn} (t : Bool) (h : q.Wf s) (hd : q.deep ≤ 1) : (rows s q t).length ≤ 81 ∧ ∀ r ∈ rows s q t, r.length ≤ 2 := by
  obtain ⟨a, b⟩ := rows_few s q t h
  have e : q.deep = 0 ∨ q.deep = 1 := by omega
  rcases e with e | e <;> rw [e] at a b
  · exact ⟨by have : 9 ^ 2 ^ 0 = 9 := by decide
              omega, fun r hr => by have := b r hr; omega⟩
  · exact ⟨by have : 9 ^ 2 ^ 1 = 81 := by decide
              omega, fun r hr => by have := b r hr; omega⟩
theorem rowsOf_ok (R s : Nat) (hR : R ≤ 1000) (hs : s ≤ 1000) : ∀ (n : Nat) (q : Qn) (t : Bool), q.Wf s → q.deep < n → q.deep ≤ 2 → c_rows_of n (.int R) (.int s) q.d (.bool t) = .ret (rowsD R (rows s q t))
  | 0, _, _, _, h, _ => absurd h (Nat.not_lt_zero _)
  | n + 1, .least A m, t, w, _, _ => by
    show c_rows_of_b (c_rows_of n) _ _ _ _ = _
    unfold c_rows_of_b
    have e := least_ok R s A m t hR hs w.1.2
    simp only [Qn.d] at e ⊢
    simp only [ixT0, oMS, bdR, w_least_not, ff, i_least, w_least_least, if_true, e, rows]
    cases t <;> rfl
  | n + 1, .more A B, t, w, _, _ => by
    show c_rows_of_b (c_rows_of n) _ _ _ _ = _
    unfold c_rows_of_b
    have e := more_ok R s A B t hR hs w.1.2 w.2.1.2
    simp only [Qn.d] at e ⊢
    simp only [ixT0, oMS, bdR, w_more_not, ff, i_more, w_more_least, w_more_more, if_true, e, rows]
    cases t <;> rfl
  | n + 1, .rest A b r, t, w, _, _ => by
    show c_rows_of_b (c_rows_of n) _ _ _ _ = _
    unfold c_rows_of_b
    have e := rest_ok R s A b r t hR hs w.1.2 (by have := w.2.2.2.1; omega)
    simp only [Qn.d] at e ⊢
    simp only [ixT0, oMS, bdR, w_rest_not, ff, i_rest, w_rest_least, w_rest_more, e]
  | n + 1, .neg q, t, w, hd, h2 => by
    show c_rows_of_b (c_rows_of n) _ _ _ _ = _
    unfold c_rows_of_b
    simp only [Qn.deep] at hd h2
    have e := rowsOf_ok R s hR hs n q (!t) w (by omega) (by omega)
    simp only [Qn.d, ixT0, ixT1, oMS, bdR, w_not_not, if_true, tru_b, e, rows]
  | n + 1, .both q p, t, w, hd, h2 => by
    show c_rows_of_b (c_rows_of n) _ _ _ _ = _
    unfold c_rows_of_b
    simp only [Qn.deep] at hd h2
    have e1 := rowsOf_ok R s hR hs n q t w.1 (by omega) (by omega)
    have e2 := rowsOf_ok R s hR hs n p t w.2 (by omega) (by omega)
    obtain ⟨a1, b1⟩ := few_of t w.1 (by omega)
    obtain ⟨a2, b2⟩ := few_of t w.2 (by omega)
    have cr := crossed_ok R (rows s q t) (rows s p t) (by omega) (by omega) (fun r hr => by have := b1 r hr; omega) (fun r hr => by have := b2 r hr; omega)
    have ad := addLL (rowsD R (rows s q t)) (rowsD R (rows s p t)) (by simp; omega)
    simp only [Qn.d, ixT0, ixT1, ixT2, oMS, bdR, w_both_not, ff, i_both, if_true, e1, e2, w_both_both, eqB, cr, ad, rows]
    cases t <;> simp [oMS, bdR, oM_some, bd_ret]
  | n + 1, .either q p, t, w, hd, h2 => by
    show c_rows_of_b (c_rows_of n) _ _ _ _ = _
    unfold c_rows_of_b
    simp only [Qn.deep] at hd h2
    have e1 := rowsOf_ok R s hR hs n q t w.1 (by omega) (by omega)
    have e2 := rowsOf_ok R s hR hs n p t w.2 (by omega) (by omega)
    obtain ⟨a1, b1⟩ := few_of t w.1 (by omega)
    obtain ⟨a2, b2⟩ := few_of t w.2 (by omega)
    have cr := crossed_ok R (rows s q t) (rows s p t) (by omega) (by omega) (fun r hr => by have := b1 r hr; omega) (fun r hr => by have := b2 r hr; omega)
    have ad := addLL (rowsD R (rows s q t)) (rowsD R (rows s p t)) (by simp; omega)
    simp only [Qn.d, ixT0, ixT1, ixT2, oMS, bdR, w_either_not, ff, i_either, if_true, e1, e2, w_either_both, eqB, cr, ad, rows]
    cases t <;> simp [oMS, bdR, oM_some, bd_ret]
end K65
set_option Elab.async false
set_option linter.all false
set_option maxRecDepth 100000
namespace K65
open PySem PySem.Spec PyProof.Rows L2 L3 L4
theorem neB (a b : Bool) : opNe (.bool a) (.bool b) = some (!(a == b)) := by
  unfold opNe eqOk
  simp [PyData.canLay0, PyData.depth, PyData.eqv]
theorem of_pos (s : Nat) (A : List Nat) : ((List.range s).map fun k => (1 : Int) * (if k ∈ A then 1 else 0)) = ofs s A [] := by
  unfold ofs
  apply List.map_congr_left
  intro k _
  by_cases h : k ∈ A <;> simp [h]
theorem of_neg (s : Nat) (A : List Nat) : ((List.range s).map fun k => (-1 : Int) * (if k ∈ A then 1 else 0)) = ofs s [] A := by
  unfold ofs
  apply List.map_congr_left
  intro k _
  by_cases h : k ∈ A <;> simp [h]
theorem of_more (s : Nat) (A B : List Nat) (hd : ∀ a ∈ A, a ∉ B) : ((List.range s).map fun k => ((if k ∈ A then 1 else 0) - (if k ∈ B then 1 else 0) : Int)) = ofs s A B := by
  unfold ofs
  apply List.map_congr_left
  intro k _
  by_cases h : k ∈ A
  · have := hd k h
    simp [h, this]
  · by_cases h2 : k ∈ B <;> simp [h, h2]
theorem of_swap (s : Nat) (A B : List Nat) (hd : ∀ a ∈ A, a ∉ B) : (ofs s A B).map (fun x => -x) = ofs s B A := by
  unfold ofs
  rw [List.map_map]
  apply List.map_congr_left
  intro k _
  simp only [Function.comp]
  by_cases h : k ∈ A
  · have := hd k h
    simp [h, this]
  · by_cases h2 : k ∈ B <;> simp [h, h2]
theorem lawRows_ok (R s : Nat) (hR : R ≤ 1000) (hs : s ≤ 1000) : ∀ (n : Nat) (q : Qn) (t : Bool), q.Wf s → q.deep < n → q.deep ≤ 2 → c__law_rows n (sz R s) q.d (.bool t) = .ret (.list (rowsD R (rows s q t)))
  | 0, _, _, _, h, _ => absurd h (Nat.not_lt_zero _)
  | n + 1, .least A m, t, w, _, _ => by
    show c__law_rows_b (c__law_rows n) _ _ _ = _
    unfold c__law_rows_b
    have e1 := fun x => lawOf_ok R s A 1 x hR hs (by decide) (by decide)
    have e2 := fun x => lawOf_ok R s A (-1) x hR hs (by decide) (by decide)
    rw [of_pos] at e1
    rw [of_neg] at e2
    cases t
    · simp only [Qn.d, ixT0, ixT1, ixT2, oMS, bdR, w_least_not, ff, w_least_least, if_true, tru_b, negI, subI, e2, rows]
      rfl
    · simp only [Qn.d, ixT0, ixT1, ixT2, oMS, bdR, w_least_not, ff, w_least_least, if_true, tru_b, negI, e1, rows]
      rfl
  | n + 1, .more A B, t, w, _, _ => by
    show c__law_rows_b (c__law_rows n) _ _ _ = _
    unfold c__law_rows_b
    simp only [Qn.d, ixT0, ixT1, ixT2, oMS, bdR, w_more_not, ff, w_more_least, w_more_more, if_true, range_ok s hs]
    rw [comp_range (g := fun k => (if k ∈ A then 1 else 0) - (if k ∈ B then 1 else 0)) s fun a ha => by
      simp only [inN, oMS, bdR, fIntB, decide_eq_true_eq, subI]]
    rw [of_more s A B w.2.2]
    simp only [bdR]
    have lo : (ofs s A B).length = s := by simp [ofs]
    rw [fitM_ok (by simp [lo]; omega)]
    cases t
    · simp only [bdR, tru_b, oMS, ff, mul0 R hR, seqL]
      rw [comp_map (g := fun x => -x) fun a => by simp only [negI, oMS, bdR]]
      rw [of_swap s A B w.2.2]
      simp only [bdR]
      have lo2 : (ofs s B A).length = s := by simp [ofs]
      rw [fitM_ok (by simp [lo2]; omega)]
      simp only [bdR, tupL, oMS, rows]
      rfl
    · simp only [bdR, tru_b, oMS, if_true, mul0 R hR, negI, tupL, rows]
      rfl
  | n + 1, .rest A b r, t, w, _, _ => by
    show c__law_rows_b (c__law_rows n) _ _ _ = _
    unfold c__law_rows_b
    have hb : b ≤ 9 := w.2.2.2.1
    have e1 := fun x => lawOf_ok R s A 1 x hR hs (by decide) (by decide)
    rw [of_pos] at e1
    simp only [Qn.d, ixT0, ixT1, ixT2, ixT3, oMS, bdR, w_rest_not, ff, w_rest_least, w_rest_more, w_rest_rest, if_true, range_ok b (by omega)]
    rw [comp_filter (p := fun k => (decide (k = r)) == t) b fun a ha => by
      simp only [eqI, oMS, bdR, eqB, beq_len]]
    simp only [bdR]
    have fl := List.length_filter_le (fun k => (decide (k = r)) == t) (List.range b)
    rw [List.length_range] at fl
    rw [fitM_ok (by simp; omega)]
    simp only [bdR, seqL, oMS]
    rw [comp_nat (g := fun k => rowD R [⟨some b, -(k : Int), ofs s A []⟩]) fun a => by
      simp only [negI, oMS, bdR, e1]
      rfl]
    simp only [bdR]
    rw [fitM_ok (by simp; omega)]
    simp only [bdR, rows, List.map_map]
    rfl
  | n + 1, .neg q, t, w, hd, h2 => by
    show c__law_rows_b (c__law_rows n) _ _ _ = _
    unfold c__law_rows_b
    simp only [Qn.deep] at hd h2
    have e := lawRows_ok R s hR hs n q (!t) w (by omega) (by omega)
    simp only [Qn.d, ixT0, ixT1, oMS, bdR, w_not_not, if_true, tru_b, e, rows]
  | n + 1, .both q p, t, w, hd, h2 => by
    show c__law_rows_b (c__law_rows n) _ _ _ = _
    unfold c__law_rows_b
    simp only [Qn.deep] at hd h2
    have e1 := lawRows_ok R s hR hs n q t w.1 (by omega) (by omega)
    have e2 := lawRows_ok R s hR hs n p t w.2 (by omega) (by omega)
    obtain ⟨a1, b1⟩ := few_of t w.1 (by omega)
    obtain ⟨a2, b2⟩ := few_of t w.2 (by omega)
    have hm : (rows s q t).length * (rows s p t).length ≤ 81 * 81 := Nat.mul_le_mul a1 a2
    have cr := fun (k : D × List D × Unit → M D) => crossL (c__law_rows n) R (rows s p t) k (by omega) (fun r hr => by have := b2 r hr; omega) (rows s q t) [] (fun r hr => by have := b1 r hr; omega) (by simp; omega)
    have ad := addLD (rowsD R (rows s q t)) (rowsD R (rows s p t)) (by simp; omega)
    simp only [Qn.d, ixT0, ixT1, ixT2, oMS, bdR, w_both_not, ff, w_both_least, w_both_more, w_both_rest, e1, e2, w_both_both, neB]
    cases t
    · rw [if_pos (by decide)]
      simp only [ad, oMS, bdR, rows]
      simp
    · rw [if_neg (by decide)]
      simp only [seqL, oMS, bdR]
      rw [forS_is]
      refine (cr _).trans ?_
      simp only [rows, if_true]
      rfl
  | n + 1, .either q p, t, w, hd, h2 => by
    show c__law_rows_b (c__law_rows n) _ _ _ = _
    unfold c__law_rows_b
    simp only [Qn.deep] at hd h2
    have e1 := lawRows_ok R s hR hs n q t w.1 (by omega) (by omega)
    have e2 := lawRows_ok R s hR hs n p t w.2 (by omega) (by omega)
    obtain ⟨a1, b1⟩ := few_of t w.1 (by omega)
    obtain ⟨a2, b2⟩ := few_of t w.2 (by omega)
    have hm : (rows s q t).length * (rows s p t).length ≤ 81 * 81 := Nat.mul_le_mul a1 a2
    have cr := fun (k : D × List D × Unit → M D) => crossL (c__law_rows n) R (rows s p t) k (by omega) (fun r hr => by have := b2 r hr; omega) (rows s q t) [] (fun r hr => by have := b1 r hr; omega) (by simp; omega)
    have ad := addLD (rowsD R (rows s q t)) (rowsD R (rows s p t)) (by simp; omega)
    simp only [Qn.d, ixT0, ixT1, ixT2, oMS, bdR, w_either_not, ff, w_either_least, w_either_more, w_either_rest, e1, e2, w_either_both, neB]
    cases t
    · rw [if_neg (by decide)]
      simp only [seqL, oMS, bdR]
      rw [forS_is]
      refine (cr _).trans ?_
      simp only [rows, ff]
      rfl
    · rw [if_pos (by decide)]
      simp only [ad, oMS, bdR, rows]
      simp
end K65
set_option Elab.async false
set_option linter.all false
set_option maxRecDepth 100000
namespace K65
open PySem PySem.Spec PyProof.Rows L2 L3 L4
theorem comp_natM {step : D → M (Option D)} {g : Nat → Int} : ∀ l : List Nat, (∀ a ∈ l, step (.int a) = .ret (some (.int (g a)))) → compC step (iL (nL l)) = .ret (iL (l.map g))
  | [], _ => rfl
  | a :: l, h => by
    rw [show iL (nL (a :: l)) = .int a :: iL (nL l) from id rfl, compC, h a (by simp), comp_natM l fun x hx => h x (by simp [hx])]
    rfl
theorem getD_at (ks : List Int) (a : Nat) (h : a < ks.length) : ks.getD a 0 = ks[a] := by
  rw [List.getD_eq_getElem?_getD, List.getElem?_eq_getElem h, Option.getD_some]
def sumS (ks : List Int) (A : List Nat) : Int := (A.map fun a => ks.getD a 0).sum
def Cnt (s : Nat) (ks : List Int) : Prop := ks.length = s ∧ ∀ c ∈ ks, 0 ≤ c ∧ c ≤ 1000000
theorem sum_ok {s : Nat} {ks : List Int} (hk : Cnt s ks) {A : List Nat} (hA : ∀ a ∈ A, a < s) (hl : A.length ≤ 1000) : fSum [.list (iL (A.map fun a => ks.getD a 0))] = some (.int (sumS ks A)) := by
  show (match intsOf (iL (A.map fun a => ks.getD a 0)) with | some ns => if sumOk ns then some (PyData.int ns.sum) else none | none => none) = _
  rw [intsOf_iL]
  dsimp only
  rw [if_pos]
  · rfl
  · unfold sumOk
    simp only [Bool.and_eq_true, List.all_eq_true, decide_eq_true_eq, List.length_map]
    refine ⟨fun i hi => ?_, by omega⟩
    obtain ⟨a, ha, rfl⟩ := List.mem_map.mp hi
    have h1 : a < ks.length := by rw [hk.1]; exact hA a ha
    rw [getD_at ks a h1]
    have := hk.2 ks[a] (by simp)
    omega
theorem up_len0 (s : Nat) : ∀ (A : List Nat) (lo : Nat), A.Pairwise (· < ·) → (∀ a ∈ A, lo ≤ a ∧ a < s) → A = [] ∨ A.length + lo ≤ s
  | [], _, _, _ => .inl rfl
  | a :: r, lo, h, hb => by
    have ha := hb a (by simp)
    rw [List.pairwise_cons] at h
    rcases up_len0 s r (a + 1) h.2 (fun x hx => ⟨h.1 x hx, (hb x (by simp [hx])).2⟩) with e | e
    · subst e; right; simp; omega
    · right; simp; omega
theorem up_len {s : Nat} {A : List Nat} (h : Up s A) : A.length ≤ s := by
  rcases up_len0 s A 0 h.1 (fun a ha => ⟨Nat.zero_le _, h.2 a ha⟩) with e | e
  · subst e; simp
  · omega
theorem read_ok {s : Nat} {ks : List Int} (hk : Cnt s ks) {A : List Nat} (hA : ∀ a ∈ A, a < s) : compC (fun d1 => bd (oM (opIx (tupI ks) d1)) fun x2 => .ret (some x2)) (iL (nL A)) = .ret (iL (A.map fun a => ks.getD a 0)) := by
  refine comp_natM A fun a ha => ?_
  have h1 : a < ks.length := by rw [hk.1]; exact hA a ha
  rw [ixI ks a h1, getD_at ks a h1]
  rfl
theorem handsOf_ok {s : Nat} {ks : List Int} (hk : Cnt s ks) (hs : s ≤ 1000) {A : List Nat} (hA : Up s A) : c_hands_of (tupN A) (tupI ks) = .ret (.int (sumS ks A)) := by
  unfold c_hands_of
  have hl := up_len hA
  simp only [seqT, oMS, bdR]
  rw [read_ok hk hA.2]
  simp only [bdR]
  rw [fitM_ok (by simp; omega)]
  simp only [bdR, sum_ok hk hA.2 (by omega), oMS]
def tr (ks : List Int) : Qn → Bool
  | .least A m => decide ((m : Int) ≤ sumS ks A)
  | .more A B => decide (sumS ks B < sumS ks A)
  | .rest A b r => (sumS ks A % (b : Int)) == (r : Int)
  | .neg q => !tr ks q
  | .both q p => tr ks q && tr ks p
  | .either q p => tr ks q || tr ks p
theorem holds_ok {s : Nat} {ks : List Int} (hk : Cnt s ks) (hs : s ≤ 1000) : ∀ (n : Nat) (q : Qn), q.Wf s → q.deep < n → c_holds n q.d (tupI ks) = .ret (.bool (tr ks q))
  | 0, _, _, h => absurd h (Nat.not_lt_zero _)
  | n + 1, .least A m, w, _ => by
    show c_holds_b (c_holds n) _ _ = _
    unfold c_holds_b
    simp only [Qn.d, ixT0, ixT1, ixT2, oMS, bdR, w_least_not, w_least_both, w_least_either, ff, handsOf_ok hk hs w.1, w_least_least, if_true, geI, tr]
  | n + 1, .more A B, w, _ => by
    show c_holds_b (c_holds n) _ _ = _
    unfold c_holds_b
    simp only [Qn.d, ixT0, ixT1, ixT2, oMS, bdR, w_more_not, w_more_both, w_more_either, ff, handsOf_ok hk hs w.1, handsOf_ok hk hs w.2.1, w_more_least, w_more_more, if_true, gtI, tr]
  | n + 1, .rest A b r, w, _ => by
    show c_holds_b (c_holds n) _ _ = _
    unfold c_holds_b
    have hb : 2 ≤ b := w.2.2.1
    simp only [Qn.d, ixT0, ixT1, ixT2, ixT3, oMS, bdR, w_rest_not, w_rest_both, w_rest_either, ff, handsOf_ok hk hs w.1, w_rest_least, w_rest_more, modI _ (b : Int) (by omega), eqI, tr]
  | n + 1, .neg q, w, hd => by
    show c_holds_b (c_holds n) _ _ = _
    unfold c_holds_b
    simp only [Qn.deep] at hd
    simp only [Qn.d, ixT0, ixT1, oMS, bdR, w_not_not, if_true, holds_ok hk hs n q w (by omega), tru_b, tr]
  | n + 1, .both q p, w, hd => by
    show c_holds_b (c_holds n) _ _ = _
    unfold c_holds_b
    simp only [Qn.deep] at hd
    simp only [Qn.d, ixT0, ixT1, ixT2, oMS, bdR, w_both_not, ff, w_both_both, if_true, holds_ok hk hs n q w.1 (by omega), holds_ok hk hs n p w.2 (by omega), asB_b, iteB, tr]
  | n + 1, .either q p, w, hd => by
    show c_holds_b (c_holds n) _ _ = _
    unfold c_holds_b
    simp only [Qn.deep] at hd
    simp only [Qn.d, ixT0, ixT1, ixT2, oMS, bdR, w_either_not, w_either_both, w_either_either, ff, if_true, holds_ok hk hs n q w.1 (by omega), holds_ok hk hs n p w.2 (by omega), asB_b, iteO, tr]
theorem in2 (a b c : Bool) : opIn (.bool c) (.list [.bool a, .bool b]) = some ((a == c) || (b == c)) := by
  cases a <;> cases b <;> cases c <;> decide +kernel
theorem notIn2 (a b c : Bool) : opNotIn (.bool c) (.list [.bool a, .bool b]) = some (!((a == c) || (b == c))) := by
  cases a <;> cases b <;> cases c <;> decide +kernel
theorem truth_ok {s : Nat} {ks : List Int} (hk : Cnt s ks) (hs : s ≤ 1000) : ∀ (n : Nat) (q : Qn), q.Wf s → q.deep < n → c__law_truth n q.d (tupI ks) = .ret (.bool (tr ks q))
  | 0, _, _, h => absurd h (Nat.not_lt_zero _)
  | n + 1, .least A m, w, _ => by
    show c__law_truth_b (c__law_truth n) _ _ = _
    unfold c__law_truth_b
    have hl := up_len w.1
    simp only [Qn.d, ixT0, ixT1, ixT2, oMS, bdR, w_least_not, i_least, ff, seqT]
    rw [read_ok hk w.1.2]
    simp only [bdR]
    rw [fitM_ok (by simp; omega)]
    simp only [bdR, sum_ok hk w.1.2 (by omega), oMS, w_least_least, if_true, geI, tr]
  | n + 1, .more A B, w, _ => by
    show c__law_truth_b (c__law_truth n) _ _ = _
    unfold c__law_truth_b
    have hl := up_len w.1
    have hl2 := up_len w.2.1
    simp only [Qn.d, ixT0, ixT1, ixT2, oMS, bdR, w_more_not, i_more, ff, seqT]
    rw [read_ok hk w.1.2]
    simp only [bdR]
    rw [fitM_ok (by simp; omega)]
    simp only [bdR, sum_ok hk w.1.2 (by omega), oMS, w_more_least, w_more_more, if_true, ff]
    rw [read_ok hk w.2.1.2]
    simp only [bdR]
    rw [fitM_ok (by simp; omega)]
    simp only [bdR, sum_ok hk w.2.1.2 (by omega), oMS, gtI, tr]
  | n + 1, .rest A b r, w, _ => by
    show c__law_truth_b (c__law_truth n) _ _ = _
    unfold c__law_truth_b
    have hl := up_len w.1
    have hb : 2 ≤ b := w.2.2.1
    simp only [Qn.d, ixT0, ixT1, ixT2, ixT3, oMS, bdR, w_rest_not, i_rest, ff, seqT]
    rw [read_ok hk w.1.2]
    simp only [bdR]
    rw [fitM_ok (by simp; omega)]
    simp only [bdR, sum_ok hk w.1.2 (by omega), oMS, w_rest_least, w_rest_more, ff, modI _ (b : Int) (by omega), eqI, tr]
  | n + 1, .neg q, w, hd => by
    show c__law_truth_b (c__law_truth n) _ _ = _
    unfold c__law_truth_b
    simp only [Qn.deep] at hd
    simp only [Qn.d, ixT0, ixT1, oMS, bdR, w_not_not, if_true, truth_ok hk hs n q w (by omega), tru_b, tr]
  | n + 1, .both q p, w, hd => by
    show c__law_truth_b (c__law_truth n) _ _ = _
    unfold c__law_truth_b
    simp only [Qn.deep] at hd
    have e1 := truth_ok hk hs n q w.1 (by omega)
    have e2 := truth_ok hk hs n p w.2 (by omega)
    simp only [Qn.d, ixT0, oMS, bdR, w_both_not, ff, i_both, if_true, asI_i, cut1, seqT]
    rw [comp2 (a' := .bool (tr ks q)) (b' := .bool (tr ks p)) (by rw [e1]; rfl) (by rw [e2]; rfl)]
    simp only [bdR]
    rw [fitM_ok (by simp)]
    simp only [bdR, w_both_both, oMS, if_true, notIn2, tr]
    cases tr ks q <;> cases tr ks p <;> rfl
  | n + 1, .either q p, w, hd => by
    show c__law_truth_b (c__law_truth n) _ _ = _
    unfold c__law_truth_b
    simp only [Qn.deep] at hd
    have e1 := truth_ok hk hs n q w.1 (by omega)
    have e2 := truth_ok hk hs n p w.2 (by omega)
    simp only [Qn.d, ixT0, oMS, bdR, w_either_not, ff, i_either, if_true, asI_i, cut1, seqT]
    rw [comp2 (a' := .bool (tr ks q)) (b' := .bool (tr ks p)) (by rw [e1]; rfl) (by rw [e2]; rfl)]
    simp only [bdR]
    rw [fitM_ok (by simp)]
    simp only [bdR, w_either_both, oMS, ff, in2, tr]
    cases tr ks q <;> cases tr ks p <;> rfl
end K65
set_option Elab.async false
set_option linter.all false
set_option maxRecDepth 100000
namespace K65
open PySem PySem.Spec PyProof.Rows L2 L3 L4
def ind (A : List Nat) (i : Nat) : Int := if i ∈ A then 1 else 0
theorem dot_cons (a b : Int) (as bs : List Int) : dot (a :: as) (b :: bs) = a * b + dot as bs := rfl
theorem dot_sub : ∀ (l : List Nat) (c d : Nat → Int) (ks : List Int), dot (l.map fun i => c i - d i) ks = dot (l.map c) ks - dot (l.map d) ks
  | [], _, _, ks => by simp [nil_dot]
  | i :: l, c, d, [] => by simp [dot]
  | i :: l, c, d, k :: ks => by
    simp only [List.map_cons, dot_cons, dot_sub l c d ks, Int.sub_mul]
    omega
theorem dot_congr : ∀ (l : List Nat) (c d : Nat → Int) (ks : List Int), (∀ i ∈ l, c i = d i) → dot (l.map c) ks = dot (l.map d) ks := fun l c d ks h => by
  rw [List.map_congr_left h]
theorem sum_congr (A : List Nat) (f g : Nat → Int) (h : ∀ a ∈ A, f a = g a) : (A.map f).sum = (A.map g).sum := by rw [List.map_congr_left h]
theorem dot_ind : ∀ (ks : List Int) (lo : Nat) (A : List Nat), A.Pairwise (· < ·) → (∀ a ∈ A, lo ≤ a ∧ a < lo + ks.length) → dot ((List.range' lo ks.length).map (ind A)) ks = (A.map fun a => ks.getD (a - lo) 0).sum
  | [], lo, A, _, hb => by
    have : A = [] := by
      cases A with
      | nil => rfl
      | cons a r => have := hb a (by simp); simp at this; omega
    subst this
    simp [dot]
  | k :: ks, lo, A, hp, hb => by
    rw [List.length_cons, List.range'_succ, List.map_cons, dot_cons]
    cases A with
    | nil =>
      have := dot_ind ks (lo + 1) [] (by simp) (by simp)
      rw [this]
      simp [ind]
    | cons a r =>
      rw [List.pairwise_cons] at hp
      have ha := hb a (by simp)
      by_cases e : a = lo
      · subst e
        have hr : ∀ x ∈ r, a + 1 ≤ x ∧ x < a + 1 + ks.length := fun x hx => by
          have h1 := hp.1 x hx
          have h2 := (hb x (by simp [hx])).2
          simp at h2
          omega
        have ih := dot_ind ks (a + 1) r hp.2 hr
        rw [dot_congr (List.range' (a + 1) ks.length) (ind (a :: r)) (ind r) ks (fun i hi => by
          have : a + 1 ≤ i := (List.mem_range'_1.mp hi).1
          unfold ind
          have ne : i ≠ a := by omega
          simp [ne]), ih]
        simp only [List.map_cons, List.sum_cons, Nat.sub_self]
        have i1 : ind (a :: r) a = 1 := by simp [ind]
        rw [i1]
        rw [sum_congr r (fun x => (k :: ks).getD (x - a) 0) (fun x => ks.getD (x - (a + 1)) 0) (fun x hx => by
          have := (hr x hx).1
          have e : x - a = (x - (a + 1)) + 1 := by omega
          rw [e, List.getD_cons_succ])]
        simp
      · have hr : ∀ x ∈ a :: r, lo + 1 ≤ x ∧ x < lo + 1 + ks.length := fun x hx => by
          have h2 := (hb x hx)
          have h3 : a ≤ x := by
            cases hx with
            | head => exact Nat.le_refl _
            | tail _ h => exact Nat.le_of_lt (hp.1 x h)
          simp at h2
          omega
        have ih := dot_ind ks (lo + 1) (a :: r) (List.pairwise_cons.mpr hp) hr
        rw [ih]
        have i0 : ind (a :: r) lo = 0 := by
          unfold ind
          rw [if_neg]
          intro h
          have := (hr lo h).1
          omega
        rw [i0, sum_congr (a :: r) (fun x => (k :: ks).getD (x - lo) 0) (fun x => ks.getD (x - (lo + 1)) 0) (fun x hx => by
          have := (hr x hx).1
          have e : x - lo = (x - (lo + 1)) + 1 := by omega
          rw [e, List.getD_cons_succ])]
        omega
theorem dot_ofs {s : Nat} {ks : List Int} (hk : Cnt s ks) {A B : List Nat} (hA : Up s A) (hB : Up s B) (hd : ∀ a ∈ A, a ∉ B) : dot (ofs s A B) ks = sumS ks A - sumS ks B := by
  rw [← of_more s A B hd]
  have e := dot_sub (List.range s) (ind A) (ind B) ks
  have f : ∀ A, Up s A → dot ((List.range s).map (ind A)) ks = sumS ks A := fun A hA => by
    have := dot_ind ks 0 A hA.1 (fun a ha => ⟨Nat.zero_le _, by rw [hk.1]; have := hA.2 a ha; omega⟩)
    rw [hk.1] at this
    rw [List.range_eq_range', this]
    simp [sumS]
  rw [f A hA, f B hB] at e
  exact e
def ft (ks : List Int) (f : Ft) : Bool := match f.w with
  | none => decide (0 ≤ f.n + dot f.o ks)
  | some b => ((f.n + dot f.o ks) % (b : Int)) == 0
theorem up_nil (s : Nat) : Up s [] := ⟨List.Pairwise.nil, fun _ h => by cases h⟩
theorem sum_nil (ks : List Int) : sumS ks [] = 0 := rfl
theorem any_cross (ks : List Int) : ∀ a b : List (List Ft), ((cross a b).any fun r => r.all (ft ks)) = ((a.any fun r => r.all (ft ks)) && (b.any fun r => r.all (ft ks)))
  | [], b => by simp [cross]
  | x :: a, b => by
    rw [cross_cons, List.any_append, any_cross ks a b, List.any_cons]
    have : ((b.map fun y => x ++ y).any fun r => r.all (ft ks)) = (x.all (ft ks) && (b.any fun r => r.all (ft ks))) := by
      induction b with
      | nil => simp
      | cons y b ih =>
        rw [List.map_cons, List.any_cons, ih, List.any_cons, List.all_append]
        cases x.all (ft ks) <;> simp
    rw [this]
    cases x.all (ft ks) <;> cases (a.any fun r => r.all (ft ks)) <;> simp
theorem rows_true {s : Nat} {ks : List Int} (hk : Cnt s ks) : ∀ (q : Qn) (t : Bool), q.Wf s → ((rows s q t).any fun r => r.all (ft ks)) = (tr ks q == t)
  | .least A m, t, w => by
    have d1 := dot_ofs hk w.1 (up_nil s) (by simp)
    have d2 := dot_ofs hk (up_nil s) w.1 (by simp)
    rw [sum_nil] at d1 d2
    cases t
    · simp only [rows, ff, List.any_cons, List.any_nil, List.all_cons, List.all_nil, Bool.and_true, Bool.or_false, ft, d2, tr]
      by_cases h : (m : Int) ≤ sumS ks A
      · rw [decide_eq_true h, decide_eq_false (by omega)]; rfl
      · rw [decide_eq_false h, decide_eq_true (by omega)]; rfl
    · simp only [rows, if_true, List.any_cons, List.any_nil, List.all_cons, List.all_nil, Bool.and_true, Bool.or_false, ft, d1, tr]
      by_cases h : (m : Int) ≤ sumS ks A
      · rw [decide_eq_true h, decide_eq_true (by omega)]; rfl
      · rw [decide_eq_false h, decide_eq_false (by omega)]; rfl
  | .more A B, t, w => by
    have d1 := dot_ofs hk w.1 w.2.1 w.2.2
    have d2 := dot_ofs hk w.2.1 w.1 (fun a ha hb => w.2.2 a hb ha)
    cases t
    · simp only [rows, ff, List.any_cons, List.any_nil, List.all_cons, List.all_nil, Bool.and_true, Bool.or_false, ft, d2, tr]
      by_cases h : sumS ks B < sumS ks A
      · rw [decide_eq_true h, decide_eq_false (by omega)]; rfl
      · rw [decide_eq_false h, decide_eq_true (by omega)]; rfl
    · simp only [rows, if_true, List.any_cons, List.any_nil, List.all_cons, List.all_nil, Bool.and_true, Bool.or_false, ft, d1, tr]
      by_cases h : sumS ks B < sumS ks A
      · rw [decide_eq_true h, decide_eq_true (by omega)]; rfl
      · rw [decide_eq_false h, decide_eq_false (by omega)]; rfl
  | .rest A b r, t, w => by
    have d1 := dot_ofs hk w.1 (up_nil s) (by simp)
    rw [sum_nil] at d1
    have hb : 2 ≤ b := w.2.2.1
    have hr : r < b := w.2.2.2.2
    rw [Bool.eq_iff_iff]
    simp only [rows, List.any_map, List.any_eq_true, List.mem_filter, List.mem_range, Function.comp, List.all_cons, List.all_nil, Bool.and_true, ft, d1, tr, beq_iff_eq]
    have m0 := Int.emod_nonneg (sumS ks A) (b := (b : Int)) (by omega)
    have m1 := Int.emod_lt_of_pos (sumS ks A) (b := (b : Int)) (by omega)
    have key : ∀ k : Nat, k < b → ((-(k : Int) + (sumS ks A - 0)) % (b : Int) = 0 ↔ sumS ks A % (b : Int) = k) := fun k hkb => by
      rw [Int.sub_zero, show -(k : Int) + sumS ks A = sumS ks A - k by omega]
      rw [← Int.emod_eq_emod_iff_emod_sub_eq_zero]
      rw [Int.emod_eq_of_lt (a := (k : Int)) (by omega) (by omega)]
    constructor
    · rintro ⟨k, ⟨h1, h2⟩, h3⟩
      rw [key k h1] at h3
      rw [h3, beq_len]
      exact h2
    · intro h
      obtain ⟨k, hkk⟩ := Int.eq_ofNat_of_zero_le m0
      have hlt : k < b := by omega
      refine ⟨k, ⟨hlt, ?_⟩, (key k hlt).mpr hkk⟩
      rw [hkk, beq_len] at h
      exact h
  | .neg q, t, w => by
    have := rows_true hk q (!t) w
    simp only [rows, this, tr]
    cases tr ks q <;> cases t <;> rfl
  | .both q p, t, w => by
    have h1 := rows_true hk q t w.1
    have h2 := rows_true hk p t w.2
    cases t
    · simp only [rows, ff, List.any_append, h1, h2, tr]
      cases tr ks q <;> cases tr ks p <;> rfl
    · simp only [rows, if_true, any_cross, h1, h2, tr]
      cases tr ks q <;> cases tr ks p <;> rfl
  | .either q p, t, w => by
    have h1 := rows_true hk q t w.1
    have h2 := rows_true hk p t w.2
    cases t
    · simp only [rows, ff, any_cross, h1, h2, tr]
      cases tr ks q <;> cases tr ks p <;> rfl
    · simp only [rows, if_true, List.any_append, h1, h2, tr]
      cases tr ks q <;> cases tr ks p <;> rfl
end K65
set_option Elab.async false
set_option linter.all false
set_option maxRecDepth 100000
namespace K65
open PySem PySem.Spec PyProof.Rows L2 L3 L4
structure Good (s : Nat) (f : Ft) : Prop where
  n : -9 ≤ f.n ∧ f.n ≤ 9
  l : f.o.length = s
  o : ∀ x ∈ f.o, -1 ≤ x ∧ x ≤ 1
  w : ∀ b, f.w = some b → 2 ≤ b ∧ b ≤ 9
theorem ofs_ok (s : Nat) (A B : List Nat) : (ofs s A B).length = s ∧ ∀ x ∈ ofs s A B, -1 ≤ x ∧ x ≤ 1 := by
  refine ⟨by simp [ofs], fun x hx => ?_⟩
  unfold ofs at hx
  obtain ⟨i, _, rfl⟩ := List.mem_map.mp hx
  split
  · decide
  · split <;> decide
theorem good_mk {s : Nat} {w : Option Nat} {n : Int} {A B : List Nat} (h : -9 ≤ n ∧ n ≤ 9) (hw : ∀ b, w = some b → 2 ≤ b ∧ b ≤ 9) : Good s ⟨w, n, ofs s A B⟩ := ⟨h, (ofs_ok s A B).1, (ofs_ok s A B).2, hw⟩
theorem rows_good (s : Nat) : ∀ (q : Qn) (t : Bool), q.Wf s → ∀ r ∈ rows s q t, ∀ f ∈ r, Good s f
  | .least A m, t, w, r, hr, f, hf => by
    have h1 := w.2.2.1
    have h2 := w.2.2.2
    cases t <;> simp only [rows, ff, if_true, List.mem_cons, List.not_mem_nil, or_false] at hr <;> subst hr <;> simp only [List.mem_cons, List.not_mem_nil, or_false] at hf <;> subst hf <;> exact good_mk ⟨by omega, by omega⟩ (fun b h => nomatch h)
  | .more A B, t, w, r, hr, f, hf => by
    cases t <;> simp only [rows, ff, if_true, List.mem_cons, List.not_mem_nil, or_false] at hr <;> subst hr <;> simp only [List.mem_cons, List.not_mem_nil, or_false] at hf <;> subst hf <;> exact good_mk ⟨by omega, by omega⟩ (fun b h => nomatch h)
  | .rest A b r0, t, w, r, hr, f, hf => by
    have h1 := w.2.2.1
    have h2 := w.2.2.2.1
    simp only [rows, List.mem_map, List.mem_filter, List.mem_range] at hr
    obtain ⟨k, ⟨hk, _⟩, rfl⟩ := hr
    simp only [List.mem_cons, List.not_mem_nil, or_false] at hf
    subst hf
    exact good_mk ⟨by omega, by omega⟩ (fun b' h => by cases h; omega)
  | .neg q, t, w, r, hr, f, hf => rows_good s q (!t) w r hr f hf
  | .both q p, t, w, r, hr, f, hf => by
    have h1 := rows_good s q t w.1
    have h2 := rows_good s p t w.2
    cases t
    · simp only [rows, ff, List.mem_append] at hr
      exact hr.elim (fun h => h1 r h f hf) (fun h => h2 r h f hf)
    · simp only [rows, if_true] at hr
      exact cross_good h1 h2 r hr f hf
  | .either q p, t, w, r, hr, f, hf => by
    have h1 := rows_good s q t w.1
    have h2 := rows_good s p t w.2
    cases t
    · simp only [rows, ff] at hr
      exact cross_good h1 h2 r hr f hf
    · simp only [rows, if_true, List.mem_append] at hr
      exact hr.elim (fun h => h1 r h f hf) (fun h => h2 r h f hf)
where
  cross_good {a b : List (List Ft)} (h1 : ∀ r ∈ a, ∀ f ∈ r, Good s f) (h2 : ∀ r ∈ b, ∀ f ∈ r, Good s f) : ∀ r ∈ cross a b, ∀ f ∈ r, Good s f := fun r hr f hf => by
    unfold cross at hr
    obtain ⟨x, hx, hr⟩ := List.mem_flatMap.mp hr
    obtain ⟨y, hy, rfl⟩ := List.mem_map.mp hr
    exact (List.mem_append.mp hf).elim (fun h => h1 x hx f h) (fun h => h2 y hy f h)
theorem dot_zero : ∀ (R : Nat) (cs : List Int), dot (List.replicate R 0) cs = 0
  | 0, cs => nil_dot cs
  | R + 1, [] => dot_nil _
  | R + 1, c :: cs => by rw [List.replicate_succ, dot_cons, dot_zero R cs]; omega
theorem factHolds_ok {s R : Nat} {ks : List Int} {f : Ft} (hg : Good s f) (hk : Cnt s ks) : c_fact_holds (f.d R) (tupI (List.replicate R 1)) (tupI ks) = .ret (.bool (ft ks f)) := by
  have v := value_ok f.n (List.replicate R 0) f.o (List.replicate R 1) ks (fun c hc => by have := (List.mem_replicate.mp hc).2; omega) (fun c hc => by have := hk.2 c hc; omega)
  rw [dot_zero] at v
  rw [Int.add_zero] at v
  unfold c_fact_holds Ft.d ft
  cases hw : f.w with
  | none => simp only [ixT0, ixT1, oMS, bdR, v, eq_ll, if_true, geI]
  | some b =>
    have := hg.w b hw
    simp only [ixT0, ixT1, ixT2, oMS, bdR, v, eq_rl, eq_rs, ff, modI _ (b : Int) (by omega), eqI]
theorem isFact_ok {R s : Nat} {f : Ft} (hg : Good s f) (hR : R ≤ 9) (hs : s ≤ 9) : c_is_fact (.int R) (.int s) (f.d R) = .ret (.bool true) := by
  have t1 : ∀ ds, isT "tuple" (.tuple ds) = true := fun _ => id rfl
  have i1 : opIn (.str "least") (.tuple [(.str "least"), (.str "same")]) = some true := by decide +kernel
  have i2 : opIn (.str "rest") (.tuple [(.str "least"), (.str "same")]) = some false := by decide +kernel
  have bn : c_is_bounded (.int f.n) = .ret (.bool true) := bounded_ok ⟨_, rfl, by have := hg.n; omega, by have := hg.n; omega⟩
  have b1 : c_are_bounded (.int R) (tupI (List.replicate R 0)) = .ret (.bool true) := are_ok (by simp) (by omega) fun x hx => by
    obtain ⟨i, hi, rfl⟩ := List.mem_map.mp hx
    have := (List.mem_replicate.mp hi).2
    subst this
    exact ⟨0, rfl, by decide, by decide⟩
  have b2 : c_are_bounded (.int s) (tupI f.o) = .ret (.bool true) := are_ok (by simp [hg.l]) (by omega) fun x hx => by
    obtain ⟨i, hi, rfl⟩ := List.mem_map.mp hx
    have := hg.o i hi
    exact ⟨i, rfl, by omega, by omega⟩
  unfold c_is_fact c_is_form c_is_tuple_of Ft.d
  cases hw : f.w with
  | none =>
    simp only [t1, Bool.not_true, ff, lenT, oMS, bdR, List.length_cons, List.length_nil, ltI, ixT0, ixT1, ixT2, eqI, tru_b]
    simp only [bn, bdR, tru_b, oMS, b1, b2, asB_b, i1, if_true]
    rfl
  | some b =>
    have hb := hg.w b hw
    simp only [t1, Bool.not_true, ff, lenT, oMS, bdR, List.length_cons, List.length_nil, ltI, ixT0, ixT1, ixT2, eqI, tru_b]
    simp only [bn, bdR, tru_b, oMS, b1, b2, asB_b, i2, ff, w_rest_rest, if_true, whole_ok]
    have e1 : decide ((2 : Int) ≤ (b : Int)) = true := decide_eq_true (by omega)
    have e2 : decide ((b : Int) ≤ 99) = true := decide_eq_true (by omega)
    rw [e1, e2]
    rfl
theorem comp_of {α : Type} {step : D → M (Option D)} {h g : α → D} : ∀ l : List α, (∀ a ∈ l, step (h a) = .ret (some (g a))) → compC step (l.map h) = .ret (l.map g)
  | [], _ => rfl
  | a :: l, hh => by
    rw [List.map_cons, compC, hh a (by simp), comp_of l fun x hx => hh x (by simp [hx])]
    rfl
theorem bools_lay {α : Type} (p : α → Bool) (b : Bool) (l : List α) : inOk (.bool b) (l.map fun a => PyData.bool (p a)) = true := by
  have h1 : PyData.canLayAll0 (l.map fun a => PyData.bool (p a)) = true := lay_all fun d hd => by
    obtain ⟨x, _, rfl⟩ := List.mem_map.mp hd
    simp [PyData.canLay0]
  unfold inOk
  simp [h1, PyData.canLay0, PyData.depth]
theorem bools_any {α : Type} (p : α → Bool) (b : Bool) : ∀ l : List α, ((l.map fun a => PyData.bool (p a)).any fun y => PyData.eqv y (.bool b)) = l.any fun a => p a == b
  | [] => rfl
  | a :: l => by
    rw [List.map_cons, List.any_cons, bools_any p b l, List.any_cons]
    simp only [PyData.eqv]
theorem inB {α : Type} (p : α → Bool) (b : Bool) (l : List α) : opIn (.bool b) (.list (l.map fun a => PyData.bool (p a))) = some (l.any fun a => p a == b) := by
  show (if inOk _ _ then some _ else none) = _
  rw [if_pos (bools_lay p b l), bools_any]
theorem notInB {α : Type} (p : α → Bool) (b : Bool) (l : List α) : opNotIn (.bool b) (.list (l.map fun a => PyData.bool (p a))) = some (!l.any fun a => p a == b) := by
  show (if inOk _ _ then some _ else none) = _
  rw [if_pos (bools_lay p b l), bools_any]
theorem any_not {α : Type} (p : α → Bool) : ∀ l : List α, (!l.any fun a => p a == false) = l.all p
  | [] => rfl
  | a :: l => by
    rw [List.any_cons, List.all_cons, ← any_not p l]
    cases p a <;> simp
theorem mul1 (k : Nat) (h : k ≤ 1000) : opMulT (.tuple [.int 1]) (.int k) = some (tupI (List.replicate k 1)) := by
  rw [mulT_ok _ _ _ (by omega) (by omega) (by simp; exact Nat.le_trans h (by decide))]
  have : ∀ k : Nat, (List.replicate k [PyData.int 1]).flatten = iL (List.replicate k 1) := fun k => by
    induction k with
    | zero => rfl
    | succ k ih => rw [List.replicate_succ, List.flatten_cons, ih]; rfl
  rw [Int.toNat_natCast, this]
theorem rowsTrue_ok {s R : Nat} {ks : List Int} (hk : Cnt s ks) (hs : s ≤ 9) (hR : R ≤ 9) (q : Qn) (t : Bool) (w : q.Wf s) (hd : q.deep ≤ 2) (hl : (rows s q t).length ≤ 300) :
    c__law_rows_true (sz R s) q.d (.list (rowsD R (rows s q t))) (.bool t) (tupI ks) = .ret (.bool true) := by
  unfold c__law_rows_true
  have hg := rows_good s q t w
  have hm := (rows_few s q t w).2
  have hp : 2 ^ q.deep ≤ 2 ^ 2 := Nat.pow_le_pow_right (by decide) hd
  simp only [ixT0, oMS, bdR, mul1 R (by omega), seqL]
  rw [comp_of (h := rowD R) (g := fun r => PyData.bool (r.all (ft ks))) (rows s q t) fun r hr => by
    simp only [seqT, oMS, bdR]
    rw [comp_of (h := Ft.d R) (g := fun f => PyData.bool (ft ks f)) r fun f hf => by rw [factHolds_ok (hg r hr f hf) hk]; rfl]
    simp only [bdR]
    rw [fitM_ok (by have := hm r hr; simp; omega)]
    simp only [bdR, notInB, any_not, oMS]]
  simp only [bdR]
  rw [fitM_ok (by simp; omega)]
  simp only [bdR, inB, oMS, truth_ok hk (by omega) 4 q w (by omega), eqB]
  have := rows_true hk q t w
  have e : ((rows s q t).any fun a => (a.all (ft ks)) == true) = ((rows s q t).any fun r => r.all (ft ks)) := by
    congr 1
    funext r
    simp
  rw [e, this]
  simp
end K65
set_option Elab.async false
set_option linter.all false
set_option maxRecDepth 100000
namespace K65
open PySem PySem.Spec PyProof.Rows L2 L3 L4
theorem sorts_loop (s : Nat) : ∀ (A : List Nat) (a : Int), A.Pairwise (· < ·) → (∀ x ∈ A, a < (x : Int) ∧ x < s) →
    forC (fun s9 d10 kn => c_are_sorts_s1 s9.1 s9.2.1 d10 kn) (iL (nL A)) (.int (s : Int), .int a, ()) (fun s9 => c_are_sorts_r2 s9.1 s9.2.1) = .ret (.bool true)
  | [], a, _, _ => rfl
  | x :: A, a, hp, hb => by
    rw [List.pairwise_cons] at hp
    have hx := hb x (by simp)
    rw [show iL (nL (x :: A)) = .int x :: iL (nL A) from id rfl, forC_cons]
    have st : ∀ kn : D × D × Unit → M D, c_are_sorts_s1 (.int (s : Int)) (.int a) (.int (x : Int)) kn = kn (.int (s : Int), .int (x : Int), ()) := fun kn => by
      unfold c_are_sorts_s1
      simp only [addI, subI, oMS, bdR, whole_ok, tru_b]
      rw [decide_eq_true (show a + 1 ≤ (x : Int) by omega), decide_eq_true (show (x : Int) ≤ (s : Int) - 1 by omega)]
      rfl
    dsimp only
    rw [st]
    exact sorts_loop s A x hp.2 fun y hy => ⟨by have := hp.1 y hy; omega, (hb y (by simp [hy])).2⟩
theorem sorts_ok {s : Nat} {A : List Nat} (h : Up s A) : c_are_sorts (.int (s : Int)) (tupN A) = .ret (.bool true) := by
  unfold c_are_sorts
  have t1 : ∀ ds, isT "tuple" (.tuple ds) = true := fun _ => id rfl
  simp only [t1, Bool.not_true, ff, negI, oMS, bdR, seqT]
  rw [forS_is]
  exact sorts_loop s A (-1) h.1 fun x hx => ⟨by omega, h.2 x hx⟩
theorem some_ok {s : Nat} {A : List Nat} (h : Up s A) (hn : A ≠ []) : c_are_some (.int (s : Int)) (tupN A) = .ret (.bool true) := by
  unfold c_are_some
  have hl : 0 < A.length := List.length_pos_iff.mpr hn
  simp only [sorts_ok h, bdR, asB_b, if_true, lenT, oMS, gtI]
  rw [decide_eq_true (by simp; omega)]
theorem apart_ok {s : Nat} {A B : List Nat} (hs : s ≤ 1000) (hA : Up s A) (hB : Up s B) (hd : ∀ a ∈ A, a ∉ B) : c_are_apart (.int (s : Int)) (tupN A) (tupN B) = .ret (.bool true) := by
  unfold c_are_apart
  have hl := up_len hB
  simp only [sorts_ok hA, sorts_ok hB, bdR, tru_b, oMS, Bool.not_true, ff, seqT]
  rw [comp_nat (g := fun b => PyData.bool (decide (b ∈ A))) fun b => by simp only [inN, oMS, bdR]]
  simp only [bdR]
  rw [fitM_ok (by simp; omega)]
  have e : (B.map fun b => PyData.bool (decide (b ∈ A))) = (B.map fun b => PyData.bool (decide (b ∈ A))).map fun d => PyData.bool (match d with | .bool b => b | _ => false) := by
    rw [List.map_map]; rfl
  have f : fAny [.list (B.map fun b => PyData.bool (decide (b ∈ A)))] = some false := by
    rw [e, any_map, List.any_map]
    congr 1
    rw [Bool.eq_false_iff]
    intro h
    obtain ⟨b, hb, h2⟩ := List.any_eq_true.mp h
    simp only [Function.comp, decide_eq_true_eq] at h2
    exact hd b h2 hb
  simp only [bdR, f, oMS, Bool.not_false]
def cntQ : Qn → Nat
  | .neg q => 1 + cntQ q
  | .both q p => 1 + (cntQ q + cntQ p)
  | .either q p => 1 + (cntQ q + cntQ p)
  | _ => 1
theorem cnt_le : ∀ q : Qn, 1 ≤ cntQ q ∧ cntQ q + 1 ≤ 2 ^ (q.deep + 1)
  | .least _ _ => by simp [cntQ, Qn.deep]
  | .more _ _ => by simp [cntQ, Qn.deep]
  | .rest _ _ _ => by simp [cntQ, Qn.deep]
  | .neg q => by
    have := cnt_le q
    simp only [cntQ, Qn.deep]
    rw [Nat.pow_succ]
    omega
  | .both q p => by
    have h1 := cnt_le q
    have h2 := cnt_le p
    simp only [cntQ, Qn.deep]
    have m1 : 2 ^ (q.deep + 1) ≤ 2 ^ (max q.deep p.deep + 1) := Nat.pow_le_pow_right (by decide) (by omega)
    have m2 : 2 ^ (p.deep + 1) ≤ 2 ^ (max q.deep p.deep + 1) := Nat.pow_le_pow_right (by decide) (by omega)
    rw [Nat.pow_succ 2 (max q.deep p.deep + 1)]
    omega
  | .either q p => by
    have h1 := cnt_le q
    have h2 := cnt_le p
    simp only [cntQ, Qn.deep]
    have m1 : 2 ^ (q.deep + 1) ≤ 2 ^ (max q.deep p.deep + 1) := Nat.pow_le_pow_right (by decide) (by omega)
    have m2 : 2 ^ (p.deep + 1) ≤ 2 ^ (max q.deep p.deep + 1) := Nat.pow_le_pow_right (by decide) (by omega)
    rw [Nat.pow_succ 2 (max q.deep p.deep + 1)]
    omega
theorem inNL (k : Nat) (A : List Nat) : opIn (.int k) (.list (iL (nL A))) = some (decide (k ∈ A)) := inN k A
theorem sumN (A : List Nat) (h : ∀ a ∈ A, a ≤ 1000) (hl : A.length ≤ 10) : fSum [.list (iL (nL A))] = some (.int ((nL A).sum)) := by
  show (match intsOf (iL (nL A)) with | some ns => if sumOk ns then some (PyData.int ns.sum) else none | none => none) = _
  rw [intsOf_iL]
  dsimp only
  rw [if_pos]
  unfold sumOk
  simp only [Bool.and_eq_true, List.all_eq_true, decide_eq_true_eq, List.length_map]
  refine ⟨fun i hi => ?_, by omega⟩
  obtain ⟨a, ha, rfl⟩ := List.mem_map.mp hi
  have := h a ha
  omega
theorem parts2 {a b : D} {w : String} (h : opIn (.str w) (.tuple [(.str "both"), (.str "either")]) = some true) : c_parts_of (.str w) = .ret (.int 2) := by
  unfold c_parts_of
  simp only [h, oMS, bdR, if_true]
theorem comp1 {step : D → M (Option D)} {a a' : D} (h : step a = .ret (some a')) : compC step [a] = .ret [a'] := by
  rw [compC, h]
  rfl
theorem pw4 (n : Nat) (h : n ≤ 3) : opEq (.int (n : Int)) (.int 4) = some false := by
  rw [eqI]
  congr 1
  rw [beq_eq_false_iff_ne]
  omega
theorem deep_cnt {q : Qn} (h : q.deep ≤ 3) : cntQ q ≤ 1000 := by
  have h1 := (cnt_le q).2
  have : 2 ^ (q.deep + 1) ≤ 2 ^ 4 := Nat.pow_le_pow_right (by decide) (by omega)
  omega
theorem two_in {s n wi : Nat} {q p : Qn} (w : String) (hw : opIn (.str w) (.tuple [(.str "both"), (.str "either")]) = some true)
    (e1 : c_questions_in n (.int (s : Int)) q.d (.int ((wi + 1 : Nat) : Int)) = .ret (.int (cntQ q))) (e2 : c_questions_in n (.int (s : Int)) p.d (.int ((wi + 1 : Nat) : Int)) = .ret (.int (cntQ p)))
    (hwi : wi ≤ 3) (h1 : q.deep ≤ 3) (h2 : p.deep ≤ 3) : c_questions_in_b (c_questions_in n) (.int (s : Int)) (.tuple [.str w, q.d, p.d]) (.int (wi : Int)) = .ret (.int ((1 + (cntQ q + cntQ p) : Nat) : Int)) := by
  unfold c_questions_in_b c_parts_of
  have t1 : ∀ ds, isT "tuple" (.tuple ds) = true := fun _ => id rfl
  have a1 : ((wi : Int) + 1) = ((wi + 1 : Nat) : Int) := by omega
  have z1 : ((3 : Int) == 0) = false := by decide
  have z2 : ((2 : Int) == 0) = false := by decide
  have l3 : ((([PyData.str w, q.d, p.d] : List D).length : Nat) : Int) = 3 := rfl
  simp only [pw4 wi hwi, oMS, bdR, ff, t1, Bool.not_true, lenT, l3, eqI, z1, ixT0, hw, if_true, z2, addI, neI]
  rw [show (((3 : Int) == 2 + 1)) = true by decide, Bool.not_true, ff]
  simp only [asI_i, bdR, cut1, oMS, seqT]
  rw [comp2 (a' := .int (cntQ q)) (b' := .int (cntQ p)) (by simp only [addI, oMS, bdR, a1]; rw [e1]; rfl) (by simp only [addI, oMS, bdR, a1]; rw [e2]; rfl)]
  simp only [bdR]
  rw [fitM_ok (by simp)]
  simp only [bdR]
  have il : ([PyData.int (cntQ q), PyData.int (cntQ p)] : List D) = iL (nL [cntQ q, cntQ p]) := rfl
  have c1 := (cnt_le q).1
  have c2 := (cnt_le p).1
  have in0 := inNL 0 [cntQ q, cntQ p]
  rw [il]
  rw [show ((0 : Nat) : Int) = 0 from rfl] at in0
  rw [in0, decide_eq_false (by simp; omega)]
  have d1 := deep_cnt h1
  have d2 := deep_cnt h2
  simp only [oMS, bdR, ff]
  rw [sumN _ (by simp; omega) (by simp)]
  simp only [oMS, bdR, addI, List.map_cons, List.map_nil, List.sum_cons, List.sum_nil]
  congr 2
theorem questionsIn_ok {s : Nat} (hs : s ≤ 1000) : ∀ (n : Nat) (q : Qn) (wi : Nat), q.Wf s → q.deep < n → wi + q.deep ≤ 3 → c_questions_in n (.int (s : Int)) q.d (.int (wi : Int)) = .ret (.int (cntQ q))
  | 0, _, _, _, h, _ => absurd h (Nat.not_lt_zero _)
  | n + 1, .least A m, wi, w, _, hw => by
    show c_questions_in_b (c_questions_in n) _ _ _ = _
    unfold c_questions_in_b c_parts_of c_is_plain
    have t1 : ∀ ds, isT "tuple" (.tuple ds) = true := fun _ => id rfl
    have z1 : ((3 : Int) == 0) = false := by decide
    have l3 : ((([PyData.str "least", tupN A, .int m] : List D).length : Nat) : Int) = 3 := rfl
    have m1 : decide ((1 : Int) ≤ (m : Int)) = true := decide_eq_true (by have := w.2.2.1; omega)
    have m2 : decide ((m : Int) ≤ 9) = true := decide_eq_true (by have := w.2.2.2; omega)
    simp only [Qn.d, pw4 wi (by omega), oMS, bdR, ff, t1, Bool.not_true, lenT, l3, eqI, z1, ixT0, ixT1, ixT2, i_least, w_least_not, beq_self_eq_true, if_true, w_least_least, some_ok w.1 w.2.1, asB_b, whole_ok, m1, m2, Bool.and_self, tru_b]
    rfl
  | n + 1, .more A B, wi, w, _, hw => by
    show c_questions_in_b (c_questions_in n) _ _ _ = _
    unfold c_questions_in_b c_parts_of c_is_plain
    have t1 : ∀ ds, isT "tuple" (.tuple ds) = true := fun _ => id rfl
    have z1 : ((3 : Int) == 0) = false := by decide
    have l3 : ((([PyData.str "more", tupN A, tupN B] : List D).length : Nat) : Int) = 3 := rfl
    simp only [Qn.d, pw4 wi (by omega), oMS, bdR, ff, t1, Bool.not_true, lenT, l3, eqI, z1, ixT0, ixT1, ixT2, i_more, w_more_not, beq_self_eq_true, if_true, w_more_least, w_more_more, apart_ok hs w.1 w.2.1 w.2.2, asB_b, tru_b]
    rfl
  | n + 1, .rest A b r, wi, w, _, hw => by
    show c_questions_in_b (c_questions_in n) _ _ _ = _
    unfold c_questions_in_b c_parts_of c_is_plain c_is_rest
    have t1 : ∀ ds, isT "tuple" (.tuple ds) = true := fun _ => id rfl
    have z1 : ((4 : Int) == 0) = false := by decide
    have l3 : ((([PyData.str "rest", tupN A, .int b, .int r] : List D).length : Nat) : Int) = 4 := rfl
    have m1 : decide ((2 : Int) ≤ (b : Int)) = true := decide_eq_true (by have := w.2.2.1; omega)
    have m2 : decide ((b : Int) ≤ 9) = true := decide_eq_true (by have := w.2.2.2.1; omega)
    have m3 : decide ((0 : Int) ≤ (r : Int)) = true := decide_eq_true (by omega)
    have m4 : decide ((r : Int) ≤ (b : Int) - 1) = true := decide_eq_true (by have := w.2.2.2.2; omega)
    simp only [Qn.d, pw4 wi (by omega), oMS, bdR, ff, t1, Bool.not_true, lenT, l3, eqI, z1, ixT0, ixT1, ixT2, ixT3, i_rest, w_rest_not, beq_self_eq_true, if_true, w_rest_least, w_rest_more, w_rest_rest, some_ok w.1 w.2.1, asB_b, whole_ok, subI, m1, m2, m3, m4, Bool.and_self, tru_b]
    rfl
  | n + 1, .neg q, wi, w, hd, hw => by
    show c_questions_in_b (c_questions_in n) _ _ _ = _
    simp only [Qn.deep] at hd hw
    have e1 := questionsIn_ok hs n q (wi + 1) w (by omega) (by omega)
    unfold c_questions_in_b c_parts_of
    have t1 : ∀ ds, isT "tuple" (.tuple ds) = true := fun _ => id rfl
    have a1 : ((wi : Int) + 1) = ((wi + 1 : Nat) : Int) := by omega
    have z1 : ((2 : Int) == 0) = false := by decide
    have z2 : ((1 : Int) == 0) = false := by decide
    have l3 : ((([PyData.str "not", q.d] : List D).length : Nat) : Int) = 2 := rfl
    simp only [Qn.d, pw4 wi (by omega), oMS, bdR, ff, t1, Bool.not_true, lenT, l3, eqI, z1, ixT0, i_not, w_not_not, if_true, z2, addI, neI]
    rw [show (((2 : Int) == 1 + 1)) = true by decide, Bool.not_true, ff]
    simp only [asI_i, bdR, cut1, oMS, seqT]
    rw [comp1 (a' := .int (cntQ q)) (by simp only [addI, oMS, bdR, a1]; rw [e1]; rfl)]
    simp only [bdR]
    rw [fitM_ok (by simp)]
    simp only [bdR]
    have il : ([PyData.int (cntQ q)] : List D) = iL (nL [cntQ q]) := rfl
    have c1 := (cnt_le q).1
    have in0 := inNL 0 [cntQ q]
    rw [il]
    rw [show ((0 : Nat) : Int) = 0 from rfl] at in0
    rw [in0, decide_eq_false (by simp; omega)]
    have d1 := deep_cnt (q := q) (by omega)
    simp only [oMS, bdR, ff]
    rw [sumN _ (by simp; omega) (by simp)]
    simp only [oMS, bdR, addI, List.map_cons, List.map_nil, List.sum_cons, List.sum_nil, cntQ]
    congr 2
  | n + 1, .both q p, wi, w, hd, hw => by
    show c_questions_in_b (c_questions_in n) _ _ _ = _
    simp only [Qn.deep] at hd hw
    exact two_in "both" i_both (questionsIn_ok hs n q (wi + 1) w.1 (by omega) (by omega)) (questionsIn_ok hs n p (wi + 1) w.2 (by omega) (by omega)) (by omega) (by omega) (by omega)
  | n + 1, .either q p, wi, w, hd, hw => by
    show c_questions_in_b (c_questions_in n) _ _ _ = _
    simp only [Qn.deep] at hd hw
    exact two_in "either" i_either (questionsIn_ok hs n q (wi + 1) w.1 (by omega) (by omega)) (questionsIn_ok hs n p (wi + 1) w.2 (by omega) (by omega)) (by omega) (by omega) (by omega)
theorem question_ok {s : Nat} (hs : s ≤ 1000) {q : Qn} (w : q.Wf s) (hd : q.deep ≤ 2) : c_is_question (.int (s : Int)) q.d = .ret (.bool true) := by
  unfold c_is_question
  have e := questionsIn_ok hs 6 q 0 w (by omega) (by omega)
  rw [show ((0 : Nat) : Int) = 0 from rfl] at e
  have h := cnt_le q
  have : 2 ^ (q.deep + 1) ≤ 2 ^ 3 := Nat.pow_le_pow_right (by decide) (by omega)
  simp only [e, bdR, leI, oMS]
  rw [decide_eq_true (show (1 : Int) ≤ (cntQ q : Int) by omega), if_pos rfl, decide_eq_true (show (cntQ q : Int) ≤ 7 by omega)]
  rfl
end K65
set_option Elab.async false
set_option linter.all false
set_option maxRecDepth 100000
namespace K65
open PySem PySem.Spec PyProof.Rows L2 L3 L4
theorem compE_sub {T : Type} {step : T → D → M (Option D × T)} {P : Nat → T → Prop} : ∀ (ds : List D) (i : Nat) (s : T),
    (∀ (j : Nat) (s : T) (d : D), d ∈ ds → i ≤ j → j < i + ds.length → P j s → ∃ o s', step s d = .ret (o, s') ∧ P (j + 1) s' ∧ (o = some d ∨ o = none)) → P i s →
    ∃ xs s', compE step ds s = .ret (xs, s') ∧ P (i + ds.length) s' ∧ xs.Sublist ds
  | [], i, s, _, hp => ⟨[], s, rfl, hp, .slnil⟩
  | d :: r, i, s, h, hp => by
    obtain ⟨o, s1, e1, p1, r1⟩ := h i s d List.mem_cons_self (Nat.le_refl _) (by simp) hp
    obtain ⟨xs, s2, e2, p2, l2⟩ := compE_sub r (i + 1) s1 (fun j s d hd hj hl => h j s d (List.mem_cons_of_mem _ hd) (by omega) (by simp; omega)) p1
    have hi : i + (d :: r).length = i + 1 + r.length := by simp; omega
    rw [hi]
    rcases r1 with rfl | rfl
    · exact ⟨d :: xs, s2, by rw [compE, e1]; simp only [bdR]; rw [e2]; rfl, p2, l2.cons_cons _⟩
    · exact ⟨xs, s2, by rw [compE, e1]; simp only [bdR]; rw [e2]; rfl, p2, l2.cons _⟩
theorem sub_nat {xs : List D} {s : Nat} (h : xs.Sublist (rangeD 0 s)) : ∃ A : List Nat, xs = iL (nL A) ∧ A.Sublist (List.range s) := by
  unfold rangeD at h
  obtain ⟨A, h1, rfl⟩ := List.sublist_map_iff.mp h
  refine ⟨A, ?_, h1⟩
  show _ = List.map PyData.int (List.map (fun (n : Nat) => (n : Int)) A)
  rw [List.map_map]
  apply List.map_congr_left
  intro i _
  simp
theorem up_sub {A : List Nat} {s : Nat} (h : A.Sublist (List.range s)) : Up s A := ⟨List.Pairwise.sublist h List.pairwise_lt_range, fun a ha => List.mem_range.mp (h.subset ha)⟩
theorem ne_nil (l : List Int) : opNe (.list (iL l)) (.list []) = some (!l.isEmpty) := by
  unfold opNe
  rw [if_pos]
  · cases l <;> simp [PyData.eqv, PyData.eqvAll]
  · unfold eqOk
    have h1 : PyData.canLay0 (.list (iL l)) = true := by simp only [PyData.canLay0]; exact lay_ints l
    have h2 : PyData.depth (.list (iL l)) ≤ 2 := by
      have := deep_all (n := 1) (ds := iL l) fun d hd => by obtain ⟨i, _, rfl⟩ := List.mem_map.mp hd; simp [PyData.depth]
      simp only [PyData.depth]; omega
    have h3 : PyData.canLay0 (.list ([] : List D)) = true := by decide +kernel
    have h4 : PyData.depth (.list ([] : List D)) ≤ 2 := by decide +kernel
    rw [h1, h3, decide_eq_true (show PyData.depth (.list (iL l)) ≤ 1000 by omega)]
    rfl
theorem sorts_gen {T s : Nat} {f : List D} (h : Fd T f) (hT : T ≤ 100000) (h1 : 1 ≤ s) (h4 : s ≤ 5) :
    ∃ A f', c__law_sorts f (.int s) = .ret (tupN A, f') ∧ Fd (T + 6) f' ∧ Up s A ∧ A ≠ [] := by
  unfold c__law_sorts
  rw [range_ok s (by omega), oMS, bdR]
  obtain ⟨xs, s', c1, ⟨c2, c2'⟩, c3⟩ := compE_sub (step := fun (s2 : List D × D × Unit) d3 => bd (c__law_take s2.1 (.int 2)) fun r4 => bd (oM (opEq r4.1 (.int 0))) fun b5 => if b5 then .ret (some d3, (r4.2, s2.2.1, ())) else .ret (none, (r4.2, s2.2.1, ())))
    (P := fun j st => Fd (T + j) st.1 ∧ st.2.1 = .int s) (rangeD 0 s) 0 (f, .int s, ()) (by
      intro j st d hd h0 hj ⟨p1, p2⟩
      rw [rangeD_len] at hj
      obtain ⟨r, f', t1, t2, t3, t4⟩ := take_ok p1 (by omega) (m := 2) (by decide) (by decide)
      simp only [t1, bdR, L4.eqI, oMS]
      cases (r == 0)
      · exact ⟨none, _, rfl, ⟨t4, p2⟩, .inr rfl⟩
      · exact ⟨some d, _, rfl, ⟨t4, p2⟩, .inl rfl⟩) ⟨h, rfl⟩
  rw [rangeD_len] at c2
  rw [c1]
  obtain ⟨f1, z1, u⟩ := s'
  simp only at c2 c2'
  subst c2'
  have hlen := c3.length_le
  rw [rangeD_len] at hlen
  obtain ⟨A, rfl, hA⟩ := sub_nat c3
  simp only [bdR]
  rw [fitM_ok (by omega)]
  simp only [bdR, ne_nil, oMS]
  cases A with
  | nil =>
    simp only [List.map_nil, List.isEmpty_nil, Bool.not_true, ff]
    obtain ⟨r, f', t1, t2, t3, t4⟩ := take_ok c2 (by omega) (m := s) (by omega) (by omega)
    obtain ⟨k, rfl⟩ := Int.eq_ofNat_of_zero_le t2
    rw [t1, bdR]
    refine ⟨[k], f', rfl, t4.le (by omega), ⟨by simp, fun a ha => ?_⟩, by simp⟩
    simp at ha
    omega
  | cons a r =>
    simp only [List.map_cons, List.isEmpty_cons, Bool.not_false, if_true, tupL, oMS, bdR]
    exact ⟨a :: r, f1, rfl, c2.le (by omega), up_sub hA, by simp⟩
end K65
set_option Elab.async false
set_option linter.all false
set_option maxRecDepth 100000
namespace K65
open PySem PySem.Spec PyProof.Rows L2 L3 L4
theorem plain_gen {T s n : Nat} {f : List D} {deep : Int} {r : Int} (h : Fd T f) (hT : T ≤ 90000) (h1 : 1 ≤ s) (h4 : s ≤ 5) (hr : 0 ≤ r) (hr2 : r < 9) :
    ∃ (q : Qn) (f' : List D), (bd (bd (oM (opMod (.int r) (.int 3))) fun x11 => oM (opEq x11 (.int 0))) fun b12 => if b12 then
    bd (c__law_sorts f (.int s)) fun r13 => bd (c__law_take r13.2 (.int 5)) fun r14 => bd (oM (opIx (PyData.list [(.int 1), (.int 2), (.int 1), (.int 3), (.int 9)]) r14.1)) fun x15 => M.ret ((PyData.tuple [(.str "least"), r13.1, x15]), r14.2)
   else
    bd (bd (oM (opMod (.int r) (.int 3))) fun x16 => oM (opEq x16 (.int 1))) fun b17 => if b17 then
    bd (oM (fRange1 [.int s])) fun l18 => bd (compE (fun (s19 : List D × D × Unit) d20 => bd (c__law_take s19.1 (.int 3)) fun r21 => .ret (some r21.1, (r21.2, s19.2.1, ()))) l18 (f, .int s, ())) fun r22 => bd (fitM r22.1) fun l23 => bd (bd (bd (bd (oM (fRange1 [r22.2.2.1])) fun l27 => bd (compC (fun d24 => bd (bd (oM (opIx (PyData.list l23) d24)) fun x25 => oM (opEq x25 (.int 1))) fun b26 => if b26 then .ret (some d24) else .ret none) l27) fitM) fun l28 => .ret (PyData.list l28)) fun x29 => oM (fTuple [x29])) fun x30 => bd (bd (bd (bd (bd (oM (fRange1 [r22.2.2.1])) fun l34 => bd (compC (fun d31 => bd (bd (oM (opIx (PyData.list l23) d31)) fun x32 => oM (opEq x32 (.int 2))) fun b33 => if b33 then .ret (some d31) else .ret none) l34) fitM) fun l35 => .ret (PyData.list l35)) fun x36 => oM (fTuple [x36])) fun x37 => .ret (.tuple [(.str "more"), x30, x37])) fun x38 => .ret (x38, r22.2.1)
   else
    bd (c__law_take f (.int 4)) fun r39 => bd (oM (opIx (PyData.list [(.int 2), (.int 3), (.int 2), (.int 9)]) r39.1)) fun x40 => bd (c__law_sorts r39.2 (.int s)) fun r41 => bd (c__law_take r41.2 x40) fun r42 => .ret ((.tuple [(.str "rest"), r41.1, x40, r42.1]), r42.2)) = .ret (q.d, f') ∧ Fd (T + 14) f' ∧ q.Wf s ∧ q.deep = 0 := by
  rw [modI r 3 (by decide)]
  simp only [oMS, bdR, eqI]
  by_cases e0 : r % 3 = 0
  · rw [e0]
    simp only [beq_self_eq_true, if_true]
    obtain ⟨A, f1, a1, a2, a3, a4⟩ := sorts_gen h (by omega) h1 h4
    obtain ⟨k, f2, t1, t2, t3, t4⟩ := take_ok a2 (by omega) (m := 5) (by decide) (by decide)
    have : ∃ m : Nat, opIx (.list [(.int 1), (.int 2), (.int 1), (.int 3), (.int 9)]) (.int k) = some (.int (m : Int)) ∧ 1 ≤ m ∧ m ≤ 9 := by
      have hk : k = 0 ∨ k = 1 ∨ k = 2 ∨ k = 3 ∨ k = 4 := by omega
      rcases hk with rfl | rfl | rfl | rfl | rfl
      · exact ⟨1, rfl, by decide, by decide⟩
      · exact ⟨2, rfl, by decide, by decide⟩
      · exact ⟨1, rfl, by decide, by decide⟩
      · exact ⟨3, rfl, by decide, by decide⟩
      · exact ⟨9, rfl, by decide, by decide⟩
    obtain ⟨m, m1, m2, m3⟩ := this
    simp only [a1, bdR, t1, m1, oMS]
    exact ⟨.least A m, f2, rfl, t4.le (by omega), ⟨a3, a4, m2, m3⟩, rfl⟩
  · rw [show (r % 3 == 0) = false by rw [beq_eq_false_iff_ne]; exact e0, ff]
    by_cases e1 : r % 3 = 1
    · rw [e1]
      simp only [beq_self_eq_true, if_true, range_ok s (show s ≤ 1000 by omega), oMS, bdR]
      obtain ⟨xs, s', c1, ⟨c2, c2'⟩, c3, c4⟩ := compE_ok (step := fun (s19 : List D × D × Unit) d20 => bd (c__law_take s19.1 (.int 3)) fun r21 => .ret (some r21.1, (r21.2, s19.2.1, ())))
        (P := fun j st => Fd (T + j) st.1 ∧ st.2.1 = .int s) (R := fun x => ∃ i : Int, x = .int i ∧ True) (rangeD 0 s) 0 (f, .int s, ()) (by
          intro j st d hd h0 hj ⟨p1, p2⟩
          rw [rangeD_len] at hj
          obtain ⟨k, f', t1, t2, t3, t4⟩ := take_ok p1 (by omega) (m := 3) (by decide) (by decide)
          simp only [t1, bdR]
          exact ⟨_, _, rfl, ⟨t4, p2⟩, k, rfl, trivial⟩) ⟨h, rfl⟩
      rw [rangeD_len] at c2 c3
      rw [c1]
      obtain ⟨f1, z1, u⟩ := s'
      simp only at c2 c2'
      subst c2'
      obtain ⟨l, rfl, _⟩ := ints_of c4
      have ll : l.length = s := by simpa using c3
      simp only [bdR]
      rw [fitM_ok (by omega)]
      simp only [bdR, range_ok s (show s ≤ 1000 by omega), oMS]
      have cf : ∀ (c : Int) , compC (fun d24 => bd (bd (oM (opIx (PyData.list (iL l)) d24)) fun x25 => oM (opEq x25 (.int c))) fun b26 => if b26 then .ret (some d24) else .ret none) (rangeD 0 s) = .ret (iL (nL ((List.range s).filter fun k => l.getD k 0 == c))) := fun c => comp_filter (p := fun k => l.getD k 0 == c) s fun a ha => by
        simp only [ixIL l a (by omega), oMS, bdR, eqI, getD_at l a (by omega)]
      have lf : ∀ c : Int, ((List.range s).filter fun k => l.getD k 0 == c).length ≤ s := fun c => by
        have := List.length_filter_le (fun k => l.getD k 0 == c) (List.range s)
        rwa [List.length_range] at this
      have l1 := lf 1
      have l2 := lf 2
      rw [cf 1]
      simp only [bdR]
      rw [fitM_ok (by simp only [List.length_map]; omega)]
      rw [cf 2]
      simp only [bdR, tupL, oMS]
      rw [fitM_ok (by simp only [List.length_map]; omega)]
      simp only [bdR, tupL, oMS]
      refine ⟨.more ((List.range s).filter fun k => l.getD k 0 == 1) ((List.range s).filter fun k => l.getD k 0 == 2), f1, rfl, c2.le (by omega), ⟨up_sub List.filter_sublist, up_sub List.filter_sublist, fun a ha hb => ?_⟩, rfl⟩
      have h1 := (List.mem_filter.mp ha).2
      have h2 := (List.mem_filter.mp hb).2
      rw [beq_iff_eq] at h1 h2
      omega
    · rw [show (r % 3 == 1) = false by rw [beq_eq_false_iff_ne]; exact e1, ff]
      obtain ⟨k, f1, t1, t2, t3, t4⟩ := take_ok h (by omega) (m := 4) (by decide) (by decide)
      have : ∃ b : Nat, opIx (.list [(.int 2), (.int 3), (.int 2), (.int 9)]) (.int k) = some (.int (b : Int)) ∧ 2 ≤ b ∧ b ≤ 9 := by
        have hk : k = 0 ∨ k = 1 ∨ k = 2 ∨ k = 3 := by omega
        rcases hk with rfl | rfl | rfl | rfl
        · exact ⟨2, rfl, by decide, by decide⟩
        · exact ⟨3, rfl, by decide, by decide⟩
        · exact ⟨2, rfl, by decide, by decide⟩
        · exact ⟨9, rfl, by decide, by decide⟩
      obtain ⟨b, b1, b2, b3⟩ := this
      obtain ⟨A, f2, a1, a2, a3, a4⟩ := sorts_gen t4 (by omega) h1 h4
      obtain ⟨j, f3, u1, u2, u3, u4⟩ := take_ok a2 (by omega) (m := (b : Int)) (by omega) (by omega)
      obtain ⟨j', rfl⟩ := Int.eq_ofNat_of_zero_le u2
      simp only [t1, bdR, b1, oMS, a1, u1]
      exact ⟨.rest A b j', f3, rfl, u4.le (by omega), ⟨a3, a4, b2, b3, by omega⟩, rfl⟩
theorem question_gen {s : Nat} (h1 : 1 ≤ s) (h4 : s ≤ 5) : ∀ (n deep T : Nat) (f : List D), deep < n → Fd T f → T + 15 * 3 ^ deep ≤ 80000 →
    ∃ (q : Qn) (f' : List D), c__law_question n f (.int s) (.int (deep : Int)) = .ret (Qn.d q, f') ∧ Fd (T + 15 * 3 ^ deep) f' ∧ q.Wf s ∧ q.deep ≤ deep
  | 0, _, _, _, h, _, _ => absurd h (Nat.not_lt_zero _)
  | n + 1, 0, T, f, _, h, hT => by
    show ∃ (q : Qn) (f' : List D), c__law_question_b (c__law_question n) f (.int s) (.int ((0 : Nat) : Int)) = _ ∧ _
    unfold c__law_question_b
    obtain ⟨r, f1, t1, t2, t3, t4⟩ := take_ok h (by omega) (m := 9) (by decide) (by decide)
    have g0 : decide ((0 : Int) < ((0 : Nat) : Int)) = false := by decide
    simp only [t1, bdR, gtI, oMS, g0, ff]
    obtain ⟨q, f2, e, g, w, d⟩ := plain_gen (n := n) (deep := 0) t4 (by omega) h1 h4 t2 t3
    exact ⟨q, f2, e, g.le (by omega), w, by omega⟩
  | n + 1, d + 1, T, f, hd, h, hT => by
    show ∃ (q : Qn) (f' : List D), c__law_question_b (c__law_question n) f (.int s) (.int ((d + 1 : Nat) : Int)) = _ ∧ _
    rw [Nat.pow_succ] at hT
    have p3 : 1 ≤ 3 ^ d := Nat.one_le_pow _ _ (by decide)
    unfold c__law_question_b
    obtain ⟨r, f1, t1, t2, t3, t4⟩ := take_ok h (by omega) (m := 9) (by decide) (by decide)
    have g0 : decide ((0 : Int) < ((d + 1 : Nat) : Int)) = true := decide_eq_true (by omega)
    simp only [t1, bdR, gtI, oMS, g0, if_true]
    by_cases h5 : 4 < r
    · rw [decide_eq_true h5, if_pos rfl]
      have sb : ((d + 1 : Nat) : Int) - 1 = (d : Int) := by omega
      obtain ⟨q1, f2, e1, g1, w1, d1⟩ := question_gen h1 h4 n d (T + 1) f1 (by omega) t4 (by omega)
      simp only [subI, oMS, bdR, sb, e1, eqI]
      by_cases h6 : r = 5
      · subst h6
        simp only [beq_self_eq_true, if_true]
        exact ⟨.neg q1, f2, rfl, g1.le (by rw [Nat.pow_succ]; omega), w1, by simp only [Qn.deep]; omega⟩
      · rw [show (r == 5) = false by rw [beq_eq_false_iff_ne]; exact h6, ff]
        obtain ⟨q2, f3, e2, g2, w2, d2⟩ := question_gen h1 h4 n d _ f2 (by omega) g1 (by omega)
        simp only [modI r 2 (by decide), oMS, bdR]
        by_cases h7 : r % 2 = 0
        · have : opIx (.list [(.str "both"), (.str "either")]) (.int (r % 2)) = some (.str "both") := by rw [h7]; rfl
          simp only [this, oMS, bdR, e2]
          exact ⟨.both q1 q2, f3, rfl, g2.le (by rw [Nat.pow_succ]; omega), ⟨w1, w2⟩, by simp only [Qn.deep]; omega⟩
        · have h8 : r % 2 = 1 := by omega
          have : opIx (.list [(.str "both"), (.str "either")]) (.int (r % 2)) = some (.str "either") := by rw [h8]; rfl
          simp only [this, oMS, bdR, e2]
          exact ⟨.either q1 q2, f3, rfl, g2.le (by rw [Nat.pow_succ]; omega), ⟨w1, w2⟩, by simp only [Qn.deep]; omega⟩
    · rw [decide_eq_false h5, ff]
      obtain ⟨q, f2, e, g, w, dd⟩ := plain_gen (n := n) (deep := 0) t4 (by omega) h1 h4 t2 t3
      exact ⟨q, f2, e, g.le (by rw [Nat.pow_succ]; omega), w, by omega⟩
end K65
set_option Elab.async false
set_option linter.all false
set_option maxRecDepth 100000
namespace K65
open PySem PySem.Spec PyProof.Rows L2 L3 L4
theorem short_all : ∀ {ds : List D}, (∀ d ∈ ds, d.leavesShort 24 = true) → PyData.leavesShortAll 24 ds = true
  | [], _ => by simp [PyData.leavesShortAll]
  | d :: r, h => by
    simp only [PyData.leavesShortAll, Bool.and_eq_true]
    exact ⟨h d List.mem_cons_self, short_all fun e he => h e (List.mem_cons_of_mem _ he)⟩
theorem short_ok : ∀ {n : Nat} {d : D}, Ok 0 n d → d.leavesShort 24 = true
  | 0, _, h => h.elim
  | n + 1, .none, h => by simp [PyData.leavesShort]
  | n + 1, .bool _, h => by simp [PyData.leavesShort]
  | n + 1, .int i, h => by
    have h0 : Ok 0 1 (.int i) := h
    have := (h0.text (by decide)).1
    have l1 : lim 1 = 238 := rfl
    have h' : i.natAbs < 10 ^ 16 := h
    have h1 := int_text_length_le10 (a := i) (k := 16) (by decide) h'
    have h2 : (PyData.shown (.int i)).length = (toString i).length := by
      simp only [PyData.shown]
      show (Str.ofString (toString i)).cps.size = _
      rw [← Array.length_toList, signs_ofString, List.length_map, String.length_toList]
    simp only [PyData.leavesShort, decide_eq_true_eq]
    omega
  | n + 1, .str s, h => by
    have h' : wordOk s = true := h
    unfold wordOk at h'
    simp only [Bool.and_eq_true] at h'
    have := strOk_iff.mp h'.1.1
    simp only [PyData.leavesShort, List.all_eq_true, decide_eq_true_eq]
    intro c hc
    exact Nat.lt_trans (this c hc) (by decide)
  | n + 1, .list ds, h => by simp only [PyData.leavesShort]; exact short_all fun d hd => short_ok (h.2 d hd)
  | n + 1, .tuple ds, h => by simp only [PyData.leavesShort]; exact short_all fun d hd => short_ok (h.2 d hd)
  | n + 1, .dict _, h => h.elim
theorem bulk_ints : ∀ l : List Int, PyData.bulkAll (iL l) = l.length
  | [] => by simp [PyData.bulkAll]
  | i :: l => by simp only [List.map_cons, PyData.bulkAll, PyData.bulk, bulk_ints l, List.length_cons]; omega
theorem fact_small {R s : Nat} {f : Ft} (hg : Good s f) (hR : R ≤ 6) (hs : s ≤ 6) : Ok 0 4 (f.d R) ∧ (f.d R).bulk ≤ 30 := by
  have okf : Ok 0 3 (frm f.n (List.replicate R 0) f.o) := okFrm (by have := hg.n; omega) (by simp; omega) (by rw [hg.l]; omega) (fun i hi => by have := (List.mem_replicate.mp hi).2; subst this; decide) (fun i hi => by have := hg.o i hi; omega)
  have bf : (frm f.n (List.replicate R 0) f.o).bulk ≤ 16 := by
    simp only [PyData.bulk, PyData.bulkAll, bulk_ints, List.length_replicate, hg.l]; omega
  have z1 : (Str.ofString "least").cps.size = 5 := by decide +kernel
  have z2 : (Str.ofString "rest").cps.size = 4 := by decide +kernel
  have k1 : wordOk "least" = true := by decide +kernel
  have k2 : wordOk "rest" = true := by decide +kernel
  unfold Ft.d
  cases hw : f.w with
  | none =>
    refine ⟨⟨by simp, fun d hd => ?_⟩, ?_⟩
    · simp only [List.mem_cons, List.not_mem_nil, or_false] at hd
      rcases hd with rfl | rfl
      · exact k1
      · exact okf
    · show (Str.ofString "least").cps.size + 1 + (PyData.bulk (frm f.n (List.replicate R 0) f.o) + 1 + 0) ≤ 30
      omega
  | some b =>
    have := hg.w b hw
    refine ⟨⟨by simp, fun d hd => ?_⟩, ?_⟩
    · simp only [List.mem_cons, List.not_mem_nil, or_false] at hd
      rcases hd with rfl | rfl | rfl
      · exact k2
      · exact okf
      · exact okI (by omega)
    · show (Str.ofString "rest").cps.size + 1 + (PyData.bulk (frm f.n (List.replicate R 0) f.o) + 1 + (0 + 1 + 0)) ≤ 30
      omega
theorem row_small {R s : Nat} {r : List Ft} (hg : ∀ f ∈ r, Good s f) (hl : r.length ≤ 4) (hR : R ≤ 6) (hs : s ≤ 6) : Ok 0 5 (rowD R r) ∧ (rowD R r).shown.length ≤ 4000 := by
  have ok : Ok 0 5 (rowD R r) := ⟨by simp; omega, fun d hd => by obtain ⟨f, hf, rfl⟩ := List.mem_map.mp hd; exact (fact_small (hg f hf) hR hs).1⟩
  refine ⟨ok, ?_⟩
  have bk : ∀ l : List Ft, (∀ f ∈ l, Good s f) → PyData.bulkAll (l.map (Ft.d R)) ≤ 31 * l.length := fun l => by
    induction l with
    | nil => intro _; simp [PyData.bulkAll]
    | cons f l ih =>
      intro h
      have h1 := (fact_small (h f (by simp)) hR hs).2
      have h2 := ih fun g hg => h g (by simp [hg])
      simp only [List.map_cons, PyData.bulkAll, List.length_cons]
      omega
  have h1 := bk r hg
  have h2 := PyData.shown_le_bulk 24 (by decide) (rowD R r) (short_ok ok)
  have h3 : (rowD R r).bulk = PyData.bulkAll (r.map (Ft.d R)) := by simp only [PyData.bulk]
  rw [h3] at h2
  omega
theorem rows_repr {R s : Nat} {rs : List (List Ft)} (hl : rs.length ≤ 300) (hr : ∀ r ∈ rs, r.length ≤ 4) (hg : ∀ r ∈ rs, ∀ f ∈ r, Good s f) (hR : R ≤ 6) (hs : s ≤ 6) :
    fRepr [.list (rowsD R rs)] = some (.str (PyData.shown (.list (rowsD R rs)))) ∧ opNe (.str (PyData.shown (.list (rowsD R rs)))) (.str (PyData.shown (.list (rowsD R rs)))) = some false := by
  have sm : ∀ d ∈ rowsD R rs, Ok 0 5 d ∧ d.shown.length ≤ 4000 := fun d hd => by
    obtain ⟨r, h, rfl⟩ := List.mem_map.mp hd
    exact row_small (hg r h) (hr r h) hR hs
  have h1 : ∀ t ∈ PyData.shownAll (rowsD R rs), t.length ≤ 4000 := fun t ht => by obtain ⟨d, hd, rfl⟩ := shownAll_mem ht; exact (sm d hd).2
  have h2 : ∀ t ∈ PyData.shownAll (rowsD R rs), PyData.strOk t = true := fun t ht => by obtain ⟨d, hd, rfl⟩ := shownAll_mem ht; exact ((sm d hd).1.text (by decide)).2
  have h3 := piled_le h1
  rw [shownAll_len] at h3
  have h5 : (Str.join ", " (PyData.shownAll (rowsD R rs))).length ≤ piled (PyData.shownAll (rowsD R rs)) := join_le
  have h6 : PyData.strOk (Str.join ", " (PyData.shownAll (rowsD R rs))) = true := strOk_join (strOk_lit _) h2
  have hlen : (PyData.list (rowsD R rs)).shown.length ≤ 1300000 := by
    simp only [PyData.shown, listText_eq_join]
    rw [strLen_append, strLen_append]
    have e1 : ((("[" : String) : Str)).length = 1 := rfl
    have e2 : ((("]" : String) : Str)).length = 1 := rfl
    rw [e1, e2]
    have : (rowsD R rs).length = rs.length := by simp
    rw [this] at h3
    omega
  have hstr : PyData.strOk (PyData.list (rowsD R rs)).shown = true := by
    simp only [PyData.shown, listText_eq_join]
    exact strOk_app (strOk_app (strOk_lit _) h6) (strOk_lit _)
  constructor
  · show (if reprOk (.list (rowsD R rs)) then some (PyData.str (PyData.list (rowsD R rs)).shown) else none) = _
    unfold reprOk
    rw [if_pos]
    simp only [Bool.and_eq_true, decide_eq_true_eq]
    refine ⟨⟨⟨?_, ?_⟩, ?_⟩, Nat.le_trans hlen (by decide)⟩
    · simp only [PyData.showable]; exact show_all fun d hd => (sm d hd).1.show (by decide)
    · simp only [PyData.canLay0]; exact lay_all fun d hd => (sm d hd).1.lay
    · have := deep_all (n := 5) fun d hd => (sm d hd).1.deep
      simp only [PyData.depth]; omega
  · unfold opNe eqOk
    rw [if_pos]
    · simp [PyData.eqv]
    · simp [PyData.canLay0, hstr, PyData.depth]
def eight : List D := [(.int 0), (.int 1), (.int 2), (.int 3), (.int 9), (.int 5), (.int 0), (.int 1000000)]
def HI (d : D) : Prop := ∃ i : Int, d = .int i ∧ (0 ≤ i ∧ i ≤ 1000000)
theorem eight_HI : ∀ d ∈ eight, HI d := by
  intro d hd
  simp only [eight, List.mem_cons, List.not_mem_nil, or_false] at hd
  rcases hd with rfl | rfl | rfl | rfl | rfl | rfl | rfl | rfl <;> exact ⟨_, rfl, by decide, by decide⟩
theorem counts_gen {T s : Nat} {f : List D} (h : Fd T f) (hT : T ≤ 90000) (h1 : 1 ≤ s) (hm : s ≤ 9) :
    ∃ ks f', c__law_counts f (.int s) = .ret (tupI ks, f') ∧ Fd (T + 9) f' ∧ Cnt s ks := by
  unfold c__law_counts
  rw [range_ok _ (by omega)]
  simp only [oMS, bdR]
  obtain ⟨xs, s', c1, ⟨c2, c2'⟩, c3, c4⟩ := compE_ok (step := fun (s2 : List D × D × Unit) d3 => bd (bd (bd (oM (opPow (.int 10) (.int 6))) fun x4 => .ret [(.int 0), (.int 1), (.int 2), (.int 3), (.int 9), (.int 5), (.int 0), x4]) fun l5 => .ret (PyData.list l5)) fun x6 => bd (c__law_take s2.1 (.int 8)) fun r7 => bd (oM (opIx x6 r7.1)) fun x8 => .ret (some x8, (r7.2, s2.2.1, ())))
    (P := fun j st => Fd (T + j) st.1 ∧ st.2.1 = .int s) (R := HI) (rangeD 0 s) 0 (f, .int s, ()) (by
      intro j st d hd h0 hj ⟨p1, p2⟩
      rw [rangeD_len] at hj
      obtain ⟨r, f', t1, t2, t3, t4⟩ := take_ok p1 (by omega) (m := 8) (by decide) (by decide)
      obtain ⟨x, hx, e⟩ := atI_ok eight r t2 t3
      refine ⟨x, (f', st.2.1, ()), ?_, ⟨t4, p2⟩, eight_HI x hx⟩
      have e3 : opPow (.int 10) (.int 6) = some (.int 1000000) := rfl
      simp only [t1, bdR, e3, oMS]
      have : opIx (.list [(.int 0), (.int 1), (.int 2), (.int 3), (.int 9), (.int 5), (.int 0), (.int 1000000)]) (.int r) = some x := e
      rw [this]; rfl) ⟨h, rfl⟩
  rw [rangeD_len] at c2 c3
  rw [c1]
  simp only [bdR]
  rw [fitM_ok (by omega)]
  obtain ⟨f', z', u⟩ := s'
  simp only at c2 c2'
  subst c2'
  obtain ⟨l, rfl, hl⟩ := ints_of c4
  have ll : l.length = s := by simpa using c3
  have sm' : fSum [.list (iL l)] = some (.int l.sum) := by
    show (match intsOf (iL l) with | some ns => if sumOk ns then some (PyData.int ns.sum) else none | none => none) = _
    rw [intsOf_iL]
    dsimp only
    rw [if_pos]
    unfold sumOk
    simp only [Bool.and_eq_true, List.all_eq_true, decide_eq_true_eq]
    exact ⟨fun i hi => by have := hl i hi; omega, by omega⟩
  simp only [bdR, sm', oMS, gtI]
  by_cases hp : 0 < l.sum
  · simp only [hp, decide_true, if_true, tupL, oMS, bdR]
    exact ⟨l, f', rfl, c2.le (by omega), ll, hl⟩
  · simp only [hp, decide_false, ff]
    rw [mul1 _ (by omega)]
    simp only [oMS, bdR]
    refine ⟨List.replicate s 1, f', rfl, c2.le (by omega), by simp, fun c hc => ?_⟩
    have := (List.mem_replicate.mp hc).2
    omega
end K65
set_option Elab.async false
set_option linter.all false
set_option maxRecDepth 100000
namespace K65
open PySem PySem.Spec PyProof.Rows L2 L3 L4
abbrev dues (R s : Nat) (q : Qn) : D := .list [.list (rowsD R (rows s q false)), .list (rowsD R (rows s q true))]
theorem due_at (R s : Nat) (q : Qn) (t : Bool) : opIx (dues R s q) (.int (if t then 1 else 0)) = some (.list (rowsD R (rows s q t))) := by
  cases t <;> rfl
theorem max2 (a b : Int) : fMax [.int a, .int b] = some (.int (if b > a then b else a)) := id rfl
theorem s3_ok {kn2 : D × Unit → M D} {sc : D} {f : List D} {R s : Nat} {q : Qn} {t : Bool} {kn44 : D × List D × D × D × D × Unit → M D} (hR : R ≤ 6) (hs : s ≤ 6) (w : q.Wf s) (hd : q.deep ≤ 2) (hl : (rows s q t).length ≤ 300) :
    c_law_s3 kn2 sc f (sz R s) q.d (dues R s q) (.bool t) kn44 = kn44 (sc, f, sz R s, q.d, dues R s q, ()) := by
  unfold c_law_s3
  have hg := rows_good s q t w
  have hm := (rows_few s q t w).2
  have hp : 2 ^ q.deep ≤ 2 ^ 2 := Nat.pow_le_pow_right (by decide) hd
  have rr := rows_repr (R := R) hl (fun r hr => by have := hm r hr; omega) hg hR hs
  simp only [ixT0, ixT1, oMS, bdR, rowsOf_ok R s (by omega) (by omega) 4 q t w (by omega) hd, rr.1, rr.2, fIntB, due_at, ff]
  refine forS_ok (P := fun _ _ => True) (rowsD R (rows s q t)) 0 () _ ?_ trivial ?_
  · intro j st d hdm _ _ _ kn hkn
    obtain ⟨r, hr, rfl⟩ := List.mem_map.mp hdm
    simp only [seqT, oMS, bdR]
    rw [comp_of (h := Ft.d R) (g := fun _ => PyData.bool true) r fun f hf => by rw [isFact_ok (hg r hr f hf) (by omega) (by omega)]; rfl]
    simp only [bdR]
    rw [fitM_ok (by have := hm r hr; simp; omega)]
    simp only [bdR, inB (fun _ : Ft => true) false r, oMS]
    rw [show (r.any fun _ => true == false) = false by simp, ff]
    exact hkn () trivial
  · intro st _
    have : mApp (rowsD R (rows s q t)) [(.tuple [(.str "x")])] = some (rowsD R (rows s q t) ++ [(.tuple [(.str "x")])]) := if_pos (by
      simp only [List.length_map]
      exact Nat.lt_of_le_of_lt hl (by decide))
    rw [this]
    rfl
theorem s7_ok {kn2 : D × Unit → M D} {kn25 : D × List D × D × D × D × Unit → M D} {sc : D} {f : List D} {R s : Nat} {q : Qn} {t : Bool} {ks : List Int} {kn34 : D × List D × D × D × D × D × Unit → M D} (hk : Cnt s ks) (hR : R ≤ 6) (hs : s ≤ 6) (w : q.Wf s) (hd : q.deep ≤ 2) (hl : (rows s q t).length ≤ 300) :
    c_law_s7 kn2 kn25 sc f (sz R s) q.d (dues R s q) (tupI ks) (.bool t) kn34 = kn34 (sc, f, sz R s, q.d, dues R s q, tupI ks, ()) := by
  unfold c_law_s7
  simp only [fIntB, oMS, bdR, due_at, rowsTrue_ok hk (show s ≤ 9 by omega) (show R ≤ 9 by omega) q t w hd hl, tru_b, Bool.not_true, ff]
theorem neBs (b : Bool) : opNe (.str (PyData.shown (.bool b))) (.str (PyData.shown (.bool b))) = some false := ne_self (okB b) (by decide)
theorem s5_ok {T : Nat} {kn2 : D × Unit → M D} {sc dd : D} {f : List D} {R s : Nat} {q : Qn} {kn25 : D × List D × D × D × D × Unit → M D} {res : M D} (h : Fd T f) (hT : T ≤ 90000) (hR : R ≤ 6) (h1 : 1 ≤ s) (hs : s ≤ 6) (w : q.Wf s) (hd : q.deep ≤ 2) (hl : ∀ t, (rows s q t).length ≤ 300)
    (hkn : ∀ f', Fd (T + 9) f' → kn25 (sc, f', sz R s, q.d, dues R s q, ()) = res) : c_law_s5 kn2 sc f (sz R s) q.d (dues R s q) dd kn25 = res := by
  unfold c_law_s5
  obtain ⟨ks, f1, e1, g1, hk⟩ := counts_gen h hT h1 (by omega)
  have rb := ((okB (tr ks q)).repr (by decide) (by decide)).1
  simp only [ixT1, oMS, bdR, e1, holds_ok hk (by omega) 4 q w (by omega), truth_ok hk (by omega) 4 q w (by omega), rb, neBs, ff, seqT]
  refine forS_ok (P := fun _ st => st = (sc, f1, sz R s, q.d, dues R s q, tupI ks, ())) _ 0 _ _ ?_ rfl ?_
  · intro j st d hdm _ _ hp kn hkn'
    subst hp
    obtain ⟨t, rfl⟩ : ∃ t, d = .bool t := by
      simp only [List.mem_cons, List.not_mem_nil, or_false] at hdm
      rcases hdm with rfl | rfl
      · exact ⟨_, rfl⟩
      · exact ⟨_, rfl⟩
    dsimp only
    rw [s7_ok hk hR hs w hd (hl t)]
    exact hkn' _ rfl
  · rintro st rfl
    exact hkn f1 g1
theorem r4_ok {T : Nat} {kn2 : D × Unit → M D} {sc : D} {f : List D} {R s : Nat} {q : Qn} {res : M D} (h : Fd T f) (hT : T ≤ 80000) (hR : R ≤ 6) (h1 : 1 ≤ s) (hs : s ≤ 6) (w : q.Wf s) (hd : q.deep ≤ 2) (hl : ∀ t, (rows s q t).length ≤ 300)
    (hkn : kn2 (sc, ()) = res) : c_law_r4 kn2 sc f (sz R s) q.d (dues R s q) = res := by
  unfold c_law_r4
  have e7 : fRange1 [.int 8] = some (rangeD 0 8) := range_ok 8 (by decide)
  rw [e7]
  simp only [oMS, bdR]
  refine forS_ok (P := fun j st => ∃ f, Fd (T + 9 * j) f ∧ st = (sc, f, sz R s, q.d, dues R s q, ())) _ 0 _ _ ?_ ⟨f, h.le (by omega), rfl⟩ ?_
  · rintro j st d hdm _ hj ⟨f', hf, rfl⟩ kn hkn'
    rw [rangeD_len] at hj
    dsimp only
    exact s5_ok hf (by omega) hR h1 hs w hd hl fun f2 g2 => hkn' _ ⟨f2, g2.le (by omega), rfl⟩
  · rintro st ⟨f', hf, rfl⟩
    exact hkn
theorem s1_ok {ns : List Int} {k : Int} {kn2 : D × Unit → M D} {res : M D} (hn : ns.length ≤ 63) (hk : kn2 (.list (ns.map PyData.int), ()) = res) : c_law_s1 (.list (ns.map PyData.int)) (.int k) kn2 = res := by
  obtain ⟨f0, e0, g0⟩ := feed_ok ns k hn
  obtain ⟨r1, f1, t1, p1, q1, g1⟩ := take_ok g0 (by omega) (m := 6) (by decide) (by decide)
  obtain ⟨r2, f2, t2, p2, q2, g2⟩ := take_ok g1 (by omega) (m := 4) (by decide) (by decide)
  obtain ⟨R, hR⟩ := Int.eq_ofNat_of_zero_le (show (0 : Int) ≤ 1 + r1 by omega)
  obtain ⟨s, hS⟩ := Int.eq_ofNat_of_zero_le (show (0 : Int) ≤ 1 + r2 by omega)
  obtain ⟨q, f3, e3, g3, w, hd⟩ := question_gen (s := s) (by omega) (by omega) 3 2 _ f2 (by decide) g2 (by decide)
  rw [show ((2 : Nat) : Int) = 2 from rfl] at e3
  unfold c_law_s1
  have e9 : opNotB (.bool true) (.bool true) = some false := id rfl
  have i0 : opIx (dues R s q) (.int 0) = some (.list (rowsD R (rows s q false))) := id rfl
  have i1 : opIx (dues R s q) (.int 1) = some (.list (rowsD R (rows s q true))) := id rfl
  simp only [e0, t1, t2, bdR, addI, oMS, hR, hS, ixT1, e3, lawRows_ok R s (by omega) (by omega) 4 q false w (by omega) hd, lawRows_ok R s (by omega) (by omega) 4 q true w (by omega) hd, question_ok (show s ≤ 1000 by omega) w hd, e9, ff, i0, i1, lenL, max2, leI, seqT, List.length_map]
  by_cases hb : (if ((rows s q true).length : Int) > ((rows s q false).length : Int) then ((rows s q true).length : Int) else ((rows s q false).length : Int)) ≤ 300
  · rw [decide_eq_true hb, if_pos rfl]
    have hl : ∀ t, (rows s q t).length ≤ 300 := fun t => by
      split at hb <;> cases t <;> omega
    refine forS_ok (P := fun _ st => st = (.list (ns.map PyData.int), f3, sz R s, q.d, dues R s q, ())) _ 0 _ _ ?_ rfl ?_
    · intro j st d hdm _ _ hp kn hkn'
      subst hp
      obtain ⟨t, rfl⟩ : ∃ t, d = .bool t := by
        simp only [List.mem_cons, List.not_mem_nil, or_false] at hdm
        rcases hdm with rfl | rfl | rfl
        · exact ⟨_, rfl⟩
        · exact ⟨_, rfl⟩
        · exact ⟨_, rfl⟩
      dsimp only
      rw [s3_ok (by omega) (by omega) w hd (hl t)]
      exact hkn' _ rfl
    · rintro st rfl
      exact r4_ok g3 (by decide) (by omega) (by omega) (by omega) w hd hl hk
  · rw [decide_eq_false hb, ff]
    exact hk
theorem main (ns : List Int) (hn : ns.length ≤ 63) : c_law (.list (ns.map PyData.int)) = .ret (.bool true) := by
  unfold c_law
  have e7 : fRange1 [.int 8] = some (rangeD 0 8) := range_ok 8 (by decide)
  rw [e7]
  simp only [oMS, bdR]
  refine forS_ok (P := fun _ s => s = (.list (ns.map PyData.int), ())) _ 0 _ _ ?_ rfl ?_
  · intro j s d hd _ _ hp kn hkn
    subst hp
    obtain ⟨k, hk, rfl⟩ := range_mem hd
    exact s1_ok hn (hkn _ rfl)
  · rintro s rfl
    rfl
end K65
set_option Elab.async false
set_option linter.all false
set_option maxRecDepth 100000
set_option maxHeartbeats 8000000
namespace K65
open PySem PySem.Spec PyProof.Rows L2 L3 L4
theorem all_mk {l : PySem.W.OpenLaw} {w : World} {K : Fg} {h : Heap} {mg : Str → Option Value} {fa f0 f1 f2 f3 f4 f5 f6 f7 f8 f9 f10 f11 f12 f13 f14 f15 f16 f17 f18 f19 f20 f21 f22 f23 f24 f25 f26 f27 f28 f29 f30 f31 f32 f33 f34 f35 : Addr} (X : K.In h) (G : h.Ns mainGlobals mg) (hfa : mg "law" = some (.ref fa))
    {oc0 kV0 dc0 pm0 cd0 ct0 : Value} {od0 an0 : Option Addr} {sl0 : Array (Option Value)}
    {oc1 kV1 dc1 pm1 cd1 ct1 : Value} {od1 an1 : Option Addr} {sl1 : Array (Option Value)}
    {oc2 kV2 dc2 pm2 cd2 ct2 : Value} {od2 an2 : Option Addr} {sl2 : Array (Option Value)}
    {oc3 kV3 dc3 pm3 cd3 ct3 : Value} {od3 an3 : Option Addr} {sl3 : Array (Option Value)}
    {oc4 kV4 dc4 pm4 cd4 ct4 : Value} {od4 an4 : Option Addr} {sl4 : Array (Option Value)}
    {oc5 kV5 dc5 pm5 cd5 ct5 : Value} {od5 an5 : Option Addr} {sl5 : Array (Option Value)}
    {oc6 kV6 dc6 pm6 cd6 ct6 : Value} {od6 an6 : Option Addr} {sl6 : Array (Option Value)}
    {oc7 kV7 dc7 pm7 cd7 ct7 : Value} {od7 an7 : Option Addr} {sl7 : Array (Option Value)}
    {oc8 kV8 dc8 pm8 cd8 ct8 : Value} {od8 an8 : Option Addr} {sl8 : Array (Option Value)}
    {oc9 kV9 dc9 pm9 cd9 ct9 : Value} {od9 an9 : Option Addr} {sl9 : Array (Option Value)}
    {oc10 kV10 dc10 pm10 cd10 ct10 : Value} {od10 an10 : Option Addr} {sl10 : Array (Option Value)}
    {oc11 kV11 dc11 pm11 cd11 ct11 : Value} {od11 an11 : Option Addr} {sl11 : Array (Option Value)}
    {oc12 kV12 dc12 pm12 cd12 ct12 : Value} {od12 an12 : Option Addr} {sl12 : Array (Option Value)}
    {oc13 kV13 dc13 pm13 cd13 ct13 : Value} {od13 an13 : Option Addr} {sl13 : Array (Option Value)}
    {oc14 kV14 dc14 pm14 cd14 ct14 : Value} {od14 an14 : Option Addr} {sl14 : Array (Option Value)}
    {oc15 kV15 dc15 pm15 cd15 ct15 : Value} {od15 an15 : Option Addr} {sl15 : Array (Option Value)}
    {oc16 kV16 dc16 pm16 cd16 ct16 : Value} {od16 an16 : Option Addr} {sl16 : Array (Option Value)}
    {oc17 kV17 dc17 pm17 cd17 ct17 : Value} {od17 an17 : Option Addr} {sl17 : Array (Option Value)}
    {oc18 kV18 dc18 pm18 cd18 ct18 : Value} {od18 an18 : Option Addr} {sl18 : Array (Option Value)}
    {oc19 kV19 dc19 pm19 cd19 ct19 : Value} {od19 an19 : Option Addr} {sl19 : Array (Option Value)}
    {oc20 kV20 dc20 pm20 cd20 ct20 : Value} {od20 an20 : Option Addr} {sl20 : Array (Option Value)}
    {oc21 kV21 dc21 pm21 cd21 ct21 : Value} {od21 an21 : Option Addr} {sl21 : Array (Option Value)}
    {oc22 kV22 dc22 pm22 cd22 ct22 : Value} {od22 an22 : Option Addr} {sl22 : Array (Option Value)}
    {oc23 kV23 dc23 pm23 cd23 ct23 : Value} {od23 an23 : Option Addr} {sl23 : Array (Option Value)}
    {oc24 kV24 dc24 pm24 cd24 ct24 : Value} {od24 an24 : Option Addr} {sl24 : Array (Option Value)}
    {oc25 kV25 dc25 pm25 cd25 ct25 : Value} {od25 an25 : Option Addr} {sl25 : Array (Option Value)}
    {oc26 kV26 dc26 pm26 cd26 ct26 : Value} {od26 an26 : Option Addr} {sl26 : Array (Option Value)}
    {oc27 kV27 dc27 pm27 cd27 ct27 : Value} {od27 an27 : Option Addr} {sl27 : Array (Option Value)}
    {oc28 kV28 dc28 pm28 cd28 ct28 : Value} {od28 an28 : Option Addr} {sl28 : Array (Option Value)}
    {oc29 kV29 dc29 pm29 cd29 ct29 : Value} {od29 an29 : Option Addr} {sl29 : Array (Option Value)}
    {oc30 kV30 dc30 pm30 cd30 ct30 : Value} {od30 an30 : Option Addr} {sl30 : Array (Option Value)}
    {oc31 kV31 dc31 pm31 cd31 ct31 : Value} {od31 an31 : Option Addr} {sl31 : Array (Option Value)}
    {oc32 kV32 dc32 pm32 cd32 ct32 : Value} {od32 an32 : Option Addr} {sl32 : Array (Option Value)}
    {oc33 kV33 dc33 pm33 cd33 ct33 : Value} {od33 an33 : Option Addr} {sl33 : Array (Option Value)}
    {oc34 kV34 dc34 pm34 cd34 ct34 : Value} {od34 an34 : Option Addr} {sl34 : Array (Option Value)}
    {oc35 kV35 dc35 pm35 cd35 ct35 : Value} {od35 an35 : Option Addr} {sl35 : Array (Option Value)}
    {u_GREATEST : Value}
    {u_MOST_DIVIDES : Value}
    {u_MOST_QUESTIONS : Value}
    {u_MOST_WITHIN : Value}
    {u_MOST_LEAST : Value}
    {u_MOST_REST : Value}
    (a0 : PySem.W.nsIn K mainGlobals "is_whole" = some (some (.ref f0))) (l0 : K.lookup f0 = some ⟨oc0, od0, .func (PySem.W.fnOf "is_whole" "is_whole" (defArgs s_is_whole) (defBody s_is_whole) (defScope s_is_whole) .none kV0 dc0 pm0 an0 cd0 ct0), sl0⟩) (c0 : PySem.W.codeIn K cd0 "is_whole" = true) (k0 : PySem.W.keepIn K (.ref f0) = true)
    (a1 : PySem.W.nsIn K mainGlobals "is_within" = some (some (.ref f1))) (l1 : K.lookup f1 = some ⟨oc1, od1, .func (PySem.W.fnOf "is_within" "is_within" (defArgs s_is_within) (defBody s_is_within) (defScope s_is_within) .none kV1 dc1 pm1 an1 cd1 ct1), sl1⟩) (c1 : PySem.W.codeIn K cd1 "is_within" = true) (k1 : PySem.W.keepIn K (.ref f1) = true)
    (a2 : PySem.W.nsIn K mainGlobals "is_tuple_of" = some (some (.ref f2))) (l2 : K.lookup f2 = some ⟨oc2, od2, .func (PySem.W.fnOf "is_tuple_of" "is_tuple_of" (defArgs s_is_tuple_of) (defBody s_is_tuple_of) (defScope s_is_tuple_of) .none kV2 dc2 pm2 an2 cd2 ct2), sl2⟩) (c2 : PySem.W.codeIn K cd2 "is_tuple_of" = true) (k2 : PySem.W.keepIn K (.ref f2) = true)
    (a3 : PySem.W.nsIn K mainGlobals "are_sorts" = some (some (.ref f3))) (l3 : K.lookup f3 = some ⟨oc3, od3, .func (PySem.W.fnOf "are_sorts" "are_sorts" (defArgs s_are_sorts) (defBody s_are_sorts) (defScope s_are_sorts) .none kV3 dc3 pm3 an3 cd3 ct3), sl3⟩) (c3 : PySem.W.codeIn K cd3 "are_sorts" = true) (k3 : PySem.W.keepIn K (.ref f3) = true)
    (a4 : PySem.W.nsIn K mainGlobals "is_bounded" = some (some (.ref f4))) (l4 : K.lookup f4 = some ⟨oc4, od4, .func (PySem.W.fnOf "is_bounded" "is_bounded" (defArgs s_is_bounded) (defBody s_is_bounded) (defScope s_is_bounded) .none kV4 dc4 pm4 an4 cd4 ct4), sl4⟩) (c4 : PySem.W.codeIn K cd4 "is_bounded" = true) (k4 : PySem.W.keepIn K (.ref f4) = true)
    (a5 : PySem.W.nsIn K mainGlobals "are_bounded" = some (some (.ref f5))) (l5 : K.lookup f5 = some ⟨oc5, od5, .func (PySem.W.fnOf "are_bounded" "are_bounded" (defArgs s_are_bounded) (defBody s_are_bounded) (defScope s_are_bounded) .none kV5 dc5 pm5 an5 cd5 ct5), sl5⟩) (c5 : PySem.W.codeIn K cd5 "are_bounded" = true) (k5 : PySem.W.keepIn K (.ref f5) = true)
    (a6 : PySem.W.nsIn K mainGlobals "is_form" = some (some (.ref f6))) (l6 : K.lookup f6 = some ⟨oc6, od6, .func (PySem.W.fnOf "is_form" "is_form" (defArgs s_is_form) (defBody s_is_form) (defScope s_is_form) .none kV6 dc6 pm6 an6 cd6 ct6), sl6⟩) (c6 : PySem.W.codeIn K cd6 "is_form" = true) (k6 : PySem.W.keepIn K (.ref f6) = true)
    (a7 : PySem.W.nsIn K mainGlobals "value_at" = some (some (.ref f7))) (l7 : K.lookup f7 = some ⟨oc7, od7, .func (PySem.W.fnOf "value_at" "value_at" (defArgs s_value_at) (defBody s_value_at) (defScope s_value_at) .none kV7 dc7 pm7 an7 cd7 ct7), sl7⟩) (c7 : PySem.W.codeIn K cd7 "value_at" = true) (k7 : PySem.W.keepIn K (.ref f7) = true)
    (a8 : PySem.W.nsIn K mainGlobals "plus" = some (some (.ref f8))) (l8 : K.lookup f8 = some ⟨oc8, od8, .func (PySem.W.fnOf "plus" "plus" (defArgs s_plus) (defBody s_plus) (defScope s_plus) .none kV8 dc8 pm8 an8 cd8 ct8), sl8⟩) (c8 : PySem.W.codeIn K cd8 "plus" = true) (k8 : PySem.W.keepIn K (.ref f8) = true)
    (a9 : PySem.W.nsIn K mainGlobals "hands_form" = some (some (.ref f9))) (l9 : K.lookup f9 = some ⟨oc9, od9, .func (PySem.W.fnOf "hands_form" "hands_form" (defArgs s_hands_form) (defBody s_hands_form) (defScope s_hands_form) .none kV9 dc9 pm9 an9 cd9 ct9), sl9⟩) (c9 : PySem.W.codeIn K cd9 "hands_form" = true) (k9 : PySem.W.keepIn K (.ref f9) = true)
    (a10 : PySem.W.nsIn K mainGlobals "rest_rows" = some (some (.ref f10))) (l10 : K.lookup f10 = some ⟨oc10, od10, .func (PySem.W.fnOf "rest_rows" "rest_rows" (defArgs s_rest_rows) (defBody s_rest_rows) (defScope s_rest_rows) .none kV10 dc10 pm10 an10 cd10 ct10), sl10⟩) (c10 : PySem.W.codeIn K cd10 "rest_rows" = true) (k10 : PySem.W.keepIn K (.ref f10) = true)
    (a11 : PySem.W.nsIn K mainGlobals "crossed" = some (some (.ref f11))) (l11 : K.lookup f11 = some ⟨oc11, od11, .func (PySem.W.fnOf "crossed" "crossed" (defArgs s_crossed) (defBody s_crossed) (defScope s_crossed) .none kV11 dc11 pm11 an11 cd11 ct11), sl11⟩) (c11 : PySem.W.codeIn K cd11 "crossed" = true) (k11 : PySem.W.keepIn K (.ref f11) = true)
    (a12 : PySem.W.nsIn K mainGlobals "least_fact" = some (some (.ref f12))) (l12 : K.lookup f12 = some ⟨oc12, od12, .func (PySem.W.fnOf "least_fact" "least_fact" (defArgs s_least_fact) (defBody s_least_fact) (defScope s_least_fact) .none kV12 dc12 pm12 an12 cd12 ct12), sl12⟩) (c12 : PySem.W.codeIn K cd12 "least_fact" = true) (k12 : PySem.W.keepIn K (.ref f12) = true)
    (a13 : PySem.W.nsIn K mainGlobals "more_fact" = some (some (.ref f13))) (l13 : K.lookup f13 = some ⟨oc13, od13, .func (PySem.W.fnOf "more_fact" "more_fact" (defArgs s_more_fact) (defBody s_more_fact) (defScope s_more_fact) .none kV13 dc13 pm13 an13 cd13 ct13), sl13⟩) (c13 : PySem.W.codeIn K cd13 "more_fact" = true) (k13 : PySem.W.keepIn K (.ref f13) = true)
    (a14 : PySem.W.nsIn K mainGlobals "rows_of" = some (some (.ref f14))) (l14 : K.lookup f14 = some ⟨oc14, od14, .func (PySem.W.fnOf "rows_of" "rows_of" (defArgs s_rows_of) (defBody s_rows_of) (defScope s_rows_of) .none kV14 dc14 pm14 an14 cd14 ct14), sl14⟩) (c14 : PySem.W.codeIn K cd14 "rows_of" = true) (k14 : PySem.W.keepIn K (.ref f14) = true)
    (a15 : PySem.W.nsIn K mainGlobals "is_fact" = some (some (.ref f15))) (l15 : K.lookup f15 = some ⟨oc15, od15, .func (PySem.W.fnOf "is_fact" "is_fact" (defArgs s_is_fact) (defBody s_is_fact) (defScope s_is_fact) .none kV15 dc15 pm15 an15 cd15 ct15), sl15⟩) (c15 : PySem.W.codeIn K cd15 "is_fact" = true) (k15 : PySem.W.keepIn K (.ref f15) = true)
    (a16 : PySem.W.nsIn K mainGlobals "fact_holds" = some (some (.ref f16))) (l16 : K.lookup f16 = some ⟨oc16, od16, .func (PySem.W.fnOf "fact_holds" "fact_holds" (defArgs s_fact_holds) (defBody s_fact_holds) (defScope s_fact_holds) .none kV16 dc16 pm16 an16 cd16 ct16), sl16⟩) (c16 : PySem.W.codeIn K cd16 "fact_holds" = true) (k16 : PySem.W.keepIn K (.ref f16) = true)
    (a17 : PySem.W.nsIn K mainGlobals "parts_of" = some (some (.ref f17))) (l17 : K.lookup f17 = some ⟨oc17, od17, .func (PySem.W.fnOf "parts_of" "parts_of" (defArgs s_parts_of) (defBody s_parts_of) (defScope s_parts_of) .none kV17 dc17 pm17 an17 cd17 ct17), sl17⟩) (c17 : PySem.W.codeIn K cd17 "parts_of" = true) (k17 : PySem.W.keepIn K (.ref f17) = true)
    (a18 : PySem.W.nsIn K mainGlobals "are_some" = some (some (.ref f18))) (l18 : K.lookup f18 = some ⟨oc18, od18, .func (PySem.W.fnOf "are_some" "are_some" (defArgs s_are_some) (defBody s_are_some) (defScope s_are_some) .none kV18 dc18 pm18 an18 cd18 ct18), sl18⟩) (c18 : PySem.W.codeIn K cd18 "are_some" = true) (k18 : PySem.W.keepIn K (.ref f18) = true)
    (a19 : PySem.W.nsIn K mainGlobals "are_apart" = some (some (.ref f19))) (l19 : K.lookup f19 = some ⟨oc19, od19, .func (PySem.W.fnOf "are_apart" "are_apart" (defArgs s_are_apart) (defBody s_are_apart) (defScope s_are_apart) .none kV19 dc19 pm19 an19 cd19 ct19), sl19⟩) (c19 : PySem.W.codeIn K cd19 "are_apart" = true) (k19 : PySem.W.keepIn K (.ref f19) = true)
    (a20 : PySem.W.nsIn K mainGlobals "is_rest" = some (some (.ref f20))) (l20 : K.lookup f20 = some ⟨oc20, od20, .func (PySem.W.fnOf "is_rest" "is_rest" (defArgs s_is_rest) (defBody s_is_rest) (defScope s_is_rest) .none kV20 dc20 pm20 an20 cd20 ct20), sl20⟩) (c20 : PySem.W.codeIn K cd20 "is_rest" = true) (k20 : PySem.W.keepIn K (.ref f20) = true)
    (a21 : PySem.W.nsIn K mainGlobals "is_plain" = some (some (.ref f21))) (l21 : K.lookup f21 = some ⟨oc21, od21, .func (PySem.W.fnOf "is_plain" "is_plain" (defArgs s_is_plain) (defBody s_is_plain) (defScope s_is_plain) .none kV21 dc21 pm21 an21 cd21 ct21), sl21⟩) (c21 : PySem.W.codeIn K cd21 "is_plain" = true) (k21 : PySem.W.keepIn K (.ref f21) = true)
    (a22 : PySem.W.nsIn K mainGlobals "questions_in" = some (some (.ref f22))) (l22 : K.lookup f22 = some ⟨oc22, od22, .func (PySem.W.fnOf "questions_in" "questions_in" (defArgs s_questions_in) (defBody s_questions_in) (defScope s_questions_in) .none kV22 dc22 pm22 an22 cd22 ct22), sl22⟩) (c22 : PySem.W.codeIn K cd22 "questions_in" = true) (k22 : PySem.W.keepIn K (.ref f22) = true)
    (a23 : PySem.W.nsIn K mainGlobals "is_question" = some (some (.ref f23))) (l23 : K.lookup f23 = some ⟨oc23, od23, .func (PySem.W.fnOf "is_question" "is_question" (defArgs s_is_question) (defBody s_is_question) (defScope s_is_question) .none kV23 dc23 pm23 an23 cd23 ct23), sl23⟩) (c23 : PySem.W.codeIn K cd23 "is_question" = true) (k23 : PySem.W.keepIn K (.ref f23) = true)
    (a24 : PySem.W.nsIn K mainGlobals "hands_of" = some (some (.ref f24))) (l24 : K.lookup f24 = some ⟨oc24, od24, .func (PySem.W.fnOf "hands_of" "hands_of" (defArgs s_hands_of) (defBody s_hands_of) (defScope s_hands_of) .none kV24 dc24 pm24 an24 cd24 ct24), sl24⟩) (c24 : PySem.W.codeIn K cd24 "hands_of" = true) (k24 : PySem.W.keepIn K (.ref f24) = true)
    (a25 : PySem.W.nsIn K mainGlobals "holds" = some (some (.ref f25))) (l25 : K.lookup f25 = some ⟨oc25, od25, .func (PySem.W.fnOf "holds" "holds" (defArgs s_holds) (defBody s_holds) (defScope s_holds) .none kV25 dc25 pm25 an25 cd25 ct25), sl25⟩) (c25 : PySem.W.codeIn K cd25 "holds" = true) (k25 : PySem.W.keepIn K (.ref f25) = true)
    (a26 : PySem.W.nsIn K mainGlobals "_law_feed" = some (some (.ref f26))) (l26 : K.lookup f26 = some ⟨oc26, od26, .func (PySem.W.fnOf "_law_feed" "_law_feed" (defArgs s__law_feed) (defBody s__law_feed) (defScope s__law_feed) .none kV26 dc26 pm26 an26 cd26 ct26), sl26⟩) (c26 : PySem.W.codeIn K cd26 "_law_feed" = true) (k26 : PySem.W.keepIn K (.ref f26) = true)
    (a27 : PySem.W.nsIn K mainGlobals "_law_take" = some (some (.ref f27))) (l27 : K.lookup f27 = some ⟨oc27, od27, .func (PySem.W.fnOf "_law_take" "_law_take" (defArgs s__law_take) (defBody s__law_take) (defScope s__law_take) .none kV27 dc27 pm27 an27 cd27 ct27), sl27⟩) (c27 : PySem.W.codeIn K cd27 "_law_take" = true) (k27 : PySem.W.keepIn K (.ref f27) = true)
    (a28 : PySem.W.nsIn K mainGlobals "_law_sorts" = some (some (.ref f28))) (l28 : K.lookup f28 = some ⟨oc28, od28, .func (PySem.W.fnOf "_law_sorts" "_law_sorts" (defArgs s__law_sorts) (defBody s__law_sorts) (defScope s__law_sorts) .none kV28 dc28 pm28 an28 cd28 ct28), sl28⟩) (c28 : PySem.W.codeIn K cd28 "_law_sorts" = true) (k28 : PySem.W.keepIn K (.ref f28) = true)
    (a29 : PySem.W.nsIn K mainGlobals "_law_question" = some (some (.ref f29))) (l29 : K.lookup f29 = some ⟨oc29, od29, .func (PySem.W.fnOf "_law_question" "_law_question" (defArgs s__law_question) (defBody s__law_question) (defScope s__law_question) .none kV29 dc29 pm29 an29 cd29 ct29), sl29⟩) (c29 : PySem.W.codeIn K cd29 "_law_question" = true) (k29 : PySem.W.keepIn K (.ref f29) = true)
    (a30 : PySem.W.nsIn K mainGlobals "_law_of" = some (some (.ref f30))) (l30 : K.lookup f30 = some ⟨oc30, od30, .func (PySem.W.fnOf "_law_of" "_law_of" (defArgs s__law_of) (defBody s__law_of) (defScope s__law_of) .none kV30 dc30 pm30 an30 cd30 ct30), sl30⟩) (c30 : PySem.W.codeIn K cd30 "_law_of" = true) (k30 : PySem.W.keepIn K (.ref f30) = true)
    (a31 : PySem.W.nsIn K mainGlobals "_law_rows" = some (some (.ref f31))) (l31 : K.lookup f31 = some ⟨oc31, od31, .func (PySem.W.fnOf "_law_rows" "_law_rows" (defArgs s__law_rows) (defBody s__law_rows) (defScope s__law_rows) .none kV31 dc31 pm31 an31 cd31 ct31), sl31⟩) (c31 : PySem.W.codeIn K cd31 "_law_rows" = true) (k31 : PySem.W.keepIn K (.ref f31) = true)
    (a32 : PySem.W.nsIn K mainGlobals "_law_truth" = some (some (.ref f32))) (l32 : K.lookup f32 = some ⟨oc32, od32, .func (PySem.W.fnOf "_law_truth" "_law_truth" (defArgs s__law_truth) (defBody s__law_truth) (defScope s__law_truth) .none kV32 dc32 pm32 an32 cd32 ct32), sl32⟩) (c32 : PySem.W.codeIn K cd32 "_law_truth" = true) (k32 : PySem.W.keepIn K (.ref f32) = true)
    (a33 : PySem.W.nsIn K mainGlobals "_law_counts" = some (some (.ref f33))) (l33 : K.lookup f33 = some ⟨oc33, od33, .func (PySem.W.fnOf "_law_counts" "_law_counts" (defArgs s__law_counts) (defBody s__law_counts) (defScope s__law_counts) .none kV33 dc33 pm33 an33 cd33 ct33), sl33⟩) (c33 : PySem.W.codeIn K cd33 "_law_counts" = true) (k33 : PySem.W.keepIn K (.ref f33) = true)
    (a34 : PySem.W.nsIn K mainGlobals "_law_rows_true" = some (some (.ref f34))) (l34 : K.lookup f34 = some ⟨oc34, od34, .func (PySem.W.fnOf "_law_rows_true" "_law_rows_true" (defArgs s__law_rows_true) (defBody s__law_rows_true) (defScope s__law_rows_true) .none kV34 dc34 pm34 an34 cd34 ct34), sl34⟩) (c34 : PySem.W.codeIn K cd34 "_law_rows_true" = true) (k34 : PySem.W.keepIn K (.ref f34) = true)
    (a35 : PySem.W.nsIn K mainGlobals "law" = some (some (.ref f35))) (l35 : K.lookup f35 = some ⟨oc35, od35, .func (PySem.W.fnOf "law" "law" (defArgs s_law) (defBody s_law) (defScope s_law) .none kV35 dc35 pm35 an35 cd35 ct35), sl35⟩) (c35 : PySem.W.codeIn K cd35 "law" = true) (k35 : PySem.W.keepIn K (.ref f35) = true)
    (z_range : PySem.W.nsIn K mainGlobals "range" = some none)
    (z_len : PySem.W.nsIn K mainGlobals "len" = some none)
    (z_tuple : PySem.W.nsIn K mainGlobals "tuple" = some none)
    (z_list : PySem.W.nsIn K mainGlobals "list" = some none)
    (z_max : PySem.W.nsIn K mainGlobals "max" = some none)
    (z_min : PySem.W.nsIn K mainGlobals "min" = some none)
    (z_sum : PySem.W.nsIn K mainGlobals "sum" = some none)
    (z_abs : PySem.W.nsIn K mainGlobals "abs" = some none)
    (z_repr : PySem.W.nsIn K mainGlobals "repr" = some none)
    (z_enumerate : PySem.W.nsIn K mainGlobals "enumerate" = some none)
    (z_isinstance : PySem.W.nsIn K mainGlobals "isinstance" = some none)
    (z_all : PySem.W.nsIn K mainGlobals "all" = some none)
    (z_any : PySem.W.nsIn K mainGlobals "any" = some none)
    (z_int : PySem.W.nsIn K mainGlobals "int" = some none)
    (z_str : PySem.W.nsIn K mainGlobals "str" = some none)
    (z_bool : PySem.W.nsIn K mainGlobals "bool" = some none)
    (z_zip : PySem.W.nsIn K mainGlobals "zip" = some none)
    (z_sorted : PySem.W.nsIn K mainGlobals "sorted" = some none)
    (z_set : PySem.W.nsIn K mainGlobals "set" = some none)
    (z_dict : PySem.W.nsIn K mainGlobals "dict" = some none)
    (z_reversed : PySem.W.nsIn K mainGlobals "reversed" = some none)
    (g_GREATEST : PySem.W.nsIn K mainGlobals "GREATEST" = some (some u_GREATEST)) (r_GREATEST : RelV (.int 1000000000000000) u_GREATEST)
    (g_MOST_DIVIDES : PySem.W.nsIn K mainGlobals "MOST_DIVIDES" = some (some u_MOST_DIVIDES)) (r_MOST_DIVIDES : RelV (.int 99) u_MOST_DIVIDES)
    (g_MOST_QUESTIONS : PySem.W.nsIn K mainGlobals "MOST_QUESTIONS" = some (some u_MOST_QUESTIONS)) (r_MOST_QUESTIONS : RelV (.int 7) u_MOST_QUESTIONS)
    (g_MOST_WITHIN : PySem.W.nsIn K mainGlobals "MOST_WITHIN" = some (some u_MOST_WITHIN)) (r_MOST_WITHIN : RelV (.int 4) u_MOST_WITHIN)
    (g_MOST_LEAST : PySem.W.nsIn K mainGlobals "MOST_LEAST" = some (some u_MOST_LEAST)) (r_MOST_LEAST : RelV (.int 9) u_MOST_LEAST)
    (g_MOST_REST : PySem.W.nsIn K mainGlobals "MOST_REST" = some (some u_MOST_REST)) (r_MOST_REST : RelV (.int 9) u_MOST_REST) :
    ∃ fd : FuncData, (∀ (s : Shared) (v : Value), BindsTo s fd ⟨[v], []⟩ [("_law_script", v)]) ∧ ∀ base : Heap, K.In base → base.Ns mainGlobals mg → FnOk l.prog w K mg base CX0 14 fa fd ["_law_script"] (spD K 1 mf_law) := by
  have e := hfa.symm.trans (PySem.W.mg_of X G a35)
  cases e
  have B : BN mg := ⟨PySem.W.mg_none_of X G z_range, PySem.W.mg_none_of X G z_len, PySem.W.mg_none_of X G z_tuple, PySem.W.mg_none_of X G z_list, PySem.W.mg_none_of X G z_max, PySem.W.mg_none_of X G z_min, PySem.W.mg_none_of X G z_sum, PySem.W.mg_none_of X G z_abs, PySem.W.mg_none_of X G z_repr, PySem.W.mg_none_of X G z_enumerate, PySem.W.mg_none_of X G z_isinstance, PySem.W.mg_none_of X G z_all, PySem.W.mg_none_of X G z_any, PySem.W.mg_none_of X G z_int, PySem.W.mg_none_of X G z_str, PySem.W.mg_none_of X G z_bool, PySem.W.mg_none_of X G z_zip, PySem.W.mg_none_of X G z_sorted, PySem.W.mg_none_of X G z_set, PySem.W.mg_none_of X G z_dict, PySem.W.mg_none_of X G z_reversed⟩
  have Kn : KN mg := ⟨⟨_, PySem.W.mg_of X G g_GREATEST, r_GREATEST⟩, ⟨_, PySem.W.mg_of X G g_MOST_DIVIDES, r_MOST_DIVIDES⟩, ⟨_, PySem.W.mg_of X G g_MOST_QUESTIONS, r_MOST_QUESTIONS⟩, ⟨_, PySem.W.mg_of X G g_MOST_WITHIN, r_MOST_WITHIN⟩, ⟨_, PySem.W.mg_of X G g_MOST_LEAST, r_MOST_LEAST⟩, ⟨_, PySem.W.mg_of X G g_MOST_REST, r_MOST_REST⟩⟩
  have F0 := fun_mk (st := s_is_whole) l0 c0 k0
  have F1 := fun_mk (st := s_is_within) l1 c1 k1
  have F2 := fun_mk (st := s_is_tuple_of) l2 c2 k2
  have F3 := fun_mk (st := s_are_sorts) l3 c3 k3
  have F4 := fun_mk (st := s_is_bounded) l4 c4 k4
  have F5 := fun_mk (st := s_are_bounded) l5 c5 k5
  have F6 := fun_mk (st := s_is_form) l6 c6 k6
  have F7 := fun_mk (st := s_value_at) l7 c7 k7
  have F8 := fun_mk (st := s_plus) l8 c8 k8
  have F9 := fun_mk (st := s_hands_form) l9 c9 k9
  have F10 := fun_mk (st := s_rest_rows) l10 c10 k10
  have F11 := fun_mk (st := s_crossed) l11 c11 k11
  have F12 := fun_mk (st := s_least_fact) l12 c12 k12
  have F13 := fun_mk (st := s_more_fact) l13 c13 k13
  have F14 := fun_mk (st := s_rows_of) l14 c14 k14
  have F15 := fun_mk (st := s_is_fact) l15 c15 k15
  have F16 := fun_mk (st := s_fact_holds) l16 c16 k16
  have F17 := fun_mk (st := s_parts_of) l17 c17 k17
  have F18 := fun_mk (st := s_are_some) l18 c18 k18
  have F19 := fun_mk (st := s_are_apart) l19 c19 k19
  have F20 := fun_mk (st := s_is_rest) l20 c20 k20
  have F21 := fun_mk (st := s_is_plain) l21 c21 k21
  have F22 := fun_mk (st := s_questions_in) l22 c22 k22
  have F23 := fun_mk (st := s_is_question) l23 c23 k23
  have F24 := fun_mk (st := s_hands_of) l24 c24 k24
  have F25 := fun_mk (st := s_holds) l25 c25 k25
  have F26 := fun_mk (st := s__law_feed) l26 c26 k26
  have F27 := fun_mk (st := s__law_take) l27 c27 k27
  have F28 := fun_mk (st := s__law_sorts) l28 c28 k28
  have F29 := fun_mk (st := s__law_question) l29 c29 k29
  have F30 := fun_mk (st := s__law_of) l30 c30 k30
  have F31 := fun_mk (st := s__law_rows) l31 c31 k31
  have F32 := fun_mk (st := s__law_truth) l32 c32 k32
  have F33 := fun_mk (st := s__law_counts) l33 c33 k33
  have F34 := fun_mk (st := s__law_rows_true) l34 c34 k34
  have F35 := fun_mk (st := s_law) l35 c35 k35
  refine ⟨PySem.W.fnOf "law" "law" (defArgs s_law) (defBody s_law) (defScope s_law) .none kV35 dc35 pm35 an35 cd35 ct35, fun s v => .of_eq rfl, fun base _ _ => ?_⟩
  have C_is_whole := ok_is_whole (P := l.prog) (w := w) (base := base) F0 (PySem.W.mg_of X G a0) B Kn
  have C_is_within := ok_is_within (P := l.prog) (w := w) (base := base) F1 (PySem.W.mg_of X G a1) B Kn C_is_whole
  have C_is_tuple_of := ok_is_tuple_of (P := l.prog) (w := w) (base := base) F2 (PySem.W.mg_of X G a2) B Kn
  have C_are_sorts := ok_are_sorts (P := l.prog) (w := w) (base := base) F3 (PySem.W.mg_of X G a3) B Kn C_is_within
  have C_is_bounded := ok_is_bounded (P := l.prog) (w := w) (base := base) F4 (PySem.W.mg_of X G a4) B Kn C_is_within
  have C_are_bounded := ok_are_bounded (P := l.prog) (w := w) (base := base) F5 (PySem.W.mg_of X G a5) B Kn C_is_tuple_of C_is_bounded
  have C_is_form := ok_is_form (P := l.prog) (w := w) (base := base) F6 (PySem.W.mg_of X G a6) B Kn C_are_bounded C_is_tuple_of C_is_bounded
  have C_value_at := ok_value_at (P := l.prog) (w := w) (base := base) F7 (PySem.W.mg_of X G a7) B Kn
  have C_plus := ok_plus (P := l.prog) (w := w) (base := base) F8 (PySem.W.mg_of X G a8) B Kn
  have C_hands_form := ok_hands_form (P := l.prog) (w := w) (base := base) F9 (PySem.W.mg_of X G a9) B Kn
  have C_rest_rows := ok_rest_rows (P := l.prog) (w := w) (base := base) F10 (PySem.W.mg_of X G a10) B Kn C_hands_form C_plus
  have C_crossed := ok_crossed (P := l.prog) (w := w) (base := base) F11 (PySem.W.mg_of X G a11) B Kn
  have C_least_fact := ok_least_fact (P := l.prog) (w := w) (base := base) F12 (PySem.W.mg_of X G a12) B Kn C_plus C_hands_form
  have C_more_fact := ok_more_fact (P := l.prog) (w := w) (base := base) F13 (PySem.W.mg_of X G a13) B Kn C_hands_form C_plus
  have C_rows_of := ok_rows_of (P := l.prog) (w := w) (base := base) F14 (PySem.W.mg_of X G a14) B Kn C_rest_rows C_crossed C_least_fact C_more_fact 4
  have C_is_fact := ok_is_fact (P := l.prog) (w := w) (base := base) F15 (PySem.W.mg_of X G a15) B Kn C_is_within C_is_form
  have C_fact_holds := ok_fact_holds (P := l.prog) (w := w) (base := base) F16 (PySem.W.mg_of X G a16) B Kn C_value_at
  have C_parts_of := ok_parts_of (P := l.prog) (w := w) (base := base) F17 (PySem.W.mg_of X G a17) B Kn
  have C_are_some := ok_are_some (P := l.prog) (w := w) (base := base) F18 (PySem.W.mg_of X G a18) B Kn C_are_sorts
  have C_are_apart := ok_are_apart (P := l.prog) (w := w) (base := base) F19 (PySem.W.mg_of X G a19) B Kn C_are_sorts
  have C_is_rest := ok_is_rest (P := l.prog) (w := w) (base := base) F20 (PySem.W.mg_of X G a20) B Kn C_is_within
  have C_is_plain := ok_is_plain (P := l.prog) (w := w) (base := base) F21 (PySem.W.mg_of X G a21) B Kn C_are_some C_is_within C_are_apart C_is_rest
  have C_questions_in := ok_questions_in (P := l.prog) (w := w) (base := base) F22 (PySem.W.mg_of X G a22) B Kn C_parts_of C_is_plain 6
  have C_is_question := ok_is_question (P := l.prog) (w := w) (base := base) F23 (PySem.W.mg_of X G a23) B Kn C_questions_in
  have C_hands_of := ok_hands_of (P := l.prog) (w := w) (base := base) F24 (PySem.W.mg_of X G a24) B Kn
  have C_holds := ok_holds (P := l.prog) (w := w) (base := base) F25 (PySem.W.mg_of X G a25) B Kn C_hands_of 4
  have C__law_feed := ok__law_feed (P := l.prog) (w := w) (base := base) F26 (PySem.W.mg_of X G a26) B Kn
  have C__law_take := ok__law_take (P := l.prog) (w := w) (base := base) F27 (PySem.W.mg_of X G a27) B Kn
  have C__law_sorts := ok__law_sorts (P := l.prog) (w := w) (base := base) F28 (PySem.W.mg_of X G a28) B Kn C__law_take
  have C__law_question := ok__law_question (P := l.prog) (w := w) (base := base) F29 (PySem.W.mg_of X G a29) B Kn C__law_take C__law_sorts 3
  have C__law_of := ok__law_of (P := l.prog) (w := w) (base := base) F30 (PySem.W.mg_of X G a30) B Kn
  have C__law_rows := ok__law_rows (P := l.prog) (w := w) (base := base) F31 (PySem.W.mg_of X G a31) B Kn C__law_of 4
  have C__law_truth := ok__law_truth (P := l.prog) (w := w) (base := base) F32 (PySem.W.mg_of X G a32) B Kn  4
  have C__law_counts := ok__law_counts (P := l.prog) (w := w) (base := base) F33 (PySem.W.mg_of X G a33) B Kn C__law_take
  have C__law_rows_true := ok__law_rows_true (P := l.prog) (w := w) (base := base) F34 (PySem.W.mg_of X G a34) B Kn C__law_truth C_fact_holds
  exact fn_law F35 B Kn C__law_feed C__law_question C__law_rows C_is_question C__law_take C_rows_of C__law_counts C_holds C__law_truth C__law_rows_true C_is_fact
theorem walk {l : PySem.W.OpenLaw} {q : Program} {loose : List Str} {XP : (Str → Option Value) → Heap → Prop} {YP : World → Heap → Prop} {d : DefRec} {K : Params → Fg} (main : ∀ ns : List Int, ns.length ≤ 63 → c_law (.list (ns.map PyData.int)) = .ret (.bool true)) (hn : l.most = some 63) (hdf : d.params.defaults = [])
    (hY : ∀ (w : World) (h : Heap), YP w h → (K w.params).In h)
    (F : ∀ (w : World) (mg : Str → Option Value) (fa : Addr) (h : Heap), (K w.params).In h → h.Ns mainGlobals mg → mg d.name = some (.ref fa) →
      ∃ fd : FuncData, (∀ (s : Shared) (u : Value), BindsTo s fd ⟨[u], []⟩ [("_law_script", u)]) ∧ ∀ base : Heap, (K w.params).In base → base.Ns mainGlobals mg → FnOk l.prog w (K w.params) mg base CX0 14 fa fd ["_law_script"] (spD (K w.params) 1 mf_law)) :
    PySem.W.WalkO q loose XP YP l.row.toRowW d [] (fun f vs => PySem.call f vs) :=
  L2.walk_of (n := 63) (k := 14) (x := "_law_script") (CX := fun _ => CX0) (sp := fun w => spD (K w.params) 1 mf_law) hn (by decide) hdf ⟨rfl, by decide, by decide, rfl⟩ hY F (fun w H a ns hl _ hS => law_start hS (main ns hl)) fun _ _ _ _ _ z => z
end K65
open PySem PySem.W PyProof.Rows
set_option maxRecDepth 100000 in
set_option maxHeartbeats 0 in
theorem PySem.Challenge.cw_passersby_k65_rows_of_questions_holds : PySem.Challenge.rw_passersby_k65_rows_of_questions.Holds := by
  w_on; o_law; k_head; (case hw => w_witness2)
  k_fill
  refine K65.walk (l := PySem.Challenge.rw_passersby_k65_rows_of_questions) K65.main rfl rfl (fun w h Y => PySem.W.kIn_of Y) ?F
  case F =>
    intro w mg fa h KX G hmg
    refine' K65.all_mk KX G hmg ?a0 ?l0 ?c0 ?k0 ?a1 ?l1 ?c1 ?k1 ?a2 ?l2 ?c2 ?k2 ?a3 ?l3 ?c3 ?k3 ?a4 ?l4 ?c4 ?k4 ?a5 ?l5 ?c5 ?k5 ?a6 ?l6 ?c6 ?k6 ?a7 ?l7 ?c7 ?k7 ?a8 ?l8 ?c8 ?k8 ?a9 ?l9 ?c9 ?k9 ?a10 ?l10 ?c10 ?k10 ?a11 ?l11 ?c11 ?k11 ?a12 ?l12 ?c12 ?k12 ?a13 ?l13 ?c13 ?k13 ?a14 ?l14 ?c14 ?k14 ?a15 ?l15 ?c15 ?k15 ?a16 ?l16 ?c16 ?k16 ?a17 ?l17 ?c17 ?k17 ?a18 ?l18 ?c18 ?k18 ?a19 ?l19 ?c19 ?k19 ?a20 ?l20 ?c20 ?k20 ?a21 ?l21 ?c21 ?k21 ?a22 ?l22 ?c22 ?k22 ?a23 ?l23 ?c23 ?k23 ?a24 ?l24 ?c24 ?k24 ?a25 ?l25 ?c25 ?k25 ?a26 ?l26 ?c26 ?k26 ?a27 ?l27 ?c27 ?k27 ?a28 ?l28 ?c28 ?k28 ?a29 ?l29 ?c29 ?k29 ?a30 ?l30 ?c30 ?k30 ?a31 ?l31 ?c31 ?k31 ?a32 ?l32 ?c32 ?k32 ?a33 ?l33 ?c33 ?k33 ?a34 ?l34 ?c34 ?k34 ?a35 ?l35 ?c35 ?k35 ?z_range ?z_len ?z_tuple ?z_list ?z_max ?z_min ?z_sum ?z_abs ?z_repr ?z_enumerate ?z_isinstance ?z_all ?z_any ?z_int ?z_str ?z_bool ?z_zip ?z_sorted ?z_set ?z_dict ?z_reversed ?g_GREATEST ?r_GREATEST ?g_MOST_DIVIDES ?r_MOST_DIVIDES ?g_MOST_QUESTIONS ?r_MOST_QUESTIONS ?g_MOST_WITHIN ?r_MOST_WITHIN ?g_MOST_LEAST ?r_MOST_LEAST ?g_MOST_REST ?r_MOST_REST
    (case a0 => k_is)
    (case l0 => k_is)
    (case c0 => k_is)
    (case k0 => k_is)
    (case a1 => k_is)
    (case l1 => k_is)
    (case c1 => k_is)
    (case k1 => k_is)
    (case a2 => k_is)
    (case l2 => k_is)
    (case c2 => k_is)
    (case k2 => k_is)
    (case a3 => k_is)
    (case l3 => k_is)
    (case c3 => k_is)
    (case k3 => k_is)
    (case a4 => k_is)
    (case l4 => k_is)
    (case c4 => k_is)
    (case k4 => k_is)
    (case a5 => k_is)
    (case l5 => k_is)
    (case c5 => k_is)
    (case k5 => k_is)
    (case a6 => k_is)
    (case l6 => k_is)
    (case c6 => k_is)
    (case k6 => k_is)
    (case a7 => k_is)
    (case l7 => k_is)
    (case c7 => k_is)
    (case k7 => k_is)
    (case a8 => k_is)
    (case l8 => k_is)
    (case c8 => k_is)
    (case k8 => k_is)
    (case a9 => k_is)
    (case l9 => k_is)
    (case c9 => k_is)
    (case k9 => k_is)
    (case a10 => k_is)
    (case l10 => k_is)
    (case c10 => k_is)
    (case k10 => k_is)
    (case a11 => k_is)
    (case l11 => k_is)
    (case c11 => k_is)
    (case k11 => k_is)
    (case a12 => k_is)
    (case l12 => k_is)
    (case c12 => k_is)
    (case k12 => k_is)
    (case a13 => k_is)
    (case l13 => k_is)
    (case c13 => k_is)
    (case k13 => k_is)
    (case a14 => k_is)
    (case l14 => k_is)
    (case c14 => k_is)
    (case k14 => k_is)
    (case a15 => k_is)
    (case l15 => k_is)
    (case c15 => k_is)
    (case k15 => k_is)
    (case a16 => k_is)
    (case l16 => k_is)
    (case c16 => k_is)
    (case k16 => k_is)
    (case a17 => k_is)
    (case l17 => k_is)
    (case c17 => k_is)
    (case k17 => k_is)
    (case a18 => k_is)
    (case l18 => k_is)
    (case c18 => k_is)
    (case k18 => k_is)
    (case a19 => k_is)
    (case l19 => k_is)
    (case c19 => k_is)
    (case k19 => k_is)
    (case a20 => k_is)
    (case l20 => k_is)
    (case c20 => k_is)
    (case k20 => k_is)
    (case a21 => k_is)
    (case l21 => k_is)
    (case c21 => k_is)
    (case k21 => k_is)
    (case a22 => k_is)
    (case l22 => k_is)
    (case c22 => k_is)
    (case k22 => k_is)
    (case a23 => k_is)
    (case l23 => k_is)
    (case c23 => k_is)
    (case k23 => k_is)
    (case a24 => k_is)
    (case l24 => k_is)
    (case c24 => k_is)
    (case k24 => k_is)
    (case a25 => k_is)
    (case l25 => k_is)
    (case c25 => k_is)
    (case k25 => k_is)
    (case a26 => k_is)
    (case l26 => k_is)
    (case c26 => k_is)
    (case k26 => k_is)
    (case a27 => k_is)
    (case l27 => k_is)
    (case c27 => k_is)
    (case k27 => k_is)
    (case a28 => k_is)
    (case l28 => k_is)
    (case c28 => k_is)
    (case k28 => k_is)
    (case a29 => k_is)
    (case l29 => k_is)
    (case c29 => k_is)
    (case k29 => k_is)
    (case a30 => k_is)
    (case l30 => k_is)
    (case c30 => k_is)
    (case k30 => k_is)
    (case a31 => k_is)
    (case l31 => k_is)
    (case c31 => k_is)
    (case k31 => k_is)
    (case a32 => k_is)
    (case l32 => k_is)
    (case c32 => k_is)
    (case k32 => k_is)
    (case a33 => k_is)
    (case l33 => k_is)
    (case c33 => k_is)
    (case k33 => k_is)
    (case a34 => k_is)
    (case l34 => k_is)
    (case c34 => k_is)
    (case k34 => k_is)
    (case a35 => k_is)
    (case l35 => k_is)
    (case c35 => k_is)
    (case k35 => k_is)
    (case z_range => k_is)
    (case z_len => k_is)
    (case z_tuple => k_is)
    (case z_list => k_is)
    (case z_max => k_is)
    (case z_min => k_is)
    (case z_sum => k_is)
    (case z_abs => k_is)
    (case z_repr => k_is)
    (case z_enumerate => k_is)
    (case z_isinstance => k_is)
    (case z_all => k_is)
    (case z_any => k_is)
    (case z_int => k_is)
    (case z_str => k_is)
    (case z_bool => k_is)
    (case z_zip => k_is)
    (case z_sorted => k_is)
    (case z_set => k_is)
    (case z_dict => k_is)
    (case z_reversed => k_is)
    (case g_GREATEST => k_is)
    (case r_GREATEST => first | exact ⟨_, rfl⟩ | rfl)
    (case g_MOST_DIVIDES => k_is)
    (case r_MOST_DIVIDES => first | exact ⟨_, rfl⟩ | rfl)
    (case g_MOST_QUESTIONS => k_is)
    (case r_MOST_QUESTIONS => first | exact ⟨_, rfl⟩ | rfl)
    (case g_MOST_WITHIN => k_is)
    (case r_MOST_WITHIN => first | exact ⟨_, rfl⟩ | rfl)
    (case g_MOST_LEAST => k_is)
    (case r_MOST_LEAST => first | exact ⟨_, rfl⟩ | rfl)
    (case g_MOST_REST => k_is)
    (case r_MOST_REST => first | exact ⟨_, rfl⟩ | rfl)
