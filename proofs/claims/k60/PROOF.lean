import PyProof.Rows.All
import Wide.All
import OpenK.AllK
import Wide.FinOn
import Lean
import PyProof.EqAt
import PyProof.EqKinds
import PyProof.TupleCall
import PySem.Challenge.RW_passersby_k60_forms_and_facts_of_any_thi
set_option Elab.async false
set_option linter.all false
set_option maxRecDepth 100000
/-! THE HAND LAYER, for ints, bools, texts, own classes, LISTS and tuples (index, slices, in, append, pop ..), calls, loops. Paste it whole ahead of your own text; what your proof does not reach may be deleted. -/
namespace L2
open PySem PySem.Spec PyProof.Rows

/-- a key: an int or a str -/
abbrev Key := Sum Int Str
def keyIs : Key → Value → Bool
  | .inl k, v => Value.isInt k v
  | .inr x, v => Value.isStrOf x v
def keyH (w : World) : Key → Int
  | .inl k => hashInt k
  | .inr x => hashStr w x
theorem keyIs_shape : ∀ {k : Key} {v : Value}, keyIs k v = true → (∃ i t, k = Sum.inl i ∧ v = Value.int i t) ∨ (∃ x t, k = Sum.inr x ∧ v = Value.str x t)
  | .inl i, v, h => by
    obtain ⟨t, e⟩ := Value.isInt_shape (k := i) (v := v) h
    exact .inl ⟨i, t, rfl, e⟩
  | .inr x, v, h => by
    obtain ⟨t, e⟩ := Value.isStrOf_shape (x := x) (v := v) h
    exact .inr ⟨x, t, rfl, e⟩
theorem keyIs_int (i : Int) (t : Tok) : keyIs (.inl i) (.int i t) = true := by simp [keyIs, Value.isInt]
theorem keyIs_str (x : Str) (t : Tok) : keyIs (.inr x) (.str x t) = true := by simp [keyIs, Value.isStrOf]
theorem key_ll (a b : Int) : decide ((Sum.inl a : Key) = Sum.inl b) = (a == b) := by
  by_cases e : a = b
  · subst e; simp
  · have h : ¬ (Sum.inl a : Key) = Sum.inl b := fun q => e (Sum.inl.inj q)
    rw [decide_eq_false h]
    exact (beq_eq_false_iff_ne.mpr e).symm
theorem key_rr (a b : Str) : decide ((Sum.inr a : Key) = Sum.inr b) = decide (a = b) := by
  by_cases e : a = b
  · subst e; simp
  · have h : ¬ (Sum.inr a : Key) = Sum.inr b := fun q => e (Sum.inr.inj q)
    rw [decide_eq_false h, decide_eq_false e]
theorem key_lr (a : Int) (b : Str) : decide ((Sum.inl a : Key) = Sum.inr b) = false := decide_eq_false (fun q => nomatch q)
theorem key_rl (a : Str) (b : Int) : decide ((Sum.inr a : Key) = Sum.inl b) = false := decide_eq_false (fun q => nomatch q)

def mixKind (prog : Program) (w : World) : PySem.KeyKind prog w Key where
  is := keyIs
  hash := keyH w
  inj := fun v a b ha hb => by
    rcases keyIs_shape ha with ⟨i, t, rfl, rfl⟩ | ⟨x, t, rfl, rfl⟩
    · rcases keyIs_shape hb with ⟨j, u, rfl, e⟩ | ⟨y, u, rfl, e⟩
      · injection e with e1 _; rw [e1]
      · exact nomatch e
    · rcases keyIs_shape hb with ⟨j, u, rfl, e⟩ | ⟨y, u, rfl, e⟩
      · exact nomatch e
      · injection e with e1 _; rw [e1]
  byValue := fun k v h => by
    rcases keyIs_shape h with ⟨i, t, rfl, rfl⟩ | ⟨x, t, rfl, rfl⟩ <;> rfl
  pyHash := fun hv h => by
    rcases keyIs_shape hv with ⟨i, t, rfl, rfl⟩ | ⟨x, t, rfl, rfl⟩
    · exact wpAny_pyHash_int h
    · exact wpAny_pyHash_str h
  eqBool := fun hu hv h => by
    rcases keyIs_shape hu with ⟨i, t, rfl, rfl⟩ | ⟨x, t, rfl, rfl⟩
    · rcases keyIs_shape hv with ⟨j, u, rfl, rfl⟩ | ⟨y, u, rfl, rfl⟩
      · rw [key_ll] at h; exact wpAny_eqBool_int h
      · rw [key_lr] at h; exact SeqAt.EqAt.int_str i t y u _ _ _ _ h
    · rcases keyIs_shape hv with ⟨j, u, rfl, rfl⟩ | ⟨y, u, rfl, rfl⟩
      · rw [key_rl] at h; exact SeqAt.EqAt.str_int x t j u _ _ _ _ h
      · rw [key_rr] at h; exact wpAny_eqBool_str h
  «strs» := fun k x t v h => by
    rcases keyIs_shape h with ⟨i, u, rfl, e⟩ | ⟨y, u, rfl, e⟩
    · exact nomatch e
    · injection e with e1 _
      subst e1
      cases v <;> rfl

theorem mixKind_is (prog : Program) (w : World) (k : Key) (v : Value) : (mixKind prog w).is k v = keyIs k v := rfl
theorem mixKind_int (prog : Program) (w : World) (i : Int) (t : Tok) : (mixKind prog w).is (.inl i) (.int i t) = true := keyIs_int i t
theorem mixKind_str (prog : Program) (w : World) (x : Str) (t : Tok) : (mixKind prog w).is (.inr x) (.str x t) = true := keyIs_str x t
end L2

namespace L2
open PySem PySem.Spec PyProof.Rows

/-- a value, without the heap -/
inductive V where
  | non | bl (b : Bool) | int (i : Int) | str (x : Str) | byt (b : Array UInt8) | flt (b : UInt64) | ref (a : Addr) | ty (n : String)
  deriving DecidableEq

def RelV : V → Value → Prop
  | .non, u => u = Value.none
  | .bl b, u => u = Value.bool b
  | .int i, u => ∃ t, u = Value.int i t
  | .str x, u => ∃ t, u = Value.str x t
  | .byt b, u => ∃ t, u = Value.bytes b t
  | .flt b, u => ∃ t, u = Value.float b t
  | .ref a, u => u = Value.ref a
  | .ty n, u => u = Value.type n

abbrev Vals : List V → List Value → Prop := Paired RelV
theorem Vals.length {xs : List V} {us : List Value} (r : Vals xs us) : xs.length = us.length := Paired.length r
theorem Vals.get : ∀ {xs : List V} {us : List Value} {i : Nat} {x : V}, Vals xs us → xs[i]? = some x → ∃ u, us[i]? = some u ∧ RelV x u
  | _, _, _, _, .nil, e => by simp at e
  | _, _, 0, _, .cons r _, e => by simp at e; subst e; exact ⟨_, rfl, r⟩
  | _, _, i + 1, x, .cons _ t, e => by
    obtain ⟨u, h1, h2⟩ := Vals.get (i := i) (x := x) t (by simpa using e)
    exact ⟨u, by simpa using h1, h2⟩
theorem Vals.set {x : V} {u : Value} (r : RelV x u) : ∀ {xs : List V} {us : List Value} (i : Nat), Vals xs us → Vals (xs.set i x) (us.set i u)
  | _, _, _, .nil => .nil
  | _, _, 0, .cons _ t => .cons r t
  | _, _, i + 1, .cons q t => .cons q (Vals.set r i t)
theorem Vals.append : ∀ {xs ys : List V} {us ws : List Value}, Vals xs us → Vals ys ws → Vals (xs ++ ys) (us ++ ws)
  | _, _, _, _, .nil, s => s
  | _, _, _, _, .cons r t, s => .cons r (Vals.append t s)
theorem Vals.take : ∀ {xs : List V} {us : List Value} (n : Nat), Vals xs us → Vals (xs.take n) (us.take n)
  | _, _, 0, _ => .nil
  | _, _, _ + 1, .nil => .nil
  | _, _, n + 1, .cons r t => .cons r (Vals.take n t)
theorem Vals.drop : ∀ {xs : List V} {us : List Value} (n : Nat), Vals xs us → Vals (xs.drop n) (us.drop n)
  | _, _, 0, r => r
  | _, _, _ + 1, .nil => .nil
  | _, _, n + 1, .cons _ t => Vals.drop n t
theorem Vals.none_of : ∀ {xs : List V} {us : List Value} {i : Nat}, Vals xs us → xs[i]? = none → us[i]? = none := fun {xs us i} r e => by
  have h1 := r.length
  have h2 : xs.length ≤ i := List.getElem?_eq_none_iff.mp e
  exact List.getElem?_eq_none_iff.mpr (by omega)

def RelO : Option V → Option Value → Prop
  | some v, some u => RelV v u
  | none, none => True
  | _, _ => False
def KV {κ : Type} : List (κ × V) → List (κ × Value) → Prop := Paired fun (p : κ × V) (q : κ × Value) => p.1 = q.1 ∧ RelV p.2 q.2

/-- a key of a dict (00_mix): an int or a text -/
def kV : Key → V
  | .inl i => .int i
  | .inr x => .str x

/-- what stands at a tracked address -/
inductive HO where
  /-- a list -/
  | lst (xs : List V)
  /-- a tuple (never changes) -/
  | tup (xs : List V)
  /-- a dict whose keys are ints and texts; one whose keys are tuples of ints and texts (the empty one is both) -/
  | dK (kvs : List (Key × V)) | dT (kvs : List (List Key × V))
  /-- a set of ints: its members, its size -/
  | set (S : Int → Bool) (n : Nat)
  /-- an instance of the class at C, its dict at dx, its attributes -/
  | ins (C dx : Addr) (fs : List (Str × V))
  /-- the dict of the instance at x -/
  | own (x : Addr)
  /-- the dict of an exception -/
  | xd (fs : List (Str × V))
  /-- a bound method, f of x -/
  | met (f x : Addr)
  /-- a range object lo, lo + 1, .. below hi -/
  | rng (lo hi : Int)
  /-- a thing that is known to the object (the script; a dict while a loop walks it): read, never written while it is so -/
  | frz (o : Obj) (u : HO)
  /-- a code object's table -/
  | tbl (ps : Array Value)
  /-- any other thing, by what is true of its one object (a def of one's own: SetO a S n := HO.ext fun h => ..) -/
  | ext (φ : Heap → Prop)

abbrev Hp := Addr → Option HO
def upd (H : Hp) (a : Addr) (o : HO) : Hp := fun b => if b = a then some o else H b
theorem upd_same {H : Hp} {a : Addr} {o : HO} : upd H a o a = some o := by unfold upd; rw [if_pos rfl]
theorem upd_ne {H : Hp} {a b : Addr} {o : HO} (h : b ≠ a) : upd H a o b = H b := by unfold upd; rw [if_neg h]
theorem upd_upd {H : Hp} {a : Addr} {o u : HO} : upd (upd H a o) a u = upd H a u := by
  funext b; unfold upd; split <;> rfl
/-- two objects of different content stand apart -/
theorem ne_of {H : Hp} {a b : Addr} {o u : HO} (h : H a = some o) (h' : H b = some u) (d : o ≠ u) : a ≠ b := by
  intro e; subst e; rw [h] at h'; exact d (Option.some.inj h')
theorem ne_of_none {H : Hp} {a b : Addr} {o : HO} (h : H a = some o) (h' : H b = none) : a ≠ b := by
  intro e; subst e; rw [h] at h'; cases h'

section
variable (P : Program) (w : World)
def ObjOk (H : Hp) (h : Heap) (a : Addr) : HO → Prop
  | .lst xs => xs.length ≤ sizeLine ∧ ∃ (its : List Value) (n : Nat), Vals xs its ∧ h.get? a = some { cls := .type "list", data := .seq its.toArray n }
  | .tup xs => xs.length ≤ sizeLine ∧ ∃ its : List Value, Vals xs its ∧ IsTup h a its.toArray
  | .dK kvs => kvs.length ≤ sizeLine ∧ (a == sysModules) = false ∧ ∃ vs, KV kvs vs ∧ h.DictOf (mixKind P w) a vs
  | .dT kvs => kvs.length ≤ sizeLine ∧ (a == sysModules) = false ∧ ∃ xs : List (List Key × Addr × Value),
      Paired (fun (p : List Key × V) (q : List Key × Addr × Value) => p.1 = q.1 ∧ H q.2.1 = some (.tup (p.1.map kV)) ∧ RelV p.2 q.2.2) kvs xs ∧
      ∃ o es ep, h.get? a = some o ∧ o.ExactDict ∧ o.data = .dict es ep ∧ es.toList = xs.map (entryOfKey (tupleKind (mixKind P w))) ∧ (xs.map (·.1)).Nodup
  | .set S n => h.SetOf (intKind P w) a S n
  | .ins C dx fs => H dx = some (.own a) ∧ fs.length ≤ 1000 ∧ dx ≠ a ∧ h.get? a = some (PySem.W.instObj C dx) ∧
      ∃ mA, h.Ns1 dx mA ∧ (∀ f, RelO (fs.lookup f) (mA f)) ∧ PySem.Within mA (fs.map (·.1))
  | .own _ => ∃ o, h.get? a = some o
  | .xd fs => ∃ mA, h.Ns1 a mA ∧ ∀ f, RelO (fs.lookup f) (mA f)
  | .rng lo hi => ∃ t u v, h.get? a = some { cls := .type "range", data := .fields #[.int lo t, .int hi u, .int 1 v] }
  | .frz o u => h.get? a = some o ∧ ObjOk H h a u
  | .tbl ps => h.get? a = some { cls := .none, data := .fields ps }
  | .met f x => h.get? a = some (PySem.W.methodObj (.ref f) (.ref x))
  | .ext φ => φ h ∧ (∃ o, h.get? a = some o) ∧ ∀ h1 h2 : Heap, φ h1 → (∀ o, h1.get? a = some o → h2.get? a = some o) → φ h2
/-- the abstract heap is held -/
def HOk (H : Hp) (h : Heap) : Prop := ∀ a o, H a = some o → ObjOk P w H h a o
end

section
variable {P : Program} {w : World} {H H' : Hp} {h h' : Heap} {a : Addr} {o : HO}
theorem ObjOk.lt (x : ObjOk P w H h a o) : a < h.objs.size := by
  cases o with
  | lst xs => obtain ⟨_, _, _, _, e⟩ := x; exact Heap.lt_size e
  | tup xs => obtain ⟨_, _, _, p⟩ := x; exact p.lt
  | dK kvs => obtain ⟨_, _, _, _, o, _, _, e, _⟩ := x; exact Heap.lt_size e
  | dT kvs => obtain ⟨_, _, _, _, o, _, _, e, _⟩ := x; exact Heap.lt_size e
  | set S n => obtain ⟨o, _, _, _, e, _⟩ := x; exact Heap.lt_size e
  | ins C dx fs => obtain ⟨_, _, _, e, _⟩ := x; exact Heap.lt_size e
  | own y => obtain ⟨_, e⟩ := x; exact Heap.lt_size e
  | xd fs => obtain ⟨_, ⟨_, _, _, e, _⟩, _⟩ := x; exact Heap.lt_size e
  | rng lo hi => obtain ⟨_, _, _, e⟩ := x; exact Heap.lt_size e
  | frz ob u => obtain ⟨e, _⟩ := x; exact Heap.lt_size e
  | tbl ps => exact Heap.lt_size (show h.get? a = some _ from x)
  | met f y => exact Heap.lt_size (show h.get? a = some _ from x)
  | ext φ => obtain ⟨_, ⟨_, e⟩, _⟩ := x; exact Heap.lt_size e
theorem Paired.mapP {α β : Type} {F G : α → β → Prop} : ∀ {l₁ : List α} {l₂ : List β}, Paired F l₁ l₂ → (∀ a b, F a b → G a b) → Paired G l₁ l₂
  | _, _, .nil, _ => .nil
  | _, _, .cons r t, f => .cons (f _ _ r) (Paired.mapP t f)
theorem Paired.imp' {α β : Type} {F G : α → β → Prop} (f : ∀ a b, F a b → G a b) {l₁ : List α} {l₂ : List β} (r : Paired F l₁ l₂) : Paired G l₁ l₂ := Paired.mapP r f
/-- what an object's description leans on: its own object, its own dict, the tuples -/
theorem ObjOk.stay (x : ObjOk P w H h a o) (k : ∀ b u, (b = a ∨ H b = some (.own a)) → h.get? b = some u → h'.get? b = some u)
    (ho : ∀ b, H b = some (.own a) → H' b = some (.own a)) (ht : ∀ b xs, H b = some (.tup xs) → H' b = some (.tup xs)) : ObjOk P w H' h' a o := by
  induction o with
  | lst xs => obtain ⟨z, its, n, r, e⟩ := x; exact ⟨z, its, n, r, k _ _ (.inl rfl) e⟩
  | tup xs => obtain ⟨z, its, r, ob, e, c⟩ := x; exact ⟨z, its, r, ob, k _ _ (.inl rfl) e, c⟩
  | dK kvs => obtain ⟨z, y, vs, r, ob, es, ep, e, c⟩ := x; exact ⟨z, y, vs, r, ob, es, ep, k _ _ (.inl rfl) e, c⟩
  | dT kvs =>
    obtain ⟨z, y, xs, r, ob, es, ep, e, c⟩ := x
    exact ⟨z, y, xs, Paired.mapP r fun p q z => ⟨z.1, ht _ _ z.2.1, z.2.2⟩, ob, es, ep, k _ _ (.inl rfl) e, c⟩
  | set S n => obtain ⟨ob, es, ep, t, e, c⟩ := x; exact ⟨ob, es, ep, t, k _ _ (.inl rfl) e, c⟩
  | ins C dx fs =>
    obtain ⟨d, z, ne, e, mA, ⟨od, es, ep, e2, c⟩, r⟩ := x
    exact ⟨ho _ d, z, ne, k _ _ (.inl rfl) e, mA, ⟨od, es, ep, k _ _ (.inr d) e2, c⟩, r⟩
  | own y => obtain ⟨ob, e⟩ := x; exact ⟨ob, k _ _ (.inl rfl) e⟩
  | xd fs => obtain ⟨mA, ⟨od, es, ep, e, c⟩, r⟩ := x; exact ⟨mA, ⟨od, es, ep, k _ _ (.inl rfl) e, c⟩, r⟩
  | rng lo hi => obtain ⟨t, u, v, e⟩ := x; exact ⟨t, u, v, k _ _ (.inl rfl) e⟩
  | frz ob u ih => obtain ⟨e, q⟩ := x; exact ⟨k _ _ (.inl rfl) e, ih q⟩
  | tbl ps =>
    have e : h.get? a = some { cls := .none, data := .fields ps } := x
    show h'.get? a = some { cls := .none, data := .fields ps }
    exact k a _ (.inl rfl) e
  | met f y =>
    have e : h.get? a = some (PySem.W.methodObj (.ref f) (.ref y)) := x
    show h'.get? a = some (PySem.W.methodObj (.ref f) (.ref y))
    exact k a _ (.inl rfl) e
  | ext φ => obtain ⟨p, ⟨o, e⟩, st⟩ := x; exact ⟨st _ _ p fun o q => k _ _ (.inl rfl) q, ⟨o, k _ _ (.inl rfl) e⟩, st⟩
theorem HOk.lt (x : HOk P w H h) (e : H a = some o) : a < h.objs.size := (x a o e).lt
theorem HOk.fresh (x : HOk P w H h) (e : h.objs.size ≤ a) : H a = none := by
  cases q : H a with
  | none => rfl
  | some u => exact absurd (Nat.lt_of_lt_of_le (x.lt q) e) (Nat.lt_irrefl _)
/-- every object of the heap is kept -/
theorem HOk.kept (x : HOk P w H h) (k : ∀ b u, h.get? b = some u → h'.get? b = some u) : HOk P w H h' := fun a o e =>
  (x a o e).stay (fun b u _ q => k b u q) (fun _ q => q) fun _ _ q => q
/-- a new object is laid and tracked -/
theorem HOk.laid (x : HOk P w H h) (k : ∀ b u, h.get? b = some u → h'.get? b = some u) (hp : h.objs.size ≤ a) (new : ObjOk P w (upd H a o) h' a o) : HOk P w (upd H a o) h' := fun b u e => by
  have hn := x.fresh hp
  by_cases hb : b = a
  · subst hb; rw [upd_same] at e; cases e; exact new
  · rw [upd_ne hb] at e
    exact (x b u e).stay (fun c v _ q => k c v q) (fun c q => by rw [upd_ne (ne_of_none q hn)]; exact q) fun c xs q => by rw [upd_ne (ne_of_none q hn)]; exact q
end

/-- what may be read as u: it is u, or a known u -/
def Rd (H : Hp) (a : Addr) (u : HO) : Prop := H a = some u ∨ ∃ o, H a = some (.frz o u)
theorem Rd.of {H : Hp} {a : Addr} {u : HO} (h : H a = some u) : Rd H a u := .inl h
theorem Rd.ok {P : Program} {w : World} {H : Hp} {h : Heap} {a : Addr} {u : HO} (r : Rd H a u) (x : HOk P w H h) : ObjOk P w H h a u := by
  rcases r with r | ⟨o, r⟩
  · exact x a u r
  · obtain ⟨_, q⟩ := x a _ r
    exact q
/-- what may be written -/
def Mut : Option HO → Prop
  | some (.lst _) => True
  | some (.dK _) => True
  | some (.dT _) => True
  | some (.set _ _) => True
  | some (.ins _ _ _) => True
  | some (.ext _) => True
  | _ => False
section
variable {P : Program} {w : World} {H : Hp} {h h' : Heap} {x e : Addr} {o' : HO}
/-- the object at e is changed: x itself, or the dict of the instance x -/
theorem HOk.write (ok : HOk P w H h) (mu : Mut (H x)) (he : e = x ∨ H e = some (.own x)) (k : ∀ b u, b ≠ e → h.get? b = some u → h'.get? b = some u) (heo : ∃ u, h'.get? e = some u)
    (new : ObjOk P w (upd H x o') h' x o') : HOk P w (upd H x o') h' := fun b u q => by
  have nown : ∀ c y, H c = some (.own y) → c ≠ x := fun c y r z => by subst z; rw [r] at mu; exact mu
  have ntup : ∀ c xs, H c = some (.tup xs) → c ≠ x := fun c xs r z => by subst z; rw [r] at mu; exact mu
  by_cases hb : b = x
  · subst hb; rw [upd_same] at q; cases q; exact new
  · rw [upd_ne hb] at q
    by_cases hbe : b = e
    · have q' : H b = some (.own x) := by
        rcases he with z | z
        · exact absurd (hbe.trans z) hb
        · rw [hbe]; exact z
      rw [q] at q'; cases q'
      obtain ⟨v, hv⟩ := heo
      exact ⟨v, by rw [hbe]; exact hv⟩
    · refine (ok b u q).stay (fun c v hc r => k c v ?_ r) (fun c r => by rw [upd_ne (nown c b r)]; exact r) fun c xs r => by rw [upd_ne (ntup c xs r)]; exact r
      rcases hc with rfl | hc
      · exact hbe
      · rintro rfl
        rcases he with z | z
        · exact nown c b hc z
        · rw [hc] at z; cases z; exact hb rfl
end

/-! ### kept unless tracked; of the frames at fs (the callers') the slots may change (an exception that passes writes there); of the records at ex (iterators) nothing is said -/
structure Un (fs ex : List Addr) (H H' : Hp) (h h' : Heap) : Prop where
  keep : ∀ b o, h.get? b = some o → H b = none → b ∉ fs → b ∉ ex → h'.get? b = some o
  slot : ∀ b o, h.get? b = some o → H b = none → b ∈ fs → b ∉ ex → ∃ sl, h'.get? b = some { o with slots := sl }
  free : ∀ b o, h.get? b = some o → H b = none → b ∉ ex → H' b = none
  there : ∀ b o, h.get? b = some o → b ∉ ex → ∃ o', h'.get? b = some o'
  tups : ∀ b xs, H b = some (.tup xs) → H' b = some (.tup xs)
  frzs : ∀ b o u, H b = some (.frz o u) → H' b = some (.frz o u)
  tbls : ∀ b ps, H b = some (.tbl ps) → ∃ more, H' b = some (.tbl (ps ++ more))
section
variable {fs fs' ex ex' : List Addr} {H H1 H2 : Hp} {h h1 h2 h' : Heap} {a x e : Addr} {o : HO}
theorem Un.any (u : Un fs ex H H1 h h1) {b : Addr} {ob : Obj} (q : h.get? b = some ob) (n : H b = none) (hx : b ∉ ex) : ∃ sl, h1.get? b = some { ob with slots := sl } := by
  by_cases hb : b ∈ fs
  · exact u.slot b ob q n hb hx
  · exact ⟨ob.slots, u.keep b ob q n hb hx⟩
theorem Un.trans (a : Un fs ex H H1 h h1) (b : Un fs ex H1 H2 h1 h2) : Un fs ex H H2 h h2 where
  keep := fun c ob q n hc hx => b.keep c ob (a.keep c ob q n hc hx) (a.free c ob q n hx) hc hx
  slot := fun c ob q n hc hx => by
    obtain ⟨sl, e1⟩ := a.slot c ob q n hc hx
    obtain ⟨sl', e2⟩ := b.slot c _ e1 (a.free c ob q n hx) hc hx
    exact ⟨sl', e2⟩
  free := fun c ob q n hx => by
    obtain ⟨o', e1⟩ := a.there c ob q hx
    exact b.free c o' e1 (a.free c ob q n hx) hx
  there := fun c ob q hx => by
    obtain ⟨o', e1⟩ := a.there c ob q hx
    exact b.there c o' e1 hx
  tups := fun c xs q => b.tups c xs (a.tups c xs q)
  frzs := fun c ob xs q => b.frzs c ob xs (a.frzs c ob xs q)
  tbls := fun c ps q => by
    obtain ⟨m1, e1⟩ := a.tbls c ps q
    obtain ⟨m2, e2⟩ := b.tbls c _ e1
    exact ⟨m1 ++ m2, by rw [e2, Array.append_assoc]⟩
theorem Un.kept (k : ∀ b u, h.get? b = some u → h'.get? b = some u) : Un fs ex H H h h' :=
  ⟨fun b ob q _ _ _ => k b ob q, fun b ob q _ _ _ => ⟨ob.slots, k b ob q⟩, fun _ _ _ n _ => n, fun b ob q _ => ⟨ob, k b ob q⟩, fun _ _ q => q, fun _ _ _ q => q, fun _ ps q => ⟨#[], by rw [q]; simp⟩⟩
theorem Un.refl : Un fs ex H H h h := Un.kept fun _ _ q => q
theorem Un.laid (k : ∀ b u, h.get? b = some u → h'.get? b = some u) (hp : h.objs.size ≤ a) (hn : H a = none) : Un fs ex H (upd H a o) h h' where
  keep := fun b u q _ _ _ => k b u q
  slot := fun b u q _ _ _ => ⟨u.slots, k b u q⟩
  free := fun b u q n _ => by rw [upd_ne (Nat.ne_of_lt (Nat.lt_of_lt_of_le (Heap.lt_size q) hp))]; exact n
  there := fun b u q _ => ⟨u, k b u q⟩
  tups := fun b xs q => by rw [upd_ne (ne_of_none q hn)]; exact q
  frzs := fun b u xs q => by rw [upd_ne (ne_of_none q hn)]; exact q
  tbls := fun b ps q => ⟨#[], by rw [upd_ne (ne_of_none q hn), q]; simp⟩
theorem Un.write (mu : Mut (H x)) (he : e = x ∨ H e = some (.own x)) (k : ∀ b u, b ≠ e → h.get? b = some u → h'.get? b = some u) (heo : ∃ u, h'.get? e = some u) : Un fs ex H (upd H x o) h h' := by
  have hx : ∀ b, H b = none → b ≠ x := fun b n z => by subst z; rw [n] at mu; exact mu
  have hb : ∀ b, H b = none → b ≠ e := fun b n z => by
    subst z
    rcases he with r | r
    · exact hx b n r
    · rw [n] at r; cases r
  have hm : ∀ b u, H b = some u → ¬ Mut (some u) → b ≠ x := fun b u q nm z => by subst z; rw [q] at mu; exact nm mu
  refine ⟨fun b u q n _ _ => k b u (hb b n) q, fun b u q n _ _ => ⟨u.slots, k b u (hb b n) q⟩, fun b u q n _ => by rw [upd_ne (hx b n)]; exact n, fun b u q _ => ?_,
    fun b xs q => by rw [upd_ne (hm b _ q fun z => z)]; exact q, fun b u xs q => by rw [upd_ne (hm b _ q fun z => z)]; exact q, fun b ps q => ⟨#[], by rw [upd_ne (hm b _ q fun z => z), q]; simp⟩⟩
  by_cases hbe : b = e
  · subst hbe; exact heo
  · exact ⟨u, k b u hbe q⟩
theorem Un.mono (u : Un fs ex H H1 h h1) (hs : ∀ b ∈ fs, b ∈ fs') (hx : ∀ b ∈ ex, b ∈ ex') : Un fs' ex' H H1 h h1 :=
  ⟨fun b ob q n hb he => u.keep b ob q n (fun z => hb (hs b z)) fun z => he (hx b z), fun _ _ q n _ he => u.any q n fun z => he (hx _ z), fun b ob q n he => u.free b ob q n fun z => he (hx b z), fun b ob q he => u.there b ob q fun z => he (hx b z), u.tups, u.frzs, u.tbls⟩
end

/-! ### the heap without what is tracked -/
def trk (h : Heap) (H : Hp) : List Addr := (List.range h.objs.size).filter fun a => (H a).isSome
def hidT (h : Heap) (H : Hp) : Heap := PySem.W.hideAll h (trk h H)
theorem hidT_size (h : Heap) (H : Hp) : (hidT h H).objs.size = h.objs.size := PySem.W.hideAll_size _ _
theorem hidT_get {h : Heap} {H : Hp} {b : Addr} {o : Obj} (e : h.get? b = some o) (n : H b = none) : (hidT h H).get? b = some o :=
  PySem.W.hideAll_get _ e fun hm => by
    have q : (H b).isSome = true := (List.mem_filter.mp hm).2
    rw [n] at q; simp at q
theorem of_hidT {h : Heap} {H : Hp} {b : Addr} {o : Obj} (e : (hidT h H).get? b = some o) : h.get? b = some o ∧ H b = none := by
  have e' : h.get? b = some o := PySem.W.of_hideAll (trk h H) e
  refine ⟨e', ?_⟩
  cases q : H b with
  | none => rfl
  | some x =>
    have hm : b ∈ trk h H := List.mem_filter.mpr ⟨List.mem_range.mpr (Heap.lt_size e'), by simp [q]⟩
    have z : (hidT h H).get? b = none := PySem.W.hideAll_none (trk h H) hm
    rw [z] at e; cases e

/-! ### OpenK's ledger, filled with every new object but one -/
def allNews (g h : Heap) (L : Addr) : List (Addr × Obj) := (List.range h.objs.size).filterMap fun a => if a = L ∨ (g.get? a).isSome = true then none else (h.get? a).map fun o => (a, o)
theorem mem_allNews {g h : Heap} {L a : Addr} {o : Obj} (h1 : a ≠ L) (h2 : g.get? a = none) (h3 : h.get? a = some o) : (a, o) ∈ allNews g h L :=
  List.mem_filterMap.mpr ⟨a, List.mem_range.mpr (Heap.lt_size h3), by simp [h1, h2, h3]⟩
theorem of_mem_allNews {g h : Heap} {L : Addr} {p : Addr × Obj} (hp : p ∈ allNews g h L) : p.1 ≠ L ∧ g.get? p.1 = none ∧ h.get? p.1 = some p.2 := by
  obtain ⟨b, _, e⟩ := List.mem_filterMap.mp hp
  split at e
  · cases e
  · rename_i hn
    cases q : h.get? b with
    | none => rw [q] at e; simp at e
    | some u =>
      rw [q] at e
      simp only [Option.map_some, Option.some.injEq] at e
      subst e
      refine ⟨fun z => hn (.inl z), ?_, q⟩
      show g.get? b = none
      cases r : g.get? b with
      | none => rfl
      | some v => exact (hn (.inr (by simp [r]))).elim
def rest (g h : Heap) (L d : Addr) : List (Addr × Obj) := (allNews g h L).filter fun p => decide (p.1 ≠ d)
theorem rest_ne {g h : Heap} {L d : Addr} : ∀ p ∈ rest g h L d, p.1 ≠ d := fun p hp => of_decide_eq_true (List.mem_filter.mp hp).2
theorem mem_rest {g h : Heap} {L d a : Addr} {o : Obj} (h1 : a ≠ L) (h2 : g.get? a = none) (h3 : h.get? a = some o) (h4 : a ≠ d) : (a, o) ∈ rest g h L d :=
  List.mem_filter.mpr ⟨mem_allNews h1 h2 h3, decide_eq_true h4⟩
theorem news_all {g h : Heap} {L : Addr} : News g L h (allNews g h L) := fun p hp => let ⟨a, b, c⟩ := of_mem_allNews hp; ⟨c, a, b⟩
theorem news_at {g h : Heap} {L d : Addr} {o : Obj} (h1 : d ≠ L) (h2 : g.get? d = none) (h3 : h.get? d = some o) : News g L h ((d, o) :: rest g h L d) := fun p hp => by
  rcases List.mem_cons.mp hp with rfl | hp
  · exact ⟨h3, h1, h2⟩
  · exact news_all p (List.mem_filter.mp hp).1
/-- behind a rule that changed d alone: all else but the frame is kept -/
theorem kept_of_news {g h h' : Heap} {L d : Addr} {m : Str → Option Value} (k : ∀ b o, g.get? b = some o → h.get? b = some o) (F : Fr g L h' m) (N : News g L h' (rest g h L d)) :
    ∀ b o, b ≠ L → b ≠ d → h.get? b = some o → h'.get? b = some o := fun b o h1 h2 e => by
  cases q : g.get? b with
  | some u =>
    have := k b u q
    rw [e] at this; cases this
    exact F.keep b _ q
  | none => exact (N (b, o) (mem_rest h1 q e h2)).1
end L2

namespace L2
open PySem PySem.Spec PyProof.Rows

/-- the module's facts, over the base: the heap at the law's entry without what is tracked there -/
structure Mod (K : PySem.W.Frag) (mg : Str → Option Value) (base : Heap) : Prop where
  kin : K.In base
  glob : base.Ns mainGlobals mg
  blt : ∃ mb, base.Ns builtinsNs mb ∧ ∀ x : Str, x ≠ "__name__" → mb x = bootBuiltins x
  nolimit : base.NoLimit

/-- the context: a def's body (or a comprehension's block) running. base: fixed through the whole law; s₀, H₀: the entry; outer: the frames whose slots others may change (a def's callers); stack: all frames that run;
   ex: iterators that were made ahead of the entry and are walked here (a comprehension's); fn: the names whose cells were made at the entry (a def: all; a comprehension's block: its own); calm: not within an except suite; pn: pins that every state bears; xe: what is wanted of an exception that leaves the code -/
structure Cx where
  prog : Program
  w : World
  K : PySem.W.Frag
  mg : Str → Option Value
  base : Heap
  A : Around
  N : List Str
  s₀ : Shared
  H₀ : Hp
  env : Env
  outer : List Env
  stack : List Env
  ex : List Addr
  fn : Str → Bool
  calm : Bool
  pn : List (Addr × Obj)
  xe : Value → Shared → Prop
/-- the callers' frames -/
def frs (l : List Env) : List Addr := l.filterMap (·.frame)
abbrev Cx.fs (X : Cx) : List Addr := frs X.outer

def Vis (sc : Scope) (x : Str) : Prop := sc.names.lookup x = some .local ∨ sc.names.lookup x = some .cell ∨ sc.names.lookup x = some .free
def Loc (sc : Scope) (x : Str) : Prop := sc.names.lookup x = some .local ∨ sc.names.lookup x = some .cell
def Look (env : Env) (h : Heap) (m : Str → Option Value) (x : Str) (u : Value) : Prop :=
  (env.kindOf x = some .local ∧ m x = some u) ∨ ((env.kindOf x = some .cell ∨ env.kindOf x = some .free) ∧ ∃ c, env.cells.lookup x = some c ∧ h.IsCell c (some u))

structure Cx.Ok (X : Cx) : Prop where
  mod : Mod X.K X.mg X.base
  kind : X.env.scope.kind = .function
  glob : X.env.globals = mainGlobals
  blt : X.env.builtins = builtinsNs
  above : X.s₀.heap.objs.size ≤ X.env.locals
  inj : ∀ x y c, X.env.cells.lookup x = some c → X.env.cells.lookup y = some c → x = y
  has : ∀ x, (X.env.kindOf x = some .cell ∨ X.env.kindOf x = some .free) → ∃ c, X.env.cells.lookup x = some c
  cab : ∀ x c, X.fn x = true → X.env.cells.lookup x = some c → X.s₀.heap.objs.size ≤ c
  hd : X.calm = true → X.A.handled = none
  frames : X.A.frames = some X.stack
  stk : X.stack = X.outer ∨ (X.stack = X.env :: X.outer ∧ X.env.frame = some X.env.locals)
  exf : ∀ b ∈ X.ex, b ≠ X.env.locals ∧ ∀ x c, X.env.cells.lookup x = some c → c ≠ b
  bs : ∀ b o, X.base.get? b = some o → X.s₀.heap.get? b = some o ∧ X.H₀ b = none
  bsz : X.base.objs.size ≤ X.s₀.heap.objs.size
  noex : ∀ b o, X.base.get? b = some o → b ∉ X.ex
  exfs : ∀ b ∈ X.ex, b ∉ X.fs
  funs : X.s₀.heap.FunFrames X.base X.outer
  frf : ∀ b ∈ X.fs, X.H₀ b = none

structure Inv (X : Cx) (pins : List (Addr × Obj)) (σ : List (Option V)) (H : Hp) (s : Shared) : Prop where
  ok : X.Ok
  os : s.os = X.s₀.os
  bare : AllBare s.gens
  base : Un X.fs X.ex X.H₀ H X.s₀.heap s.heap
  loc : ∃ m, s.heap.Ns X.env.locals m ∧ ∀ (i : Nat) (x : Str) (v : V), X.N[i]? = some x → σ[i]? = some (some v) → Vis X.env.scope x → ∃ u, RelV v u ∧ Look X.env s.heap m x u
  cell : ∀ x c, X.env.cells.lookup x = some c → ∃ v, s.heap.IsCell c v
  free : H X.env.locals = none
  freeC : ∀ x c, X.env.cells.lookup x = some c → H c = none
  pin : ∀ p ∈ X.pn ++ pins, s.heap.get? p.1 = some p.2 ∧ H p.1 = none ∧ p.1 ≠ X.env.locals ∧ p.1 ∉ X.fs ∧ ∀ v, p.2.data ≠ .cell v
  hok : HOk X.prog X.w H s.heap
  len : σ.length = X.N.length

section
variable {X : Cx} {pins : List (Addr × Obj)} {σ : List (Option V)} {H H' : Hp} {s : Shared} {h' : Heap}

theorem Cx.Ok.nofr (ok : X.Ok) {b : Addr} {o : Obj} (e : X.base.get? b = some o) : b ∉ X.fs := fun hb => by
  have := (ok.funs.mem hb).1
  rw [e] at this; cases this
theorem Inv.bs (I : Inv X pins σ H s) : ∀ b o, X.base.get? b = some o → s.heap.get? b = some o ∧ H b = none := fun b o e =>
  ⟨I.base.keep b o (I.ok.bs b o e).1 (I.ok.bs b o e).2 (I.ok.nofr e) (I.ok.noex b o e), I.base.free b o (I.ok.bs b o e).1 (I.ok.bs b o e).2 (I.ok.noex b o e)⟩
theorem Inv.bk (I : Inv X pins σ H s) : ∀ b o, X.base.get? b = some o → s.heap.get? b = some o := fun b o e => (I.bs b o e).1
theorem Inv.mod (I : Inv X pins σ H s) : Mod X.K X.mg X.base := I.ok.mod
theorem Inv.kIn (I : Inv X pins σ H s) : X.K.In s.heap := I.ok.mod.kin.keeps I.bk
theorem Inv.nolimit (I : Inv X pins σ H s) : s.heap.NoLimit := I.ok.mod.nolimit.keeps I.bk
/-- the frame over the base: for OpenK's rules (K.In X.base is I.mod.kin) -/
theorem Inv.fr (I : Inv X pins σ H s) : ∃ m, Fr X.base X.env.locals s.heap m :=
  let ⟨m, hn, _⟩ := I.loc
  ⟨m, hn, I.bk, Nat.le_trans I.ok.bsz I.ok.above⟩
theorem Inv.lt (I : Inv X pins σ H s) : X.env.locals < s.heap.objs.size := let ⟨_, hn, _⟩ := I.loc; hn.lt
theorem Inv.sz (I : Inv X pins σ H s) : X.s₀.heap.objs.size ≤ s.heap.objs.size := Nat.le_trans I.ok.above (Nat.le_of_lt I.lt)
theorem Inv.nofs (I : Inv X pins σ H s) {a : Addr} (h : s.heap.objs.size ≤ a) : a ∉ X.fs := fun hb => by
  obtain ⟨_, o, ho, _⟩ := I.ok.funs.mem hb
  exact absurd (Nat.lt_of_lt_of_le (Heap.lt_size ho) (Nat.le_trans I.sz h)) (Nat.lt_irrefl _)
theorem Inv.cne (I : Inv X pins σ H s) : ∀ x c, X.env.cells.lookup x = some c → c ≠ X.env.locals := fun x c e z => by
  obtain ⟨v, o, ho, hd⟩ := I.cell x c e
  obtain ⟨m, ⟨o', es, ep, ho', hd', _⟩, _⟩ := I.loc
  rw [z, ho'] at ho; cases ho; rw [hd'] at hd; cases hd
theorem Inv.funs (I : Inv X pins σ H s) : s.heap.FunFrames X.base X.outer := by
  have all : ∀ (l : List Env), (∀ b ∈ frs l, b ∈ X.fs) → X.s₀.heap.FunFrames X.base l → s.heap.FunFrames X.base l := by
    intro l
    induction l with
    | nil => intro _ _; trivial
    | cons env r ih =>
      intro hs hl
      obtain ⟨hk, ⟨L, o, hf, hn, ho, hd⟩, hr⟩ := hl
      have hL : L ∈ X.fs := hs L (by unfold frs; rw [List.filterMap_cons, hf]; exact List.mem_cons_self)
      obtain ⟨sl, e⟩ := I.base.slot L o ho (I.ok.frf L hL) hL fun z => I.ok.exfs L z hL
      exact ⟨hk, ⟨L, _, hf, hn, e, hd⟩, ih (fun b hb => hs b (by unfold frs; rw [List.filterMap_cons, hf]; exact List.mem_cons_of_mem _ hb)) hr⟩
  exact all X.outer (fun _ hb => hb) I.ok.funs

/-- the frames that run, for a call -/
theorem Inv.stack (I : Inv X pins σ H s) : s.heap.FunFrames X.base X.stack := by
  rcases I.ok.stk with e | ⟨e, hf⟩
  · rw [e]; exact I.funs
  · rw [e]
    obtain ⟨m, hn, _⟩ := I.loc
    refine .cons (by rw [I.ok.kind]; decide) hf hn ?_ I.funs
    exact Heap.get?_none_of_le (Nat.le_trans I.ok.bsz I.ok.above)
theorem Inv.stkSub (I : Inv X pins σ H s) : ∀ b ∈ frs X.stack, b ∈ X.env.locals :: X.fs := fun b hb => by
  rcases I.ok.stk with e | ⟨e, hf⟩
  · rw [e] at hb; exact List.mem_cons_of_mem _ hb
  · rw [e] at hb
    unfold frs at hb
    rw [List.filterMap_cons, hf] at hb
    exact hb
theorem Inv.stkFree (I : Inv X pins σ H s) : ∀ b ∈ frs X.stack, H b = none := fun b hb => by
  rcases List.mem_cons.mp (I.stkSub b hb) with e | hb
  · rw [e]; exact I.free
  · obtain ⟨_, o, ho, _⟩ := I.ok.funs.mem hb
    exact I.base.free b o ho (I.ok.frf b hb) fun z => I.ok.exfs b z hb

/-- THE STEP: the untracked objects but the frame and the records at ch are kept (the callers' frames up to slots), the frame's map is kept, the new abstract heap is held -/
theorem Inv.step {g' : Array GenState} {t' : Nat} {d' : Drawn} {ch : List Addr} (I : Inv X pins σ H s)
    (hch : ∀ b ∈ ch, (b ∈ X.ex ∨ X.s₀.heap.objs.size ≤ b) ∧ b ≠ X.env.locals ∧ (∀ x c, X.env.cells.lookup x = some c → c ≠ b) ∧ ∀ p ∈ X.pn ++ pins, p.1 ≠ b)
    (keep : ∀ b o, b ≠ X.env.locals → b ∉ X.fs → b ∉ ch → s.heap.get? b = some o → H b = none → h'.get? b = some o)
    (slot : ∀ b o, b ≠ X.env.locals → b ∈ X.fs → b ∉ ch → s.heap.get? b = some o → H b = none → ∃ sl, h'.get? b = some { o with slots := sl }) (free : ∀ b o, b ∉ ch → s.heap.get? b = some o → H b = none → H' b = none)
    (there : ∀ b o, b ∉ ch → s.heap.get? b = some o → ∃ o', h'.get? b = some o')
    (tups : ∀ b xs, H b = some (.tup xs) → H' b = some (.tup xs)) (frzs : ∀ b o u, H b = some (.frz o u) → H' b = some (.frz o u)) (tbls : ∀ b ps, H b = some (.tbl ps) → ∃ more, H' b = some (.tbl (ps ++ more)))
    (ns : ∀ m, s.heap.Ns X.env.locals m → h'.Ns X.env.locals m) (hok : HOk X.prog X.w H' h') (hg : AllBare g') :
    Inv X pins σ H' { s with heap := h', gens := g', drawn := d', toks := t' } := by
  have neL : ∀ b o, X.s₀.heap.get? b = some o → b ≠ X.env.locals := fun b o e => Nat.ne_of_lt (Nat.lt_of_lt_of_le (Heap.lt_size e) I.ok.above)
  have neC : ∀ b o, X.s₀.heap.get? b = some o → b ∉ X.ex → b ∉ ch := fun b o e hx hb => by
    rcases (hch b hb).1 with z | z
    · exact hx z
    · exact absurd (Nat.lt_of_lt_of_le (Heap.lt_size e) z) (Nat.lt_irrefl _)
  have cellK : ∀ x c, X.env.cells.lookup x = some c → ∀ v, s.heap.IsCell c v → h'.IsCell c v := fun x c e v ⟨o, ho, hd⟩ => by
    have nch : c ∉ ch := fun z => (hch c z).2.2.1 x c e rfl
    by_cases hc : c ∈ X.fs
    · obtain ⟨sl, q⟩ := slot c o (I.cne x c e) hc nch ho (I.freeC x c e)
      exact ⟨_, q, hd⟩
    · exact ⟨o, keep c o (I.cne x c e) hc nch ho (I.freeC x c e), hd⟩
  refine ⟨I.ok, I.os, hg, ⟨fun b o e n hb hx => ?_, fun b o e n hb hx => ?_, fun b o e n hx => ?_, fun b o e hx => ?_, fun b xs e => tups b xs (I.base.tups b xs e), fun b o xs e => frzs b o xs (I.base.frzs b o xs e), fun b ps e => ?_⟩, ?_, fun x c e => ?_, ?_, fun x c e => ?_, fun p hp => ?_, hok, I.len⟩
  · exact keep b o (neL b o e) hb (neC b o e hx) (I.base.keep b o e n hb hx) (I.base.free b o e n hx)
  · obtain ⟨sl, e1⟩ := I.base.slot b o e n hb hx
    obtain ⟨sl', e2⟩ := slot b _ (neL b o e) hb (neC b o e hx) e1 (I.base.free b o e n hx)
    exact ⟨sl', e2⟩
  · obtain ⟨o', e1⟩ := I.base.there b o e hx
    exact free b o' (neC b o e hx) e1 (I.base.free b o e n hx)
  · obtain ⟨o', e1⟩ := I.base.there b o e hx
    exact there b o' (neC b o e hx) e1
  · obtain ⟨m1, e1⟩ := I.base.tbls b ps e
    obtain ⟨m2, e2⟩ := tbls b _ e1
    exact ⟨m1 ++ m2, by rw [e2, Array.append_assoc]⟩
  · obtain ⟨m, hn, hl⟩ := I.loc
    refine ⟨m, ns m hn, fun i x v e1 e2 e3 => ?_⟩
    obtain ⟨u, r, l⟩ := hl i x v e1 e2 e3
    refine ⟨u, r, ?_⟩
    rcases l with l | ⟨k, c, e, z⟩
    · exact .inl l
    · exact .inr ⟨k, c, e, cellK x c e _ z⟩
  · obtain ⟨v, z⟩ := I.cell x c e
    exact ⟨v, cellK x c e v z⟩
  · obtain ⟨m, ⟨o, _, _, ho, _⟩, _⟩ := I.loc
    exact free _ o (fun z => (hch _ z).2.1 rfl) ho I.free
  · obtain ⟨v, o, ho, hd⟩ := I.cell x c e
    exact free c o (fun z => (hch c z).2.2.1 x c e rfl) ho (I.freeC x c e)
  · obtain ⟨e, n, ne, nf, d⟩ := I.pin p hp
    have nch : p.1 ∉ ch := fun z => (hch p.1 z).2.2.2 p hp rfl
    exact ⟨keep p.1 p.2 ne nf nch e n, free p.1 p.2 nch e n, ne, nf, d⟩
/-- .. where the frame's own object is kept too -/
theorem Inv.un {t' : Nat} (I : Inv X pins σ H s) (u : Un X.fs [] H H' s.heap h') (hok : HOk X.prog X.w H' h') : Inv X pins σ H' { s with heap := h', toks := t' } := by
  obtain ⟨m, ⟨o, es, ep, ho, r⟩, _⟩ := id I.loc
  obtain ⟨sl, hL⟩ := u.any ho I.free (by simp)
  exact I.step (g' := s.gens) (d' := s.drawn) (ch := []) (fun _ z => nomatch z) (fun b o _ hb _ e n => u.keep b o e n hb (by simp)) (fun b o _ hb _ e n => u.slot b o e n hb (by simp)) (fun b o _ e n => u.free b o e n (by simp)) (fun b o _ e => u.there b o e (by simp)) u.tups u.frzs u.tbls (fun m' hm => by
    obtain ⟨o', es', ep', ho', r'⟩ := hm
    rw [ho] at ho'; cases ho'
    exact ⟨_, es', ep', hL, r'⟩) hok I.bare
/-- behind a call (or a comprehension's block): the slots of this frame may have changed too, the records at ch may have turned -/
theorem Inv.call {g' : Array GenState} {t' : Nat} {d' : Drawn} {ch : List Addr} (I : Inv X pins σ H s) (u : Un (frs X.stack) ch H H' s.heap h') (hok : HOk X.prog X.w H' h') (hg : AllBare g')
    (hch : ∀ b ∈ ch, (b ∈ X.ex ∨ X.s₀.heap.objs.size ≤ b) ∧ b ≠ X.env.locals ∧ (∀ x c, X.env.cells.lookup x = some c → c ≠ b) ∧ ∀ p ∈ X.pn ++ pins, p.1 ≠ b) :
    Inv X pins σ H' { s with heap := h', gens := g', drawn := d', toks := t' } := by
  obtain ⟨m, ⟨o, es, ep, ho, r⟩, _⟩ := id I.loc
  obtain ⟨sl, hL⟩ := u.any ho I.free fun z => (hch _ z).2.1 rfl
  exact I.step (ch := ch) hch (fun b o hL hb hc e n => u.keep b o e n (fun z => (List.mem_cons.mp (I.stkSub b z)).elim hL hb) hc) (fun b o _ _ hc e n => u.any e n hc) (fun b o hc e n => u.free b o e n hc) (fun b o hc e => u.there b o e hc) u.tups u.frzs u.tbls (fun m' hm => by
    obtain ⟨o', es', ep', ho', r'⟩ := hm
    rw [ho] at ho'; cases ho'
    exact ⟨_, es', ep', hL, r'⟩) hok hg
/-- an untracked record of ours (an iterator) has turned -/
theorem Inv.turned {t' : Nat} {it : Addr} (I : Inv X pins σ H s) (k : ∀ b o, b ≠ it → s.heap.get? b = some o → h'.get? b = some o) (hn : H it = none) (hL : it ≠ X.env.locals)
    (h1 : it ∈ X.ex ∨ X.s₀.heap.objs.size ≤ it) (h2 : ∀ x c, X.env.cells.lookup x = some c → c ≠ it) (h3 : ∀ p ∈ X.pn ++ pins, p.1 ≠ it) : Inv X pins σ H { s with heap := h', toks := t' } := by
  have nit : ∀ b u, H b = some u → b ≠ it := fun b u e z => by rw [z, hn] at e; cases e
  refine I.step (g' := s.gens) (d' := s.drawn) (ch := [it]) (fun b hb => ?_) (fun b o _ _ hc e _ => k b o (fun z => hc (by simp [z])) e) (fun b o _ _ hc e _ => ⟨o.slots, k b o (fun z => hc (by simp [z])) e⟩) (fun _ _ _ _ n => n)
    (fun b o hc e => ⟨o, k b o (fun z => hc (by simp [z])) e⟩) (fun _ _ e => e) (fun _ _ _ e => e) (fun b ps e => ⟨#[], by rw [e]; simp⟩) (fun m hm => ?_) (fun b u e => ?_) I.bare
  · have e : b = it := by simpa using hb
    subst e
    exact ⟨h1, hL, h2, h3⟩
  · obtain ⟨o, es, ep, ho, r⟩ := hm
    exact ⟨o, es, ep, k _ o (Ne.symm hL) ho, r⟩
  · refine (I.hok b u e).stay (fun c v hc q => k c v ?_ q) (fun _ q => q) fun _ _ q => q
    rcases hc with z | z
    · rw [z]; exact nit b u e
    · exact nit c _ z
theorem Inv.tok (I : Inv X pins σ H s) (t : Nat) : Inv X pins σ H { s with toks := t } := I.un (h' := s.heap) (t' := t) Un.refl I.hok
/-- all objects kept -/
theorem Inv.kept {t' : Nat} (I : Inv X pins σ H s) (k : ∀ b u, s.heap.get? b = some u → h'.get? b = some u) : Inv X pins σ H { s with heap := h', toks := t' } := I.un (Un.kept k) (I.hok.kept k)
/-- a new object laid and tracked -/
theorem Inv.laid {a : Addr} {o : HO} {t' : Nat} (I : Inv X pins σ H s) (k : ∀ b u, s.heap.get? b = some u → h'.get? b = some u) (hp : s.heap.objs.size ≤ a) (new : ObjOk X.prog X.w (upd H a o) h' a o) :
    Inv X pins σ (upd H a o) { s with heap := h', toks := t' } := I.un (Un.laid k hp (I.hok.fresh hp)) (I.hok.laid k hp new)
/-- an object written -/
theorem Inv.write {x e : Addr} {o : HO} {t' : Nat} (I : Inv X pins σ H s) (mu : Mut (H x)) (he : e = x ∨ H e = some (.own x)) (k : ∀ b u, b ≠ e → s.heap.get? b = some u → h'.get? b = some u) (heo : ∃ u, h'.get? e = some u)
    (new : ObjOk X.prog X.w (upd H x o) h' x o) : Inv X pins σ (upd H x o) { s with heap := h', toks := t' } := I.un (Un.write mu he k heo) (I.hok.write mu he k heo new)
/-- forgetting slots, pins -/
theorem Inv.weak {σ' : List (Option V)} (I : Inv X pins σ H s) (hl : σ'.length = σ.length) (w : ∀ (i : Nat) v, σ'[i]? = some (some v) → σ[i]? = some (some v)) : Inv X pins σ' H s :=
  ⟨I.ok, I.os, I.bare, I.base, let ⟨m, hn, hl'⟩ := I.loc; ⟨m, hn, fun i x v e1 e2 e3 => hl' i x v e1 (w i v e2) e3⟩, I.cell, I.free, I.freeC, I.pin, I.hok, hl.trans I.len⟩
theorem Inv.pins_of {pins' : List (Addr × Obj)} (I : Inv X pins σ H s) (h : ∀ p ∈ pins', s.heap.get? p.1 = some p.2 ∧ H p.1 = none ∧ p.1 ≠ X.env.locals ∧ p.1 ∉ X.fs ∧ ∀ v, p.2.data ≠ .cell v) : Inv X pins' σ H s :=
  ⟨I.ok, I.os, I.bare, I.base, I.loc, I.cell, I.free, I.freeC, fun p hp => (List.mem_append.mp hp).elim (fun z => I.pin p (List.mem_append_left _ z)) (h p), I.hok, I.len⟩

theorem nodup_ix {N : List Str} (hN : N.Nodup) {i j : Nat} {x : Str} (a : N[i]? = some x) (b : N[j]? = some x) : i = j := by
  obtain ⟨h1, e1⟩ := List.getElem?_eq_some_iff.mp a
  obtain ⟨h2, e2⟩ := List.getElem?_eq_some_iff.mp b
  exact (List.getElem_inj hN).mp (e1.trans e2.symm)

/-- a name is stored; what changed -/
theorem store_ok2 {M : Model} {A : Around} {E : Value → Shared → Prop} {i : Nat} {x : Str} {v : V} {u : Value} {Q : Unit → Shared → Prop} (I : Inv X pins σ H s) (hN : X.N.Nodup) (hi : X.N[i]? = some x) (hx : Loc X.env.scope x) (r : RelV v u)
    (h : ∀ s', Inv X pins (σ.set i (some v)) H s' → (∃ a, Heap.SameBut a s.heap s'.heap ∧ (a = X.env.locals ∨ X.env.cells.lookup x = some a)) → Q () s') (hf : X.fn x = true ∨ X.env.scope.names.lookup x = some .local := by first | exact .inl rfl | exact .inr rfl | assumption) : wpAny M A (storeName X.env x u) Q E s := by
  obtain ⟨m, hn, hl⟩ := id I.loc
  have hcls : (X.env.scope.kind == .class || (X.env.scope.kind == .module && X.env.locals != X.env.globals)) = false := by rw [I.ok.kind]; rfl
  have hiσ : i < σ.length := by rw [I.len]; exact (List.getElem?_eq_some_iff.mp hi).1
  have cne := I.cne
  have tracked : ∀ {a : Addr} {h' : Heap}, (∃ o, s.heap.get? a = some o ∧ H a = none) → Heap.SameBut a s.heap h' → HOk X.prog X.w H h' := fun {a h'} ha hs b ob e => by
    obtain ⟨_, _, hfree⟩ := ha
    refine (I.hok b ob e).stay (fun c w' hc q => (hs.2 c ?_).trans q) (fun _ q => q) fun _ _ q => q
    rintro rfl
    rcases hc with rfl | hc
    · rw [hfree] at e; cases e
    · rw [hfree] at hc; cases hc
  rcases hx with hk | hk
  · refine wpAny_storeName_local hk hn (fun h' hn' hs => ?_) hcls
    obtain ⟨oL, _, _, hoL, _⟩ := id hn
    refine h _ ⟨I.ok, I.os, I.bare, ⟨fun b o e n hb hx => ?_, fun b o e n hb hx => ?_, I.base.free, fun b o e hx => ?_, I.base.tups, I.base.frzs, I.base.tbls⟩, ⟨_, hn', fun j y v' e1 e2 e3 => ?_⟩, fun y c e => ?_, I.free, I.freeC, fun p hp => ?_, tracked ⟨oL, hoL, I.free⟩ hs, by simpa using I.len⟩ ⟨_, hs, .inl rfl⟩
    · exact (hs.2 b (Nat.ne_of_lt (Nat.lt_of_lt_of_le (Heap.lt_size e) I.ok.above))).trans (I.base.keep b o e n hb hx)
    · obtain ⟨sl, e1⟩ := I.base.slot b o e n hb hx
      exact ⟨sl, (hs.2 b (Nat.ne_of_lt (Nat.lt_of_lt_of_le (Heap.lt_size e) I.ok.above))).trans e1⟩
    · obtain ⟨o', e1⟩ := I.base.there b o e hx
      exact ⟨o', (hs.2 b (Nat.ne_of_lt (Nat.lt_of_lt_of_le (Heap.lt_size e) I.ok.above))).trans e1⟩
    · by_cases hj : j = i
      · subst hj
        rw [hi] at e1; cases e1
        rw [List.getElem?_set_self hiσ] at e2
        cases e2
        exact ⟨u, r, .inl ⟨hk, by simp⟩⟩
      · rw [List.getElem?_set_ne (Ne.symm hj)] at e2
        obtain ⟨u', r', q⟩ := hl j y v' e1 e2 e3
        refine ⟨u', r', ?_⟩
        rcases q with ⟨k, e⟩ | ⟨k, c, e, z⟩
        · refine .inl ⟨k, ?_⟩
          have : y ≠ x := fun e => hj (nodup_ix hN e1 (e ▸ hi))
          simp [this, e]
        · exact .inr ⟨k, c, e, z.sameBut hs (cne y c e)⟩
    · obtain ⟨w', z⟩ := I.cell y c e
      exact ⟨w', z.sameBut hs (cne y c e)⟩
    · obtain ⟨e, n, ne, nf, d⟩ := I.pin p hp
      exact ⟨(hs.2 p.1 ne).trans e, n, ne, nf, d⟩
  · have hfn : X.fn x = true := by
      rcases hf with z | z
      · exact z
      · rw [z] at hk; cases hk
    obtain ⟨c, hc⟩ := I.ok.has x (.inl hk)
    obtain ⟨w', z⟩ := I.cell x c hc
    refine wpAny_storeName_cell I.ok.kind hk hc z (fun h' hc' hs => ?_)
    obtain ⟨oc, hoc, hocd⟩ := id z
    refine h { s with heap := h' } ⟨I.ok, I.os, I.bare, ⟨fun b o e n hb hx => ?_, fun b o e n hb hx => ?_, I.base.free, fun b o e hx => ?_, I.base.tups, I.base.frzs, I.base.tbls⟩, ⟨m, hn.sameBut hs (Ne.symm (cne x c hc)), fun j y v' e1 e2 e3 => ?_⟩, fun y c' e => ?_, I.free, I.freeC, fun p hp => ?_, tracked ⟨oc, hoc, I.freeC x c hc⟩ hs, by simpa using I.len⟩ ⟨c, hs, .inr hc⟩
    · exact (hs.2 b (Nat.ne_of_lt (Nat.lt_of_lt_of_le (Heap.lt_size e) (I.ok.cab x c hfn hc)))).trans (I.base.keep b o e n hb hx)
    · obtain ⟨sl, e1⟩ := I.base.slot b o e n hb hx
      exact ⟨sl, (hs.2 b (Nat.ne_of_lt (Nat.lt_of_lt_of_le (Heap.lt_size e) (I.ok.cab x c hfn hc)))).trans e1⟩
    · obtain ⟨o', e1⟩ := I.base.there b o e hx
      exact ⟨o', (hs.2 b (Nat.ne_of_lt (Nat.lt_of_lt_of_le (Heap.lt_size e) (I.ok.cab x c hfn hc)))).trans e1⟩
    · by_cases hj : j = i
      · subst hj
        rw [hi] at e1; cases e1
        rw [List.getElem?_set_self hiσ] at e2
        cases e2
        exact ⟨u, r, .inr ⟨.inl hk, c, hc, hc'⟩⟩
      · rw [List.getElem?_set_ne (Ne.symm hj)] at e2
        obtain ⟨u', r', q⟩ := hl j y v' e1 e2 e3
        refine ⟨u', r', ?_⟩
        rcases q with q | ⟨k, c', e, z'⟩
        · exact .inl q
        · refine .inr ⟨k, c', e, z'.sameBut hs ?_⟩
          rintro rfl
          exact hj (nodup_ix hN e1 (I.ok.inj _ _ _ e hc ▸ hi))
    · by_cases hcc : c' = c
      · subst hcc; exact ⟨_, hc'⟩
      · obtain ⟨w2, z2⟩ := I.cell y c' e
        exact ⟨w2, z2.sameBut hs hcc⟩
    · obtain ⟨e, n, ne, nf, d⟩ := I.pin p hp
      refine ⟨(hs.2 p.1 ?_).trans e, n, ne, nf, d⟩
      intro q
      rw [q, hoc] at e
      have q' : oc = p.2 := Option.some.inj e
      exact d w' (by rw [← q']; exact hocd)
theorem store_ok {M : Model} {A : Around} {E : Value → Shared → Prop} {i : Nat} {x : Str} {v : V} {u : Value} {Q : Unit → Shared → Prop} (I : Inv X pins σ H s) (hN : X.N.Nodup) (hi : X.N[i]? = some x) (hx : Loc X.env.scope x) (r : RelV v u)
    (h : ∀ s', Inv X pins (σ.set i (some v)) H s' → Q () s') (hf : X.fn x = true ∨ X.env.scope.names.lookup x = some .local := by first | exact .inl rfl | exact .inr rfl | assumption) : wpAny M A (storeName X.env x u) Q E s :=
  store_ok2 I hN hi hx r (fun s' I' _ => h s' I') hf
/-- behind a call or a block, the state as it is -/
theorem Inv.call' {s' : Shared} {ch : List Addr} (I : Inv X pins σ H s) (ho : s'.os = s.os) (u : Un (frs X.stack) ch H H' s.heap s'.heap) (hok : HOk X.prog X.w H' s'.heap) (hg : AllBare s'.gens)
    (hch : ∀ b ∈ ch, (b ∈ X.ex ∨ X.s₀.heap.objs.size ≤ b) ∧ b ≠ X.env.locals ∧ (∀ x c, X.env.cells.lookup x = some c → c ≠ b) ∧ ∀ p ∈ X.pn ++ pins, p.1 ≠ b) : Inv X pins σ H' s' := by
  obtain ⟨h', g', d', t', o'⟩ := s'
  have e : o' = s.os := ho
  subst e
  exact I.call (g' := g') (t' := t') (d' := d') u hok hg hch
end

/-! ### the judgements -/
/-- an exception: its class, its own dict's address (where it has one), the abstract heap behind it -/
abbrev XK := Value → Option Addr → Hp → Prop
abbrev St := List (Option V)
abbrev VK := V → Hp → Prop
/-- an expression's reading; a test's; an argument list's -/
abbrev TE := St → Hp → VK → Prop
abbrev TT := St → Hp → (Bool → Hp → Prop) → Prop
abbrev TA := St → Hp → (List V → Hp → Prop) → Prop
/-- what is wanted behind a statement -/
structure Ends where
  nx : St → Hp → Prop
  rt : VK
  bk : St → Hp → Prop := fun _ _ => False
  ct : St → Hp → Prop := fun _ _ => False
abbrev TS := Ends → St → Hp → Prop

def EP (X : Cx) (pins : List (Addr × Obj)) (σ : St) (Q : VK) (u : Value) (s' : Shared) : Prop := ∃ v H', Inv X pins σ H' s' ∧ RelV v u ∧ Q v H'
def TP (X : Cx) (pins : List (Addr × Obj)) (σ : St) (Q : Bool → Hp → Prop) (b : Bool) (s' : Shared) : Prop := ∃ H', Inv X pins σ H' s' ∧ Q b H'
def AP (X : Cx) (pins : List (Addr × Obj)) (σ : St) (Q : List V → Hp → Prop) (us : List Value) (s' : Shared) : Prop := ∃ vs H', Inv X pins σ H' s' ∧ Vals vs us ∧ Q vs H'
def SP (X : Cx) (pins : List (Addr × Obj)) (D : Ends) (f : Flow) (s' : Shared) : Prop :=
  match f with
  | .next => ∃ σ' H', Inv X pins σ' H' s' ∧ D.nx σ' H'
  | .brk => ∃ σ' H', Inv X pins σ' H' s' ∧ D.bk σ' H'
  | .cont => ∃ σ' H', Inv X pins σ' H' s' ∧ D.ct σ' H'
  | .ret u => ∃ v σ' H', Inv X pins σ' H' s' ∧ RelV v u ∧ D.rt v H'

def PE (X : Cx) (e : Expr) (t : TE) : Prop :=
  ∀ (pins : List (Addr × Obj)) (s : Shared) (σ : St) (H : Hp) (Q : VK), Inv X pins σ H s → t σ H Q → wpAny (model X.prog X.w) X.A (eval e X.env) (EP X pins σ Q) X.xe s
def PT (X : Cx) (e : Expr) (t : TT) : Prop :=
  ∀ (pins : List (Addr × Obj)) (s : Shared) (σ : St) (H : Hp) (Q : Bool → Hp → Prop), Inv X pins σ H s → t σ H Q → wpAny (model X.prog X.w) X.A (isTrue e X.env (eval e X.env)) (TP X pins σ Q) X.xe s
/-- a test whatever its 'whole' is (and, or) -/
def PW (X : Cx) (e : Expr) (t : TT) : Prop :=
  ∀ (whole : Sem Value) (pins : List (Addr × Obj)) (s : Shared) (σ : St) (H : Hp) (Q : Bool → Hp → Prop), Inv X pins σ H s → t σ H Q → wpAny (model X.prog X.w) X.A (isTrue e X.env whole) (TP X pins σ Q) X.xe s
theorem PW.pt {X : Cx} {e : Expr} {t : TT} (h : PW X e t) : PT X e t := h _
/-- an argument list (no star), from the left -/
def PA (X : Cx) (es : List Expr) (t : TA) : Prop :=
  ∀ (pos : Pos) (pins : List (Addr × Obj)) (s : Shared) (σ : St) (H : Hp) (Q : List V → Hp → Prop), Inv X pins σ H s → t σ H Q → wpAny (model X.prog X.w) X.A (spliced (backTo pos (starEach es X.env))) (AP X pins σ Q) X.xe s
def PS (X : Cx) (st : Stmt) (t : TS) : Prop :=
  ∀ (pins : List (Addr × Obj)) (s : Shared) (σ : St) (H : Hp) (D : Ends), Inv X pins σ H s → t D σ H → wpAny (model X.prog X.w) X.A (exec st X.env) (SP X pins D) X.xe s
def PSs (X : Cx) (st : List Stmt) (t : TS) : Prop :=
  ∀ (pins : List (Addr × Obj)) (s : Shared) (σ : St) (H : Hp) (D : Ends), Inv X pins σ H s → t D σ H → wpAny (model X.prog X.w) X.A (execs st X.env) (SP X pins D) X.xe s
/-- weaken the end -/
theorem thn {α : Type} {t : Sem α} {Q Q' : α → Shared → Prop} {M : Model} {A : Around} {E : Value → Shared → Prop} {s : Shared} (h : wpAny M A t Q E s) (hQ : ∀ a s, Q a s → Q' a s) : wpAny M A t Q' E s := wpAny_mono h hQ fun _ _ x => x
end L2

namespace L2
open PySem PySem.Spec PyProof.Rows
section
variable {X : Cx}

/-- two expressions in a row -/
theorem bin {a b : Expr} {ta tb : TE} (ha : PE X a ta) (hb : PE X b tb) {pins : List (Addr × Obj)} {s : Shared} {σ : St} {H : Hp} {R : V → V → Hp → Prop} (I : Inv X pins σ H s) (h : ta σ H fun x H1 => tb σ H1 fun y H2 => R x y H2)
    {α : Type} {Q : α → Shared → Prop} {f : Value → Value → Sem α}
    (hf : ∀ v u s2 x y H2, Inv X pins σ H2 s2 → RelV x v → RelV y u → R x y H2 → wpAny (model X.prog X.w) X.A (f v u) Q X.xe s2) :
    wpAny (model X.prog X.w) X.A (eval a X.env) (fun v s₁ => wpAny (model X.prog X.w) X.A (eval b X.env) (fun u s₂ => wpAny (model X.prog X.w) X.A (f v u) Q X.xe s₂) X.xe s₁) X.xe s := by
  refine thn (ha pins s σ H _ I h) fun v s1 ⟨x, H1, I1, r1, q1⟩ => ?_
  refine thn (hb pins s1 σ H1 _ I1 q1) fun u s2 ⟨y, H2, I2, r2, q2⟩ => ?_
  exact hf v u s2 x y H2 I2 r1 r2 q2

/-! ### names and constants -/
def tVar (i : Nat) : TE := fun σ H Q => ∃ v, σ[i]? = some (some v) ∧ Q v H
def tC (v : V) : TE := fun _ H Q => Q v H
theorem pe_var {i : Nat} {x : Str} {pos : Pos} (hN : X.N[i]? = some x) (hv : Vis X.env.scope x) (hd : (x == ("__debug__" : Str)) = false := by decide) (hcd : (x == ("__classdict__" : Str)) = false := by decide) : PE X (.Name x pos) (tVar i) := by
  intro pins s σ H Q I h
  obtain ⟨v, e, h⟩ := h
  obtain ⟨m, hn, hl⟩ := I.loc
  obtain ⟨u, r, l⟩ := hl i x v hN e hv
  have fin : EP X pins σ Q u s := ⟨v, H, I, r, h⟩
  rcases l with ⟨hk, hm⟩ | ⟨hk, c, hc, hcell⟩
  · exact wpAny_Name (wpAny_loadName_local I.ok.kind hk hn hm fin) hd
  · rcases hk with hk | hk
    · exact wpAny_Name (wpAny_loadName_cell I.ok.kind hk hc hcell fin) hd
    · exact wpAny_Name (wpAny_loadName_free I.ok.kind hk hc hcell fin hcd) hd
theorem pe_int {i j pos} : PE X (.Constant (.int i) j pos) (tC (.int i)) := fun _ _ _ H _ I h => wpAny_Constant_int ⟨.int i, H, I.tok _, ⟨_, rfl⟩, h⟩
theorem pe_bl {b j pos} : PE X (.Constant (.bool b) j pos) (tC (.bl b)) := fun _ _ _ H _ I h => Constant_bool ⟨.bl b, H, I, rfl, h⟩
theorem pe_non {j pos} : PE X (.Constant .none j pos) (tC .non) := fun _ _ _ H _ I h => Constant_none ⟨.non, H, I, rfl, h⟩
theorem pe_str {x j pos} : PE X (.Constant (.str x) j pos) (tC (.str x)) := fun _ _ _ H _ I h => Calls.Constant_str ⟨.str x, H, I.tok _, ⟨_, rfl⟩, h⟩

/-- a global name of the def -/
def Gl (X : Cx) (x : Str) : Prop := X.env.kindOf x = some .globalImplicit
theorem ld_glob {E : Value → Shared → Prop} {pins : List (Addr × Obj)} {s : Shared} {σ : St} {H : Hp} {x : Str} {u : Value} {pos : Pos} {Q : Value → Shared → Prop} (I : Inv X pins σ H s) (hg : Gl X x) (hm : X.mg x = some u) (h : Q u s)
    (hd : (x == ("__debug__" : Str)) = false := by decide) : wpAny (model X.prog X.w) X.A (eval (.Name x pos) X.env) Q E s :=
  Calls.Name_function_global I.ok.kind hg (Calls.loadGlobal_global (by rw [I.ok.glob]; exact I.mod.glob.keeps I.bk) hm h) hd
theorem ld_blt {E : Value → Shared → Prop} {pins : List (Addr × Obj)} {s : Shared} {σ : St} {H : Hp} {x : Str} {u : Value} {pos : Pos} {Q : Value → Shared → Prop} (I : Inv X pins σ H s) (hg : Gl X x) (hm : X.mg x = none) (hv : bootBuiltins x = some u) (h : Q u s)
    (hn : x ≠ "__name__" := by decide) (hd : (x == ("__debug__" : Str)) = false := by decide) : wpAny (model X.prog X.w) X.A (eval (.Name x pos) X.env) Q E s := by
  obtain ⟨mb, h1, h2⟩ := I.mod.blt
  exact Calls.Name_function_global I.ok.kind hg (Calls.loadGlobal_builtin (by rw [I.ok.glob]; exact I.mod.glob.keeps I.bk) hm (by rw [I.ok.blt]; exact h1.keeps I.bk) ((h2 x hn).trans hv) h) hd
/-- a module's constant, a class, a function, as a value -/
theorem pe_glob {x : Str} {v : V} {u : Value} {pos : Pos} (hg : Gl X x) (hm : X.mg x = some u) (r : RelV v u) (hd : (x == ("__debug__" : Str)) = false := by decide) : PE X (.Name x pos) (tC v) :=
  fun _ _ _ H _ I h => ld_glob I hg hm ⟨v, H, I, r, h⟩ hd
theorem pe_bltn {x : Str} {v : V} {u : Value} {pos : Pos} (hg : Gl X x) (hm : X.mg x = none) (hv : bootBuiltins x = some u) (r : RelV v u) (hn : x ≠ "__name__" := by decide) (hd : (x == ("__debug__" : Str)) = false := by decide) : PE X (.Name x pos) (tC v) :=
  fun _ _ _ H _ I h => ld_blt I hg hm hv ⟨v, H, I, r, h⟩ hn hd

/-! ### arithmetic -/
/-- two ints -/
def t2I (ta tb : TE) (k : Int → Int → Hp → Prop) : St → Hp → Prop := fun σ H => ta σ H fun x H1 => tb σ H1 fun y H2 => ∃ i j, x = .int i ∧ y = .int j ∧ k i j H2
def tAdd (ta tb : TE) : TE := fun σ H Q => t2I ta tb (fun i j H2 => Q (.int (i + j)) H2) σ H
def tSub (ta tb : TE) : TE := fun σ H Q => t2I ta tb (fun i j H2 => Q (.int (i - j)) H2) σ H
/-- the left factor below 2^64 -/
def tMul (ta tb : TE) : TE := fun σ H Q => t2I ta tb (fun i j H2 => (-(2 ^ 64) < i ∧ i < 2 ^ 64) ∧ Q (.int (i * j)) H2) σ H
variable {a b : Expr} {ta tb : TE} {pos : Pos}
theorem pe_add (ha : PE X a ta) (hb : PE X b tb) : PE X (.BinOp a .Add b pos) (tAdd ta tb) := by
  intro pins s σ H Q I h
  refine wpAny_BinOp (bin ha hb I h fun v u s2 x y H2 I2 rx ry q => ?_)
  obtain ⟨i, j, rfl, rfl, q⟩ := q
  obtain ⟨t, rfl⟩ := rx
  obtain ⟨t', rfl⟩ := ry
  exact add_int ⟨.int _, H2, I2.tok _, ⟨_, rfl⟩, q⟩
theorem pe_sub (ha : PE X a ta) (hb : PE X b tb) : PE X (.BinOp a .Sub b pos) (tSub ta tb) := by
  intro pins s σ H Q I h
  refine wpAny_BinOp (bin ha hb I h fun v u s2 x y H2 I2 rx ry q => ?_)
  obtain ⟨i, j, rfl, rfl, q⟩ := q
  obtain ⟨t, rfl⟩ := rx
  obtain ⟨t', rfl⟩ := ry
  exact sub_int ⟨.int _, H2, I2.tok _, ⟨_, rfl⟩, q⟩
theorem pe_mul (ha : PE X a ta) (hb : PE X b tb) : PE X (.BinOp a .Mult b pos) (tMul ta tb) := by
  intro pins s σ H Q I h
  refine wpAny_BinOp (bin ha hb I h fun v u s2 x y H2 I2 rx ry q => ?_)
  obtain ⟨i, j, rfl, rfl, ⟨q1, q2⟩, q⟩ := q
  obtain ⟨t, rfl⟩ := rx
  obtain ⟨t', rfl⟩ := ry
  exact mul_int ⟨.int _, H2, I2.tok _, ⟨_, rfl⟩, q⟩ (.of_left (intBits_le_64 q1 q2))

/-! ### comparisons -/
def PC (X : Cx) (op : CmpOp) (a b : Expr) (t : TE) : Prop :=
  ∀ (pins : List (Addr × Obj)) (s : Shared) (σ : St) (H : Hp) (Q : VK), Inv X pins σ H s → t σ H Q →
    wpAny (model X.prog X.w) X.A (eval a X.env) (fun v s₁ => wpAny (model X.prog X.w) X.A (eval b X.env) (fun u s₂ => wpAny (model X.prog X.w) X.A (compareOp op v u) (EP X pins σ Q) X.xe s₂) X.xe s₁) X.xe s
theorem nobehind (b : Expr) {op : CmpOp} (h : op ≠ .In) (h2 : op ≠ .NotIn) : behindInMarks op b = false := by
  have e1 : (op == CmpOp.In) = false := by cases op <;> first | rfl | exact absurd rfl h
  have e2 : (op == CmpOp.NotIn) = false := by cases op <;> first | rfl | exact absurd rfl h2
  cases b <;> simp [behindInMarks, e1, e2]
def tCmp (p : Int → Int → Bool) (ta tb : TE) : TE := fun σ H Q => t2I ta tb (fun i j H2 => Q (.bl (p i j)) H2) σ H
abbrev tLt : TE → TE → TE := tCmp fun i j => decide (i < j)
abbrev tLe : TE → TE → TE := tCmp fun i j => decide (i ≤ j)
abbrev tGt : TE → TE → TE := tCmp fun i j => decide (j < i)
abbrev tGe : TE → TE → TE := tCmp fun i j => decide (j ≤ i)
abbrev tEqI : TE → TE → TE := tCmp fun i j => decide (i = j)
abbrev tNeI : TE → TE → TE := tCmp fun i j => !decide (i = j)
/-- a comparison of two ints, by its rule -/
theorem pc_int {op : CmpOp} {p : Int → Int → Bool} (ha : PE X a ta) (hb : PE X b tb)
    (rule : ∀ (i j : Int) (t u : Tok) (Q : Value → Shared → Prop) (s : Shared), Q (.bool (p i j)) s → wpAny (model X.prog X.w) X.A (compareOp op (.int i t) (.int j u)) Q X.xe s) : PC X op a b (tCmp p ta tb) := by
  intro pins s σ H Q I h
  refine bin ha hb I h fun v u s2 x y H2 I2 rx ry q => ?_
  obtain ⟨i, j, rfl, rfl, q⟩ := q
  obtain ⟨t, rfl⟩ := rx
  obtain ⟨t', rfl⟩ := ry
  exact rule i j t t' _ s2 ⟨.bl _, H2, I2, rfl, q⟩
theorem pc_lt (ha : PE X a ta) (hb : PE X b tb) : PC X .Lt a b (tLt ta tb) := pc_int ha hb fun _ _ _ _ _ _ h => lt_int h
theorem pc_le (ha : PE X a ta) (hb : PE X b tb) : PC X .LtE a b (tLe ta tb) := pc_int ha hb fun _ _ _ _ _ _ h => le_int h
theorem pc_gt (ha : PE X a ta) (hb : PE X b tb) : PC X .Gt a b (tGt ta tb) := pc_int ha hb fun _ _ _ _ _ _ h => gt_int h
theorem pc_ge (ha : PE X a ta) (hb : PE X b tb) : PC X .GtE a b (tGe ta tb) := pc_int ha hb fun _ _ _ _ _ _ h => ge_int h
theorem pc_eqI (ha : PE X a ta) (hb : PE X b tb) : PC X .Eq a b (tEqI ta tb) := pc_int ha hb fun _ _ _ _ _ _ h => eq_int (by rw [Bool.beq_eq_decide_eq]; exact h)
theorem pc_neI (ha : PE X a ta) (hb : PE X b tb) : PC X .NotEq a b (tNeI ta tb) := pc_int ha hb fun _ _ _ _ _ _ h => ne_int (by rw [bne, Bool.beq_eq_decide_eq]; exact h)
/-- is None -/
def tIsN (ta : TE) : TE := fun σ H Q => ta σ H fun x H1 => Q (.bl (decide (x = .non))) H1
def tNotN (ta : TE) : TE := fun σ H Q => ta σ H fun x H1 => Q (.bl (!decide (x = .non))) H1
theorem RelV.none_iff {x : V} {v : Value} (r : RelV x v) : (v == Value.none) = decide (x = .non) := by
  cases x with
  | non => cases r; rfl
  | bl _ => cases r; rfl
  | int _ => obtain ⟨t, rfl⟩ := r; rfl
  | str _ => obtain ⟨t, rfl⟩ := r; rfl
  | byt _ => obtain ⟨t, rfl⟩ := r; rfl
  | flt _ => obtain ⟨t, rfl⟩ := r; rfl
  | ref _ => cases r; rfl
  | ty _ => cases r; rfl
theorem pc_isN {j pos'} (ha : PE X a ta) : PC X .Is a (.Constant .none j pos') (tIsN ta) := by
  intro pins s σ H Q I h
  refine thn (ha pins s σ H _ I h) fun v s1 ⟨x, H1, I1, r1, q1⟩ => ?_
  exact Constant_none (is_none_gen ⟨.bl _, H1, I1, by rw [r1.none_iff]; rfl, q1⟩)
theorem pc_notN {j pos'} (ha : PE X a ta) : PC X .IsNot a (.Constant .none j pos') (tNotN ta) := by
  intro pins s σ H Q I h
  refine thn (ha pins s σ H _ I h) fun v s1 ⟨x, H1, I1, r1, q1⟩ => ?_
  exact Constant_none (isnot_none_gen ⟨.bl _, H1, I1, by rw [r1.none_iff]; rfl, q1⟩)
/-- a comparison as a value, as a test -/
def tB (t : TE) : TT := fun σ H Q => t σ H fun x H1 => ∃ c, x = .bl c ∧ Q c H1
theorem pe_cmp {op : CmpOp} {t : TE} (h : PC X op a b t) (h1 : behindInMarks op b = false := by first | exact nobehind _ (by decide) (by decide) | rfl) : PE X (.Compare a [op] [b] pos) t := fun pins s σ H Q I hw => wpAny_Compare1 (h pins s σ H Q I hw) h1
theorem pt_cmp {op : CmpOp} {t : TE} (h : PC X op a b t) (h1 : behindInMarks op b = false := by first | exact nobehind _ (by decide) (by decide) | rfl) : PT X (.Compare a [op] [b] pos) (tB t) := by
  intro pins s σ H Q I hw
  refine wpAny_isTrue_Compare1 (thn (h pins s σ H _ I hw) fun v s1 h1 => thn h1 fun u s2 h2 => thn h2 fun c s3 ⟨x, H1, I1, r1, q1⟩ => ?_) h1
  obtain ⟨d, rfl, q⟩ := q1
  cases r1
  exact wpAny_truthy_bool ⟨H1, I1, q⟩
/-- an expression whose value is a bool, as a test -/
theorem pt_val {e : Expr} {t : TE} (h : PE X e t) (he : ∀ whole, isTrue e X.env whole = (do let v ← whole; standAt e.pos; holding [v] (truthy v)) := by intro _; rfl) : PT X e (tB t) := by
  intro pins s σ H Q I hw
  refine isTrue_plain (thn (h pins s σ H _ I hw) fun v s1 ⟨x, H1, I1, r1, q1⟩ => ?_) (he _)
  obtain ⟨d, rfl, q⟩ := q1
  cases r1
  exact wpAny_truthy_bool ⟨H1, I1, q⟩

/-! ### and, or, not -/
variable {tA tB' : TT} {rest : List Expr}
def tAnd (t u : TT) : TT := fun σ H Q => t σ H fun c H1 => if c = true then u σ H1 Q else Q false H1
def tOr (t u : TT) : TT := fun σ H Q => t σ H fun c H1 => if c = true then Q true H1 else u σ H1 Q
def tNot (t : TT) : TT := fun σ H Q => t σ H fun c H1 => Q (!c) H1
theorem pw_and1 (ha : PT X a tA) : PW X (.BoolOp .And [a] pos) tA := by
  intro wh pins s σ H Q I h
  refine isTrue_and (thn (ha pins s σ H Q I h) fun c s1 e => ?_)
  cases c with
  | true => exact isTrue_and_nil e
  | false => exact e
theorem pw_or1 (ha : PT X a tA) : PW X (.BoolOp .Or [a] pos) tA := by
  intro wh pins s σ H Q I h
  refine isTrue_or (thn (ha pins s σ H Q I h) fun c s1 e => ?_)
  cases c with
  | false => exact isTrue_or_nil e
  | true => exact e
theorem pw_and (ha : PT X a tA) (hb : PW X (.BoolOp .And (b :: rest) pos) tB') : PW X (.BoolOp .And (a :: b :: rest) pos) (tAnd tA tB') := by
  intro wh pins s σ H Q I h
  refine isTrue_and (thn (ha pins s σ H _ I h) fun c s1 ⟨H1, I1, q1⟩ => ?_)
  cases c with
  | true => exact hb wh pins s1 σ H1 Q I1 q1
  | false => exact ⟨H1, I1, q1⟩
theorem pw_or (ha : PT X a tA) (hb : PW X (.BoolOp .Or (b :: rest) pos) tB') : PW X (.BoolOp .Or (a :: b :: rest) pos) (tOr tA tB') := by
  intro wh pins s σ H Q I h
  refine isTrue_or (thn (ha pins s σ H _ I h) fun c s1 ⟨H1, I1, q1⟩ => ?_)
  cases c with
  | true => exact ⟨H1, I1, q1⟩
  | false => exact hb wh pins s1 σ H1 Q I1 q1
theorem pt_not (ha : PT X a tA) : PT X (.UnaryOp .Not a pos) (tNot tA) := by
  intro pins s σ H Q I h
  exact isTrue_not (ha pins s σ H (fun c H1 => Q (!c) H1) I h)
/-- .. as values (bools) -/
def tAndV (ta tb : TE) : TE := fun σ H Q => ta σ H fun x H1 => ∃ c, x = .bl c ∧ if c = true then tb σ H1 Q else Q (.bl false) H1
def tOrV (ta tb : TE) : TE := fun σ H Q => ta σ H fun x H1 => ∃ c, x = .bl c ∧ if c = true then Q (.bl true) H1 else tb σ H1 Q
def tNotV (ta : TE) : TE := fun σ H Q => ta σ H fun x H1 => ∃ c, x = .bl c ∧ Q (.bl (!c)) H1
theorem pe_one {op} {t : TE} (h : PE X a t) : PE X (.BoolOp op [a] pos) t := fun pins s σ H Q I hw => BoolOp_one (h pins s σ H Q I hw)
theorem pe_and (ha : PE X a ta) (hb : PE X (.BoolOp .And (b :: rest) pos) tb) : PE X (.BoolOp .And (a :: b :: rest) pos) (tAndV ta tb) := by
  intro pins s σ H Q I h
  refine BoolOp_and (thn (ha pins s σ H _ I h) fun v s1 ⟨x, H1, I1, r1, q1⟩ => ?_)
  obtain ⟨c, rfl, q1⟩ := q1
  cases r1
  refine wpAny_truthy_bool ?_
  cases c with
  | true => exact hb pins s1 σ H1 Q I1 q1
  | false => exact ⟨.bl false, H1, I1, rfl, q1⟩
theorem pe_or (ha : PE X a ta) (hb : PE X (.BoolOp .Or (b :: rest) pos) tb) : PE X (.BoolOp .Or (a :: b :: rest) pos) (tOrV ta tb) := by
  intro pins s σ H Q I h
  refine BoolOp_or (thn (ha pins s σ H _ I h) fun v s1 ⟨x, H1, I1, r1, q1⟩ => ?_)
  obtain ⟨c, rfl, q1⟩ := q1
  cases r1
  refine wpAny_truthy_bool ?_
  cases c with
  | false => exact hb pins s1 σ H1 Q I1 q1
  | true => exact ⟨.bl true, H1, I1, rfl, q1⟩
theorem pe_not (ha : PE X a ta) : PE X (.UnaryOp .Not a pos) (tNotV ta) := by
  intro pins s σ H Q I h
  refine UnaryOp_ (thn (ha pins s σ H _ I h) fun v s1 ⟨x, H1, I1, r1, q1⟩ => ?_)
  obtain ⟨c, rfl, q1⟩ := q1
  cases r1
  exact not_of (wpAny_truthy_bool ⟨.bl (!c), H1, I1, rfl, q1⟩)
/-- a if t else b -/
def tIf (t : TT) (ta tb : TE) : TE := fun σ H Q => t σ H fun c H1 => if c = true then ta σ H1 Q else tb σ H1 Q
theorem pe_ifExp {c : Expr} (hc : PT X c tA) (ha : PE X a ta) (hb : PE X b tb) : PE X (.IfExp c a b pos) (tIf tA ta tb) := by
  intro pins s σ H Q I h
  refine wpAny_IfExp (thn (hc pins s σ H _ I h) fun d s1 ⟨H1, I1, q1⟩ => ?_)
  cases d with
  | true => exact ha pins s1 σ H1 Q I1 q1
  | false => exact hb pins s1 σ H1 Q I1 q1
end
end L2

namespace L2
open PySem PySem.Spec PyProof.Rows

/-! ### a list, a tuple that is read: tracked, frozen, or an object of the module -/
def SqL (K : PySem.W.Frag) (H : Hp) (a : Addr) (xs : List V) : Prop :=
  Rd H a (.lst xs) ∨
    ∃ (o : Obj) (its : Array Value) (n : Nat), K.lookup a = some o ∧ o.cls = .type "list" ∧ o.dict = none ∧ o.data = .seq its n ∧ its.size ≤ sizeLine ∧ Vals xs its.toList
def SqT (K : PySem.W.Frag) (H : Hp) (a : Addr) (xs : List V) : Prop :=
  Rd H a (.tup xs) ∨
    ∃ (o : Obj) (its : Array Value) (n : Nat), K.lookup a = some o ∧ o.cls = .type "tuple" ∧ o.data = .seq its n ∧ its.size ≤ sizeLine ∧ Vals xs its.toList
def absV : Value → Option V
  | .none => some .non
  | .bool b => some (.bl b)
  | .int i _ => some (.int i)
  | .str x _ => some (.str x)
  | .bytes b _ => some (.byt b)
  | .float b _ => some (.flt b)
  | .ref a => some (.ref a)
  | .type n => some (.ty n)
  | _ => none
theorem RelV.abs {x : V} {u : Value} (r : RelV x u) : absV u = some x := by
  cases x with
  | non => cases r; rfl
  | bl _ => cases r; rfl
  | int _ => obtain ⟨t, rfl⟩ := r; rfl
  | str _ => obtain ⟨t, rfl⟩ := r; rfl
  | byt _ => obtain ⟨t, rfl⟩ := r; rfl
  | flt _ => obtain ⟨t, rfl⟩ := r; rfl
  | ref _ => cases r; rfl
  | ty _ => cases r; rfl
theorem RelV.inj {x y : V} {u : Value} (r : RelV x u) (q : RelV y u) : x = y := Option.some.inj (r.abs.symm.trans q.abs)
theorem Vals.inj : ∀ {xs ys : List V} {us : List Value}, Vals xs us → Vals ys us → xs = ys
  | _, _, _, .nil, .nil => rfl
  | _, _, _, .cons r t, .cons r' t' => by rw [r.inj r', Vals.inj t t']
section
variable {X : Cx} {pins : List (Addr × Obj)} {σ : St} {H : Hp} {s : Shared} {a : Addr} {xs ys : List V}
theorem SqL.of {K : PySem.W.Frag} (h : H a = some (.lst xs)) : SqL K H a xs := .inl (.inl h)
theorem SqT.of {K : PySem.W.Frag} (h : H a = some (.tup xs)) : SqT K H a xs := .inl (.inl h)
theorem Inv.list (I : Inv X pins σ H s) (h : SqL X.K H a xs) : ∃ its : List Value, Vals xs its ∧ PlainL s.heap a its.toArray ∧ xs.length ≤ sizeLine := by
  rcases h with h | ⟨o, its, n, hk, hc, hd, hs, hz, r⟩
  · obtain ⟨z, its, n, r, e⟩ := h.ok I.hok
    exact ⟨its, r, ⟨_, n, e, rfl, rfl, rfl⟩, z⟩
  · refine ⟨its.toList, r, ⟨o, n, I.kIn a o hk, hc, hd, by simpa using hs⟩, ?_⟩
    have e := r.length
    simp only [Array.length_toList] at e
    omega
theorem Inv.tuple (I : Inv X pins σ H s) (h : SqT X.K H a xs) : ∃ its : List Value, Vals xs its ∧ IsTup s.heap a its.toArray ∧ xs.length ≤ sizeLine := by
  rcases h with h | ⟨o, its, n, hk, hc, hs, hz, r⟩
  · obtain ⟨z, its, r, p⟩ := h.ok I.hok
    exact ⟨its, r, p, z⟩
  · refine ⟨its.toList, r, ⟨o, I.kIn a o hk, hc, n, by simpa using hs⟩, ?_⟩
    have e := r.length
    simp only [Array.length_toList] at e
    omega
theorem Inv.list_inj (I : Inv X pins σ H s) (h : SqL X.K H a xs) (h' : SqL X.K H a ys) : xs = ys := by
  obtain ⟨its, r, ⟨o, n, e, _, _, d⟩, _⟩ := I.list h
  obtain ⟨its', r', ⟨o', n', e', _, _, d'⟩, _⟩ := I.list h'
  rw [e] at e'; cases e'
  rw [d] at d'
  injection d' with d1 _
  have : its = its' := by simpa using congrArg Array.toList d1
  subst this
  exact r.inj r'
theorem Inv.tuple_inj (I : Inv X pins σ H s) (h : SqT X.K H a xs) (h' : SqT X.K H a ys) : xs = ys := by
  obtain ⟨its, r, ⟨o, e, _, n, d⟩, _⟩ := I.tuple h
  obtain ⟨its', r', ⟨o', e', _, n', d'⟩, _⟩ := I.tuple h'
  rw [e] at e'; cases e'
  rw [d] at d'
  injection d' with d1 _
  have : its = its' := by simpa using congrArg Array.toList d1
  subst this
  exact r.inj r'
end

/-! ### another wish about exceptions -/
abbrev Cx.wish (X : Cx) (E : Value → Shared → Prop) : Cx := { X with xe := E }
/-- no exception leaves -/
abbrev Cx.nox (X : Cx) : Cx := X.wish fun _ _ => False
theorem Cx.Ok.wish {X : Cx} (ok : X.Ok) (E : Value → Shared → Prop) : (X.wish E).Ok :=
  ⟨ok.mod, ok.kind, ok.glob, ok.blt, ok.above, ok.inj, ok.has, ok.cab, ok.hd, ok.frames, ok.stk, ok.exf, ok.bs, ok.bsz, ok.noex, ok.exfs, ok.funs, ok.frf⟩
theorem Cx.Ok.unwish {X : Cx} {E : Value → Shared → Prop} (ok : (X.wish E).Ok) : X.Ok :=
  ⟨ok.mod, ok.kind, ok.glob, ok.blt, ok.above, ok.inj, ok.has, ok.cab, ok.hd, ok.frames, ok.stk, ok.exf, ok.bs, ok.bsz, ok.noex, ok.exfs, ok.funs, ok.frf⟩
section
variable {X : Cx} {pins : List (Addr × Obj)} {σ : St} {H : Hp} {s : Shared} {E : Value → Shared → Prop}
theorem Inv.wish (I : Inv X pins σ H s) (E : Value → Shared → Prop) : Inv (X.wish E) pins σ H s := ⟨I.ok.wish E, I.os, I.bare, I.base, I.loc, I.cell, I.free, I.freeC, I.pin, I.hok, I.len⟩
theorem Inv.unwish (I : Inv (X.wish E) pins σ H s) : Inv X pins σ H s := ⟨I.ok.unwish, I.os, I.bare, I.base, I.loc, I.cell, I.free, I.freeC, I.pin, I.hok, I.len⟩
theorem SP.unwish {D : Ends} {f : Flow} {s' : Shared} (h : SP (X.wish E) pins D f s') : SP X pins D f s' := by
  cases f with
  | next => obtain ⟨σ', H', I, q⟩ := h; exact ⟨σ', H', I.unwish, q⟩
  | brk => obtain ⟨σ', H', I, q⟩ := h; exact ⟨σ', H', I.unwish, q⟩
  | cont => obtain ⟨σ', H', I, q⟩ := h; exact ⟨σ', H', I.unwish, q⟩
  | ret u => obtain ⟨v, σ', H', I, r, q⟩ := h; exact ⟨v, σ', H', I.unwish, r, q⟩
theorem PE.nox {e : Expr} {t : TE} (h : PE X.nox e t) : PE X e t := fun pins s σ H Q I hw =>
  wpAny_mono (h pins s σ H Q (I.wish _) hw) (fun _ _ ⟨v, H', I', r, q⟩ => ⟨v, H', I'.unwish, r, q⟩) fun _ _ z => False.elim z
theorem PT.nox {e : Expr} {t : TT} (h : PT X.nox e t) : PT X e t := fun pins s σ H Q I hw =>
  wpAny_mono (h pins s σ H Q (I.wish _) hw) (fun _ _ ⟨H', I', q⟩ => ⟨H', I'.unwish, q⟩) fun _ _ z => False.elim z
theorem PSs.nox {st : List Stmt} {t : TS} (h : PSs X.nox st t) : PSs X st t := fun pins s σ H D I hw =>
  wpAny_mono (h pins s σ H D (I.wish _) hw) (fun _ _ q => q.unwish) fun _ _ z => False.elim z
end

/-! ### blocks and small statements -/
section
variable {X : Cx} {st : Stmt} {rest : List Stmt} {t u : TS} {e : Expr} {te : TE} {pos : Pos}
def tNext : TS := fun D σ H => D.nx σ H
def tSeq (t u : TS) : TS := fun D σ H => t { D with nx := u D } σ H
theorem pss_nil : PSs X [] tNext := fun _ _ σ H _ I h => wpAny_execs_nil ⟨σ, H, I, h⟩
theorem pss_cons (h1 : PS X st t) (h2 : PSs X rest u) : PSs X (st :: rest) (tSeq t u) := by
  intro pins s σ H D I h
  refine wpAny_execs_cons (thn (h1 pins s σ H { D with nx := u D } I h) fun f s1 q => ?_)
  cases f with
  | next =>
    obtain ⟨σ', H', I', q⟩ := q
    exact h2 pins s1 σ' H' D I' q
  | ret v => exact q
  | brk => exact q
  | cont => exact q
theorem pss_one (h1 : PS X st t) : PSs X [st] t := by
  intro pins s σ H D I h
  refine wpAny_execs_cons (thn (h1 pins s σ H D I h) fun f s1 q => ?_)
  cases f with
  | next => exact wpAny_execs_nil q
  | ret v => exact q
  | brk => exact q
  | cont => exact q
def tBreak : TS := fun D σ H => D.bk σ H
def tCont : TS := fun D σ H => D.ct σ H
theorem ps_pass : PS X (.Pass pos) tNext := fun _ _ σ H _ I h => wpAny_Pass ⟨σ, H, I, h⟩
theorem ps_break : PS X (.Break pos) tBreak := fun _ _ σ H _ I h => wpAny_Break ⟨σ, H, I, h⟩
theorem ps_continue : PS X (.Continue pos) tCont := fun _ _ σ H _ I h => wpAny_Continue ⟨σ, H, I, h⟩
/-- in a def's body nothing is shown -/
theorem Inv.quiet {pins : List (Addr × Obj)} {σ : St} {H : Hp} {s : Shared} (I : Inv X pins σ H s) : interactive X.env = false := by simp [interactive, I.ok.kind]
/-- a docstring -/
theorem ps_doc {x j pos pos'} : PS X (.Expr (.Constant (.str x) j pos) pos') tNext := fun _ s σ H _ I h => wpAny_Expr (Calls.Constant_str (show SP X _ _ .next { s with toks := s.toks + 1 } from ⟨σ, H, I.tok _, h⟩)) I.quiet
/-- an expression whose value is dropped -/
def tDrop (te : TE) : TS := fun D σ H => te σ H fun _ H1 => D.nx σ H1
theorem ps_expr (he : PE X e te) (hs : swapsWith e none pos.line X.env = pure false := by rfl) : PS X (.Expr e pos) (tDrop te) := by
  intro pins s σ H D I h
  exact wpAny_Expr_any (thn (he pins s σ H _ I h) fun v s1 ⟨x, H1, I1, r1, q1⟩ => ⟨σ, H1, I1, q1⟩) I.quiet hs
def tRet (te : TE) : TS := fun D σ H => te σ H D.rt
theorem ps_ret (he : PE X e te) : PS X (.Return (some e) pos) (tRet te) := by
  intro pins s σ H D I h
  exact wpAny_Return_some (thn (he pins s σ H _ I h) fun v s1 ⟨x, H1, I1, r1, q1⟩ => ⟨x, σ, H1, I1, r1, q1⟩)
def tRetN : TS := fun D _ H => D.rt .non H
theorem ps_retN : PS X (.Return none pos) tRetN := fun _ _ σ H _ I h => wpAny_Return_none ⟨.non, σ, H, I, rfl, h⟩
def tIfS (c : TT) (t u : TS) : TS := fun D σ H => c σ H fun b H1 => if b = true then t D σ H1 else u D σ H1
theorem ps_if {c : Expr} {a b : List Stmt} {tc : TT} (hc : PT X c tc) (ha : PSs X a t) (hb : PSs X b u) : PS X (.If c a b pos) (tIfS tc t u) := by
  intro pins s σ H D I h
  refine wpAny_If (thn (hc pins s σ H _ I h) fun d s1 ⟨H1, I1, q1⟩ => ?_)
  cases d with
  | true => exact ha pins s1 σ H1 D I1 q1
  | false => exact hb pins s1 σ H1 D I1 q1
/-- code that the proof never comes to -/
def tNever : TS := fun _ _ _ => False
theorem ps_never : PS X st tNever := fun _ _ _ _ _ _ h => h.elim
theorem pss_never {sts : List Stmt} : PSs X sts tNever := fun _ _ _ _ _ _ h => h.elim
end

/-! ### targets -/
abbrev TG := V → St → Hp → (St → Hp → Prop) → Prop
abbrev TGs := List V → St → Hp → (St → Hp → Prop) → Prop
def PG (X : Cx) (target : Expr) (t : TG) : Prop :=
  ∀ (pins : List (Addr × Obj)) (s : Shared) (σ : St) (H : Hp) (v : V) (u : Value) (Q : St → Hp → Prop), Inv X pins σ H s → RelV v u → t v σ H Q →
    wpAny (model X.prog X.w) X.A (assign target X.env u) (fun _ s' => ∃ σ' H', Inv X pins σ' H' s' ∧ Q σ' H') X.xe s
/-- several targets, one after another -/
def PGs (X : Cx) (ts : List Expr) (t : TGs) : Prop :=
  ∀ (pins : List (Addr × Obj)) (s : Shared) (σ : St) (H : Hp) (vs : List V) (us : List Value) (Q : St → Hp → Prop), Inv X pins σ H s → Vals vs us → t vs σ H Q →
    wpAny (model X.prog X.w) X.A (assignInOrder ((assignEach ts X.env).map (·.2)) us) (fun _ s' => ∃ σ' H', Inv X pins σ' H' s' ∧ Q σ' H') X.xe s
/-- o[i] = v, by values -/
abbrev TSet := V → V → V → Hp → (Hp → Prop) → Prop
def PSet (X : Cx) (t : TSet) : Prop :=
  ∀ (pins : List (Addr × Obj)) (s : Shared) (σ : St) (H : Hp) (o i v : V) (ov iv u : Value) (Q : Hp → Prop), Inv X pins σ H s → RelV o ov → RelV i iv → RelV v u → t o i v H Q →
    wpAny (model X.prog X.w) X.A (setItem ov iv u) (fun _ s' => ∃ H', Inv X pins σ H' s' ∧ Q H') X.xe s
/-- a op= b, by values -/
abbrev TIp := V → V → Hp → VK → Prop
def PIp (X : Cx) (op : Operator) (t : TIp) : Prop :=
  ∀ (pins : List (Addr × Obj)) (s : Shared) (σ : St) (H : Hp) (x y : V) (v u : Value) (Q : VK), Inv X pins σ H s → RelV x v → RelV y u → t x y H Q →
    wpAny (model X.prog X.w) X.A (inplaceOp op v u) (EP X pins σ Q) X.xe s
section
variable {X : Cx} {pos : Pos}
def gName (i : Nat) : TG := fun v σ H Q => Q (σ.set i (some v)) H
theorem pg_name {i : Nat} {x : Str} (hN : X.N.Nodup) (hi : X.N[i]? = some x) (hx : Loc X.env.scope x) (hf : X.fn x = true ∨ X.env.scope.names.lookup x = some .local := by first | exact .inl rfl | exact .inr rfl | assumption) : PG X (.Name x pos) (gName i) := by
  intro pins s σ H v u Q I r h
  exact wpAny_assign_Name (store_ok I hN hi hx r (fun s' I' => ⟨_, H, I', h⟩) hf)
def gNil : TGs := fun vs σ H Q => vs = [] ∧ Q σ H
def gCons (t : TG) (u : TGs) : TGs := fun vs σ H Q => ∃ v r, vs = v :: r ∧ t v σ H fun σ' H' => u r σ' H' Q
theorem pgs_nil : PGs X [] gNil := by
  intro pins s σ H vs us Q I r h
  obtain ⟨e, h⟩ := h
  subst e
  cases r
  exact assignInOrder_nil ⟨σ, H, I, h⟩
theorem pgs_cons {e : Expr} {es : List Expr} {t : TG} {u : TGs} (h1 : PG X e t) (h2 : PGs X es u)
    (hs : (assignEach (e :: es) X.env).map (·.2) = assign e X.env :: (assignEach es X.env).map (·.2) := by rfl) : PGs X (e :: es) (gCons t u) := by
  intro pins s σ H vs us Q I r h
  obtain ⟨v, vr, e1, h⟩ := h
  subst e1
  cases r with
  | cons r rr =>
    rw [hs]
    refine assignInOrder_cons (thn (h1 pins s σ H _ _ _ I r h) fun _ s1 ⟨σ1, H1, I1, q1⟩ => ?_)
    exact h2 pins s1 σ1 H1 _ _ Q I1 rr q1
/-- (a, b, ..) = a tuple of that length -/
def gTup (K : PySem.W.Frag) (n : Nat) (t : TGs) : TG := fun v σ H Q => ∃ a xs, v = .ref a ∧ SqT K H a xs ∧ xs.length = n ∧ t xs σ H Q
theorem pg_tup {es : List Expr} {k : Nat} {t : TGs} {n : Nat} (hc : X.calm = true) (h : PGs X es t)
    (hn : (assignEach es X.env).length = n := by rfl) (hst : (assignEach es X.env).findIdx? (·.1) = none := by rfl) : PG X (.Tuple es k pos) (gTup X.K n t) := by
  intro pins s σ H v u Q I r hw
  obtain ⟨a, xs, e1, hq, hl, hw⟩ := hw
  subst e1
  cases r
  obtain ⟨its, rv, ht, hz⟩ := I.tuple hq
  refine assign_Tuple_tuple (I.ok.hd hc) ht (by simp [hn, ← hl, rv.length]) hst fun h' hx => ?_
  have I1 : Inv X pins σ H { s with heap := h' } := I.kept (t' := s.toks) fun b o e => hx b o (Nat.ne_of_lt (Heap.lt_size e)) e
  exact h pins _ σ H xs _ Q I1 (by simpa using rv) hw
/-- o[i] = .. -/
def gSub (to ti : TE) (t : TSet) : TG := fun v σ H Q => to σ H fun o H1 => ti σ H1 fun i H2 => t o i v H2 fun H3 => Q σ H3
theorem pg_sub {o i : Expr} {to ti : TE} {t : TSet} (ho : PE X o to) (hi : PE X i ti) (hs : PSet X t)
    (ha : ∀ v, assign (.Subscript o i pos) X.env v = (do
      let ov ← holding [v] (eval o X.env)
      let iv ← holding [v, ov] (eval i X.env)
      standAt pos
      holding [v, ov, iv] (setItem ov iv v)
      release [v, ov, iv] []) := by intro _; rfl) : PG X (.Subscript o i pos) (gSub to ti t) := by
  intro pins s σ H v u Q I r h
  rw [ha]
  refine wpAny_bind (wpAny_holding (thn (ho pins s σ H _ I h) fun ov s1 ⟨x, H1, I1, r1, q1⟩ => ?_))
  refine wpAny_bind (wpAny_holding (thn (hi pins s1 σ H1 _ I1 q1) fun iv s2 ⟨y, H2, I2, r2, q2⟩ => ?_))
  refine wpAny_bind (wpAny_standAt (wpAny_bind (wpAny_holding (thn (hs pins s2 σ H2 x y v ov iv u _ I2 r1 r2 r q2) fun _ s3 ⟨H3, I3, q3⟩ => ?_))))
  exact wpAny_release ⟨σ, H3, I3, q3⟩
/-- target = value -/
def tAsg (te : TE) (g : TG) : TS := fun D σ H => te σ H fun x H1 => g x σ H1 D.nx
theorem ps_asg {tg e : Expr} {te : TE} {g : TG} (he : PE X e te) (hg : PG X tg g) (hs : swapsWithSole [tg] e pos.line X.env = pure false := by rfl) (hw : swappedStores [tg] e X.env = pure none := by rfl)
    (h1 : (assignEach [tg] X.env).map (·.2) = [assign tg X.env] := by rfl) : PS X (.Assign [tg] e pos) (tAsg te g) := by
  intro pins s σ H D I h
  refine wpAny_Assign_stores (thn (he pins s σ H _ I h) fun v s1 ⟨x, H1, I1, r1, q1⟩ => ?_) hs hw
  rw [h1]
  exact thn (hg pins s1 σ H1 x v _ I1 r1 q1) fun _ s2 q => q
/-- name = value -/
theorem ps_set {i : Nat} {x : Str} {e : Expr} {te : TE} {pos' : Pos} (hN : X.N.Nodup) (hi : X.N[i]? = some x) (hx : Loc X.env.scope x) (he : PE X e te) (hs : swapsWith e (some (.Name x pos')) pos.line X.env = pure false := by rfl) (hf : X.fn x = true ∨ X.env.scope.names.lookup x = some .local := by first | exact .inl rfl | exact .inr rfl | assumption) :
    PS X (.Assign [.Name x pos'] e pos) (tAsg te (gName i)) := by
  intro pins s σ H D I h
  refine wpAny_Assign_Name (thn (he pins s σ H _ I h) fun v s1 ⟨y, H1, I1, r1, q1⟩ => ?_) hs
  exact store_ok I1 hN hi hx r1 (fun s2 I2 => ⟨_, H1, I2, q1⟩) hf
/-- a, b = x, y with plain local names: stored from the right; the pair itself is not tracked (the opening rows as in PyProof/Rows/TupAssign.lean:23) -/
def tPar (i j : Nat) (ta : TA) : TS := fun D σ H => ta σ H fun vs H1 => ∃ v w, vs = [v, w] ∧ D.nx ((σ.set i (some v)).set j (some w)) H1
theorem ps_par {i j : Nat} {x y : Str} {a b : Expr} {ta : TA} {px py pt : Pos} {kt k2 pt2} (hc : X.calm = true) (hN : X.N.Nodup) (hi : X.N[i]? = some x) (hj : X.N[j]? = some y) (hij : i ≠ j)
    (hx : X.env.scope.names.lookup x = some .local) (hy : X.env.scope.names.lookup y = some .local) (ha : PA X [a, b] ta)
    (hw : swappedStores [.Tuple [.Name x px, .Name y py] kt pt] (.Tuple [a, b] k2 pt2) X.env = pure (some [x, y]))
    (hs : swapsWithSole [.Tuple [.Name x px, .Name y py] kt pt] (.Tuple [a, b] k2 pt2) pos.line X.env = pure false := by rfl) :
    PS X (.Assign [.Tuple [.Name x px, .Name y py] kt pt] (.Tuple [a, b] k2 pt2) pos) (tPar i j ta) := by
  intro pins s σ H D I h
  rw [exec_Assign_arm]
  refine wpAny_bind (wpAny_standAt ?_)
  rw [hs]
  refine wpAny_bind (wpAny_pure ?_)
  rw [if_neg (by decide)]
  refine wpAny_bind (Tuple_ (thn (ha _ pins s σ H _ I h) fun us s1 ⟨vs, H1, I1, r1, q1⟩ => ?_))
  obtain ⟨v, w, e1, q1⟩ := q1
  subst e1
  obtain ⟨u1, u2, rfl, rv, rw'⟩ : ∃ u1 u2, us = [u1, u2] ∧ RelV v u1 ∧ RelV w u2 := by
    cases r1 with
    | cons p q =>
      cases q with
      | cons p' q' =>
        cases q'
        exact ⟨_, _, rfl, p, p'⟩
  refine wpAny_newObj_type ?_ (by show 2 ≤ sizeLine; decide)
  have I2 : Inv X pins σ H1 { s1 with heap := s1.heap.push { cls := .type "tuple", data := .seq [u1, u2].toArray } } := I1.kept (t' := s1.toks) fun b o e => Heap.get?_push_of_some _ e
  rw [hw]
  refine wpAny_bind (wpAny_pure ?_)
  show wpAny (model X.prog X.w) X.A (do rule "assign.swapped-stores"; let items ← unpackItems (.ref s1.heap.objs.size) 2 none; assignInOrder [fun v => bindName X.env y v, fun v => bindName X.env x v] items.reverse; pure Flow.next) _ _ _
  refine wpAny_bind (wpAny_rule (wpAny_bind (unpackItems_tuple (items := #[u1, u2]) (I.ok.hd hc) (IsTup.new s1.heap _) fun h' hx' => ?_)))
  have I3 := I2.kept (h' := h') (t' := s1.toks) fun b o e => hx' b o (Nat.ne_of_lt (Heap.lt_size e)) e
  show wpAny _ _ (assignInOrder [fun v => bindName X.env y v, fun v => bindName X.env x v] [u2, u1] >>= fun _ => pure Flow.next) _ _ _
  refine wpAny_bind (assignInOrder_cons (wpAny_bindName (store_ok I3 hN hj (.inl hy) rw' (fun s2 I4 => ?_) (.inr hy))))
  refine assignInOrder_cons (wpAny_bindName (store_ok I4 hN hi (.inl hx) rv (fun s3 I5 => assignInOrder_nil (wpAny_pure ?_)) (.inr hx)))
  rw [List.set_comm _ _ (Ne.symm hij)] at I5
  exact ⟨_, H1, I5, q1⟩
/-- name op= e -/
def tAug (i : Nat) (te : TE) (ti : TIp) : TS := fun D σ H => ∃ x, σ[i]? = some (some x) ∧ te σ H fun y H1 => ti x y H1 fun z H2 => D.nx (σ.set i (some z)) H2
theorem ps_aug {i : Nat} {x : Str} {e : Expr} {te : TE} {op : Operator} {ti : TIp} {pos' : Pos} (hN : X.N.Nodup) (hi : X.N[i]? = some x) (hx : Loc X.env.scope x) (he : PE X e te) (ho : PIp X op ti) (hf : X.fn x = true ∨ X.env.scope.names.lookup x = some .local := by first | exact .inl rfl | exact .inr rfl | assumption) :
    PS X (.AugAssign (.Name x pos') op e pos) (tAug i te ti) := by
  intro pins s σ H D I h
  obtain ⟨v, e1, h⟩ := h
  obtain ⟨m, hn, hl⟩ := I.loc
  have vis : Vis X.env.scope x := by rcases hx with k | k; exact .inl k; exact .inr (.inl k)
  obtain ⟨u, r, l⟩ := hl i x v hi e1 vis
  refine wpAny_AugAssign_Name ?_
  have go : wpAny (model X.prog X.w) X.A (eval e X.env) (fun w s₂ => wpAny (model X.prog X.w) X.A (inplaceOp op u w) (fun r s₃ => wpAny (model X.prog X.w) X.A (storeName X.env x r) (fun _ => SP X pins D .next) X.xe s₃) X.xe s₂) X.xe s := by
    refine thn (he pins s σ H _ I h) fun w s1 ⟨y, H1, I1, r1, q1⟩ => ?_
    refine thn (ho pins s1 σ H1 v y u w _ I1 r r1 q1) fun z s2 ⟨zv, H2, I2, r2, q2⟩ => ?_
    exact store_ok I2 hN hi hx r2 (fun s3 I3 => ⟨_, H2, I3, q2⟩) hf
  rcases l with ⟨hk, hm⟩ | ⟨hk, c, hc, hcell⟩
  · exact wpAny_loadName_local I.ok.kind hk hn hm go
  · rcases hk with hk | hk
    · exact wpAny_loadName_cell I.ok.kind hk hc hcell go
    · rcases hx with k | k
      · have : X.env.scope.names.lookup x = some .free := hk
        rw [k] at this; cases this
      · have : X.env.scope.names.lookup x = some .free := hk
        rw [k] at this; cases this
/-- o[i] op= e -/
def tAugS (to ti te : TE) (tget : V → V → Hp → VK → Prop) (tip : TIp) (tset : TSet) : TS := fun D σ H => to σ H fun o H1 => ti σ H1 fun i H2 => tget o i H2 fun x H3 => te σ H3 fun y H4 => tip x y H4 fun z H5 => tset o i z H5 fun H6 => D.nx σ H6
/-- o[i], by values -/
def PGet (X : Cx) (t : V → V → Hp → VK → Prop) : Prop :=
  ∀ (pins : List (Addr × Obj)) (s : Shared) (σ : St) (H : Hp) (o i : V) (ov iv : Value) (Q : VK), Inv X pins σ H s → RelV o ov → RelV i iv → t o i H Q →
    wpAny (model X.prog X.w) X.A (getItem ov iv) (EP X pins σ Q) X.xe s
theorem ps_augS {o i e : Expr} {to ti te : TE} {tget : V → V → Hp → VK → Prop} {tip : TIp} {tset : TSet} {op : Operator} {tpos : Pos} (ho : PE X o to) (hi : PE X i ti) (hg : PGet X tget) (he : PE X e te) (hp : PIp X op tip) (hs : PSet X tset)
    (ha : ∀ ov iv new, augStore i ov iv new = (do holding [new, ov, iv] (setItem ov iv new); release [new, ov, iv] []; pure .next) := by intros; rfl) : PS X (.AugAssign (.Subscript o i tpos) op e pos) (tAugS to ti te tget tip tset) := by
  intro pins s σ H D I h
  refine wpAny_AugAssign_SubscriptAny (thn (ho pins s σ H _ I h) fun ov s1 ⟨x1, H1, I1, r1, q1⟩ => ?_) ha
  refine thn (hi pins s1 σ H1 _ I1 q1) fun iv s2 ⟨x2, H2, I2, r2, q2⟩ => ?_
  refine thn (hg pins s2 σ H2 x1 x2 ov iv _ I2 r1 r2 q2) fun old s3 ⟨x3, H3, I3, r3, q3⟩ => ?_
  refine thn (he pins s3 σ H3 _ I3 q3) fun v s4 ⟨x4, H4, I4, r4, q4⟩ => ?_
  refine thn (hp pins s4 σ H4 x3 x4 old v _ I4 r3 r4 q4) fun new s5 ⟨x5, H5, I5, r5, q5⟩ => ?_
  exact thn (hs pins s5 σ H5 x1 x2 x5 ov iv new _ I5 r1 r2 r5 q5) fun _ s6 ⟨H6, I6, q6⟩ => ⟨σ, H6, I6, q6⟩
/-- ints -/
def ipI (f : Int → Int → Int) : TIp := fun x y H Q => ∃ i j, x = .int i ∧ y = .int j ∧ Q (.int (f i j)) H
theorem ip_add : PIp X .Add (ipI fun i j => i + j) := by
  intro pins s σ H x y v u Q I r1 r2 h
  obtain ⟨i, j, e1, e2, q⟩ := h
  subst e1; subst e2
  obtain ⟨t, rfl⟩ := r1
  obtain ⟨t', rfl⟩ := r2
  exact iadd_int ⟨.int _, H, I.tok _, ⟨_, rfl⟩, q⟩
theorem ip_sub : PIp X .Sub (ipI fun i j => i - j) := by
  intro pins s σ H x y v u Q I r1 r2 h
  obtain ⟨i, j, e1, e2, q⟩ := h
  subst e1; subst e2
  obtain ⟨t, rfl⟩ := r1
  obtain ⟨t', rfl⟩ := r2
  exact isub_int ⟨.int _, H, I.tok _, ⟨_, rfl⟩, q⟩
end

/-! ### while -/
section
variable {X : Cx} {pos : Pos}
/-- the invariant W with its measure -/
def tWhile (c : TT) (tb : TS) : TS := fun D σ H => ∃ W : Nat → St → Hp → Prop, (∃ m, W m σ H) ∧ ∀ m σ H, W m σ H →
  c σ H fun b H1 => if b = true then ∃ N : St → Hp → Prop, (∀ σ' H', N σ' H' → ∃ m', m' < m ∧ W m' σ' H') ∧ tb { D with nx := N, ct := N, bk := D.nx } σ H1 else D.nx σ H1
theorem ps_while {c : Expr} {body : List Stmt} {tc : TT} {tb : TS} (hp : PassesOwn (model X.prog X.w) X.A X.env X.xe) (hc : PT X c tc) (hb : PSs X body tb) : PS X (.While c body [] pos) (tWhile tc tb) := by
  intro pins s σ H D I h
  obtain ⟨W, ⟨m0, w0⟩, turn⟩ := h
  refine wpAny_While (codeAny_whileLoop (fun n s' => ∃ σ' H', Inv X pins σ' H' s' ∧ W n σ' H') ?_ m0 ⟨σ, H, I, w0⟩)
  rintro n s1 ⟨σ1, H1, I1, w1⟩
  refine wpAny_passesOwn hp (thn (hc pins s1 σ1 H1 _ I1 (turn n σ1 H1 w1)) fun b s2 ⟨H2, I2, q2⟩ => ?_)
  cases b with
  | true =>
    obtain ⟨N, hN, q2⟩ := q2
    rw [if_pos rfl]
    refine wpAny_passesOwn hp (thn (hb pins s2 σ1 H2 _ I2 q2) fun f s3 q3 => ?_)
    cases f with
    | next =>
      obtain ⟨σ3, H3, I3, n3⟩ := q3
      obtain ⟨m', hm, w3⟩ := hN σ3 H3 n3
      exact ⟨m', hm, σ3, H3, I3, w3⟩
    | cont =>
      obtain ⟨σ3, H3, I3, n3⟩ := q3
      obtain ⟨m', hm, w3⟩ := hN σ3 H3 n3
      exact ⟨m', hm, σ3, H3, I3, w3⟩
    | brk => exact q3
    | ret v => exact q3
  | false =>
    rw [if_neg Bool.false_ne_true]
    exact wpAny_execs_nil ⟨σ1, H2, I2, q2⟩
end

/-! ### what a loop or a comprehension walks -/
/-- at turn i: it yields x (the heap may grow), or it stops -/
structure It where
  go : Nat → Hp → Prop
  yld : Nat → Hp → V → Hp → Prop
  stop : Nat → Hp → Prop
/-- the iterator's own objects may turn: they are not the frame's, not pinned, younger than the entry (or a comprehension's own) -/
def FpOk (X : Cx) (pins : List (Addr × Obj)) (H : Hp) (b : Addr) : Prop :=
  H b = none ∧ b ≠ X.env.locals ∧ b ∉ X.fs ∧ (b ∈ X.ex ∨ X.s₀.heap.objs.size ≤ b) ∧ (∀ x c, X.env.cells.lookup x = some c → c ≠ b) ∧ ∀ p ∈ X.pn ++ pins, p.1 ≠ b
theorem Inv.fpOk {X : Cx} {pins : List (Addr × Obj)} {σ : St} {H H' : Hp} {s : Shared} {b : Addr} (I : Inv X pins σ H s) (hb : s.heap.objs.size ≤ b) (hn : H' b = none) : FpOk X pins H' b := by
  refine ⟨hn, Nat.ne_of_gt (Nat.lt_of_lt_of_le I.lt hb), I.nofs hb, .inr (Nat.le_trans I.sz hb), fun x c e z => ?_, fun p hp z => ?_⟩
  · obtain ⟨v, q⟩ := I.cell x c e
    exact absurd (Nat.lt_of_lt_of_le q.lt (by rw [z]; exact hb)) (Nat.lt_irrefl _)
  · exact absurd (Nat.lt_of_lt_of_le (Heap.lt_size (I.pin p hp).1) (by rw [z]; exact hb)) (Nat.lt_irrefl _)
structure Turn (P : Program) (w : World) (K : PySem.W.Frag) (tg : Expr) (J : It) (fp : List Addr) (it : Addr) (tn : Nat → Heap → Prop) : Prop where
  mem : it ∈ fp
  obj : ∀ i h, tn i h → ∀ b ∈ fp, ∃ o, h.get? b = some o ∧ ∀ v, o.data ≠ .cell v
  keep : ∀ i h h', tn i h → (∀ b ∈ fp, ∀ o, h.get? b = some o → h'.get? b = some o) → tn i h'
  item : ∀ (X : Cx), X.prog = P → X.w = w → X.K = K → X.calm = true → ∀ (i : Nat) (pins : List (Addr × Obj)) (s : Shared) (σ : St) (H : Hp) (E : Value → Shared → Prop), Inv X pins σ H s → (∀ b ∈ fp, FpOk X pins H b) → tn i s.heap → J.go i H →
    wpAny (model P w) X.A (pyNext (.ref it)) (fun r s1 => ∃ u, r = some u ∧
      wpAny (model P w) X.A (letOwnedTupleGo tg (.ref it) u) (fun _ s2 => ∃ x H', Inv X pins σ H' s2 ∧ RelV x u ∧ J.yld i H x H' ∧ tn (i + 1) s2.heap ∧ ∀ b ∈ fp, H' b = none) E s1) E s
  done : ∀ (X : Cx), X.prog = P → X.w = w → X.K = K → X.calm = true → ∀ (i : Nat) (pins : List (Addr × Obj)) (s : Shared) (σ : St) (H : Hp) (E : Value → Shared → Prop), Inv X pins σ H s → (∀ b ∈ fp, FpOk X pins H b) → tn i s.heap → J.stop i H →
    wpAny (model P w) X.A (pyNext (.ref it)) (fun r s1 => r = none ∧ Inv X pins σ H s1) E s
  self : ∀ (A : Around) (i : Nat) (s : Shared) (Q : Value → Shared → Prop) (E : Value → Shared → Prop), tn i s.heap → Q (.ref it) s → wpAny (model P w) A (pyIter (.ref it)) Q E s
abbrev TI := St → Hp → (It → Hp → Prop) → Prop
/-- an iterator has come -/
def PIE (X : Cx) (pins : List (Addr × Obj)) (σ : St) (tg : Expr) (R : It → Hp → Prop) (itv : Value) (s2 : Shared) : Prop :=
  ∃ (it : Addr) (fp : List Addr) (tn : Nat → Heap → Prop) (J : It) (H' : Hp), itv = .ref it ∧ Inv X pins σ H' s2 ∧ Turn X.prog X.w X.K tg J fp it tn ∧ tn 0 s2.heap ∧ (∀ b ∈ fp, FpOk X pins H' b) ∧ R J H'
def PI (X : Cx) (tg iter : Expr) (wi : TI) : Prop :=
  ∀ (pins : List (Addr × Obj)) (s : Shared) (σ : St) (H : Hp) (R : It → Hp → Prop), Inv X pins σ H s → wi σ H R →
    wpAny (model X.prog X.w) X.A (eval iter X.env) (fun v s1 => wpAny (model X.prog X.w) X.A (pyIter v) (PIE X pins σ tg R) X.xe s1) X.xe s

/-- the step ahead of the store is nothing for an iterator that keeps no tuple -/
theorem go_of {M : Model} {A : Around} {E : Value → Shared → Prop} {s : Shared} {tg : Expr} {it : Addr} {u : Value} {o : Obj} {n : String} {vs : Array Value} {Q : Unit → Shared → Prop} (ho : s.heap.get? it = some o) (hc : o.cls = .type n) (hd : o.data = .fields vs)
    (hn : ["enumerate", "zip", "dict_itemiterator", "dict_reverseitemiterator", "odict_iterator", "itertools.zip_longest", "itertools.pairwise"].contains n = false) (hQ : Q () s) : wpAny M A (letOwnedTupleGo tg (.ref it) u) Q E s := by
  unfold letOwnedTupleGo
  cases tg <;> first
    | exact wpAny_pure hQ
    | (cases u <;> first
        | exact wpAny_pure hQ
        | (refine wpAny_bind (wpAny_load ho ?_)
           rw [hc, hd]
           show wpAny M A (if (["enumerate", "zip", "dict_itemiterator", "dict_reverseitemiterator", "odict_iterator", "itertools.zip_longest", "itertools.pairwise"].contains n && vs[0]? == some (rawInt _)) = true then _ else _) Q E s
           rw [if_neg (by intro h; rw [hn, Bool.false_and] at h; cases h)]
           exact wpAny_pure hQ))

/-- the list at a, as it stands at each turn (a loop may append to it) -/
def Itl (K : PySem.W.Frag) (a : Addr) : It :=
  ⟨fun i H => ∃ xs x, SqL K H a xs ∧ xs[i]? = some x, fun i H x H' => H' = H ∧ ∀ xs, SqL K H a xs → xs[i]? = some x, fun i H => ∃ xs, SqL K H a xs ∧ xs.length ≤ i⟩
def Itt (K : PySem.W.Frag) (a : Addr) : It :=
  ⟨fun i H => ∃ xs x, SqT K H a xs ∧ xs[i]? = some x, fun i H x H' => H' = H ∧ ∀ xs, SqT K H a xs → xs[i]? = some x, fun i H => ∃ xs, SqT K H a xs ∧ xs.length ≤ i⟩
/-- lo, lo + 1, .. (n of them) -/
def Itr (lo : Int) (n : Nat) : It := ⟨fun i _ => i < n, fun i H x H' => H' = H ∧ x = .int (lo + i), fun i _ => n ≤ i⟩
theorem turn_list {P : Program} {w : World} {K : PySem.W.Frag} {tg : Expr} (a it : Addr) : Turn P w K tg (Itl K a) [it] it (fun i h => h.IsListIter it a i) where
  mem := by simp
  obj := fun i h st b hb => by
    have e : b = it := by simpa using hb
    subst e
    obtain ⟨o, e, c, d⟩ := st
    exact ⟨o, e, fun v z => by rw [d] at z; cases z⟩
  keep := fun i h h' st k => st.at fun o e => k it (by simp) o e
  item := by
    intro X hP hw hK hc i pins s σ H E I hf st hg
    subst hP hw hK
    obtain ⟨xs, x, hq, hx⟩ := hg
    obtain ⟨its, rv, p, hz⟩ := I.list hq
    obtain ⟨u, hu, ru⟩ := rv.get hx
    obtain ⟨f0, f1, f2, f3, f4, f5⟩ := hf it (by simp)
    refine wpAny_pyNext_list_item st p.isList (x := u) (by simpa using hu) fun h' st' sb => ?_
    have I1 : Inv X pins σ H { s with heap := h' } := I.turned (t' := s.toks) (fun b o hb e => (sb.2 b hb).trans e) f0 f1 f3 f4 f5
    obtain ⟨o, e, c, d⟩ := id st'
    exact ⟨u, rfl, go_of (s := { s with heap := h' }) e c d (by decide) ⟨x, H, I1, ru, ⟨rfl, fun ys hy => by rw [I.list_inj hy hq]; exact hx⟩, st', fun b hb => (hf b hb).1⟩⟩
  done := by
    intro X hP hw hK hc i pins s σ H E I hf st hg
    subst hP hw hK
    obtain ⟨xs, hq, hx⟩ := hg
    obtain ⟨its, rv, p, hz⟩ := I.list hq
    obtain ⟨f0, f1, f2, f3, f4, f5⟩ := hf it (by simp)
    have hl := rv.length
    exact wpAny_pyNext_list_end (I.ok.hd hc) st p.isList (by simp; omega) fun h' eb => ⟨rfl, I.turned (t' := s.toks) (fun b o hb e => eb b o hb e) f0 f1 f3 f4 f5⟩
  self := fun _ _ _ _ _ st h => wpAny_pyIter_listiter st h
theorem turn_tuple {P : Program} {w : World} {K : PySem.W.Frag} {tg : Expr} (a it : Addr) : Turn P w K tg (Itt K a) [it] it (fun i h => h.IsTupleIter it a i) where
  mem := by simp
  obj := fun i h st b hb => by
    have e : b = it := by simpa using hb
    subst e
    obtain ⟨o, e, c, d⟩ := st
    exact ⟨o, e, fun v z => by rw [d] at z; cases z⟩
  keep := fun i h h' st k => st.at fun o e => k it (by simp) o e
  item := by
    intro X hP hw hK hc i pins s σ H E I hf st hg
    subst hP hw hK
    obtain ⟨xs, x, hq, hx⟩ := hg
    obtain ⟨its, rv, p, hz⟩ := I.tuple hq
    obtain ⟨u, hu, ru⟩ := rv.get hx
    obtain ⟨f0, f1, f2, f3, f4, f5⟩ := hf it (by simp)
    refine wpAny_pyNext_tuple_item st (show s.heap.IsTuple a its.toArray from p) (x := u) (by simpa using hu) fun h' st' sb => ?_
    have I1 : Inv X pins σ H { s with heap := h' } := I.turned (t' := s.toks) (fun b o hb e => (sb.2 b hb).trans e) f0 f1 f3 f4 f5
    obtain ⟨o, e, c, d⟩ := id st'
    exact ⟨u, rfl, go_of (s := { s with heap := h' }) e c d (by decide) ⟨x, H, I1, ru, ⟨rfl, fun ys hy => by rw [I.tuple_inj hy hq]; exact hx⟩, st', fun b hb => (hf b hb).1⟩⟩
  done := by
    intro X hP hw hK hc i pins s σ H E I hf st hg
    subst hP hw hK
    obtain ⟨xs, hq, hx⟩ := hg
    obtain ⟨its, rv, p, hz⟩ := I.tuple hq
    obtain ⟨f0, f1, f2, f3, f4, f5⟩ := hf it (by simp)
    have hl := rv.length
    exact wpAny_pyNext_tuple_end (I.ok.hd hc) st (show s.heap.IsTuple a its.toArray from p) (by simp; omega) fun h' eb => ⟨rfl, I.turned (t' := s.toks) (fun b o hb e => eb b o hb e) f0 f1 f3 f4 f5⟩
  self := fun _ _ _ _ _ st h => wpAny_pyIter_tupleiter st h
theorem turn_range {P : Program} {w : World} {K : PySem.W.Frag} {tg : Expr} (it : Addr) (lo : Int) (n : Nat) : Turn P w K tg (Itr lo n) [it] it (fun i h => IsRangeIter h it (lo + (i : Nat) * 1) ((n : Int) - (i : Nat)) 1) where
  mem := by simp
  obj := fun i h st b hb => by
    have e : b = it := by simpa using hb
    subst e
    exact ⟨_, st, fun v z => by
      have z' : Data.fields _ = Data.cell v := z
      cases z'⟩
  keep := fun i h h' st k => k it (by simp) _ st
  item := by
    intro X hP hw hK hc i pins s σ H E I hf st hg
    subst hP hw hK
    obtain ⟨f0, f1, f2, f3, f4, f5⟩ := hf it (by simp)
    have W := Walks.range (prog := X.prog) (w := X.w) (I.ok.hd hc) it lo 1 n
    refine W.item i s _ _ hg st fun v h' tk hv st' kk => ?_
    obtain ⟨t, rfl⟩ := hv
    have I1 : Inv X pins σ H { s with heap := h', toks := tk } := I.turned (fun b o hb e => kk b o (by simpa using hb) e) f0 f1 f3 f4 f5
    refine ⟨_, rfl, go_of (s := { s with heap := h', toks := tk }) (n := "range_iterator") st' rfl rfl (by decide) ⟨.int (lo + i), H, I1, ⟨t, ?_⟩, ⟨rfl, rfl⟩, st', fun b hb => (hf b hb).1⟩⟩
    rw [Int.mul_one]
  done := by
    intro X hP hw hK hc i pins s σ H E I hf st hg
    subst hP hw hK
    obtain ⟨f0, f1, f2, f3, f4, f5⟩ := hf it (by simp)
    exact wpAny_pyNext_range_end (I.ok.hd hc) st (by have : n ≤ i := hg; omega) fun h' eb => ⟨rfl, I.turned (t' := s.toks) (fun b o hb e => eb b o hb e) f0 f1 f3 f4 f5⟩
  self := fun _ _ _ _ _ st h => wpAny_pyIter_rangeiter st h
end L2

namespace L2
open PySem PySem.Spec PyProof.Rows
section
variable {X : Cx} {tg : Expr}
def iList (K : PySem.W.Frag) (tl : TE) : TI := fun σ H R => tl σ H fun x H1 => ∃ a, x = .ref a ∧ (∃ xs, SqL K H1 a xs) ∧ R (Itl K a) H1
def iTup (K : PySem.W.Frag) (tl : TE) : TI := fun σ H R => tl σ H fun x H1 => ∃ a, x = .ref a ∧ (∃ xs, SqT K H1 a xs) ∧ R (Itt K a) H1
theorem pi_list {l : Expr} {tl : TE} (hl : PE X l tl) : PI X tg l (iList X.K tl) := by
  intro pins s σ H R I h
  refine thn (hl pins s σ H _ I h) fun v s1 ⟨x, H1, I1, r1, q1⟩ => ?_
  obtain ⟨a, e, ⟨xs, hq⟩, q⟩ := q1
  subst e
  cases r1
  obtain ⟨its, rv, p, hz⟩ := I1.list hq
  refine wpAny_pyIter_list p.isList ?_
  refine ⟨s1.heap.objs.size, [s1.heap.objs.size], _, _, H1, rfl, I1.kept (t' := s1.toks) fun b o e => Heap.get?_push_of_some _ e, turn_list a _, ⟨_, Heap.get?_push_size _ rfl, rfl, rfl⟩, fun b hb => ?_, q⟩
  have e : b = s1.heap.objs.size := by simpa using hb
  subst e
  exact I1.fpOk (Nat.le_refl _) (I1.hok.fresh (Nat.le_refl _))
theorem pi_tup {l : Expr} {tl : TE} (hl : PE X l tl) : PI X tg l (iTup X.K tl) := by
  intro pins s σ H R I h
  refine thn (hl pins s σ H _ I h) fun v s1 ⟨x, H1, I1, r1, q1⟩ => ?_
  obtain ⟨a, e, ⟨xs, hq⟩, q⟩ := q1
  subst e
  cases r1
  obtain ⟨its, rv, p, hz⟩ := I1.tuple hq
  refine wpAny_pyIter_tuple (show s1.heap.IsTuple a its.toArray from p) ?_
  refine ⟨s1.heap.objs.size, [s1.heap.objs.size], _, _, H1, rfl, I1.kept (t' := s1.toks) fun b o e => Heap.get?_push_of_some _ e, turn_tuple a _, ⟨_, Heap.get?_push_size _ rfl, rfl, rfl⟩, fun b hb => ?_, q⟩
  have e : b = s1.heap.objs.size := by simpa using hb
  subst e
  exact I1.fpOk (Nat.le_refl _) (I1.hok.fresh (Nat.le_refl _))
/-- a range object just made, walked -/
theorem range_it {pins : List (Addr × Obj)} {σ : St} {H : Hp} {s : Shared} {R : It → Hp → Prop} {E : Value → Shared → Prop} {lo hi : Int} {t u v : Tok} {tk : Nat} (I : Inv X pins σ H s) (h1 : -(2 ^ 62) ≤ lo) (h2 : lo < 2 ^ 62) (h3 : -(2 ^ 62) ≤ hi) (h4 : hi < 2 ^ 62)
    (q : R (Itr lo (hi - lo).toNat) H) : wpAny (model X.prog X.w) X.A (pyIter (.ref s.heap.objs.size)) (PIE X pins σ tg R) E { s with heap := s.heap.push { cls := .type "range", data := .fields #[.int lo t, .int hi u, .int 1 v] }, toks := tk } := by
  refine wpAny_pyIter_range (IsRange.new ..) (small_one h1 h2 h3 h4) ?_
  have I1 : Inv X pins σ H { s with heap := s.heap.push { cls := .type "range", data := .fields #[.int lo t, .int hi u, .int 1 v] }, toks := tk } := I.kept fun b o e => Heap.get?_push_of_some _ e
  refine ⟨(s.heap.push { cls := .type "range", data := .fields #[.int lo t, .int hi u, .int 1 v] }).objs.size, [(s.heap.push { cls := .type "range", data := .fields #[.int lo t, .int hi u, .int 1 v] }).objs.size], _, _, H, rfl,
    I1.kept (t' := tk) fun b o e => Heap.get?_push_of_some _ e, turn_range _ lo (hi - lo).toNat, ?_, fun b hb => ?_, q⟩
  · have e1 : lo + ((0 : Nat) : Int) * 1 = lo := by simp
    have e2 : (((hi - lo).toNat : Nat) : Int) - ((0 : Nat) : Int) = Builtin.Range.rangeSize lo hi 1 := by rw [rangeSize_one]; split <;> omega
    show IsRangeIter _ _ (lo + ((0 : Nat) : Int) * 1) ((((hi - lo).toNat : Nat) : Int) - ((0 : Nat) : Int)) 1
    rw [e1, e2]
    exact Heap.get?_push_size _ rfl
  · have e : b = (s.heap.push { cls := .type "range", data := .fields #[.int lo t, .int hi u, .int 1 v] }).objs.size := by simpa using hb
    subst e
    exact I1.fpOk (Nat.le_refl _) (I1.hok.fresh (Nat.le_refl _))
def iRng1 (ta : TA) : TI := fun σ H R => ta σ H fun vs H1 => ∃ j : Int, vs = [.int j] ∧ -(2 ^ 62) ≤ j ∧ j < 2 ^ 62 ∧ R (Itr 0 j.toNat) H1
def iRng2 (ta : TA) : TI := fun σ H R => ta σ H fun vs H1 => ∃ i j : Int, vs = [.int i, .int j] ∧ (-(2 ^ 62) ≤ i ∧ i < 2 ^ 62 ∧ -(2 ^ 62) ≤ j ∧ j < 2 ^ 62) ∧ R (Itr i (j - i).toNat) H1
theorem pi_range1 {a : Expr} {ta : TA} {p pos : Pos} (hg : Gl X "range") (hm : X.mg "range" = none) (ha : PA X [a] ta) (hs : starEach [a] X.env = [(false, eval a X.env)] := by rfl) : PI X tg (.Call (.Name "range" p) [a] [] pos) (iRng1 ta) := by
  intro pins s σ H R I h
  refine Call_ (ld_blt I hg hm boot_range (PyProof.Rows.callWith_type1 (thn (ha pos pins s σ H _ I h) fun us s1 ⟨vs, H1, I1, r1, q1⟩ => ?_) hs rfl))
  obtain ⟨j, e, q1, q2, q⟩ := q1
  subst e
  cases r1 with
  | cons r rr =>
    cases rr
    obtain ⟨t, rfl⟩ := r
    exact call_range_1 (range_it I1 (by omega) (by omega) q1 q2 (by simpa using q))
theorem pi_range2 {a b : Expr} {ta : TA} {p pos : Pos} (hg : Gl X "range") (hm : X.mg "range" = none) (ha : PA X [a, b] ta) (hs : starEach [a, b] X.env = [(false, eval a X.env), (false, eval b X.env)] := by rfl) (hs2 : starEach [b] X.env = [(false, eval b X.env)] := by rfl) :
    PI X tg (.Call (.Name "range" p) [a, b] [] pos) (iRng2 ta) := by
  intro pins s σ H R I h
  refine Call_ (ld_blt I hg hm boot_range (PyProof.Rows.callWith_type1 (thn (ha pos pins s σ H _ I h) fun us s1 ⟨vs, H1, I1, r1, q1⟩ => ?_) (by rw [hs, hs2]) (by rw [hs2]; rfl)))
  obtain ⟨i, j, e, ⟨q1, q2, q3, q4⟩, q⟩ := q1
  subst e
  cases r1 with
  | cons r rr =>
    cases rr with
    | cons r' rr =>
      cases rr
      obtain ⟨t, rfl⟩ := r
      obtain ⟨t', rfl⟩ := r'
      exact call_range_2 (range_it I1 q1 q2 q3 q4 q)

/-! ### for -/
/-- W: the invariant by the turn and a measure; N: what the body is to reach -/
def tFor (wi : TI) (g : TG) (tb : TS) : TS := fun D σ H => wi σ H fun J H1 => ∃ W : Nat → Nat → St → Hp → Prop, (∃ m, W 0 m σ H1) ∧ ∀ i m σ H, W i m σ H →
  (J.stop i H ∧ D.nx σ H) ∨ (J.go i H ∧ ∃ N : St → Hp → Prop, (∀ σ' H', N σ' H' → ∃ m', m' < m ∧ W (i + 1) m' σ' H') ∧ ∀ x H', J.yld i H x H' → g x σ H' fun σ2 H2 => tb { D with nx := N, ct := N, bk := D.nx } σ2 H2)
/-- the records at fp as they stand -/
def pinsAt (fp : List Addr) (h : Heap) : List (Addr × Obj) := fp.filterMap fun b => (h.get? b).map fun o => (b, o)
theorem mem_pinsAt {fp : List Addr} {h : Heap} {b : Addr} {o : Obj} (hb : b ∈ fp) (e : h.get? b = some o) : (b, o) ∈ pinsAt fp h := List.mem_filterMap.mpr ⟨b, hb, by rw [e]; rfl⟩
theorem of_pinsAt {fp : List Addr} {h : Heap} {p : Addr × Obj} (hp : p ∈ pinsAt fp h) : p.1 ∈ fp ∧ h.get? p.1 = some p.2 := by
  obtain ⟨b, hb, e⟩ := List.mem_filterMap.mp hp
  cases q : h.get? b with
  | none => rw [q] at e; cases e
  | some o =>
    rw [q] at e
    have e' : (b, o) = p := Option.some.inj e
    subst e'
    exact ⟨hb, q⟩
theorem Inv.pinned {pins : List (Addr × Obj)} {σ : St} {H : Hp} {s : Shared} {fp : List Addr} (I : Inv X pins σ H s) (hf : ∀ b ∈ fp, FpOk X pins H b) (ho : ∀ b ∈ fp, ∃ o, s.heap.get? b = some o ∧ ∀ v, o.data ≠ .cell v) : Inv X (pins ++ pinsAt fp s.heap) σ H s :=
  I.pins_of fun p hp => (List.mem_append.mp hp).elim (fun z => I.pin p (List.mem_append_right _ z)) fun z => by
    obtain ⟨hb, e⟩ := of_pinsAt z
    obtain ⟨f0, f1, f2, _⟩ := hf p.1 hb
    obtain ⟨o, e', d⟩ := ho p.1 hb
    rw [e] at e'; cases e'
    exact ⟨e, f0, f1, f2, d⟩
theorem Inv.unpinned {pins pl : List (Addr × Obj)} {σ : St} {H : Hp} {s : Shared} (I : Inv X (pins ++ pl) σ H s) : Inv X pins σ H s := I.pins_of fun p hp => I.pin p (List.mem_append_right _ (List.mem_append_left _ hp))
theorem ps_for {iter : Expr} {body : List Stmt} {wi : TI} {g : TG} {tb : TS} {pos : Pos} (hp : PassesOwn (model X.prog X.w) X.A X.env X.xe) (hc : X.calm = true) (hi : PI X tg iter wi) (hg : PG X tg g) (hb : PSs X body tb)
    (hs : ∀ x, foldedSetIterable iter X.env x = pure x := by intro _; rfl) : PS X (.For tg iter body [] pos) (tFor wi g tb) := by
  intro pins s σ H D I h
  refine wpAny_For (thn (hi pins s σ H _ I h) fun v s1 h1 => thn h1 fun itv s2 h2 => ?_) hs
  obtain ⟨it, fp, tn, J, H2, e, I2, T, st2, f2, W, ⟨m0, w0⟩, turn⟩ := h2
  subst e
  -- what stays true of the iterator's objects through the loop
  have stat : ∀ {H' : Hp}, (∀ b ∈ fp, H' b = none) → ∀ b ∈ fp, FpOk X pins H' b := fun hn b hb => ⟨hn b hb, (f2 b hb).2⟩
  refine codeAny_forLoop_any (fun n s' => ∃ i σ' H', Inv X pins σ' H' s' ∧ tn i s'.heap ∧ (∀ b ∈ fp, H' b = none) ∧ W i n σ' H') ?_ m0 ⟨0, σ, H2, I2, st2, fun b hb => (f2 b hb).1, w0⟩
  rintro n s3 ⟨i, σ3, H3, I3, st3, fr3, w3⟩
  rcases turn i n σ3 H3 w3 with ⟨stop, qn⟩ | ⟨go, N, hN, step⟩
  · refine wpAny_passesOwn hp (thn (T.done X rfl rfl rfl hc i pins s3 σ3 H3 X.xe I3 (stat fr3) st3 stop) fun r s4 ⟨hr, I4⟩ => ?_)
    subst hr
    exact wpAny_execs_nil ⟨σ3, H3, I4, qn⟩
  · refine wpAny_passesOwn hp (thn (T.item X rfl rfl rfl hc i pins s3 σ3 H3 X.xe I3 (stat fr3) st3 go) fun r s4 ⟨u, hr, h4⟩ => ?_)
    subst hr
    refine wpAny_passesOwn hp (thn h4 fun _ s5 ⟨x, H5, I5, r5, y5, st5, fr5⟩ => ?_)
    have I5' := I5.pinned (stat fr5) (T.obj _ _ st5)
    refine wpAny_passesOwn hp (thn (hg _ s5 σ3 H5 x u _ I5' r5 (step x H5 y5)) fun _ s6 ⟨σ6, H6, I6, q6⟩ => ?_)
    refine wpAny_passesOwn hp (thn (hb _ s6 σ6 H6 _ I6 q6) fun f s7 q7 => ?_)
    have again : ∀ {σ7 : St} {H7 : Hp}, Inv X (pins ++ pinsAt fp s5.heap) σ7 H7 s7 → N σ7 H7 → ∃ m, m < n ∧ ∃ i σ' H', Inv X pins σ' H' s7 ∧ tn i s7.heap ∧ (∀ b ∈ fp, H' b = none) ∧ W i m σ' H' := fun {σ7 H7} I7 n7 => by
      obtain ⟨m', hm, w7⟩ := hN σ7 H7 n7
      refine ⟨m', hm, i + 1, σ7, H7, I7.unpinned, T.keep _ _ _ st5 fun b hb o e => (I7.pin (b, o) (List.mem_append_right _ (List.mem_append_right _ (mem_pinsAt hb e)))).1, fun b hb => ?_, w7⟩
      obtain ⟨o, e, d⟩ := T.obj _ _ st5 b hb
      exact (I7.pin (b, o) (List.mem_append_right _ (List.mem_append_right _ (mem_pinsAt hb e)))).2.1
    cases f with
    | next => obtain ⟨σ7, H7, I7, n7⟩ := q7; exact again I7 n7
    | cont => obtain ⟨σ7, H7, I7, n7⟩ := q7; exact again I7 n7
    | brk => obtain ⟨σ7, H7, I7, q7⟩ := q7; exact ⟨σ7, H7, I7.unpinned, q7⟩
    | ret v => obtain ⟨x7, σ7, H7, I7, r7, q7⟩ := q7; exact ⟨x7, σ7, H7, I7.unpinned, r7, q7⟩
end

/-! ### the forms one uses -/
/-- over a list that the body leaves as it is -/
theorem for_list {K : PySem.W.Frag} {a : Addr} {xs : List V} {g : TG} {tb : TS} {D : Ends} {σ : St} {H : Hp} (Pv : Nat → St → Hp → Prop) (h0 : Pv 0 σ H) (hl : ∀ i σ H, i ≤ xs.length → Pv i σ H → SqL K H a xs)
    (hs : ∀ i x σ H, xs[i]? = some x → Pv i σ H → g x σ H fun σ2 H2 => tb { D with nx := Pv (i + 1), ct := Pv (i + 1), bk := D.nx } σ2 H2) (hd : ∀ σ H, Pv xs.length σ H → D.nx σ H) :
    ∃ W : Nat → Nat → St → Hp → Prop, (∃ m, W 0 m σ H) ∧ ∀ i m σ H, W i m σ H →
      ((Itl K a).stop i H ∧ D.nx σ H) ∨ ((Itl K a).go i H ∧ ∃ N : St → Hp → Prop, (∀ σ' H', N σ' H' → ∃ m', m' < m ∧ W (i + 1) m' σ' H') ∧ ∀ x H', (Itl K a).yld i H x H' → g x σ H' fun σ2 H2 => tb { D with nx := N, ct := N, bk := D.nx } σ2 H2) := by
  refine ⟨fun i m σ H => m = xs.length - i ∧ i ≤ xs.length ∧ Pv i σ H, ⟨xs.length, by simp, Nat.zero_le _, h0⟩, ?_⟩
  rintro i m σ H ⟨rfl, hi, p⟩
  have q := hl i σ H hi p
  by_cases hlt : i < xs.length
  · refine .inr ⟨⟨xs, xs[i], q, by simp [hlt]⟩, Pv (i + 1), fun σ' H' p' => ⟨xs.length - (i + 1), by omega, rfl, hlt, p'⟩, fun x H' y => ?_⟩
    obtain ⟨e, y⟩ := y
    subst e
    exact hs i x σ _ (y xs q) p
  · have e : i = xs.length := by omega
    subst e
    exact .inl ⟨⟨xs, q, Nat.le_refl _⟩, hd σ H p⟩
theorem for_tup {K : PySem.W.Frag} {a : Addr} {xs : List V} {g : TG} {tb : TS} {D : Ends} {σ : St} {H : Hp} (Pv : Nat → St → Hp → Prop) (h0 : Pv 0 σ H) (hl : ∀ i σ H, i ≤ xs.length → Pv i σ H → SqT K H a xs)
    (hs : ∀ i x σ H, xs[i]? = some x → Pv i σ H → g x σ H fun σ2 H2 => tb { D with nx := Pv (i + 1), ct := Pv (i + 1), bk := D.nx } σ2 H2) (hd : ∀ σ H, Pv xs.length σ H → D.nx σ H) :
    ∃ W : Nat → Nat → St → Hp → Prop, (∃ m, W 0 m σ H) ∧ ∀ i m σ H, W i m σ H →
      ((Itt K a).stop i H ∧ D.nx σ H) ∨ ((Itt K a).go i H ∧ ∃ N : St → Hp → Prop, (∀ σ' H', N σ' H' → ∃ m', m' < m ∧ W (i + 1) m' σ' H') ∧ ∀ x H', (Itt K a).yld i H x H' → g x σ H' fun σ2 H2 => tb { D with nx := N, ct := N, bk := D.nx } σ2 H2) := by
  refine ⟨fun i m σ H => m = xs.length - i ∧ i ≤ xs.length ∧ Pv i σ H, ⟨xs.length, by simp, Nat.zero_le _, h0⟩, ?_⟩
  rintro i m σ H ⟨rfl, hi, p⟩
  have q := hl i σ H hi p
  by_cases hlt : i < xs.length
  · refine .inr ⟨⟨xs, xs[i], q, by simp [hlt]⟩, Pv (i + 1), fun σ' H' p' => ⟨xs.length - (i + 1), by omega, rfl, hlt, p'⟩, fun x H' y => ?_⟩
    obtain ⟨e, y⟩ := y
    subst e
    exact hs i x σ _ (y xs q) p
  · have e : i = xs.length := by omega
    subst e
    exact .inl ⟨⟨xs, q, Nat.le_refl _⟩, hd σ H p⟩
theorem for_range {lo : Int} {n : Nat} {g : TG} {tb : TS} {D : Ends} {σ : St} {H : Hp} (Pv : Nat → St → Hp → Prop) (h0 : Pv 0 σ H)
    (hs : ∀ i σ H, i < n → Pv i σ H → g (.int (lo + i)) σ H fun σ2 H2 => tb { D with nx := Pv (i + 1), ct := Pv (i + 1), bk := D.nx } σ2 H2) (hd : ∀ σ H, Pv n σ H → D.nx σ H) :
    ∃ W : Nat → Nat → St → Hp → Prop, (∃ m, W 0 m σ H) ∧ ∀ i m σ H, W i m σ H →
      ((Itr lo n).stop i H ∧ D.nx σ H) ∨ ((Itr lo n).go i H ∧ ∃ N : St → Hp → Prop, (∀ σ' H', N σ' H' → ∃ m', m' < m ∧ W (i + 1) m' σ' H') ∧ ∀ x H', (Itr lo n).yld i H x H' → g x σ H' fun σ2 H2 => tb { D with nx := N, ct := N, bk := D.nx } σ2 H2) := by
  refine ⟨fun i m σ H => m = n - i ∧ i ≤ n ∧ Pv i σ H, ⟨n, by simp, Nat.zero_le _, h0⟩, ?_⟩
  rintro i m σ H ⟨rfl, hi, p⟩
  by_cases hlt : i < n
  · refine .inr ⟨hlt, Pv (i + 1), fun σ' H' p' => ⟨n - (i + 1), by omega, rfl, hlt, p'⟩, fun x H' y => ?_⟩
    obtain ⟨e, y⟩ := y
    subst e y
    exact hs i σ _ hlt p
  · have e : i = n := by omega
    subst e
    exact .inl ⟨Nat.le_refl _, hd σ H p⟩
/-- while, by a word and a measure of the state -/
theorem while_by {c : TT} {tb : TS} {D : Ends} {σ : St} {H : Hp} (Pv : St → Hp → Prop) (μ : St → Hp → Nat) (h0 : Pv σ H)
    (hs : ∀ σ H, Pv σ H → c σ H fun b H1 => if b = true then tb { D with nx := fun σ' H' => Pv σ' H' ∧ μ σ' H' < μ σ H, ct := fun σ' H' => Pv σ' H' ∧ μ σ' H' < μ σ H, bk := D.nx } σ H1 else D.nx σ H1)
    (mono : ∀ σ H Q Q', (∀ b H1, Q b H1 → Q' b H1) → c σ H Q → c σ H Q') : tWhile c tb D σ H := by
  refine ⟨fun m σ H => m = μ σ H ∧ Pv σ H, ⟨_, rfl, h0⟩, ?_⟩
  rintro m σ H ⟨rfl, p⟩
  refine mono σ H _ _ (fun b H1 q => ?_) (hs σ H p)
  cases b with
  | true => exact ⟨_, fun σ' H' ⟨p', l⟩ => ⟨_, l, rfl, p'⟩, q⟩
  | false => exact q
end L2

namespace L2
open PySem PySem.Spec PyProof.Rows

abbrev R2 := V → V → Hp → VK → Prop
/-- a two-place operation on values: f is binaryOp op, inplaceOp op or compareOp op -/
def OpR (X : Cx) (f : Value → Value → Sem Value) (r : R2) : Prop :=
  ∀ (pins : List (Addr × Obj)) (s : Shared) (σ : St) (H : Hp) (x y : V) (v u : Value) (Q : VK), Inv X pins σ H s → RelV x v → RelV y u → r x y H Q →
    wpAny (model X.prog X.w) X.A (f v u) (EP X pins σ Q) X.xe s
/-- a one-place operation -/
def UnR (X : Cx) (f : Value → Sem Value) (r : V → Hp → VK → Prop) : Prop :=
  ∀ (pins : List (Addr × Obj)) (s : Shared) (σ : St) (H : Hp) (x : V) (v : Value) (Q : VK), Inv X pins σ H s → RelV x v → r x H Q →
    wpAny (model X.prog X.w) X.A (f v) (EP X pins σ Q) X.xe s
/-- a call of a value that is known (a builtin, a type) with values -/
def CallR (X : Cx) (f : Value) (r : List V → Hp → VK → Prop) : Prop :=
  ∀ (pins : List (Addr × Obj)) (s : Shared) (σ : St) (H : Hp) (xs : List V) (us : List Value) (Q : VK), Inv X pins σ H s → Vals xs us → r xs H Q →
    wpAny (model X.prog X.w) X.A (call f us) (EP X pins σ Q) X.xe s
/-- a value's truth -/
def TruR (X : Cx) (r : V → Hp → (Bool → Hp → Prop) → Prop) : Prop :=
  ∀ (pins : List (Addr × Obj)) (s : Shared) (σ : St) (H : Hp) (x : V) (v : Value) (Q : Bool → Hp → Prop), Inv X pins σ H s → RelV x v → r x H Q →
    wpAny (model X.prog X.w) X.A (truthy v) (TP X pins σ Q) X.xe s

def tOp (r : R2) (ta tb : TE) : TE := fun σ H Q => ta σ H fun x H1 => tb σ H1 fun y H2 => r x y H2 Q
def tUn (r : V → Hp → VK → Prop) (ta : TE) : TE := fun σ H Q => ta σ H fun x H1 => r x H1 Q
/-- ints in, under C, and a value out -/
def rI (C : Int → Int → Prop) (g : Int → Int → V) : R2 := fun x y H Q => ∃ i j, x = .int i ∧ y = .int j ∧ C i j ∧ Q (g i j) H
def rI0 (g : Int → Int → V) : R2 := fun x y H Q => ∃ i j, x = .int i ∧ y = .int j ∧ Q (g i j) H
def rU (g : Int → V) : V → Hp → VK → Prop := fun x H Q => ∃ i, x = .int i ∧ Q (g i) H

section
variable {X : Cx} {a b c : Expr} {ta tb tc : TE} {pos : Pos}

theorem binT (ha : PE X a ta) (hb : PE X b tb) {pins : List (Addr × Obj)} {s : Shared} {σ : St} {H : Hp} {R : V → V → Hp → Prop} (I : Inv X pins σ H s)
    (h : ta σ H fun x H1 => tb σ H1 fun y H2 => R x y H2) {Q : Value → Shared → Prop} {f : Value → Value → Sem Value}
    (hf : ∀ v u s2 x y H2, Inv X pins σ H2 s2 → RelV x v → RelV y u → R x y H2 → wpAny (model X.prog X.w) X.A (f v u) Q X.xe s2) :
    wpAny (model X.prog X.w) X.A (eval a X.env) (fun v s₁ => wpAny (model X.prog X.w) X.A (eval b X.env) (fun u s₂ => wpAny (model X.prog X.w) X.A (f v u) Q X.xe s₂) X.xe s₁) X.xe s := by
  refine thn (ha pins s σ H _ I h) fun v s1 ⟨x, H1, I1, r1, q1⟩ => ?_
  refine thn (hb pins s1 σ H1 _ I1 q1) fun u s2 ⟨y, H2, I2, r2, q2⟩ => ?_
  exact hf v u s2 x y H2 I2 r1 r2 q2

theorem pe_op {op : Operator} {r : R2} (ho : OpR X (binaryOp op) r) (ha : PE X a ta) (hb : PE X b tb) : PE X (.BinOp a op b pos) (tOp r ta tb) := by
  intro pins s σ H Q I h
  exact wpAny_BinOp (binT ha hb I h fun v u s2 x y H2 I2 rx ry q => ho pins s2 σ H2 x y v u Q I2 rx ry q)
theorem pe_un {op : UnaryOp} {r : V → Hp → VK → Prop} (ho : UnR X (unaryOp op) r) (ha : PE X a ta) : PE X (.UnaryOp op a pos) (tUn r ta) := by
  intro pins s σ H Q I h
  exact UnaryOp_ (thn (ha pins s σ H _ I h) fun v s1 ⟨x, H1, I1, r1, q1⟩ => ho pins s1 σ H1 x v Q I1 r1 q1)
/-- a op= e at a name: the name's slot i -/
theorem augR {op : Operator} {r : R2} (ho : OpR X (inplaceOp op) r) {pins : List (Addr × Obj)} {s : Shared} {σ : St} {H : Hp} {x y : V} {v u : Value} {Q : VK} (I : Inv X pins σ H s)
    (rx : RelV x v) (ry : RelV y u) (q : r x y H Q) : wpAny (model X.prog X.w) X.A (inplaceOp op v u) (EP X pins σ Q) X.xe s := ho pins s σ H x y v u Q I rx ry q

/-! ### ints -/
theorem opI {f : Value → Value → Sem Value} {C : Int → Int → Prop} {g : Int → Int → Int}
    (rule : ∀ (i j : Int) (t u : Tok) (s : Shared) (Q : Value → Shared → Prop) (E : Value → Shared → Prop), C i j → Q (.int (g i j) s.toks) { s with toks := s.toks + 1 } → wpAny (model X.prog X.w) X.A (f (.int i t) (.int j u)) Q E s) :
    OpR X f (rI C fun i j => .int (g i j)) := by
  intro pins s σ H x y v u Q I rx ry h
  obtain ⟨i, j, rfl, rfl, hc, q⟩ := h
  obtain ⟨t, rfl⟩ := rx
  obtain ⟨t', rfl⟩ := ry
  exact rule i j t t' s _ _ hc ⟨.int (g i j), H, I.tok _, ⟨_, rfl⟩, q⟩
theorem opI0 {f : Value → Value → Sem Value} {g : Int → Int → Int}
    (rule : ∀ (i j : Int) (t u : Tok) (s : Shared) (Q : Value → Shared → Prop) (E : Value → Shared → Prop), Q (.int (g i j) s.toks) { s with toks := s.toks + 1 } → wpAny (model X.prog X.w) X.A (f (.int i t) (.int j u)) Q E s) :
    OpR X f (rI0 fun i j => .int (g i j)) := by
  intro pins s σ H x y v u Q I rx ry h
  obtain ⟨i, j, rfl, rfl, q⟩ := h
  obtain ⟨t, rfl⟩ := rx
  obtain ⟨t', rfl⟩ := ry
  exact rule i j t t' s _ _ ⟨.int (g i j), H, I.tok _, ⟨_, rfl⟩, q⟩
theorem opB0 {f : Value → Value → Sem Value} {g : Int → Int → Bool}
    (rule : ∀ (i j : Int) (t u : Tok) (s : Shared) (Q : Value → Shared → Prop) (E : Value → Shared → Prop), Q (.bool (g i j)) s → wpAny (model X.prog X.w) X.A (f (.int i t) (.int j u)) Q E s) :
    OpR X f (rI0 fun i j => .bl (g i j)) := by
  intro pins s σ H x y v u Q I rx ry h
  obtain ⟨i, j, rfl, rfl, q⟩ := h
  obtain ⟨t, rfl⟩ := rx
  obtain ⟨t', rfl⟩ := ry
  exact rule i j t t' s _ _ ⟨.bl (g i j), H, I, rfl, q⟩

def CDiv (i j : Int) : Prop := 0 < j ∧ j < 1073741824
def CDivN (i j : Int) : Prop := j ≠ 0 ∧ j.natAbs < 1073741824
def CPow (i j : Int) : Prop := 0 ≤ j ∧ j ≤ 1000000 ∧ i.natAbs < 2 ^ 64
def CMul (i j : Int) : Prop := (-(2 ^ 64) < i ∧ i < 2 ^ 64) ∨ (-(2 ^ 64) < j ∧ j < 2 ^ 64)
theorem CMul.ok {i j : Int} (h : CMul i j) : IntMulOk i j := by
  rcases h with ⟨h1, h2⟩ | ⟨h1, h2⟩
  · exact .of_left (intBits_le_64 h1 h2)
  · exact .of_right (intBits_le_64 h1 h2)
theorem two_pow_nn (k : Nat) : (0 : Int) ≤ 2 ^ k := by
  rw [two_pow_cast]
  exact Int.natCast_nonneg _

theorem op_add : OpR X (binaryOp .Add) (rI0 fun i j => .int (i + j)) := opI0 fun _ _ _ _ _ _ _ q => add_int q
theorem op_sub : OpR X (binaryOp .Sub) (rI0 fun i j => .int (i - j)) := opI0 fun _ _ _ _ _ _ _ q => sub_int q
theorem op_mul : OpR X (binaryOp .Mult) (rI CMul fun i j => .int (i * j)) := opI fun _ _ _ _ _ _ _ hc q => mul_int q hc.ok
/-- // by a positive divisor -/
theorem op_fdiv : OpR X (binaryOp .FloorDiv) (rI CDiv fun i j => .int (i / j)) := opI fun i j _ _ _ _ _ hc q => by
  have h1 : (0 : Int) < j := hc.1
  have h2 : j < 1073741824 := hc.2
  exact floordiv_int (by omega) (by rw [Int.fdiv_eq_ediv_of_nonneg i (by omega)]; exact q) (.inl (PyProof.noPylong_small (by omega)))
theorem op_fdivN : OpR X (binaryOp .FloorDiv) (rI CDivN fun i j => .int (i.fdiv j)) := opI fun _ _ _ _ _ _ _ hc q => floordiv_int hc.1 q (.inl (PyProof.noPylong_small hc.2))
/-- % by a positive divisor of any size -/
theorem op_mod : OpR X (binaryOp .Mod) (rI (fun _ j => 0 < j) fun i j => .int (i % j)) := opI fun i j _ _ _ _ _ hc q => by
  have h1 : (0 : Int) < j := hc
  exact mod_int' (by omega) (by rw [Int.fmod_eq_emod_of_nonneg i (by omega)]; exact q)
theorem op_modN : OpR X (binaryOp .Mod) (rI (fun _ j => j ≠ 0) fun i j => .int (i.fmod j)) := opI fun _ _ _ _ _ _ _ hc q => mod_int' hc q
theorem op_pow : OpR X (binaryOp .Pow) (rI CPow fun i j => .int (i ^ j.toNat)) := opI fun _ _ _ _ _ _ _ hc q => pow_int_small hc.1 hc.2.1 hc.2.2 q
theorem op_shl : OpR X (binaryOp .LShift) (rI CPow fun i j => .int (i * 2 ^ j.toNat)) := opI fun _ _ _ _ _ _ _ hc q => lshift_int_small hc.1 hc.2.1 hc.2.2 q
theorem op_shr : OpR X (binaryOp .RShift) (rI (fun _ j => 0 ≤ j) fun i j => .int (i / 2 ^ j.toNat)) := opI fun i j _ _ _ _ _ hc q =>
  rshift_int hc (by rw [Int.fdiv_eq_ediv_of_nonneg i (two_pow_nn _)]; exact q)
theorem op_and : OpR X (binaryOp .BitAnd) (rI0 fun i j => .int (Builtin.bitAnd i j)) := opI0 fun _ _ _ _ _ _ _ q => and_int q
theorem op_or : OpR X (binaryOp .BitOr) (rI0 fun i j => .int (Builtin.bitOr i j)) := opI0 fun _ _ _ _ _ _ _ q => or_int q
theorem op_xor : OpR X (binaryOp .BitXor) (rI0 fun i j => .int (Builtin.bitXor i j)) := opI0 fun _ _ _ _ _ _ _ q => xor_int q

theorem iop_add : OpR X (inplaceOp .Add) (rI0 fun i j => .int (i + j)) := opI0 fun _ _ _ _ _ _ _ q => iadd_int q
theorem iop_sub : OpR X (inplaceOp .Sub) (rI0 fun i j => .int (i - j)) := opI0 fun _ _ _ _ _ _ _ q => isub_int q
theorem iop_mul : OpR X (inplaceOp .Mult) (rI CMul fun i j => .int (i * j)) := opI fun _ _ _ _ _ _ _ hc q => imul_int q hc.ok
theorem iop_fdiv : OpR X (inplaceOp .FloorDiv) (rI CDiv fun i j => .int (i / j)) := opI fun i j _ _ _ _ _ hc q => by
  have h1 : (0 : Int) < j := hc.1
  have h2 : j < 1073741824 := hc.2
  exact ifloordiv_int (by omega) (by rw [Int.fdiv_eq_ediv_of_nonneg i (by omega)]; exact q) (.inl (PyProof.noPylong_small (by omega)))
theorem iop_mod : OpR X (inplaceOp .Mod) (rI (fun _ j => 0 < j) fun i j => .int (i % j)) := opI fun i j _ _ _ _ _ hc q => by
  have h1 : (0 : Int) < j := hc
  exact imod_int (by omega) (by rw [Int.fmod_eq_emod_of_nonneg i (by omega)]; exact q)
theorem iop_shl : OpR X (inplaceOp .LShift) (rI CPow fun i j => .int (i * 2 ^ j.toNat)) := opI fun _ _ _ _ _ _ _ hc q => ilshift_int_small hc.1 hc.2.1 hc.2.2 q
theorem iop_shr : OpR X (inplaceOp .RShift) (rI (fun _ j => 0 ≤ j) fun i j => .int (i / 2 ^ j.toNat)) := opI fun i j _ _ _ _ _ hc q =>
  irshift_int hc (by rw [Int.fdiv_eq_ediv_of_nonneg i (two_pow_nn _)]; exact q)
theorem iop_and : OpR X (inplaceOp .BitAnd) (rI0 fun i j => .int (Builtin.bitAnd i j)) := opI0 fun _ _ _ _ _ _ _ q => iand_int q
theorem iop_or : OpR X (inplaceOp .BitOr) (rI0 fun i j => .int (Builtin.bitOr i j)) := opI0 fun _ _ _ _ _ _ _ q => ior_int q
theorem iop_xor : OpR X (inplaceOp .BitXor) (rI0 fun i j => .int (Builtin.bitXor i j)) := opI0 fun _ _ _ _ _ _ _ q => ixor_int q

theorem unI {f : Value → Sem Value} {g : Int → Int}
    (rule : ∀ (i : Int) (t : Tok) (s : Shared) (Q : Value → Shared → Prop) (E : Value → Shared → Prop), Q (.int (g i) s.toks) { s with toks := s.toks + 1 } → wpAny (model X.prog X.w) X.A (f (.int i t)) Q E s) :
    UnR X f (rU fun i => .int (g i)) := by
  intro pins s σ H x v Q I rx h
  obtain ⟨i, rfl, q⟩ := h
  obtain ⟨t, rfl⟩ := rx
  exact rule i t s _ _ ⟨.int (g i), H, I.tok _, ⟨_, rfl⟩, q⟩
theorem un_neg : UnR X (unaryOp .USub) (rU fun i => .int (-i)) := unI fun _ _ _ _ _ q => neg_int q
theorem un_inv : UnR X (unaryOp .Invert) (rU fun i => .int (Builtin.bitNot i)) := unI fun _ _ _ _ _ q => invert_int q

/-! ### bools among ints: n += (a < b) -/
theorem op_add_ib : OpR X (binaryOp .Add) (fun x y H Q => ∃ i k, x = .int i ∧ y = .bl k ∧ Q (.int (i + b2i k)) H) := by
  intro pins s σ H x y v u Q I rx ry h
  obtain ⟨i, k, rfl, rfl, q⟩ := h
  obtain ⟨t, rfl⟩ := rx
  cases ry
  exact add_int_bool ⟨.int (i + b2i k), H, I.tok _, ⟨_, rfl⟩, q⟩
end

/-! ### comparisons -/
/-- the scalars that == tells apart as data does -/
def scal : V → V → Bool
  | .non, .non => true | .non, .int _ => true | .int _, .non => true | .non, .bl _ => true | .bl _, .non => true | .non, .str _ => true | .str _, .non => true
  | .int _, .int _ => true | .bl _, .bl _ => true | .str _, .str _ => true | .byt _, .byt _ => true
  | .int _, .str _ => true | .str _, .int _ => true | .bl _, .str _ => true | .str _, .bl _ => true
  | _, _ => false
def rEq : R2 := fun x y H Q => scal x y = true ∧ Q (.bl (decide (x = y))) H
def rNe : R2 := fun x y H Q => scal x y = true ∧ Q (.bl (!decide (x = y))) H

theorem dec_int {i j : Int} : decide (V.int i = V.int j) = (i == j) := by
  rw [Bool.eq_iff_iff]
  simp
theorem dec_bl {i j : Bool} : decide (V.bl i = V.bl j) = (i == j) := by
  rw [Bool.eq_iff_iff]
  simp
theorem dec_str {i j : Str} : decide (V.str i = V.str j) = (i == j) := by
  rw [Bool.eq_iff_iff]
  simp
theorem dec_byt {i j : Array UInt8} : decide (V.byt i = V.byt j) = (i.toList == j.toList) := by
  rw [Bool.eq_iff_iff]
  cases i
  cases j
  simp

section
variable {X : Cx} {a b c : Expr} {ta tb tc : TE} {pos : Pos}
theorem fin_bl {pins : List (Addr × Obj)} {σ : St} {H : Hp} {s : Shared} {Q : VK} {k k' : Bool} (I : Inv X pins σ H s) (q : Q (.bl k) H) (e : k = k') : EP X pins σ Q (.bool k') s := by
  subst e
  exact ⟨.bl k, H, I, rfl, q⟩
theorem op_eq : OpR X (compareOp .Eq) rEq := by
  intro pins s σ H x y v u Q I rx ry h
  obtain ⟨hs, q⟩ := h
  cases x with
  | non =>
    cases rx
    cases y with
    | non => cases ry; exact PySem.EqNone.eq_none_none (fin_bl I q (by simp))
    | bl j => cases ry; exact PySem.EqNone.eq_none_bool (fin_bl I q (by simp))
    | int j => obtain ⟨t', rfl⟩ := ry; exact PySem.EqNone.eq_none_int (fin_bl I q (by simp))
    | str j => obtain ⟨t', rfl⟩ := ry; exact PySem.EqNone.eq_none_str (fin_bl I q (by simp))
    | _ => exact absurd (show false = true from hs) Bool.false_ne_true
  | bl i =>
    cases rx
    cases y with
    | non => cases ry; exact PySem.EqNone.eq_bool_none (fin_bl I q (by simp))
    | bl j => cases ry; exact eq_bool (fin_bl I q dec_bl)
    | str j => obtain ⟨t', rfl⟩ := ry; exact PySem.EqMixed.eq_bool_str (fin_bl I q (by simp))
    | _ => exact absurd (show false = true from hs) Bool.false_ne_true
  | int i =>
    obtain ⟨t, rfl⟩ := rx
    cases y with
    | non => cases ry; exact PySem.EqNone.eq_int_none (fin_bl I q (by simp))
    | int j => obtain ⟨t', rfl⟩ := ry; exact eq_int (fin_bl I q dec_int)
    | str j => obtain ⟨t', rfl⟩ := ry; exact PySem.EqMixed.eq_int_str (fin_bl I q (by simp))
    | _ => exact absurd (show false = true from hs) Bool.false_ne_true
  | str i =>
    obtain ⟨t, rfl⟩ := rx
    cases y with
    | non => cases ry; exact PySem.EqNone.eq_str_none (fin_bl I q (by simp))
    | bl j => cases ry; exact PySem.EqMixed.eq_str_bool (fin_bl I q (by simp))
    | int j => obtain ⟨t', rfl⟩ := ry; exact PySem.EqMixed.eq_str_int (fin_bl I q (by simp))
    | str j => obtain ⟨t', rfl⟩ := ry; exact eq_str (fin_bl I q dec_str)
    | _ => exact absurd (show false = true from hs) Bool.false_ne_true
  | byt i =>
    obtain ⟨t, rfl⟩ := rx
    cases y with
    | byt j => obtain ⟨t', rfl⟩ := ry; exact PySem.W.eq_bytes (fin_bl I q dec_byt)
    | _ => exact absurd (show false = true from hs) Bool.false_ne_true
  | _ => cases y <;> exact absurd (show false = true from hs) Bool.false_ne_true
theorem op_ne : OpR X (compareOp .NotEq) rNe := by
  intro pins s σ H x y v u Q I rx ry h
  obtain ⟨hs, q⟩ := h
  cases x with
  | non =>
    cases rx
    cases y with
    | non => cases ry; exact PySem.EqNone.ne_none_none (fin_bl I q (by simp))
    | bl j => cases ry; exact PySem.EqNone.ne_none_bool (fin_bl I q (by simp))
    | int j => obtain ⟨t', rfl⟩ := ry; exact PySem.EqNone.ne_none_int (fin_bl I q (by simp))
    | str j => obtain ⟨t', rfl⟩ := ry; exact PySem.EqNone.ne_none_str (fin_bl I q (by simp))
    | _ => exact absurd (show false = true from hs) Bool.false_ne_true
  | bl i =>
    cases rx
    cases y with
    | non => cases ry; exact PySem.EqNone.ne_bool_none (fin_bl I q (by simp))
    | bl j => cases ry; exact ne_bool (fin_bl I q (congrArg not dec_bl))
    | str j => obtain ⟨t', rfl⟩ := ry; exact PySem.EqMixed.ne_bool_str (fin_bl I q (by simp))
    | _ => exact absurd (show false = true from hs) Bool.false_ne_true
  | int i =>
    obtain ⟨t, rfl⟩ := rx
    cases y with
    | non => cases ry; exact PySem.EqNone.ne_int_none (fin_bl I q (by simp))
    | int j => obtain ⟨t', rfl⟩ := ry; exact ne_int (fin_bl I q (congrArg not dec_int))
    | str j => obtain ⟨t', rfl⟩ := ry; exact PySem.EqMixed.ne_int_str (fin_bl I q (by simp))
    | _ => exact absurd (show false = true from hs) Bool.false_ne_true
  | str i =>
    obtain ⟨t, rfl⟩ := rx
    cases y with
    | non => cases ry; exact PySem.EqNone.ne_str_none (fin_bl I q (by simp))
    | bl j => cases ry; exact PySem.EqMixed.ne_str_bool (fin_bl I q (by simp))
    | int j => obtain ⟨t', rfl⟩ := ry; exact PySem.EqMixed.ne_str_int (fin_bl I q (by simp))
    | str j => obtain ⟨t', rfl⟩ := ry; exact ne_str (fin_bl I q (congrArg not dec_str))
    | _ => exact absurd (show false = true from hs) Bool.false_ne_true
  | byt i =>
    obtain ⟨t, rfl⟩ := rx
    cases y with
    | byt j => obtain ⟨t', rfl⟩ := ry; exact PySem.W.ne_bytes (fin_bl I q (congrArg not dec_byt))
    | _ => exact absurd (show false = true from hs) Bool.false_ne_true
  | _ => cases y <;> exact absurd (show false = true from hs) Bool.false_ne_true

theorem op_lt : OpR X (compareOp .Lt) (rI0 fun i j => .bl (decide (i < j))) := opB0 fun _ _ _ _ _ _ _ q => lt_int q
theorem op_le : OpR X (compareOp .LtE) (rI0 fun i j => .bl (decide (i ≤ j))) := opB0 fun _ _ _ _ _ _ _ q => le_int q
theorem op_gt : OpR X (compareOp .Gt) (rI0 fun i j => .bl (decide (j < i))) := opB0 fun _ _ _ _ _ _ _ q => gt_int q
theorem op_ge : OpR X (compareOp .GtE) (rI0 fun i j => .bl (decide (j ≤ i))) := opB0 fun _ _ _ _ _ _ _ q => ge_int q
theorem op_lt_str : OpR X (compareOp .Lt) (fun x y H Q => ∃ i j, x = .str i ∧ y = .str j ∧ Q (.bl (decide (i.cps.toList < j.cps.toList))) H) := by
  intro pins s σ H x y v u Q I rx ry h
  obtain ⟨i, j, rfl, rfl, q⟩ := h
  obtain ⟨t, rfl⟩ := rx
  obtain ⟨t', rfl⟩ := ry
  exact lt_str (fin_bl I q rfl)
/-- the one string within the other -/
theorem op_in_str : OpR X (compareOp .In) (fun x y H Q => ∃ i j, x = .str i ∧ y = .str j ∧ Q (.bl (!(Builtin.Str.occurrences j i 0 j.length 1).isEmpty)) H) := by
  intro pins s σ H x y v u Q I rx ry h
  obtain ⟨i, j, rfl, rfl, q⟩ := h
  obtain ⟨t, rfl⟩ := rx
  obtain ⟨t', rfl⟩ := ry
  exact in_str (fin_bl I q rfl)

/-- is None, is not None: the right side a value none -/
theorem op_isN : OpR X (compareOp .Is) (fun x y H Q => y = .non ∧ Q (.bl (decide (x = .non))) H) := by
  intro pins s σ H x y v u Q I rx ry h
  obtain ⟨rfl, q⟩ := h
  cases ry
  refine is_none_gen (fin_bl I q ?_)
  cases x <;> first
    | (cases rx; rfl)
    | (obtain ⟨t, rfl⟩ := rx; rfl)
theorem op_notN : OpR X (compareOp .IsNot) (fun x y H Q => y = .non ∧ Q (.bl (!decide (x = .non))) H) := by
  intro pins s σ H x y v u Q I rx ry h
  obtain ⟨rfl, q⟩ := h
  cases ry
  refine isnot_none_gen (fin_bl I q ?_)
  cases x <;> first
    | (cases rx; rfl)
    | (obtain ⟨t, rfl⟩ := rx; rfl)

theorem op_notin_str : OpR X (compareOp .NotIn) (fun x y H Q => ∃ i j, x = .str i ∧ y = .str j ∧ Q (.bl (!(!(Builtin.Str.occurrences j i 0 j.length 1).isEmpty))) H) := by
  intro pins s σ H x y v u Q I rx ry h
  obtain ⟨i, j, rfl, rfl, q⟩ := h
  obtain ⟨t, rfl⟩ := rx
  obtain ⟨t', rfl⟩ := ry
  exact notIn_str (fin_bl I q rfl)
/-- is, is not of two objects that are tracked lists or instances -/
def isObj : HO → Bool
  | .lst _ => true
  | .ins _ _ _ => true
  | _ => false
theorem obj_there {pins : List (Addr × Obj)} {s : Shared} {σ : St} {H : Hp} {a : Addr} {o : HO} (I : Inv X pins σ H s) (h : H a = some o) (p : isObj o = true) : ∃ ob, s.heap.get? a = some ob ∧ ob.cls ≠ .type "tuple" := by
  cases o with
  | lst xs =>
    obtain ⟨_, its, n, _, e⟩ : xs.length ≤ sizeLine ∧ ∃ (its : List Value) (n : Nat), Vals xs its ∧ s.heap.get? a = some { cls := .type "list", data := .seq its.toArray n } := I.hok a _ h
    exact ⟨_, e, (by show Value.type "list" ≠ .type "tuple"; decide +kernel)⟩
  | ins C dx fs =>
    have x := I.hok a _ h
    obtain ⟨_, _, _, e, _⟩ := x
    exact ⟨_, e, (by show Value.ref C ≠ .type "tuple"; exact fun z => by cases z)⟩
  | _ => exact absurd (show false = true from p) Bool.false_ne_true
theorem op_is_ref : OpR X (compareOp .Is) (fun x y H Q => ∃ a b oa ob, x = .ref a ∧ y = .ref b ∧ H a = some oa ∧ isObj oa = true ∧ H b = some ob ∧ isObj ob = true ∧ Q (.bl (decide (a = b))) H) := by
  intro pins s σ H x y v u Q I rx ry h
  obtain ⟨a, b, oa, ob, rfl, rfl, ha, pa, hb, pb, q⟩ := h
  cases rx
  cases ry
  obtain ⟨o1, e1, n1⟩ := obj_there I ha pa
  obtain ⟨o2, e2, _⟩ := obj_there I hb pb
  by_cases z : a = b
  · subst z
    exact wpAny_is_ref_self (fin_bl I q (by simp))
  · exact wpAny_is_ref_other z e1 e2 n1 (fin_bl I q (by simp [z]))
theorem op_isnot_ref : OpR X (compareOp .IsNot) (fun x y H Q => ∃ a b oa ob, x = .ref a ∧ y = .ref b ∧ H a = some oa ∧ isObj oa = true ∧ H b = some ob ∧ isObj ob = true ∧ Q (.bl (!decide (a = b))) H) := by
  intro pins s σ H x y v u Q I rx ry h
  obtain ⟨a, b, oa, ob, rfl, rfl, ha, pa, hb, pb, q⟩ := h
  cases rx
  cases ry
  obtain ⟨o1, e1, n1⟩ := obj_there I ha pa
  obtain ⟨o2, e2, _⟩ := obj_there I hb pb
  by_cases z : a = b
  · subst z
    exact wpAny_isNot_ref_self (fin_bl I q (by simp))
  · exact wpAny_isNot_ref_other z e1 e2 n1 (fin_bl I q (by simp [z]))

/-- two rules for one operation: by cases -/
theorem OpR.or {f : Value → Value → Sem Value} {r r' : R2} (h : OpR X f r) (h' : OpR X f r') : OpR X f (fun x y H Q => r x y H Q ∨ r' x y H Q) := by
  intro pins s σ H x y v u Q I rx ry q
  rcases q with q | q
  · exact h pins s σ H x y v u Q I rx ry q
  · exact h' pins s σ H x y v u Q I rx ry q

theorem nomark (b : Expr) {op : CmpOp} (h : op ≠ .In := by decide) (h2 : op ≠ .NotIn := by decide) : behindInMarks op b = false := by
  have e1 : (op == CmpOp.In) = false := by cases op <;> first | rfl | exact absurd rfl h
  have e2 : (op == CmpOp.NotIn) = false := by cases op <;> first | rfl | exact absurd rfl h2
  cases b <;> simp [behindInMarks, e1, e2]
/-- a comparison as a value; hm: nomark b, or (for in, not in) by with_unfolding_all rfl -/
theorem pe_cmpR {op : CmpOp} {r : R2} (ho : OpR X (compareOp op) r) (ha : PE X a ta) (hb : PE X b tb) (hm : behindInMarks op b = false) : PE X (.Compare a [op] [b] pos) (tOp r ta tb) := by
  intro pins s σ H Q I h
  exact wpAny_Compare1 (binT ha hb I h fun v u s2 x y H2 I2 rx ry q => ho pins s2 σ H2 x y v u Q I2 rx ry q) hm
/-- a reading of a value as a test -/
def tTest (t : TE) : TT := fun σ H Q => t σ H fun x H' => ∃ k, x = .bl k ∧ Q k H'
theorem pt_cmpR {op : CmpOp} {r : R2} (ho : OpR X (compareOp op) r) (ha : PE X a ta) (hb : PE X b tb) (hm : behindInMarks op b = false) : PT X (.Compare a [op] [b] pos) (tTest (tOp r ta tb)) := by
  intro pins s σ H Q I h
  refine wpAny_isTrue_Compare1 (thn (ha pins s σ H _ I h) fun v s1 ⟨x, H1, I1, r1, q1⟩ => thn (hb pins s1 σ H1 _ I1 q1) fun u s2 ⟨y, H2, I2, r2, q2⟩ =>
    thn (ho pins s2 σ H2 x y v u _ I2 r1 r2 q2) fun c s3 ⟨z, H3, I3, r3, k, e, q3⟩ => ?_) hm
  subst e
  cases r3
  exact wpAny_truthy_bool ⟨H3, I3, q3⟩
/-- a op1 b op2 c -/
def tChain (r r' : R2) (ta tb tc : TE) : TE := fun σ H Q => ta σ H fun x H1 => tb σ H1 fun y H2 => r x y H2 fun z H3 => ∃ k, z = .bl k ∧
  (if k = true then tc σ H3 fun w' H4 => r' y w' H4 Q else Q (.bl false) H3)
theorem pe_chain {op op' : CmpOp} {r r' : R2} (ho : OpR X (compareOp op) r) (ho' : OpR X (compareOp op') r') (ha : PE X a ta) (hb : PE X b tb) (hc : PE X c tc)
    (hm : lastMarks [op, op'] [b, c] = false := by with_unfolding_all rfl) : PE X (.Compare a [op, op'] [b, c] pos) (tChain r r' ta tb tc) := by
  intro pins s σ H Q I h
  refine Compare_chain (thn (ha pins s σ H _ I h) fun v s1 ⟨x, H1, I1, r1, q1⟩ => chain_link (thn (hb pins s1 σ H1 _ I1 q1) fun u s2 ⟨y, H2, I2, r2, q2⟩ =>
    thn (ho pins s2 σ H2 x y v u _ I2 r1 r2 q2) fun d s3 ⟨z, H3, I3, r3, k, e, q3⟩ => ?_)) hm
  subst e
  cases r3
  refine wpAny_truthy_bool ?_
  cases k with
  | false => exact ite_ff ⟨.bl false, H3, I3, rfl, q3⟩
  | true => exact ite_tt (chain_last (thn (hc pins s3 σ H3 _ I3 q3) fun w' s4 ⟨z', H4, I4, r4, q4⟩ => ho' pins s4 σ H4 y z' u w' Q I4 r2 r4 q4))
theorem pt_chain {op op' : CmpOp} {r r' : R2} (ho : OpR X (compareOp op) r) (ho' : OpR X (compareOp op') r') (ha : PE X a ta) (hb : PE X b tb) (hc : PE X c tc)
    (hm : lastMarks [op, op'] [b, c] = false := by with_unfolding_all rfl) : PT X (.Compare a [op, op'] [b, c] pos) (tTest (tChain r r' ta tb tc)) := by
  intro pins s σ H Q I h
  refine isTrue_chain (thn (ha pins s σ H _ I h) fun v s1 ⟨x, H1, I1, r1, q1⟩ => test_link (thn (hb pins s1 σ H1 _ I1 q1) fun u s2 ⟨y, H2, I2, r2, q2⟩ =>
    thn (ho pins s2 σ H2 x y v u _ I2 r1 r2 q2) fun d s3 ⟨z, H3, I3, r3, k, e, q3⟩ => ?_)) hm
  subst e
  cases r3
  refine wpAny_truthy_bool ?_
  cases k with
  | false =>
    obtain ⟨k', e', q'⟩ := q3
    cases e'
    exact ite_ff ⟨H3, I3, q'⟩
  | true =>
    refine ite_tt (test_last (thn (hc pins s3 σ H3 _ I3 q3) fun w' s4 ⟨z', H4, I4, r4, q4⟩ => thn (ho' pins s4 σ H4 y z' u w' _ I4 r2 r4 q4) fun d' s5 ⟨z2, H5, I5, r5, k2, e2, q5⟩ => ?_))
    subst e2
    cases r5
    exact wpAny_truthy_bool ⟨H5, I5, q5⟩

/-! ### truth -/
/-- a value's truth by the abstract heap -/
def TruV (K : PySem.W.Frag) (x : V) (H : Hp) (k : Bool) : Prop :=
  match x with
  | .non => k = false
  | .bl b => k = b
  | .int i => k = (i != 0)
  | .str y => y.length ≤ sizeLine ∧ k = ((y.length : Int) != 0)
  | .byt y => y.size ≤ sizeLine ∧ k = ((y.size : Int) != 0)
  | .ref p => (∃ xs, SqL K H p xs ∧ k = !xs.isEmpty) ∨ (∃ xs, SqT K H p xs ∧ k = !xs.isEmpty) ∨ ∃ kvs, H p = some (.dK kvs) ∧ k = !kvs.isEmpty
  | _ => False
theorem isEmpty_kv {κ : Type} {kvs : List (κ × V)} {vs : List (κ × Value)} (r : KV kvs vs) : (!vs.isEmpty) = !kvs.isEmpty := by
  cases r <;> rfl
theorem isEmpty_of {xs : List V} {its : List Value} (r : Vals xs its) : (!its.toArray.isEmpty) = !xs.isEmpty := by
  cases r <;> simp
theorem line63 : (sizeLine : Nat) < 2 ^ 63 := by rw [sizeLine_eq]; decide
theorem tru_ok : TruR X (fun x H Q => ∃ k, TruV X.K x H k ∧ Q k H) := by
  intro pins s σ H x v Q I rx h
  obtain ⟨k, e, q⟩ := h
  have hl := line63
  have hs : sizeLine = 16777216 := sizeLine_eq
  cases x with
  | non =>
    cases rx
    have e' : k = false := e
    subst e'
    exact truthy_none ⟨H, I, q⟩
  | bl b =>
    cases rx
    have e' : k = b := e
    subst e'
    exact wpAny_truthy_bool ⟨H, I, q⟩
  | int i =>
    obtain ⟨t, rfl⟩ := rx
    have e' : k = (i != 0) := e
    subst e'
    exact PySem.P.truthy_int ⟨H, I, q⟩
  | str y =>
    obtain ⟨t, rfl⟩ := rx
    obtain ⟨hy, e'⟩ : y.length ≤ sizeLine ∧ k = ((y.length : Int) != 0) := e
    subst e'
    exact PySem.P.truthy_str (by omega) ⟨H, I.tok _, q⟩
  | byt y =>
    obtain ⟨t, rfl⟩ := rx
    obtain ⟨hy, e'⟩ : y.size ≤ sizeLine ∧ k = ((y.size : Int) != 0) := e
    subst e'
    exact PySem.W.truthy_bytes (by omega) ⟨H, I.tok _, q⟩
  | ref p =>
    cases rx
    have e' : (∃ xs, SqL X.K H p xs ∧ k = !xs.isEmpty) ∨ (∃ xs, SqT X.K H p xs ∧ k = !xs.isEmpty) ∨ ∃ kvs, H p = some (.dK kvs) ∧ k = !kvs.isEmpty := e
    rcases e' with ⟨xs, hx, e'⟩ | ⟨xs, hx, e'⟩ | ⟨kvs, hx, e'⟩
    · subst e'
      obtain ⟨its, r, pl, hz⟩ := I.list hx
      have hlen := r.length
      exact wpAny_truthy_list pl.isList (by simp only [List.size_toArray]; omega) ⟨H, I.tok _, by rw [isEmpty_of r]; exact q⟩
    · subst e'
      obtain ⟨its, r, pl, hz⟩ := I.tuple hx
      have hlen := r.length
      exact truthy_tuple pl (by simp only [List.size_toArray]; omega) ⟨H, I.tok _, by rw [isEmpty_of r]; exact q⟩
    · subst e'
      obtain ⟨hz, hS, vs, r, m⟩ : kvs.length ≤ sizeLine ∧ (p == sysModules) = false ∧ ∃ vs, KV kvs vs ∧ s.heap.DictOf (mixKind X.prog X.w) p vs := I.hok p _ hx
      have hlen : kvs.length = vs.length := Paired.length r
      exact wpAny_truthy_dict hS m (by omega) ⟨H, I.tok _, by rw [isEmpty_kv r]; exact q⟩
  | _ => exact (show False from e).elim
/-- any expression whose test is its value's truth (a name, a call, a subscript, a field ..: he by fun _ => rfl) -/
theorem pt_truth (ha : PE X a ta) (he : ∀ whole, isTrue a X.env whole = (do let v ← whole; standAt a.pos; holding [v] (truthy v))) :
    PT X a (fun σ H Q => ta σ H fun x H' => ∃ k, TruV X.K x H' k ∧ Q k H') := by
  intro pins s σ H Q I h
  exact isTrue_plain (thn (ha pins s σ H _ I h) fun v s1 ⟨x, H1, I1, r1, q1⟩ => tru_ok pins s1 σ H1 x v Q I1 r1 q1) (he _)

/-! ### strs and bytes -/
theorem pe_byt {x : List UInt8} {k : Nat} : PE X (.Constant (.bytes x) k pos) (fun _ H Q => Q (.byt x.toArray) H) := fun _ _ _ H _ I h => PySem.W.Constant_bytes ⟨.byt x.toArray, H, I.tok _, ⟨_, rfl⟩, h⟩
theorem op_add_str : OpR X (binaryOp .Add) (fun x y H Q => ∃ i j, x = .str i ∧ y = .str j ∧ i.length + j.length ≤ sizeLine ∧ Q (.str (i ++ j)) H) := by
  intro pins s σ H x y v u Q I rx ry h
  obtain ⟨i, j, rfl, rfl, hz, q⟩ := h
  obtain ⟨t, rfl⟩ := rx
  obtain ⟨t', rfl⟩ := ry
  exact add_str (fun t' tk => ⟨.str (i ++ j), H, I.tok _, ⟨_, rfl⟩, q⟩) hz
theorem iop_add_str : OpR X (inplaceOp .Add) (fun x y H Q => ∃ i j, x = .str i ∧ y = .str j ∧ i.length + j.length ≤ sizeLine ∧ Q (.str (i ++ j)) H) := by
  intro pins s σ H x y v u Q I rx ry h
  obtain ⟨i, j, rfl, rfl, hz, q⟩ := h
  obtain ⟨t, rfl⟩ := rx
  obtain ⟨t', rfl⟩ := ry
  exact iadd_str (fun t' tk => ⟨.str (i ++ j), H, I.tok _, ⟨_, rfl⟩, q⟩) hz
theorem op_add_byt : OpR X (binaryOp .Add) (fun x y H Q => ∃ i j, x = .byt i ∧ y = .byt j ∧ i.size + j.size ≤ 16777216 ∧ Q (.byt (i ++ j)) H) := by
  intro pins s σ H x y v u Q I rx ry h
  obtain ⟨i, j, rfl, rfl, hz, q⟩ := h
  obtain ⟨t, rfl⟩ := rx
  obtain ⟨t', rfl⟩ := ry
  exact PySem.W.KBy.add_bytes hz (fun t' tk => ⟨.byt (i ++ j), H, I.tok _, ⟨_, rfl⟩, q⟩)

def PlainIxT (b : Expr) : Prop := ∀ o i, subscripted b false o i = operate [o, i] (getItem o i)
/-- s[i], 0 ≤ i < len -/
theorem pe_item_str (ha : PE X a ta) (hb : PE X b tb) (hs : PlainIxT b) :
    PE X (.Subscript a b pos) (tOp (fun x y H Q => ∃ z i c, x = .str z ∧ y = .int i ∧ 0 ≤ i ∧ i < 2 ^ 63 ∧ i < z.length ∧ z.cps[i.toNat]? = some c ∧ Q (.str ⟨#[c]⟩) H) ta tb) := by
  intro pins s σ H Q I h
  refine Subscript_ (binT ha hb I h fun v u s2 x y H2 I2 rx ry q => ?_)
  obtain ⟨z, i, c, rfl, rfl, h0, h63, h1, hc, q⟩ := q
  obtain ⟨t, rfl⟩ := rx
  obtain ⟨t', rfl⟩ := ry
  have e : seqIndex? i z.length = some i.toNat := PySem.StrLaws.seqIndex_nonneg h0 h1
  exact tail_any (typeIs_str s2 z t) slot_str_getitem.lookup (getItem_str (c := c) (by
    have e1 : decide (i < -(2 ^ 63 : Int)) = false := decide_eq_false (by omega)
    have e2 : decide (i ≥ 2 ^ 63) = false := decide_eq_false (by omega)
    rw [e1, e2] <;> rfl) (by rw [e]; exact hc) ⟨.str ⟨#[c]⟩, H2, I2.tok _, ⟨_, rfl⟩, q⟩) (hs _ _)
/-- b[i], 0 ≤ i < len -/
theorem pe_item_byt (ha : PE X a ta) (hb : PE X b tb) (hs : PlainIxT b) :
    PE X (.Subscript a b pos) (tOp (fun x y H Q => ∃ (z : List UInt8) (i : Int), x = .byt z.toArray ∧ y = .int i ∧ z.length ≤ sizeLine ∧ 0 ≤ i ∧ i < z.length ∧ Q (.int ((z.getD i.toNat 0).toNat : Nat)) H) ta tb) := by
  intro pins s σ H Q I h
  refine Subscript_ (binT ha hb I h fun v u s2 x y H2 I2 rx ry q => ?_)
  obtain ⟨z, i, rfl, rfl, hz, h0, h1, q⟩ := q
  obtain ⟨t, rfl⟩ := rx
  obtain ⟨t', rfl⟩ := ry
  have hl : sizeLine = 16777216 := sizeLine_eq
  exact tail_any (PySem.W.typeIs_bytes s2 z.toArray t) PySem.W.FB.slot_bytes_getitem.lookup (PySem.W.getItem_bytes (by omega) h0 h1 ⟨.int ((z.getD i.toNat 0).toNat : Nat), H2, I2.tok _, ⟨_, rfl⟩, q⟩) (hs _ _)

/-! ### scalar builtins, by CallR -/
theorem vals1 {x : V} {us : List Value} (r : Vals [x] us) : ∃ u, us = [u] ∧ RelV x u := by
  cases r with
  | cons r1 r2 => cases r2; exact ⟨_, rfl, r1⟩
theorem vals2 {x y : V} {us : List Value} (r : Vals [x, y] us) : ∃ u w', us = [u, w'] ∧ RelV x u ∧ RelV y w' := by
  cases r with
  | cons r1 r2 =>
    cases r2 with
    | cons r3 r4 => cases r4; exact ⟨_, _, rfl, r1, r3⟩
theorem call_abs : CallR X (.builtin "abs") (fun xs H Q => ∃ i, xs = [.int i] ∧ Q (.int (if i < 0 then -i else i)) H) := by
  intro pins s σ H xs us Q I r h
  obtain ⟨i, rfl, q⟩ := h
  obtain ⟨u, rfl, t, rfl⟩ := vals1 r
  exact call_abs_int fun u tk => ⟨.int (if i < 0 then -i else i), H, I.tok _, ⟨_, rfl⟩, q⟩
theorem call_max2 (hc : X.calm = true) : CallR X (.builtin "max") (fun xs H Q => ∃ i j, xs = [.int i, .int j] ∧ Q (.int (if j > i then j else i)) H) := by
  intro pins s σ H xs us Q I r h
  obtain ⟨i, j, rfl, q⟩ := h
  obtain ⟨u, w', rfl, ⟨t, rfl⟩, ⟨t', rfl⟩⟩ := vals2 r
  refine max_two_ints (I.ok.hd hc) fun h' tk k => ⟨_, H, I.kept k, ?_, q⟩
  by_cases hj : j > i
  · rw [if_pos hj, if_pos hj]; exact ⟨_, rfl⟩
  · rw [if_neg hj, if_neg hj]; exact ⟨_, rfl⟩
theorem call_min2 (hc : X.calm = true) : CallR X (.builtin "min") (fun xs H Q => ∃ i j, xs = [.int i, .int j] ∧ Q (.int (if j < i then j else i)) H) := by
  intro pins s σ H xs us Q I r h
  obtain ⟨i, j, rfl, q⟩ := h
  obtain ⟨u, w', rfl, ⟨t, rfl⟩, ⟨t', rfl⟩⟩ := vals2 r
  refine min_two_ints (I.ok.hd hc) fun h' tk k => ⟨_, H, I.kept k, ?_, q⟩
  by_cases hj : j < i
  · rw [if_pos hj, if_pos hj]; exact ⟨_, rfl⟩
  · rw [if_neg hj, if_neg hj]; exact ⟨_, rfl⟩
theorem call_int1 : CallR X (.type "int") (fun xs H Q => (∃ i, xs = [.int i] ∧ Q (.int i) H) ∨ ∃ k, xs = [.bl k] ∧ Q (.int (if k then 1 else 0)) H) := by
  intro pins s σ H xs us Q I r h
  rcases h with ⟨i, rfl, q⟩ | ⟨k, rfl, q⟩
  · obtain ⟨u, rfl, t, rfl⟩ := vals1 r
    exact call_int_int ⟨.int i, H, I, ⟨_, rfl⟩, q⟩
  · obtain ⟨u, rfl, r1⟩ := vals1 r
    cases r1
    exact call_int_bool ⟨.int (if k then 1 else 0), H, I.tok _, ⟨_, rfl⟩, q⟩
theorem call_bool1 : CallR X (.type "bool") (fun xs H Q => (∃ i, xs = [.int i] ∧ Q (.bl (i != 0)) H) ∨ ∃ k, xs = [.bl k] ∧ Q (.bl k) H) := by
  intro pins s σ H xs us Q I r h
  rcases h with ⟨i, rfl, q⟩ | ⟨k, rfl, q⟩
  · obtain ⟨u, rfl, t, rfl⟩ := vals1 r
    exact call_bool_int ⟨.bl (i != 0), H, I, rfl, q⟩
  · obtain ⟨u, rfl, r1⟩ := vals1 r
    cases r1
    exact call_bool_bool ⟨.bl k, H, I, rfl, q⟩
theorem call_str_int : CallR X (.type "str") (fun xs H Q => ∃ i, xs = [.int i] ∧ i.natAbs.log2 < 1920 ∧ Q (.str (toString i)) H) := by
  intro pins s σ H xs us Q I r h
  obtain ⟨i, rfl, hz, q⟩ := h
  obtain ⟨u, rfl, t, rfl⟩ := vals1 r
  exact PySem.P.str_of_int hz ⟨.str _, H, I.tok _, ⟨_, rfl⟩, q⟩
theorem call_ord : CallR X (.builtin "ord") (fun xs H Q => ∃ x, xs = [.str x] ∧ x.length = 1 ∧ Q (.int (x.cps.getD 0 0 : Nat)) H) := by
  intro pins s σ H xs us Q I r h
  obtain ⟨x, rfl, hz, q⟩ := h
  obtain ⟨u, rfl, t, rfl⟩ := vals1 r
  exact ord_of_one hz ⟨.int _, H, I.tok _, ⟨_, rfl⟩, q⟩
theorem call_chr : CallR X (.builtin "chr") (fun xs H Q => ∃ i, xs = [.int i] ∧ 0 ≤ i ∧ i ≤ 1114111 ∧ Q (.str ⟨#[i.toNat]⟩) H) := by
  intro pins s σ H xs us Q I r h
  obtain ⟨i, rfl, h0, h1, q⟩ := h
  obtain ⟨u, rfl, t, rfl⟩ := vals1 r
  exact chr_of_range h0 h1 ⟨.str _, H, I.tok _, ⟨_, rfl⟩, q⟩
/-- len of a str, a bytes, a list, a tuple -/
def LenV (K : PySem.W.Frag) (x : V) (H : Hp) (n : Nat) : Prop :=
  match x with
  | .str y => y.length ≤ sizeLine ∧ n = y.length
  | .byt y => y.size ≤ sizeLine ∧ n = y.size
  | .ref p => (∃ xs, SqL K H p xs ∧ n = xs.length) ∨ ∃ xs, SqT K H p xs ∧ n = xs.length
  | _ => False
theorem call_len : CallR X (.builtin "len") (fun xs H Q => ∃ x n, xs = [x] ∧ LenV X.K x H n ∧ Q (.int n) H) := by
  intro pins s σ H xs us Q I r h
  obtain ⟨x, n, rfl, e, q⟩ := h
  obtain ⟨u, rfl, rx⟩ := vals1 r
  have hl := line63
  have hs : sizeLine = 16777216 := sizeLine_eq
  cases x with
  | str y =>
    obtain ⟨t, rfl⟩ := rx
    obtain ⟨hy, e'⟩ : y.length ≤ sizeLine ∧ n = y.length := e
    subst e'
    exact len_str (by omega) ⟨.int _, H, I.tok _, ⟨_, rfl⟩, q⟩
  | byt y =>
    obtain ⟨t, rfl⟩ := rx
    obtain ⟨hy, e'⟩ : y.size ≤ sizeLine ∧ n = y.size := e
    subst e'
    exact PySem.W.len_bytes (by omega) ⟨.int _, H, I.tok _, ⟨_, rfl⟩, q⟩
  | ref p =>
    cases rx
    have e' : (∃ xs, SqL X.K H p xs ∧ n = xs.length) ∨ ∃ xs, SqT X.K H p xs ∧ n = xs.length := e
    rcases e' with ⟨xs, hx, e'⟩ | ⟨xs, hx, e'⟩
    · subst e'
      obtain ⟨its, r', pl, hz⟩ := I.list hx
      have hlen := r'.length
      exact Calls.call_len_list pl.isList (by simp only [List.size_toArray]; omega) ⟨.int xs.length, H, I.tok _, ⟨_, by simp only [List.size_toArray]; rw [hlen]⟩, q⟩
    · subst e'
      obtain ⟨its, r', pl, hz⟩ := I.tuple hx
      have hlen := r'.length
      exact len_tuple pl (by simp only [List.size_toArray]; omega) ⟨.int xs.length, H, I.tok _, ⟨_, by simp only [List.size_toArray]; rw [hlen]⟩, q⟩
  | _ => exact (show False from e).elim
/-- divmod: a new tuple -/
theorem call_divmod : CallR X (.builtin "divmod") (fun xs H Q => ∃ i j, xs = [.int i, .int j] ∧ CDiv i j ∧ ∀ p, H p = none → Q (.ref p) (upd H p (.tup [.int (i / j), .int (i % j)]))) := by
  intro pins s σ H xs us Q I r h
  obtain ⟨i, j, rfl, ⟨h1, h2⟩, q⟩ := h
  obtain ⟨u, w', rfl, ⟨t, rfl⟩, ⟨t', rfl⟩⟩ := vals2 r
  refine divmod_int (by omega) ?_ (.inl (PyProof.noPylong_small (by omega)))
  rw [Int.fdiv_eq_ediv_of_nonneg i (by omega), Int.fmod_eq_emod_of_nonneg i (by omega)]
  have hn : H s.heap.objs.size = none := I.hok.fresh (Nat.le_refl _)
  refine ⟨.ref s.heap.objs.size, _, ?_, rfl, q _ hn⟩
  refine I.laid (fun b o e => Heap.get?_push_of_some _ e) (Nat.le_refl _) ⟨by simp only [List.length_cons, List.length_nil]; rw [sizeLine_eq]; decide, [.int (i / j) s.toks, .int (i % j) (s.toks + 1)], .cons ⟨_, rfl⟩ (.cons ⟨_, rfl⟩ .nil), ?_⟩
  exact ⟨_, Heap.get?_push_size s.heap rfl, rfl, 0, rfl⟩
end
end L2

namespace L2
open PySem PySem.Spec PyProof.Rows

/-! ### an instance, its attributes a map -/
structure ObjM (h : Heap) (x dx C : Addr) (mA : Str → Option Value) : Prop where
  obj : h.get? x = some (PySem.W.instObj C dx)
  ns : h.Ns1 dx mA
  ne : dx ≠ x

theorem lookIn_ns {h : Heap} {dx : Addr} {mA : Str → Option Value} (n : h.Ns1 dx mA) : ∃ od, h.get? dx = some od ∧ ∀ name, PySem.W.lookIn name od = some (mA name) := by
  obtain ⟨o, es, ep, ho, hd, hk, _, hm⟩ := n
  refine ⟨o, ho, fun name => ?_⟩
  have e := hm name
  unfold nsFind findBy at e
  rw [← Array.find?_toList] at e
  unfold PySem.W.lookIn
  rw [hd]
  dsimp only
  split
  · rename_i y q
    rw [q] at e
    exact congrArg some e
  · rename_i q
    rw [q] at e
    have a : es.toList.any (·.refKey) = false := by
      rw [List.any_eq_false]
      intro y hy
      obtain ⟨z, t, hkey⟩ := hk y (Array.mem_toList_iff.mp hy)
      simp [DictEntry.refKey, hkey]
    have a' : ¬ es.toList.any (·.refKey) = true := by rw [a]; exact Bool.false_ne_true
    rw [if_neg a']
    exact congrArg some e

theorem ObjM.look {h : Heap} {x dx C : Addr} {mA : Str → Option Value} (I : ObjM h x dx C mA) : ∃ od, PySem.W.InstAt h x (PySem.W.instObj C dx) C (some od) ∧ ∀ name, PySem.W.lookIn name od = some (mA name) :=
  let ⟨od, ho, hl⟩ := lookIn_ns I.ns
  ⟨od, ⟨I.obj, rfl, rfl, ho⟩, hl⟩

section
variable {prog : Program} {w : World} {A : Around} {E : Value → Shared → Prop} {s : Shared} {K : PySem.W.Frag} {x dx C f : Addr} {mA : Str → Option Value} {name : Str} {v : Value}

theorem get_map {expr : Bool} {Q : Value → Shared → Prop} (X : K.In s.heap) (I : ObjM s.heap x dx C mA) (hg : PySem.W.plainGet K C name = true) (hh : PySem.W.hasDictIn K C = true)
    (ha : PySem.W.findIn K (.ref C) name = some none) (hv : mA name = some v) (hv' : PySem.W.handedIn v = true) (h : Q v { s with toks := s.toks + 1 }) :
    wpAny (model prog w) A (getAttr (.ref x) name expr) Q E s := by
  obtain ⟨od, J, hl⟩ := I.look
  exact PySem.W.get_value X J (PySem.W.plainGet_of hg).1 (PySem.W.findObj_own hh ha rfl (by rw [hl, hv])) hv' h

theorem get_const {expr : Bool} {a : Value} {Q : Value → Shared → Prop} (X : K.In s.heap) (I : ObjM s.heap x dx C mA) (hg : PySem.W.plainGet K C name = true) (hh : PySem.W.hasDictIn K C = true)
    (ha : PySem.W.findIn K (.ref C) name = some (some a)) (hn : PySem.W.specialIn K a "__get__" = some none) (hc : PySem.W.copiedNames.contains name = false) (hv : mA name = none) (hv' : PySem.W.handedIn a = true)
    (h : Q a { s with toks := s.toks + 1 }) : wpAny (model prog w) A (getAttr (.ref x) name expr) Q E s := by
  obtain ⟨od, J, hl⟩ := I.look
  exact PySem.W.get_value X J (PySem.W.plainGet_of hg).1 (PySem.W.findObj_cls hh ha hn hv' hc (by rw [hl, hv])) hv' h

theorem get_meth {pl : Sem Bool} {Q : Value × List Value → Shared → Prop} (X : K.In s.heap) (I : ObjM s.heap x dx C mA) (hg : PySem.W.plainGet K C name = true)
    (hf : PySem.W.findIn K (.ref C) name = some (some (.ref f))) (ht : PySem.W.isFn K (.ref f) = true) (hv : mA name = none) (h : Q (.ref f, [.ref x]) s) :
    wpAny (model prog w) A (getMethod (.ref x) name pl) Q E s := by
  obtain ⟨od, J, hl⟩ := I.look
  exact PySem.W.method_fn X J (PySem.W.plainGet_of hg).1 (PySem.W.plainGet_of hg).2 hf (beq_iff_eq.mp ht) (by show (PySem.W.lookIn name od).map (·.isSome) = some false; rw [hl, hv]; rfl) h

theorem set_map {ns : List Str} {Q : Unit → Shared → Prop} (X : K.In s.heap) (I : ObjM s.heap x dx C mA)
    (hs : PySem.W.findIn K (.ref C) "__setattr__" = some (some (.builtin "object.__setattr__"))) (hp : PySem.W.plainOver K C = true) (ht : PySem.W.takerIn K C name = some none) (hh : PySem.W.hasDictIn K C = true)
    (hw : PySem.Within mA ns) (hsz : ns.length ≤ sizeLine)
    (h : ∀ h', ObjM h' x dx C (fun y => if y = name then some v else mA y) → Heap.SameBut dx s.heap h' → Q () { s with heap := h', toks := s.toks + 2 }) :
    wpAny (model prog w) A (setAttr (.ref x) name v) Q E s := by
  obtain ⟨od, J, hl⟩ := I.look
  refine PySem.W.set_plain X J hs (PySem.W.osa_open (s := { s with toks := s.toks + 1 }) (r := none) X J hp ht fun b => ?_)
  obtain ⟨cd, hc, hd'⟩ := PySem.W.any_some hh
  have hx : s.heap.get? x = some ⟨.ref C, some dx, .plain, #[]⟩ := I.obj
  refine wpAny_bind (wpAny_pure (wpAny_bind (wpAny_bind (wpAny_loadPart hx (wpAny_bind (PySem.W.Looks.here (s := { s with toks := s.toks + 1 }) (PySem.W.looks_clsIn X hc) ?_))))))
  rw [hd']
  refine wpAny_pure (a := some dx) (wpAny_bind (wpAny_pure (wpAny_bind ?_)))
  refine wpAny_nsSet1 (s := { s with toks := s.toks + 1 }) I.ns fun h' hn2 hs2 => ?_
  obtain ⟨oD, esD, epD, hoD, hdD, hcD⟩ := hn2.count (PySem.Within.cons name v hw)
  refine wpAny_bind (wpAny_lookBehind hoD (by rw [hdD]; exact pastItsLine_dict (Nat.le_trans hcD (by rw [List.length_cons]; omega))) ?_)
  exact wpAny_pure (h _ ⟨(hs2.2 _ (Ne.symm I.ne)).trans I.obj, hn2, I.ne⟩ hs2)

/-- C(..): the dict at the heap's end, the instance behind it; then its __init__ -/
theorem make_map {R : Result → Shared → Prop} {vs : List Value} {kw : List (Str × Value)} (X : K.In s.heap) (hm : PySem.W.makesIn K C = true)
    (hi : PySem.W.findIn K (.ref C) "__init__" = some (some (.ref f))) (hf : PySem.W.typeIn K (.ref f) = some (.type "function"))
    (h : codeAny (model prog w) (A.under (.builtin "type.__call__" ⟨.ref C :: vs, kw⟩)) (.call (.ref f) ⟨.ref (s.heap.objs.size + 1) :: vs, kw⟩) (PySem.W.InitBack (s.heap.objs.size + 1) R)
      { s with heap := (s.heap.push PySem.W.emptyDict).push (PySem.W.instObj C s.heap.objs.size) }) :
    codeAny (model prog w) A (.call (.ref C) ⟨vs, kw⟩) R s := by
  obtain ⟨hh, g, d, t, os⟩ := s
  exact PySem.W.make_core (PySem.W.makes_of X hm) (PySem.W.looks_findIn X hi) (fun self => PySem.W.bind_fn X self hf) (.inl rfl) h
/-- C() where there is no __init__ but object's -/
theorem make_map0 {R : Result → Shared → Prop} (X : K.In s.heap) (hm : PySem.W.makesIn K C = true)
    (hi : PySem.W.findIn K (.ref C) "__init__" = some (some (.builtin "object.__init__")))
    (hb : ∀ self, PySem.W.Looks (model prog w) s.heap (bindSpecial (.builtin "object.__init__") self) (.builtin "object.__init__", [self]))
    (h : codeAny (model prog w) (A.under (.builtin "type.__call__" ⟨[.ref C], []⟩)) (.call (.builtin "object.__init__") ⟨[.ref (s.heap.objs.size + 1)], []⟩) (PySem.W.InitBack (s.heap.objs.size + 1) R)
      { s with heap := (s.heap.push PySem.W.emptyDict).push (PySem.W.instObj C s.heap.objs.size) }) :
    codeAny (model prog w) A (.call (.ref C) ⟨[], []⟩) R s := by
  obtain ⟨hh, g, d, t, os⟩ := s
  exact PySem.W.make_core (PySem.W.makes_of X hm) (PySem.W.looks_findIn X hi) hb (.inr ⟨rfl, rfl⟩) h
end

/-! ### the attributes as a list of pairs -/
def putF (f : Str) (v : V) : List (Str × V) → List (Str × V)
  | [] => [(f, v)]
  | (g, x) :: r => if g = f then (g, v) :: r else (g, x) :: putF f v r
theorem lookup_putF (f g : Str) (v : V) : ∀ fs : List (Str × V), (putF f v fs).lookup g = if g = f then some v else fs.lookup g
  | [] => by
    show List.lookup g [(f, v)] = _
    by_cases h : g = f
    · have hb : (g == f) = true := beq_iff_eq.mpr h
      simp only [List.lookup, hb, if_pos h]
    · have hb : (g == f) = false := beq_eq_false_iff_ne.mpr h
      simp only [List.lookup, hb, if_neg h]
  | (k, x) :: r => by
    have ih := lookup_putF f g v r
    rw [show putF f v ((k, x) :: r) = (if k = f then (k, v) :: r else (k, x) :: putF f v r) from rfl]
    by_cases hk : k = f
    · rw [if_pos hk]
      by_cases h : g = k
      · have hb : (g == k) = true := beq_iff_eq.mpr h
        simp only [List.lookup, hb, if_pos (h.trans hk)]
      · have hb : (g == k) = false := beq_eq_false_iff_ne.mpr h
        simp only [List.lookup, hb, if_neg (fun e : g = f => h (e.trans hk.symm))]
    · rw [if_neg hk]
      by_cases h : g = k
      · have hb : (g == k) = true := beq_iff_eq.mpr h
        simp only [List.lookup, hb, if_neg (fun e : g = f => hk (h.symm.trans e))]
      · have hb : (g == k) = false := beq_eq_false_iff_ne.mpr h
        simp only [List.lookup, hb]
        exact ih
theorem keys_putF (f : Str) (v : V) : ∀ fs : List (Str × V), f ∈ (putF f v fs).map (·.1) ∧ ∀ g, g ∈ fs.map (·.1) → g ∈ (putF f v fs).map (·.1)
  | [] => ⟨by simp [putF], fun g h => by simp at h⟩
  | (k, x) :: r => by
    obtain ⟨i1, i2⟩ := keys_putF f v r
    rw [show putF f v ((k, x) :: r) = (if k = f then (k, v) :: r else (k, x) :: putF f v r) from rfl]
    by_cases hk : k = f
    · rw [if_pos hk]
      subst hk
      exact ⟨by simp, fun g h => by simpa using h⟩
    · rw [if_neg hk]
      refine ⟨?_, fun g h => ?_⟩
      · rw [List.map_cons]
        exact List.mem_cons_of_mem _ i1
      · rw [List.map_cons] at h ⊢
        rcases List.mem_cons.mp h with e | e
        · exact List.mem_cons.mpr (.inl e)
        · exact List.mem_cons_of_mem _ (i2 g e)
theorem length_putF (f : Str) (v : V) : ∀ fs : List (Str × V), (putF f v fs).length ≤ fs.length + 1
  | [] => by simp [putF]
  | (k, x) :: r => by
    have ih := length_putF f v r
    rw [show putF f v ((k, x) :: r) = (if k = f then (k, v) :: r else (k, x) :: putF f v r) from rfl]
    by_cases hk : k = f
    · rw [if_pos hk, List.length_cons, List.length_cons]; omega
    · rw [if_neg hk, List.length_cons, List.length_cons]; omega

theorem RelO.some_of {v : V} {o : Option Value} (r : RelO (some v) o) : ∃ u, o = some u ∧ RelV v u := by
  cases o with
  | none => exact (show False from r).elim
  | some u => exact ⟨u, rfl, r⟩
theorem RelO.none_of {o : Option Value} (r : RelO none o) : o = none := by
  cases o with
  | none => rfl
  | some u => exact (show False from r).elim
theorem handed_of {v : V} {u : Value} (r : RelV v u) : PySem.W.handedIn u = true := by
  cases v with
  | non => cases (show u = Value.none from r); rfl
  | bl b => cases (show u = Value.bool b from r); rfl
  | int i => obtain ⟨t, e⟩ := (show ∃ t, u = Value.int i t from r); cases e; rfl
  | str x => obtain ⟨t, e⟩ := (show ∃ t, u = Value.str x t from r); cases e; rfl
  | byt b => obtain ⟨t, e⟩ := (show ∃ t, u = Value.bytes b t from r); cases e; rfl
  | flt b => obtain ⟨t, e⟩ := (show ∃ t, u = Value.float b t from r); cases e; rfl
  | ref a => cases (show u = Value.ref a from r); rfl
  | ty n => cases (show u = Value.type n from r); rfl

section
variable {P : Program} {w : World} {H H' : Hp} {h h' : Heap} {a C dx : Addr} {fs fs' : List (Str × V)}
theorem ins_get (hok : HOk P w H h) (e : H a = some (.ins C dx fs)) : ∃ mA, ObjM h a dx C mA ∧ (∀ f, RelO (fs.lookup f) (mA f)) ∧ PySem.Within mA (fs.map (·.1)) ∧ fs.length ≤ 1000 ∧ H dx = some (.own a) := by
  obtain ⟨d, z, ne, ob, mA, n, r, q⟩ := (show ObjOk P w H h a (.ins C dx fs) from hok a _ e)
  exact ⟨mA, ⟨ob, n, ne⟩, r, q, z, d⟩
end

/-! ### what of the text a class must have -/
structure Cls (K : PySem.W.Frag) (C : Addr) : Prop where
  pg : PySem.W.plainGet K C Str.empty = true
  hd : PySem.W.hasDictIn K C = true
  po : PySem.W.plainOver K C = true
  sa : PySem.W.findIn K (.ref C) "__setattr__" = some (some (.builtin "object.__setattr__"))
theorem Cls.get {K : PySem.W.Frag} {C : Addr} (c : Cls K C) (f : Str) : PySem.W.plainGet K C f = true := c.pg
/-- no class of it has the name -/
def NoAttr (K : PySem.W.Frag) (C : Addr) (f : Str) : Prop := PySem.W.findIn K (.ref C) f = some none
theorem NoAttr.taker {K : PySem.W.Frag} {C : Addr} {f : Str} (n : NoAttr K C f) : PySem.W.takerIn K C f = some none := by
  unfold PySem.W.takerIn
  rw [show PySem.W.findIn K (.ref C) f = some none from n]
  rfl
/-- a constant of the class -/
structure Con (K : PySem.W.Frag) (C : Addr) (f : Str) (v : V) (u : Value) : Prop where
  at_ : PySem.W.findIn K (.ref C) f = some (some u)
  rel : RelV v u
  get : PySem.W.specialIn K u "__get__" = some none
  cp : PySem.W.copiedNames.contains f = false
/-- a method: a plain def of the class or of one above it -/
structure Meth (K : PySem.W.Frag) (C : Addr) (m : Str) (f : Addr) : Prop where
  at_ : PySem.W.findIn K (.ref C) m = some (some (.ref f))
  fn : PySem.W.isFn K (.ref f) = true
  kp : PySem.W.keepIn K (.ref f) = true

section
variable {X : Cx} {pins : List (Addr × Obj)} {σ : St} {H : Hp} {s : Shared} {a C dx : Addr} {fs : List (Str × V)} {f : Str} {v : V} {A : Around} {E : Value → Shared → Prop}

theorem getattr_ok {b : Bool} {Q : Value → Shared → Prop} (I : Inv X pins σ H s) (e : H a = some (.ins C dx fs)) (c : Cls X.K C) (n : NoAttr X.K C f) (l : fs.lookup f = some v)
    (h : ∀ u s', Inv X pins σ H s' → RelV v u → Q u s') : wpAny (model X.prog X.w) A (getAttr (.ref a) f b) Q E s := by
  obtain ⟨mA, O, r, _, _, _⟩ := ins_get I.hok e
  obtain ⟨u, hu, ru⟩ := RelO.some_of (v := v) (o := mA f) (by rw [← l]; exact r f)
  exact get_map I.kIn O (c.get f) c.hd n hu (handed_of ru) (h u _ (I.tok _) ru)

theorem getcon_ok {b : Bool} {u : Value} {Q : Value → Shared → Prop} (I : Inv X pins σ H s) (e : H a = some (.ins C dx fs)) (c : Cls X.K C) (k : Con X.K C f v u) (l : fs.lookup f = none)
    (h : ∀ s', Inv X pins σ H s' → Q u s') : wpAny (model X.prog X.w) A (getAttr (.ref a) f b) Q E s := by
  obtain ⟨mA, O, r, _, _, _⟩ := ins_get I.hok e
  have hn : mA f = none := RelO.none_of (by rw [← l]; exact r f)
  exact get_const I.kIn O (c.get f) c.hd k.at_ k.get k.cp hn (handed_of k.rel) (h _ (I.tok _))

theorem getmeth_ok {m : Str} {g : Addr} {pl : Sem Bool} {Q : Value × List Value → Shared → Prop} (I : Inv X pins σ H s) (e : H a = some (.ins C dx fs)) (c : Cls X.K C) (k : Meth X.K C m g) (l : fs.lookup m = none)
    (h : Q (.ref g, [.ref a]) s) : wpAny (model X.prog X.w) A (getMethod (.ref a) m pl) Q E s := by
  obtain ⟨mA, O, r, _, _, _⟩ := ins_get I.hok e
  have hn : mA m = none := RelO.none_of (by rw [← l]; exact r m)
  exact get_meth I.kIn O (c.get m) k.at_ k.fn hn h

theorem setattr_ok {y : V} {u : Value} {Q : Unit → Shared → Prop} (I : Inv X pins σ H s) (e : H a = some (.ins C dx fs)) (c : Cls X.K C) (n : NoAttr X.K C f) (hl : fs.length < 1000) (ry : RelV y u)
    (h : ∀ s', Inv X pins σ (upd H a (.ins C dx (putF f y fs))) s' → Q () s') : wpAny (model X.prog X.w) A (setAttr (.ref a) f u) Q E s := by
  obtain ⟨mA, O, r, wi, _, ho⟩ := ins_get I.hok e
  have hz : (fs.map (·.1)).length ≤ sizeLine := by rw [List.length_map, sizeLine_eq]; omega
  refine set_map I.kIn O c.sa c.po n.taker c.hd wi hz fun h' O' sb => h _ ?_
  have hd : ∃ o, h'.get? dx = some o := let ⟨o, _, _, e', _⟩ := O'.ns; ⟨o, e'⟩
  refine I.write (x := a) (e := dx) (by rw [e]; exact True.intro) (.inr ho) (fun b q hb z => (sb.2 b hb).trans z) hd ?_
  refine ⟨by rw [upd_ne O.ne]; exact ho, ?_, O.ne, O'.obj, _, O'.ns, fun g => ?_, fun g hg => ?_⟩
  · have := length_putF f y fs; omega
  · show RelO ((putF f y fs).lookup g) (if g = f then some u else mA g)
    rw [lookup_putF]
    by_cases q : g = f
    · rw [if_pos q, if_pos q]; exact ry
    · rw [if_neg q, if_neg q]; exact r g
  · by_cases q : g = f
    · rw [q]; exact (keys_putF f y fs).1
    · refine (keys_putF f y fs).2 g (wi g fun z => hg ?_)
      show (if g = f then some u else mA g) = none
      rw [if_neg q]; exact z

/-- a new instance, tracked, without attributes -/
theorem Inv.made (I : Inv X pins σ H s) : Inv X pins σ (upd (upd H s.heap.objs.size (.own (s.heap.objs.size + 1))) (s.heap.objs.size + 1) (.ins C s.heap.objs.size []))
    { s with heap := (s.heap.push PySem.W.emptyDict).push (PySem.W.instObj C s.heap.objs.size) } := by
  have e1 : (s.heap.push PySem.W.emptyDict).get? s.heap.objs.size = some PySem.W.emptyDict := Heap.get?_push_size s.heap rfl
  have e2 : ((s.heap.push PySem.W.emptyDict).push (PySem.W.instObj C s.heap.objs.size)).get? (s.heap.objs.size + 1) = some (PySem.W.instObj C s.heap.objs.size) := by
    have := Heap.get?_push_size (s.heap.push PySem.W.emptyDict) (o := PySem.W.instObj C s.heap.objs.size) rfl
    rwa [Heap.size_push] at this
  have e3 : (s.heap.push PySem.W.emptyDict).Ns s.heap.objs.size (fun _ => none) := ⟨PySem.W.emptyDict, #[], _, e1, rfl, (fun e he => absurd he (by simp)), fun _ => rfl⟩
  have I1 := I.laid (a := s.heap.objs.size) (o := .own (s.heap.objs.size + 1)) (h' := s.heap.push PySem.W.emptyDict) (t' := s.toks) (fun b u q => Heap.get?_push_of_some _ q) (Nat.le_refl _) ⟨_, e1⟩
  refine I1.laid (a := s.heap.objs.size + 1) (o := .ins C s.heap.objs.size []) (t' := s.toks) (fun b u q => Heap.get?_push_of_some _ q) (Nat.le_of_eq (Heap.size_push _ _)) ?_
  have ne : s.heap.objs.size ≠ s.heap.objs.size + 1 := Nat.ne_of_lt (Nat.lt_succ_self _)
  refine ⟨by rw [upd_ne ne, upd_same], Nat.zero_le _, ne, e2, fun _ => none, (Heap.Ns1.of_empty e3).at fun o q => Heap.get?_push_of_some _ q, fun _ => True.intro, fun y hy => absurd rfl hy⟩

/-- e.f where nothing but the object is asked: through attributeBase (super) and the last hold -/
theorem attr_of {prog : Program} {w : World} {env : Env} {e : Expr} {f : Str} {pos : Pos} {s : Shared} {Q : Value → Shared → Prop} (hb : attributeBase e f env (eval e env) = eval e env)
    (h : wpAny (model prog w) A (eval e env) (fun o s₁ => wpAny (model prog w) A (getAttr o f true) Q E s₁) E s) : wpAny (model prog w) A (eval (.Attribute e f pos) env) Q E s :=
  Attribute_any_ h (by rw [arm_eval_Attribute, hb])
end

/-! ### readings and rules -/
/-- e.f, an attribute of the instance -/
def tFld (K : PySem.W.Frag) (ta : TE) (f : Str) : TE := fun σ H Q => ta σ H fun x H1 => ∃ a C dx fs v, x = .ref a ∧ H1 a = some (.ins C dx fs) ∧ Cls K C ∧ NoAttr K C f ∧ fs.lookup f = some v ∧ Q v H1
/-- e.f, a constant of the class -/
def tCon (K : PySem.W.Frag) (ta : TE) (f : Str) : TE := fun σ H Q => ta σ H fun x H1 => ∃ a C dx fs v u, x = .ref a ∧ H1 a = some (.ins C dx fs) ∧ Cls K C ∧ Con K C f v u ∧ fs.lookup f = none ∧ Q v H1
/-- e.f = value -/
def sFld (K : PySem.W.Frag) (ta tv : TE) (f : Str) : TS := fun D σ H => tv σ H fun y H1 => ta σ H1 fun x H2 => ∃ a C dx fs, x = .ref a ∧ H2 a = some (.ins C dx fs) ∧ Cls K C ∧ NoAttr K C f ∧ fs.length < 1000 ∧
  D.nx σ (upd H2 a (.ins C dx (putF f y fs)))
/-- an augmented operator on two values -/
def InOp (X : Cx) (op : Operator) (rd : V → V → Hp → VK → Prop) : Prop :=
  ∀ (pins : List (Addr × Obj)) (s : Shared) (σ : St) (H : Hp) (x y : V) (u v : Value) (Q : VK), Inv X pins σ H s → RelV x u → RelV y v → rd x y H Q → wpAny (model X.prog X.w) X.A (inplaceOp op u v) (EP X pins σ Q) X.xe s
/-- e.f op= value -/
def sFldAug (K : PySem.W.Frag) (ta tv : TE) (rd : V → V → Hp → VK → Prop) (f : Str) : TS := fun D σ H => ta σ H fun x H1 => ∃ a C dx fs v, x = .ref a ∧ H1 a = some (.ins C dx fs) ∧ Cls K C ∧ NoAttr K C f ∧ fs.lookup f = some v ∧
  tv σ H1 fun y H2 => rd v y H2 fun z H3 => ∃ dx' fs', H3 a = some (.ins C dx' fs') ∧ fs'.length < 1000 ∧ D.nx σ (upd H3 a (.ins C dx' (putF f z fs')))

section
variable {X : Cx} {o e value : Expr} {f : Str} {pos pos' tpos : Pos} {ta tv : TE}
theorem pe_fld (he : PE X e ta) (hb : attributeBase e f X.env (eval e X.env) = eval e X.env) : PE X (.Attribute e f pos) (tFld X.K ta f) := by
  intro pins s σ H Q I h
  refine attr_of hb (thn (he pins s σ H _ I h) fun u s1 ⟨x, H1, I1, rx, a, C, dx, fs, v, ex, ea, c, n, l, q⟩ => ?_)
  subst ex
  obtain rfl : u = Value.ref a := rx
  exact getattr_ok I1 ea c n l fun u' s2 I2 ru => ⟨v, H1, I2, ru, q⟩
theorem pe_con (he : PE X e ta) (hb : attributeBase e f X.env (eval e X.env) = eval e X.env) : PE X (.Attribute e f pos) (tCon X.K ta f) := by
  intro pins s σ H Q I h
  refine attr_of hb (thn (he pins s σ H _ I h) fun u s1 ⟨x, H1, I1, rx, a, C, dx, fs, v, u0, ex, ea, c, k, l, q⟩ => ?_)
  subst ex
  obtain rfl : u = Value.ref a := rx
  exact getcon_ok I1 ea c k l fun s2 I2 => ⟨v, H1, I2, k.rel, q⟩
theorem ps_fld (ha : PE X o ta) (hv : PE X value tv) (hs : swapsWith value (some (.Attribute o f pos')) pos.line X.env = pure false) : PS X (.Assign [.Attribute o f pos'] value pos) (sFld X.K ta tv f) := by
  intro pins s σ H D I h
  refine plainObj_wpAny_Assign_Attribute (thn (hv pins s σ H _ I h) fun u s1 ⟨y, H1, I1, ry, q⟩ => thn (ha pins s1 σ H1 _ I1 q) fun ov s2 ⟨x, H2, I2, rx, a, C, dx, fs, ex, ea, c, n, l, q2⟩ => ?_) hs
  subst ex
  obtain rfl : ov = Value.ref a := rx
  exact setattr_ok I2 ea c n l ry fun s3 I3 => ⟨σ, _, I3, q2⟩
theorem ps_fldaug {op : Operator} {rd : V → V → Hp → VK → Prop} (ha : PE X o ta) (hv : PE X value tv) (hop : InOp X op rd) : PS X (.AugAssign (.Attribute o f tpos) op value pos) (sFldAug X.K ta tv rd f) := by
  intro pins s σ H D I h
  refine wpAny_AugAssign_AttributeAny (thn (ha pins s σ H _ I h) fun ov s1 ⟨x, H1, I1, rx, a, C, dx, fs, v, ex, ea, c, n, l, q⟩ => ?_)
  subst ex
  obtain rfl : ov = Value.ref a := rx
  refine getattr_ok I1 ea c n l fun u s2 I2 ru => thn (hv pins s2 σ H1 _ I2 q) fun w3 s3 ⟨y, H2, I3, ry, q3⟩ => thn (hop pins s3 σ H2 v y u w3 _ I3 ru ry q3) fun w4 s4 ⟨z, H3, I4, rz, dx', fs', ea', l', q4⟩ => ?_
  exact setattr_ok I4 ea' c n l' rz fun s5 I5 => ⟨σ, _, I5, q4⟩
def rAdd : V → V → Hp → VK → Prop := fun x y H Q => ∃ i j, x = .int i ∧ y = .int j ∧ Q (.int (i + j)) H
def rSub : V → V → Hp → VK → Prop := fun x y H Q => ∃ i j, x = .int i ∧ y = .int j ∧ Q (.int (i - j)) H
theorem in_add : InOp X .Add rAdd := by
  rintro pins s σ H x y u v Q I rx ry ⟨i, j, rfl, rfl, q⟩
  obtain ⟨t, rfl⟩ := (show ∃ t, u = Value.int i t from rx)
  obtain ⟨t', rfl⟩ := (show ∃ t', v = Value.int j t' from ry)
  exact PyProof.Rows.iadd_int ⟨.int (i + j), H, I.tok _, ⟨_, rfl⟩, q⟩
theorem in_sub : InOp X .Sub rSub := by
  rintro pins s σ H x y u v Q I rx ry ⟨i, j, rfl, rfl, q⟩
  obtain ⟨t, rfl⟩ := (show ∃ t, u = Value.int i t from rx)
  obtain ⟨t', rfl⟩ := (show ∃ t', v = Value.int j t' from ry)
  exact PyProof.Rows.isub_int ⟨.int (i - j), H, I.tok _, ⟨_, rfl⟩, q⟩

/-- what is between an instance and its method: the tree of a method call -/
theorem methcall_of {pl : Sem Bool} {m : Str} {apos : Pos} {args : List Expr} {pins : List (Addr × Obj)} {s : Shared} {σ : St} {H : Hp} {Q : Value → Shared → Prop} {te : TE} (he : PE X e te) (I : Inv X pins σ H s)
    (h : te σ H fun x H1 => ∃ a C dx fs g, x = .ref a ∧ H1 a = some (.ins C dx fs) ∧ Cls X.K C ∧ Meth X.K C m g ∧ fs.lookup m = none ∧
      ∀ s1, Inv X pins σ H1 s1 → wpAny (model X.prog X.w) X.A (callWith pos (.ref g) [.ref a] (backTo pos (starEach args X.env)) (backToKw pos (keywordEach [] X.env))) Q X.xe s1)
    (ht : eval (.Call (.Attribute e m apos) args [] pos) X.env = (do
      let ov ← eval e X.env
      standAt apos.atName
      let (f, first) ← holding [ov] (getMethod ov m pl)
      callWith pos f first (backTo pos (starEach args X.env)) (backToKw pos (keywordEach [] X.env)))) :
    wpAny (model X.prog X.w) X.A (eval (.Call (.Attribute e m apos) args [] pos) X.env) Q X.xe s := by
  refine PySem.W.methodCall_KW (pl := pl) (thn (he pins s σ H _ I h) fun u s1 ⟨x, H1, I1, rx, a, C, dx, fs, g, ex, ea, c, k, l, q⟩ => ?_) ht
  subst ex
  obtain rfl : u = Value.ref a := rx
  exact getmeth_ok I1 ea c k l (q s1 I1)
end

/-! ### isinstance -/
section
variable {X : Cx} {pins : List (Addr × Obj)} {σ : St} {H : Hp} {s : Shared} {A : Around} {E : Value → Shared → Prop} {Q : Value → Shared → Prop} {c : Value} {b : Bool}
/-- the type of a value, as the fragment's deciders take it; for an instance its class -/
inductive TyOf (K : PySem.W.Frag) (H : Hp) : V → Value → Prop where
  | non : TyOf K H .non (.type "NoneType")
  | bl (x : Bool) : TyOf K H (.bl x) (.type "bool")
  | int (i : Int) : TyOf K H (.int i) (.type "int")
  | str (x : Str) : TyOf K H (.str x) (.type "str")
  | flt (x : UInt64) : TyOf K H (.flt x) (.type "float")
  | lst {a : Addr} {xs : List V} (e : H a = some (.lst xs)) : TyOf K H (.ref a) (.type "list")
  | frz {a : Addr} {o : Obj} {xs : List V} (e : H a = some (.frz o (.lst xs))) : TyOf K H (.ref a) (.type "list")
  | tup {a : Addr} {xs : List V} (e : H a = some (.tup xs)) : TyOf K H (.ref a) (.type "tuple")
  | dK {a : Addr} {kvs : List (Key × V)} (e : H a = some (.dK kvs)) : TyOf K H (.ref a) (.type "dict")
  | dT {a : Addr} {kvs : List (List Key × V)} (e : H a = some (.dT kvs)) : TyOf K H (.ref a) (.type "dict")
  | ins {a C dx : Addr} {fs : List (Str × V)} (e : H a = some (.ins C dx fs)) (cl : Cls K C) (ha : PySem.W.findIn K (.ref C) "__class__" = some (some (.builtin "object.__class__")))
      (hn : PySem.W.specialIn K (.builtin "object.__class__") "__get__" = some (some (.builtin "getset_descriptor.__get__"))) (htk : PySem.W.takesIn K (.builtin "object.__class__") = some true)
      (hm : PySem.W.mroIn K C (.type "object") = some true) : TyOf K H (.ref a) (.ref C)
/-- isinstance(x, c) for one class c, a built-in or an own one: kitOne's answer -/
theorem isinst_ok {x : V} {u t : Value} (I : Inv X pins σ H s) (rx : RelV x u) (ty : TyOf X.K H x t) (e : PySem.W.kitOne X.K t c = some b) (h : ∀ tk, Q (.bool b) { s with toks := tk }) :
    wpAny (model X.prog X.w) A (call (.builtin "isinstance") [u, c]) Q E s := by
  cases ty with
  | non => cases (show u = Value.none from rx); exact PySem.W.kia_one PySem.W.kitx_none I.kIn True.intro e (fun z => nomatch z) h
  | bl y => cases (show u = Value.bool y from rx); exact PySem.W.kia_one PySem.W.kitx_bool I.kIn True.intro e (fun z => nomatch z) h
  | int i => obtain ⟨t, q⟩ := (show ∃ t, u = Value.int i t from rx); cases q; exact PySem.W.kia_one PySem.W.kitx_int I.kIn True.intro e (fun z => nomatch z) h
  | str y => obtain ⟨t, q⟩ := (show ∃ t, u = Value.str y t from rx); cases q; exact PySem.W.kia_one PySem.W.kitx_str I.kIn True.intro e (fun z => nomatch z) h
  | flt y => obtain ⟨t, q⟩ := (show ∃ t, u = Value.float y t from rx); cases q; exact PySem.W.kia_one PySem.W.kitx_float I.kIn True.intro e (fun z => nomatch z) h
  | @lst a xs ea =>
    cases (show u = Value.ref a from rx)
    obtain ⟨_, _, n, _, h1⟩ := (show ObjOk X.prog X.w H s.heap a (.lst xs) from I.hok a _ ea)
    exact PySem.W.kia_one PySem.W.kitx_list I.kIn ⟨_, h1, rfl⟩ e (fun z => nomatch z) h
  | @frz a ob xs ea =>
    cases (show u = Value.ref a from rx)
    obtain ⟨_, _, _, n, _, h1⟩ := (show ObjOk X.prog X.w H s.heap a (.frz ob (.lst xs)) from I.hok a _ ea)
    exact PySem.W.kia_one PySem.W.kitx_list I.kIn ⟨_, h1, rfl⟩ e (fun z => nomatch z) h
  | @tup a xs ea =>
    cases (show u = Value.ref a from rx)
    obtain ⟨_, _, _, p⟩ := (show ObjOk X.prog X.w H s.heap a (.tup xs) from I.hok a _ ea)
    obtain ⟨o, h1, h2, _⟩ := p
    exact PySem.W.kia_one PySem.W.kitx_tuple I.kIn ⟨o, h1, h2⟩ e (fun z => nomatch z) h
  | @dK a kvs ea =>
    cases (show u = Value.ref a from rx)
    obtain ⟨_, _, vs, _, p⟩ := (show ObjOk X.prog X.w H s.heap a (.dK kvs) from I.hok a _ ea)
    obtain ⟨o, es, ep, h1, h2, _⟩ := p
    exact PySem.W.kia_one PySem.W.kitx_dict I.kIn ⟨o, h1, h2.1⟩ e (fun z => nomatch z) h
  | @dT a kvs ea =>
    cases (show u = Value.ref a from rx)
    obtain ⟨_, _, xs, _, o, es, ep, h1, h2, _⟩ := (show ObjOk X.prog X.w H s.heap a (.dT kvs) from I.hok a _ ea)
    exact PySem.W.kia_one PySem.W.kitx_dict I.kIn ⟨o, h1, h2.1⟩ e (fun z => nomatch z) h
  | @ins a C dx fs ea cl ha hn htk hm =>
    cases (show u = Value.ref a from rx)
    obtain ⟨mA, O, _⟩ := ins_get I.hok ea
    obtain ⟨od, J, _⟩ := O.look
    exact PySem.W.kia_one (PySem.W.kitx_own (cl.get _) cl.hd ha hn htk hm) I.kIn J e (fun z => nomatch z) h
end
end L2

namespace L2
open PySem PySem.Spec PyProof.Rows

/-! ### room -/
structure Room (k : Nat) (A : Around) : Prop where
  hd : A.handled = none
  dp : A.depth + 3 * k + 5 < recursionLimit
  un : A.units + 16 * k + 1200 < cLine
  gd : A.guards = some []
theorem Room.mono {j k : Nat} {A : Around} (r : Room k A) (h : j ≤ k) : Room j A := ⟨r.hd, by have := r.dp; omega, by have := r.un; omega, r.gd⟩
theorem Room.deeper {k : Nat} {A : Around} (r : Room (k + 1) A) (env : Env) : Room k (A.deeper env) :=
  ⟨r.hd, by have := r.dp; show A.depth + 1 + 3 * k + 5 < _; omega, by have := r.un; show A.units + 3 + 16 * k + 1200 < _; omega, r.gd⟩
theorem Room.in1 {k : Nat} {A : Around} (r : Room (k + 1) A) : Room k A.in1 :=
  ⟨r.hd, by have := r.dp; show A.depth + 3 * k + 5 < _; omega, by have := r.un; show A.units + 1 + 16 * k + 1200 < _; omega, r.gd⟩
theorem make_depth {A : Around} {C : Addr} {us : List Value} {kw : List (Str × Value)} : (A.under (.builtin "type.__call__" ⟨.ref C :: us, kw⟩)).depth = A.depth + 1 := by
  first | rfl | simp [Around.under, Code.weight, Code.isCreation, Code.isGuard, Code.isCaller, Code.frames, Code.isFrame, guardIds]
theorem make_units {A : Around} {C : Addr} {us : List Value} {kw : List (Str × Value)} : (A.under (.builtin "type.__call__" ⟨.ref C :: us, kw⟩)).units = A.units + 1 := by
  first | rfl | simp [Around.under, Code.cUnits, Code.frames, Code.isFrame]
theorem Room.make {k : Nat} {A : Around} (r : Room (k + 1) A) (C : Addr) (us : List Value) (kw : List (Str × Value)) : Room k (A.under (.builtin "type.__call__" ⟨.ref C :: us, kw⟩)) :=
  ⟨r.hd, by have := r.dp; rw [make_depth]; omega, by have := r.un; rw [make_units]; omega, by first | exact r.gd | simpa [Around.under, Code.isGuard, guardIds] using r.gd⟩
theorem Room.depth {k : Nat} {A : Around} (r : Room k A) : A.depth < recursionLimit := by have := r.dp; omega
theorem Room.units {k : Nat} {A : Around} (r : Room k A) : A.units + 64 < cLine := by have := r.un; omega
theorem Room.units0 {k : Nat} {A : Around} (r : Room k A) : A.units < cLine := by have := r.un; omega

/-! ### argument lists and displays -/
def tNil : TA := fun _ H Q => Q [] H
def tCons (ta : TE) (tr : TA) : TA := fun σ H Q => ta σ H fun x H1 => tr σ H1 fun xs H2 => Q (x :: xs) H2
section
variable {X : Cx} {e : Expr} {es : List Expr} {te : TE} {t : TA} {pos : Pos}
theorem pa_nil : PA X [] tNil := fun _ _ _ _ H Q I h => Calls.spliced_nil ⟨[], H, I, .nil, h⟩
theorem pa_cons (ha : PE X e te) (hr : PA X es t) (hs : starEach (e :: es) X.env = (false, eval e X.env) :: starEach es X.env := by rfl) : PA X (e :: es) (tCons te t) := by
  intro pos pins s σ H Q I h
  rw [hs]
  show wpAny _ _ (spliced ((false, eval e X.env) :: backTo pos (starEach es X.env))) _ _ s
  refine Calls.spliced_cons (thn (ha pins s σ H _ I h) fun u s1 ⟨x, H1, I1, r1, q1⟩ => ?_)
  exact thn (hr pos pins s1 σ H1 _ I1 q1) fun us s2 ⟨xs, H2, I2, r2, q2⟩ => ⟨x :: xs, H2, I2, .cons r1 r2, q2⟩

/-- a tuple, a list of written items -/
def tTup (t : TA) : TE := fun σ H Q => t σ H fun xs H1 => xs.length ≤ sizeLine ∧ ∀ p, H1 p = none → Q (.ref p) (upd H1 p (.tup xs))
def tLst (t : TA) : TE := fun σ H Q => t σ H fun xs H1 => xs.length ≤ sizeLine ∧ ∀ p, H1 p = none → Q (.ref p) (upd H1 p (.lst xs))
theorem pe_tup {x1} (h : PA X es t) : PE X (.Tuple es x1 pos) (tTup t) := by
  intro pins s σ H Q I hq
  refine wpAny_Tuple_spliced (thn (h pos pins s σ H _ I hq) fun us s1 ⟨xs, H1, I1, r, z, q⟩ => ⟨by rw [← r.length]; exact z, ?_⟩)
  have hf : H1 s1.heap.objs.size = none := I1.hok.fresh (Nat.le_refl _)
  refine ⟨.ref s1.heap.objs.size, upd H1 s1.heap.objs.size (.tup xs), I1.laid (t' := s1.toks) (fun b u e => Heap.get?_push_of_some _ e) (Nat.le_refl _) ?_, rfl, q _ hf⟩
  exact ⟨z, us, r, ⟨_, Heap.get?_push_size _ rfl, rfl, _, rfl⟩⟩
theorem pe_lst (h : PA X es t) : PE X (.List es pos) (tLst t) := by
  intro pins s σ H Q I hq
  refine wpAny_List_spliced (thn (h pos pins s σ H _ I hq) fun us s1 ⟨xs, H1, I1, r, z, q⟩ => ⟨by rw [← r.length]; exact z, ?_⟩)
  have hf : H1 s1.heap.objs.size = none := I1.hok.fresh (Nat.le_refl _)
  refine ⟨.ref s1.heap.objs.size, upd H1 s1.heap.objs.size (.lst xs), I1.laid (t' := s1.toks) (fun b u e => Heap.get?_push_of_some _ e) (Nat.le_refl _) ?_, rfl, q _ hf⟩
  exact ⟨z, us, 0, r, Heap.get?_push_size _ rfl⟩
end

/-! ### what a def promises -/
/-- a def's promise: the bound arguments in the parameters' order, the heap, the wanted end, the wanted exception -/
abbrev Sp := List V → Hp → VK → XK → Prop
/-- how an exception lies behind a call (file 08 gives it): the callers' frames, abstract heap and state ahead of the call, the wish, the exception, the state -/
abbrev CXT := List Env → Hp → Shared → XK → Value → Shared → Prop

/-- the state at a call -/
structure Env0 (P : Program) (w : World) (K : PySem.W.Frag) (mg : Str → Option Value) (base : Heap) (A : Around) (outer : List Env) (s : Shared) (H : Hp) : Prop where
  frames : A.frames = some outer
  mod : Mod K mg base
  bs : ∀ b o, base.get? b = some o → s.heap.get? b = some o ∧ H b = none
  bsz : base.objs.size ≤ s.heap.objs.size
  funs : s.heap.FunFrames base outer
  frf : ∀ b ∈ frs outer, H b = none
  hok : HOk P w H s.heap
  bare : AllBare s.gens
/-- a call's end -/
def CE (outer : List Env) (P : Program) (w : World) (H : Hp) (s : Shared) (Q : VK) (u : Value) (s' : Shared) : Prop :=
  ∃ v H', s'.os = s.os ∧ AllBare s'.gens ∧ Un (frs outer) [] H H' s.heap s'.heap ∧ HOk P w H' s'.heap ∧ RelV v u ∧ Q v H'
def CR (CX : CXT) (outer : List Env) (P : Program) (w : World) (H : Hp) (s : Shared) (Q : VK) (E : XK) (r : Result) (s' : Shared) : Prop :=
  match r with
  | .ok (.ret u) => CE outer P w H s Q u s'
  | .ok _ => False
  | .error e => CX outer H s E e s'
structure FnOk (P : Program) (w : World) (K : PySem.W.Frag) (mg : Str → Option Value) (base : Heap) (CX : CXT) (k : Nat) (f : Addr) (fd : FuncData) (ps : List Str) (sp : Sp) : Prop where
  len : ∀ vs H Q E, sp vs H Q E → vs.length = ps.length
  run : ∀ (A : Around) (outer : List Env) (s : Shared) (H : Hp) (args : Args) (us : List Value) (vs : List V) (Q : VK) (E : XK), Room k A → Env0 P w K mg base A outer s H → BindsTo s fd args (ps.zip us) → Vals vs us → sp vs H Q E →
    codeAny (model P w) A (.call (.ref f) args) (CR CX outer P w H s Q E) s
theorem FnOk.mono {P : Program} {w : World} {K : PySem.W.Frag} {mg : Str → Option Value} {base : Heap} {CX : CXT} {j k : Nat} {f : Addr} {fd : FuncData} {ps : List Str} {sp : Sp} (F : FnOk P w K mg base CX j f fd ps sp) (h : j ≤ k) :
    FnOk P w K mg base CX k f fd ps sp := ⟨F.len, fun A outer s H args us vs Q E hr => F.run A outer s H args us vs Q E (hr.mono h)⟩
/-- a weaker promise -/
theorem FnOk.imp {P : Program} {w : World} {K : PySem.W.Frag} {mg : Str → Option Value} {base : Heap} {CX : CXT} {k : Nat} {f : Addr} {fd : FuncData} {ps : List Str} {sp sp' : Sp} (F : FnOk P w K mg base CX k f fd ps sp)
    (h : ∀ vs H Q E, sp' vs H Q E → sp vs H Q E) : FnOk P w K mg base CX k f fd ps sp' :=
  ⟨fun vs H Q E q => F.len vs H Q E (h _ _ _ _ q), fun A outer s H args us vs Q E hr he hb hv hs => F.run A outer s H args us vs Q E hr he hb hv (h _ _ _ _ hs)⟩

theorem Env0.make {P : Program} {w : World} {K : PySem.W.Frag} {mg : Str → Option Value} {base : Heap} {A : Around} {outer : List Env} {s : Shared} {H : Hp} (e : Env0 P w K mg base A outer s H) (C : Addr) (us : List Value) (kw : List (Str × Value)) :
    Env0 P w K mg base (A.under (.builtin "type.__call__" ⟨.ref C :: us, kw⟩)) outer s H := ⟨by first | exact e.frames | (simpa [Around.under, Code.envs, Code.isFrame, pushEnvs] using e.frames), e.mod, e.bs, e.bsz, e.funs, e.frf, e.hok, e.bare⟩
theorem Env0.in1 {P : Program} {w : World} {K : PySem.W.Frag} {mg : Str → Option Value} {base : Heap} {A : Around} {outer : List Env} {s : Shared} {H : Hp} (e : Env0 P w K mg base A outer s H) :
    Env0 P w K mg base A.in1 outer s H := ⟨e.frames, e.mod, e.bs, e.bsz, e.funs, e.frf, e.hok, e.bare⟩

section
variable {X : Cx} {pins : List (Addr × Obj)} {σ : St} {H : Hp} {s s' : Shared}
/-- from a body: what a callee wants -/
theorem Inv.env0 (I : Inv X pins σ H s) : Env0 X.prog X.w X.K X.mg X.base X.A X.stack s H :=
  ⟨I.ok.frames, I.ok.mod, I.bs, Nat.le_trans I.ok.bsz I.sz, I.stack, I.stkFree, I.hok, I.bare⟩
/-- behind a call -/
theorem Inv.after {Q : VK} {u : Value} (I : Inv X pins σ H s) (h : CE X.stack X.prog X.w H s Q u s') : EP X pins σ Q u s' := by
  obtain ⟨v, H', os, bare, un, hok, r, q⟩ := h
  obtain ⟨hh, g, d, t, os'⟩ := s'
  obtain rfl : os' = s.os := os
  exact ⟨v, H', I.call (h' := hh) (g' := g) (d' := d) (t' := t) (ch := []) un hok bare (fun b z => absurd z (by simp)), r, q⟩
end

/-! ### calls -/
/-- f(..): the written arguments, then the defaults dvs; E: what is wanted of an exception -/
def tCall (sp : Sp) (dvs : List V) (E : XK) (t : TA) : TE := fun σ H Q => t σ H fun vs H1 => sp (vs ++ dvs) H1 Q E
/-- o.m(..) of an instance of the class at C -/
def tMeth (C : Addr) (m : Str) (sp : Sp) (dvs : List V) (E : XK) (ta : TE) (t : TA) : TE := fun σ H Q => ta σ H fun x H1 => ∃ a dx fs, x = .ref a ∧ H1 a = some (.ins C dx fs) ∧ fs.lookup m = none ∧
  t σ H1 fun vs H2 => sp (x :: (vs ++ dvs)) H2 Q E
/-- C(..): a new instance and its dict, then __init__ -/
def tMake (C : Addr) (sp : Sp) (dvs : List V) (E : XK) (t : TA) : TE := fun σ H Q => t σ H fun vs H1 => ∀ x dx, H1 x = none → H1 dx = none → dx ≠ x →
  sp (.ref x :: (vs ++ dvs)) (upd (upd H1 dx (.own x)) x (.ins C dx [])) (fun v H2 => v = .non ∧ Q (.ref x) H2) E

/-- how the parameters are bound: us the positional arguments, kw the keywords' values by name, ds the defaults that fill up -/
def Binds (K : PySem.W.Frag) (fd : FuncData) (ps : List Str) (ds : List Value) : Prop :=
  ∀ (s : Shared) (us : List Value), K.In s.heap → (us ++ ds).length = ps.length → BindsTo s fd ⟨us, []⟩ (ps.zip (us ++ ds))
/-- every parameter is given -/
theorem Binds.all {K : PySem.W.Frag} {fd : FuncData} {ps : List Str} (h : ∀ us : List Value, us.length = ps.length → bindArgs fd ⟨us, []⟩ = pure (ps.zip us)) : Binds K fd ps [] := fun s us _ hl => by
  rw [List.append_nil] at hl ⊢
  exact .of_eq (h us hl)

/-- an exception of a callee reaches what this body wants of exceptions -/
def Passes (CX : CXT) (X : Cx) (E : XK) : Prop := ∀ (pins : List (Addr × Obj)) (σ : St) (H : Hp) (s : Shared) (e : Value) (s' : Shared), Inv X pins σ H s → CX X.stack H s E e s' → X.xe e s'

section
variable {X : Cx} {CX : CXT} {k : Nat} {f C : Addr} {fd : FuncData} {ps : List Str} {sp : Sp} {dvs : List V} {ds : List Value} {E : XK} {x m : Str} {p pos apos : Pos} {e o : Expr} {es : List Expr} {ta : TE} {t : TA}

/-- the callee runs -/
theorem run_fn {pins : List (Addr × Obj)} {σ : St} {H : Hp} {s : Shared} {Q : VK} {us : List Value} {vs : List V} (F : FnOk X.prog X.w X.K X.mg X.base CX k f fd ps sp) (hr : Room k X.A) (hb : Binds X.K fd ps ds) (hd : Vals dvs ds) (hx : Passes CX X E)
    (I : Inv X pins σ H s) (r : Vals vs us) (h : sp (vs ++ dvs) H Q E) : wpAny (model X.prog X.w) X.A (call (.ref f) us) (EP X pins σ Q) X.xe s := by
  have r2 : Vals (vs ++ dvs) (us ++ ds) := r.append hd
  have hl : (us ++ ds).length = ps.length := by rw [← r2.length]; exact F.len _ _ _ _ h
  refine wpAny_call (codeAny_mono (F.run X.A X.stack s H ⟨us, []⟩ (us ++ ds) (vs ++ dvs) Q E hr I.env0 (hb s us I.kIn hl) r2 h) fun r s' hq => ?_)
  cases r with
  | error e => exact hx pins σ H s e s' I hq
  | ok fl =>
    cases fl with
    | ret u => exact I.after hq
    | next => exact False.elim hq
    | brk => exact False.elim hq
    | cont => exact False.elim hq

theorem pe_call (F : FnOk X.prog X.w X.K X.mg X.base CX k f fd ps sp) (hr : Room k X.A) (hg : Gl X x) (hm : X.mg x = some (.ref f)) (hk : PySem.W.keepIn X.K (.ref f) = true) (hb : Binds X.K fd ps ds) (hd : Vals dvs ds) (hx : Passes CX X E)
    (ha : PA X (e :: es) t) (hdb : (x == ("__debug__" : Str)) = false := by decide) (he : starEach (e :: es) X.env = (false, eval e X.env) :: starEach es X.env := by rfl) (hpl : (backTo pos (starEach es X.env)).any (·.1) = false := by rfl) :
    PE X (.Call (.Name x p) (e :: es) [] pos) (tCall sp dvs E t) := by
  intro pins s σ H Q I h
  refine wpAny_Call_Name_kw (ld_glob I hg hm ?_ hdb)
  refine PySem.W.callWith_K (h₀ := X.base) I.ok.mod.kin hk (thn (ha pos pins s σ H _ I h) fun us s1 ⟨vs, H1, I1, r, q⟩ => ⟨I1.kIn, ?_⟩) he hpl
  exact run_fn F hr hb hd hx I1 r q
theorem pe_call0 (F : FnOk X.prog X.w X.K X.mg X.base CX k f fd ps sp) (hr : Room k X.A) (hg : Gl X x) (hm : X.mg x = some (.ref f)) (hk : PySem.W.keepIn X.K (.ref f) = true) (hb : Binds X.K fd ps ds) (hd : Vals dvs ds) (hx : Passes CX X E)
    (hdb : (x == ("__debug__" : Str)) = false := by decide) : PE X (.Call (.Name x p) [] [] pos) (tCall sp dvs E tNil) := by
  intro pins s σ H Q I h
  refine wpAny_Call_Name_kw (ld_glob I hg hm ?_ hdb)
  exact PySem.W.callWith_K0 I.kIn hk (run_fn (us := []) F hr hb hd hx I .nil h)

/-- o.m(e, ..) -/
theorem pe_meth {pl : Sem Bool} (he : PE X o ta) (c : Cls X.K C) (hm : Meth X.K C m f) (F : FnOk X.prog X.w X.K X.mg X.base CX k f fd ps sp) (hr : Room k X.A) (hb : Binds X.K fd ps ds) (hd : Vals dvs ds) (hx : Passes CX X E) (ha : PA X (e :: es) t)
    (hst : starEach (e :: es) X.env = (false, eval e X.env) :: starEach es X.env := by rfl) (hpl : (backTo pos (starEach es X.env)).any (·.1) = false := by rfl)
    (ht : eval (.Call (.Attribute o m apos) (e :: es) [] pos) X.env = (do
      let ov ← eval o X.env
      standAt apos.atName
      let (f, first) ← holding [ov] (getMethod ov m pl)
      callWith pos f first (backTo pos (starEach (e :: es) X.env)) (backToKw pos (keywordEach [] X.env))) := by rfl) :
    PE X (.Call (.Attribute o m apos) (e :: es) [] pos) (tMeth C m sp dvs E ta t) := by
  intro pins s σ H Q I h
  refine PySem.W.methodCall_KW (pl := pl) (thn (he pins s σ H _ I h) fun u s1 ⟨x, H1, I1, rx, a, dx, fs, ex, ea, l, q⟩ => ?_) ht
  subst ex
  obtain rfl : u = Value.ref a := rx
  refine getmeth_ok I1 ea c hm l ?_
  refine PySem.W.callWith_K (first := [.ref a]) (h₀ := X.base) I.ok.mod.kin hm.kp (thn (ha pos pins s1 σ H1 _ I1 q) fun us s2 ⟨vs, H2, I2, r, q2⟩ => ⟨I2.kIn, ?_⟩) hst hpl
  exact run_fn (us := .ref a :: us) (vs := .ref a :: vs) F hr hb hd hx I2 (.cons rfl r) q2
/-- o.m() -/
theorem pe_meth0 {pl : Sem Bool} (he : PE X o ta) (c : Cls X.K C) (hm : Meth X.K C m f) (F : FnOk X.prog X.w X.K X.mg X.base CX k f fd ps sp) (hr : Room k X.A) (hb : Binds X.K fd ps ds) (hd : Vals dvs ds) (hx : Passes CX X E)
    (ht : eval (.Call (.Attribute o m apos) [] [] pos) X.env = (do
      let ov ← eval o X.env
      standAt apos.atName
      let (f, first) ← holding [ov] (getMethod ov m pl)
      callWith pos f first (backTo pos (starEach [] X.env)) (backToKw pos (keywordEach [] X.env))) := by rfl) :
    PE X (.Call (.Attribute o m apos) [] [] pos) (tMeth C m sp dvs E ta tNil) := by
  intro pins s σ H Q I h
  refine PySem.W.methodCall_KW (pl := pl) (thn (he pins s σ H _ I h) fun u s1 ⟨x, H1, I1, rx, a, dx, fs, ex, ea, l, q⟩ => ?_) ht
  subst ex
  obtain rfl : u = Value.ref a := rx
  refine getmeth_ok I1 ea c hm l ?_
  exact PySem.W.callWith_K0 (first := [.ref a]) I1.kIn hm.kp (run_fn (us := [.ref a]) (vs := [.ref a]) F hr hb hd hx I1 (.cons rfl .nil) q)

/-- what a class must have to be made -/
structure Mk (K : PySem.W.Frag) (C f : Addr) : Prop where
  makes : PySem.W.makesIn K C = true
  init : PySem.W.findIn K (.ref C) "__init__" = some (some (.ref f))
  fn : PySem.W.isFn K (.ref f) = true
  kp : PySem.W.keepIn K (.ref C) = true

theorem run_make {pins : List (Addr × Obj)} {σ : St} {H : Hp} {s : Shared} {Q : VK} {us : List Value} {vs : List V} (M : Mk X.K C f) (F : FnOk X.prog X.w X.K X.mg X.base CX k f fd ps sp) (hr : Room (k + 1) X.A) (hb : Binds X.K fd ps ds) (hd : Vals dvs ds)
    (hx : Passes CX X E) (I : Inv X pins σ H s) (r : Vals vs us)
    (h : ∀ x dx, H x = none → H dx = none → dx ≠ x → sp (.ref x :: (vs ++ dvs)) (upd (upd H dx (.own x)) x (.ins C dx [])) (fun v H2 => v = .non ∧ Q (.ref x) H2) E) :
    wpAny (model X.prog X.w) X.A (call (.ref C) us) (EP X pins σ Q) X.xe s := by
  have hq := h (s.heap.objs.size + 1) s.heap.objs.size (I.hok.fresh (Nat.le_succ _)) (I.hok.fresh (Nat.le_refl _)) (Nat.ne_of_lt (Nat.lt_succ_self _))
  have I2 := Inv.made (C := C) I
  have r2 : Vals (V.ref (s.heap.objs.size + 1) :: (vs ++ dvs)) (Value.ref (s.heap.objs.size + 1) :: (us ++ ds)) := .cons rfl (r.append hd)
  have hl : (Value.ref (s.heap.objs.size + 1) :: us ++ ds).length = ps.length := by
    have e := r2.length
    rw [F.len _ _ _ _ hq] at e
    exact e.symm
  refine wpAny_call (make_map (f := f) I.kIn M.makes M.init (beq_iff_eq.mp M.fn) (codeAny_mono (F.run _ X.stack _ _ ⟨Value.ref (s.heap.objs.size + 1) :: us, []⟩ (Value.ref (s.heap.objs.size + 1) :: (us ++ ds)) _ _ E (hr.make C us [])
    (I2.env0.make C us []) (hb _ (Value.ref (s.heap.objs.size + 1) :: us) I2.kIn hl) r2 hq) fun r s' hq' => ?_))
  cases r with
  | error e => exact hx pins σ _ _ e s' I2 hq'
  | ok fl =>
    cases fl with
    | ret u =>
      obtain ⟨v, H', I3, rv, ev, q3⟩ := I2.after hq'
      subst ev
      exact ⟨rv, ⟨V.ref (s.heap.objs.size + 1), H', I3, rfl, q3⟩⟩
    | next => exact False.elim hq'
    | brk => exact False.elim hq'
    | cont => exact False.elim hq'
theorem pe_make (M : Mk X.K C f) (F : FnOk X.prog X.w X.K X.mg X.base CX k f fd ps sp) (hr : Room (k + 1) X.A) (hg : Gl X x) (hm : X.mg x = some (.ref C)) (hb : Binds X.K fd ps ds) (hd : Vals dvs ds) (hx : Passes CX X E)
    (ha : PA X (e :: es) t) (hdb : (x == ("__debug__" : Str)) = false := by decide) (he : starEach (e :: es) X.env = (false, eval e X.env) :: starEach es X.env := by rfl) (hpl : (backTo pos (starEach es X.env)).any (·.1) = false := by rfl) :
    PE X (.Call (.Name x p) (e :: es) [] pos) (tMake C sp dvs E t) := by
  intro pins s σ H Q I h
  refine wpAny_Call_Name_kw (ld_glob I hg hm ?_ hdb)
  refine PySem.W.callWith_K (h₀ := X.base) I.ok.mod.kin M.kp (thn (ha pos pins s σ H _ I h) fun us s1 ⟨vs, H1, I1, r, q⟩ => ⟨I1.kIn, ?_⟩) he hpl
  exact run_make M F hr hb hd hx I1 r q
theorem pe_make0 (M : Mk X.K C f) (F : FnOk X.prog X.w X.K X.mg X.base CX k f fd ps sp) (hr : Room (k + 1) X.A) (hg : Gl X x) (hm : X.mg x = some (.ref C)) (hb : Binds X.K fd ps ds) (hd : Vals dvs ds) (hx : Passes CX X E)
    (hdb : (x == ("__debug__" : Str)) = false := by decide) : PE X (.Call (.Name x p) [] [] pos) (tMake C sp dvs E tNil) := by
  intro pins s σ H Q I h
  refine wpAny_Call_Name_kw (ld_glob I hg hm ?_ hdb)
  exact PySem.W.callWith_K0 I.kIn M.kp (run_make (us := []) M F hr hb hd hx I .nil h)
end

/-! ### keywords -/
/-- the values of the keywords, from the left -/
def PK (X : Cx) (kws : List Keyword) (t : TA) : Prop :=
  ∀ (pos : Pos) (pins : List (Addr × Obj)) (s : Shared) (σ : St) (H : Hp) (Q : List V → Hp → Prop), Inv X pins σ H s → t σ H Q → wpAny (model X.prog X.w) X.A (evalAll ((backToKw pos (keywordEach kws X.env)).map (·.2))) (AP X pins σ Q) X.xe s
section
variable {X : Cx} {CX : CXT} {k : Nat} {f C : Addr} {fd : FuncData} {ps ks : List Str} {sp : Sp} {E : XK} {x m : Str} {p pos apos kpos : Pos} {e o : Expr} {es : List Expr} {kws : List Keyword} {te ta : TE} {t tk : TA} {nm : Option Str}
theorem pk_nil : PK X [] tNil := fun _ _ _ _ H Q I h => wpAny_evalAll_nil ⟨[], H, I, .nil, h⟩
theorem pk_cons (ha : PE X e te) (hr : PK X kws t) : PK X (⟨nm, e, kpos⟩ :: kws) (tCons te t) := by
  intro pos pins s σ H Q I h
  show wpAny _ _ (evalAll ((do let v ← eval e X.env; standAt pos; pure v) :: (backToKw pos (keywordEach kws X.env)).map (·.2))) _ _ s
  refine wpAny_evalAll_cons (wpAny_bind (thn (ha pins s σ H _ I h) fun u s1 ⟨x, H1, I1, r1, q1⟩ => wpAny_bind (wpAny_standAt (wpAny_pure ?_))))
  exact thn (hr pos pins s1 σ H1 _ I1 q1) fun us s2 ⟨xs, H2, I2, r2, q2⟩ => ⟨x :: xs, H2, I2, .cons r1 r2, q2⟩

/-- how a call with keywords binds: g puts the positional values us and the keywords' values ws (names ks) in the parameters' order, defaults among them -/
structure KBinds (K : PySem.W.Frag) (fd : FuncData) (ps ks : List Str) (g : List Value → List Value → List Value) (gV : List V → List V → List V) : Prop where
  to : ∀ (s : Shared) (us ws : List Value), K.In s.heap → (g us ws).length = ps.length → BindsTo s fd ⟨us, ks.zip ws⟩ (ps.zip (g us ws))
  rel : ∀ {vs : List V} {us : List Value} {zs : List V} {ws : List Value}, Vals vs us → Vals zs ws → Vals (gV vs zs) (g us ws)
def tCallK (sp : Sp) (gV : List V → List V → List V) (E : XK) (t tk : TA) : TE := fun σ H Q => t σ H fun vs H1 => tk σ H1 fun zs H2 => sp (gV vs zs) H2 Q E
variable {g : List Value → List Value → List Value} {gV : List V → List V → List V}
theorem run_fnk {pins : List (Addr × Obj)} {σ : St} {H : Hp} {s : Shared} {Q : VK} {us ws : List Value} {vs zs : List V} (F : FnOk X.prog X.w X.K X.mg X.base CX k f fd ps sp) (hr : Room k X.A) (hb : KBinds X.K fd ps ks g gV) (hx : Passes CX X E)
    (I : Inv X pins σ H s) (r : Vals vs us) (rz : Vals zs ws) (h : sp (gV vs zs) H Q E) : wpAny (model X.prog X.w) X.A (call (.ref f) us (ks.zip ws)) (EP X pins σ Q) X.xe s := by
  have r2 := hb.rel r rz
  have hl : (g us ws).length = ps.length := by rw [← r2.length]; exact F.len _ _ _ _ h
  refine wpAny_call (codeAny_mono (F.run X.A X.stack s H ⟨us, ks.zip ws⟩ (g us ws) (gV vs zs) Q E hr I.env0 (hb.to s us ws I.kIn hl) r2 h) fun r s' hq => ?_)
  cases r with
  | error e => exact hx pins σ H s e s' I hq
  | ok fl =>
    cases fl with
    | ret u => exact I.after hq
    | next => exact False.elim hq
    | brk => exact False.elim hq
    | cont => exact False.elim hq
/-- f(e, .., k = v, ..) -/
theorem pe_callK (F : FnOk X.prog X.w X.K X.mg X.base CX k f fd ps sp) (hr : Room k X.A) (hg : Gl X x) (hm : X.mg x = some (.ref f)) (hk : PySem.W.keepIn X.K (.ref f) = true) (hb : KBinds X.K fd ps ks g gV) (hx : Passes CX X E)
    (ha : PA X (e :: es) t) (hkw : PK X kws tk) (hall : (backToKw pos (keywordEach kws X.env)).all (·.1.isSome) = true := by rfl) (hks : (backToKw pos (keywordEach kws X.env)).filterMap (·.1) = ks := by rfl)
    (hdb : (x == ("__debug__" : Str)) = false := by decide) (he : starEach (e :: es) X.env = (false, eval e X.env) :: starEach es X.env := by rfl)
    (hpl : ((backTo pos (starEach (e :: es) X.env)).any (·.1) || (backToKw pos (keywordEach kws X.env)).any (·.1.isNone)) = false := by rfl) :
    PE X (.Call (.Name x p) (e :: es) kws pos) (tCallK sp gV E t tk) := by
  intro pins s σ H Q I h
  refine wpAny_Call_Name_kw (ld_glob I hg hm ?_ hdb)
  refine PySem.W.callWith_KW (h₀ := X.base) I.ok.mod.kin hk hall (thn (ha pos pins s σ H _ I h) fun us s1 ⟨vs, H1, I1, r, q⟩ => ?_) hpl he
  refine thn (hkw pos pins s1 σ H1 _ I1 q) fun ws s2 ⟨zs, H2, I2, rz, q2⟩ => ⟨I2.kIn, ?_⟩
  rw [hks]
  exact run_fnk F hr hb hx I2 r rz q2
end

/-! ### a def's body keeps its promise -/
/-- names: the parameters first -/
structure FnScope (N P : List Str) (sc : Scope) : Prop where
  kind : sc.kind = .function
  co : sc.isCoroutine = false
  gen : sc.isGenerator = false
  nd : N.Nodup
  pre : N.take P.length = P
  par : ∀ x ∈ P, sc.names.lookup x = some .local ∨ sc.names.lookup x = some .cell
  nofree : ∀ y ∈ sc.names, y.2 ≠ .free

theorem bindL_out {kindOf : Str → Option NameKind} {x : Str} : ∀ {binds : List (Str × Value)} {m : Str → Option Value}, (∀ v, (x, v) ∉ binds) → bindL kindOf binds m x = m x
  | [], _, _ => rfl
  | (n, v) :: r, m, h => by
    unfold bindL
    rw [bindL_out fun w hw => h w (List.mem_cons_of_mem _ hw)]
    split
    · have : x ≠ n := by rintro rfl; exact h v List.mem_cons_self
      simp [this]
    · rfl
theorem bindC_out {kindOf : Str → Option NameKind} {x : Str} : ∀ {binds : List (Str × Value)} {m : Str → Option Value}, (∀ v, (x, v) ∉ binds) → bindC kindOf binds m x = m x
  | [], _, _ => rfl
  | (n, v) :: r, m, h => by
    unfold bindC
    rw [bindC_out fun w hw => h w (List.mem_cons_of_mem _ hw)]
    split
    · rfl
    · have : x ≠ n := by rintro rfl; exact h v List.mem_cons_self
      simp [this]
theorem bindL_get {kindOf : Str → Option NameKind} {x : Str} {v : Value} : ∀ {P : List Str} {vs : List Value} {i : Nat} {m : Str → Option Value}, P.Nodup → P[i]? = some x → vs[i]? = some v → kindOf x = some .local →
    bindL kindOf (P.zip vs) m x = some v
  | [], _, _, _, _, h, _, _ => by simp at h
  | _ :: _, [], _, _, _, _, h, _ => by simp at h
  | p :: P, w :: vs, 0, m, nd, h1, h2, hk => by
    simp at h1 h2; subst h1; subst h2
    show bindL kindOf ((p, w) :: P.zip vs) m p = _
    unfold bindL
    rw [bindL_out fun v hv => (List.nodup_cons.mp nd).1 (List.of_mem_zip hv).1, if_pos hk]
    simp
  | p :: P, w :: vs, i + 1, m, nd, h1, h2, hk => by
    show bindL kindOf ((p, w) :: P.zip vs) m x = _
    unfold bindL
    exact bindL_get (i := i) (List.nodup_cons.mp nd).2 (by simpa using h1) (by simpa using h2) hk
theorem bindC_get {kindOf : Str → Option NameKind} {x : Str} {v : Value} : ∀ {P : List Str} {vs : List Value} {i : Nat} {m : Str → Option Value}, P.Nodup → P[i]? = some x → vs[i]? = some v → kindOf x ≠ some .local →
    bindC kindOf (P.zip vs) m x = some v
  | [], _, _, _, _, h, _, _ => by simp at h
  | _ :: _, [], _, _, _, _, h, _ => by simp at h
  | p :: P, w :: vs, 0, m, nd, h1, h2, hk => by
    simp at h1 h2; subst h1; subst h2
    show bindC kindOf ((p, w) :: P.zip vs) m p = _
    unfold bindC
    rw [bindC_out fun v hv => (List.nodup_cons.mp nd).1 (List.of_mem_zip hv).1, if_neg hk]
    simp
  | p :: P, w :: vs, i + 1, m, nd, h1, h2, hk => by
    show bindC kindOf ((p, w) :: P.zip vs) m x = _
    unfold bindC
    exact bindC_get (i := i) (List.nodup_cons.mp nd).2 (by simpa using h1) (by simpa using h2) hk

/-- the names' values at the entry -/
def start (N : List Str) (vs : List V) : St := vs.map some ++ List.replicate (N.length - vs.length) none

/-- the context of a def's body, at its entry; an exception leaves the frame, then lies as CX says -/
def cxOf (CX : CXT) (P : Program) (w : World) (K : PySem.W.Frag) (mg : Str → Option Value) (base : Heap) (N : List Str) (qual : Str) (scope : Scope) (f : Addr) (cd : Value) (A : Around) (outer : List Env) (s : Shared) (H : Hp) (E : XK) : Cx where
  prog := P
  w := w
  K := K
  mg := mg
  base := base
  A := A.deeper (envOfC qual scope s.heap.objs.size f cd)
  N := N
  s₀ := s
  H₀ := H
  env := envOfC qual scope s.heap.objs.size f cd
  outer := outer
  stack := envOfC qual scope s.heap.objs.size f cd :: outer
  ex := []
  calm := true
  fn := fun _ => true
  pn := []
  xe := fun e s' => wpAny (model P w) (A.deeper (envOfC qual scope s.heap.objs.size f cd)) (leaving (envOfC qual scope s.heap.objs.size f cd) e) (fun _ s'' => CX outer H s E e s'') (fun e' s'' => CX outer H s E e' s'') s'

theorem cell_has {sc : Scope} {n : Nat} {x : Str} (h : sc.names.lookup x = some .cell) : ∃ c, (cellsFrom n sc.names []).lookup x = some c := by
  have q := PySem.W.cellsFrom_some sc.names n [] (.inl h)
  exact Option.isSome_iff_exists.mp q

theorem inv_start {CX : CXT} {P : Program} {w : World} {K : PySem.W.Frag} {mg : Str → Option Value} {base : Heap} {N ps : List Str} {qual : Str} {scope : Scope} {f : Addr} {cd : Value} {A : Around} {outer : List Env} {s s1 : Shared} {H : Hp} {E : XK} {us : List Value} {vs : List V}
    (S : FnScope N ps scope) (hd : A.handled = none) (e0 : Env0 P w K mg base A outer s H) (hl : vs.length = ps.length) (r : Vals vs us)
    (x : InCallC s s.heap.objs.size (bindL (envOfC qual scope s.heap.objs.size f cd).kindOf (ps.zip us) fun _ => none) (cellsFrom (s.heap.objs.size + 1) scope.names []) (bindC (envOfC qual scope s.heap.objs.size f cd).kindOf (ps.zip us) fun _ => none) s1) :
    Inv (cxOf CX P w K mg base N qual scope f cd A outer s H E) [] (start N vs) H s1 := by
  have hpl : ps.length ≤ N.length := by have := congrArg List.length S.pre; rw [List.length_take] at this; omega
  obtain ⟨h1, tk, rfl, hk⟩ := x.done
  have noA : ∀ b : Addr, b ∉ (cxOf CX P w K mg base N qual scope f cd A outer s H E).ex := fun b z => absurd (show b ∈ ([] : List Addr) from z) (by simp)
  refine ⟨⟨e0.mod, S.kind, rfl, rfl, Nat.le_refl _, fun y z c h1 h2 => ?_, fun y hy => ?_, fun y c _ h => ?_, fun _ => hd, Around.frames_deeper e0.frames, .inr ⟨rfl, rfl⟩, fun b z => absurd z (noA b), e0.bs, e0.bsz, fun b _ _ => noA b, fun b z => absurd z (noA b), e0.funs, e0.frf⟩,
    rfl, e0.bare, Un.kept hk, ⟨_, x.toInCall.ns, fun i y v h1 h2 h3 => ?_⟩, fun y c h => ⟨_, x.cell y c h⟩, e0.hok.fresh (Nat.le_refl _), fun y c h => ?_, fun p hp => absurd (show p ∈ ([] : List (Addr × Obj)) from hp) (by simp), e0.hok.kept hk, ?_⟩
  · exact name_of_addr x.apart (PySem.mem_of_lookup h1) (PySem.mem_of_lookup h2)
  · have hy : scope.names.lookup y = some .cell ∨ scope.names.lookup y = some .free := hy
    rcases hy with hy | hy
    · exact cell_has hy
    · exact absurd rfl (S.nofree _ (PySem.mem_of_lookup hy))
  · exact Nat.le_of_lt (x.above y c (PySem.mem_of_lookup h))
  · have hi : i < vs.length := by
      unfold start at h2
      by_cases hi : i < vs.length
      · exact hi
      · rw [List.getElem?_append_right (by simpa using hi)] at h2
        rw [List.getElem?_replicate] at h2
        split at h2 <;> cases h2
    have ha : vs[i]? = some v := by
      unfold start at h2
      rw [List.getElem?_append_left (by simpa using hi), List.getElem?_map] at h2
      cases e : vs[i]? with
      | none => rw [e] at h2; cases h2
      | some a => rw [e] at h2; cases h2; rfl
    obtain ⟨u, hu, rv⟩ := r.get ha
    have hp : ps[i]? = some y := by
      rw [← S.pre, List.getElem?_take_of_lt (by omega)]; exact h1
    have ndP : ps.Nodup := by rw [← S.pre]; exact S.nd.sublist (List.take_sublist _ _)
    refine ⟨u, rv, ?_⟩
    rcases S.par y (List.mem_of_getElem? hp) with k | k
    · exact .inl ⟨k, bindL_get ndP hp hu k⟩
    · obtain ⟨c, e⟩ := cell_has (n := s.heap.objs.size + 1) k
      refine .inr ⟨.inl k, c, e, ?_⟩
      have q := x.cell y c e
      rw [bindC_get ndP hp hu (by show scope.names.lookup y ≠ _; rw [k]; decide)] at q
      exact q
  · exact e0.hok.fresh (Nat.le_of_lt (x.above y c (PySem.mem_of_lookup h)))
  · unfold start
    show _ = N.length
    rw [List.length_append, List.length_map, List.length_replicate]
    omega

/-- THE RULE: a def (or a method) of the text, by its body. The body's reading t is chosen for each entry; it is run at the parameters' values -/
theorem fn_of {CX : CXT} {P : Program} {w : World} {K : PySem.W.Frag} {mg : Str → Option Value} {base : Heap} {k : Nat} {f : Addr} {name qual : Str} {params : Arguments} {body : List Stmt} {scope : Scope} {dV kV doc pm cdv ct oc : Value} {an od : Option Addr}
    {osl : Array (Option Value)} {N ps : List Str} {sp : Sp} (lk : K.lookup f = some ⟨oc, od, .func (PySem.W.fnOf name qual params body scope dV kV doc pm an cdv ct), osl⟩) (hcd : PySem.W.codeIn K cdv qual = true) (S : FnScope N ps scope)
    (len : ∀ vs H Q E, sp vs H Q E → vs.length = ps.length)
    (hbody : ∀ (A : Around) (outer : List Env) (s : Shared) (H : Hp) (vs : List V) (Q : VK) (E : XK), Room k (A.deeper (envOfC qual scope s.heap.objs.size f cdv)) → sp vs H Q E →
      ∃ t, PSs (cxOf CX P w K mg base N qual scope f cdv A outer s H E) body t ∧ t { nx := fun _ H' => Q .non H', rt := Q } (start N vs) H) :
    FnOk P w K mg base CX (k + 1) f (PySem.W.fnOf name qual params body scope dV kV doc pm an cdv ct) ps sp := by
  refine ⟨len, fun A outer s H args us vs Q E hr e0 hb r hsp => ?_⟩
  have hl := len _ _ _ _ hsp
  have KX : K.In s.heap := e0.mod.kin.keeps fun b o e => (e0.bs b o e).1
  have lim : s.heap.NoLimit := e0.mod.nolimit.keeps fun b o e => (e0.bs b o e).1
  have hkind : ∀ y ∈ ps.zip us, scope.names.lookup y.1 = some .local ∨ (scope.names.lookup y.1 = some .cell ∧ ((cellsFrom (s.heap.objs.size + 1) scope.names []).lookup y.1).isSome = true) := fun ⟨n, v⟩ hy => by
    rcases S.par n (List.of_mem_zip hy).1 with q | q
    · exact .inl q
    · exact .inr ⟨q, PySem.W.cellsFrom_some _ _ _ (.inl q)⟩
  refine codeAny_call_function hr.depth (KX _ _ lk) rfl S.co S.gen rfl (PySem.W.codeRec_of KX hcd) (hb _ _ _ _ ?_)
  refine wpAny_newFunctionEnv_cells S.kind hkind fun env he s1 x => ?_
  subst he
  refine ⟨lim.keeps x.toInCall.keep, codeAny_func ?_⟩
  obtain ⟨t, ht, hq⟩ := hbody A outer s H vs Q E (hr.deeper _) hsp
  have I : Inv (cxOf CX P w K mg base N qual scope f cdv A outer s H E) [] (start N vs) H s1 := inv_start S hr.hd e0 hl r x
  refine wpAny_mono (ht [] s1 (start N vs) H _ I hq) (fun fl s' hs => ?_) fun e s' hs => hs
  have fin : ∀ {σ' : St} {H' : Hp} {v : V} {u : Value}, Inv (cxOf CX P w K mg base N qual scope f cdv A outer s H E) [] σ' H' s' → RelV v u → Q v H' → CE outer P w H s Q u s' :=
    fun {σ' H' v u} J rv q => ⟨v, H', J.os, J.bare, J.base, J.hok, rv, q⟩
  cases fl with
  | ret u =>
    obtain ⟨v, σ', H', J, rv, q⟩ := hs
    exact fin J rv q
  | next =>
    obtain ⟨σ', H', J, q⟩ := hs
    exact fin (v := V.non) (u := Value.none) J rfl q
  | brk =>
    obtain ⟨_, _, _, q⟩ := hs
    exact False.elim q
  | cont =>
    obtain ⟨_, _, _, q⟩ := hs
    exact False.elim q
end L2

namespace L2
open PySem PySem.Spec PyProof.Rows
section
variable {X : Cx} {x : Str} {p pos : Pos} {e : Expr} {es : List Expr} {t : TA} {id T : String} {r : List V → Hp → VK → Prop}

def tCB (r : List V → Hp → VK → Prop) (t : TA) : TE := fun σ H Q => t σ H fun vs H1 => r vs H1 Q
/-- f(e, ..), f a built-in function -/
theorem pe_callB (hc : CallR X (.builtin id) r) (hg : Gl X x) (hm : X.mg x = none) (hv : bootBuiltins x = some (.builtin id)) (ha : PA X (e :: es) t) (hn : x ≠ "__name__" := by decide) (hdb : (x == ("__debug__" : Str)) = false := by decide)
    (he : starEach (e :: es) X.env = (false, eval e X.env) :: starEach es X.env := by rfl) (hpl : (backTo pos (starEach es X.env)).any (·.1) = false := by rfl) : PE X (.Call (.Name x p) (e :: es) [] pos) (tCB r t) := by
  intro pins s σ H Q I h
  refine wpAny_Call_Name_kw (ld_blt I hg hm hv ?_ hn hdb)
  exact PyProof.Rows.callWith_builtin1 (thn (ha pos pins s σ H _ I h) fun us s1 ⟨vs, H1, I1, r1, q1⟩ => hc pins s1 σ H1 vs us Q I1 r1 q1) he hpl
/-- T(e, ..), T a built-in type -/
theorem pe_callTy (hc : CallR X (.type T) r) (hg : Gl X x) (hm : X.mg x = none) (hv : bootBuiltins x = some (.type T)) (ha : PA X (e :: es) t) (hn : x ≠ "__name__" := by decide) (hdb : (x == ("__debug__" : Str)) = false := by decide)
    (he : starEach (e :: es) X.env = (false, eval e X.env) :: starEach es X.env := by rfl) (hpl : (backTo pos (starEach es X.env)).any (·.1) = false := by rfl) : PE X (.Call (.Name x p) (e :: es) [] pos) (tCB r t) := by
  intro pins s σ H Q I h
  refine wpAny_Call_Name_kw (ld_blt I hg hm hv ?_ hn hdb)
  exact PyProof.Rows.callWith_type1 (thn (ha pos pins s σ H _ I h) fun us s1 ⟨vs, H1, I1, r1, q1⟩ => hc pins s1 σ H1 vs us Q I1 r1 q1) he hpl
/-- T() -/
theorem pe_callTy0 (hc : CallR X (.type T) r) (hg : Gl X x) (hm : X.mg x = none) (hv : bootBuiltins x = some (.type T)) (hn : x ≠ "__name__" := by decide) (hdb : (x == ("__debug__" : Str)) = false := by decide) :
    PE X (.Call (.Name x p) [] [] pos) (tCB r tNil) := by
  intro pins s σ H Q I h
  refine wpAny_Call_Name_kw (ld_blt I hg hm hv ?_ hn hdb)
  exact PyProof.Rows.callWith_type0 (hc pins s σ H [] [] Q I .nil h)
end
end L2

namespace HT
open PySem PyProof.Rows

/-- t < u of tuples of ints -/
def lexLt : List Int → List Int → Bool
  | [], [] => false
  | [], _ :: _ => true
  | _ :: _, [] => false
  | x :: xs, y :: ys => if x = y then lexLt xs ys else decide (x < y)
theorem lexLt_cons (x y : Int) (xs ys : List Int) : lexLt (x :: xs) (y :: ys) = if x = y then lexLt xs ys else decide (x < y) := rfl
theorem lexLt_nil_nil : lexLt [] [] = false := rfl
theorem lexLt_nil_cons (y : Int) (ys : List Int) : lexLt [] (y :: ys) = true := rfl
theorem lexLt_cons_nil (x : Int) (xs : List Int) : lexLt (x :: xs) [] = false := rfl

theorem eqAt_int (A : Around) (s : Shared) (a : Int) (t : Tok) (c : Int) (u : Tok) : ∃ e, SeqAt.EqAt A s (.int a t) (.int c u) e ∧ (e = true ↔ a = c) :=
  ⟨(a == c), SeqAt.EqAt.int_int a t c u, by simp⟩
theorem rcLt_int (A : Around) (s : Shared) (a : Int) (t : Tok) (c : Int) (u : Tok) (prog : Program) (w : World) (E : Value → Shared → Prop) (Q : Value → Shared → Prop) (h : Q (.bool (decide (a < c))) s) :
    wpAny (model prog w) A (richCompare .Lt (.int a t) (.int c u)) Q E s :=
  (PyProof.Rows.lt_int h : wpAny (model prog w) A (compareOp .Lt (.int a t) (.int c u)) Q E s)

section
open PySem.SeqAt
open PySem.AutoSeq1 (wpAny_loadPart')
open PySem.MeetsSeq PySem.MeetsSeq2 PySem.MeetsSeq3

theorem tuple_lt_ints (l b : Addr) (items items2 : Array Value) (n n2 : Nat) (dd dd2 : Option Addr) (sl sl2 : Array (Option Value)) (ns ms : List Int) (hi : IntsAre items.toList ns) (hj : IntsAre items2.toList ms) :
    Meets (Builtin.«tuple.__lt__» ⟨[.ref l, .ref b], []⟩)
      (fun _ R s => s.heap.get? l = some { cls := .type "tuple", dict := dd, data := .seq items n, slots := sl } ∧ s.heap.get? b = some { cls := .type "tuple", dict := dd2, data := .seq items2 n2, slots := sl2 } ∧
        R (.ok (.ret (.bool (lexLt ns ms)))) s) :=
  .of_wp fun prog w A R s h => by
    obtain ⟨hp, g, d, tk, os⟩ := s; obtain ⟨hl, hb, h⟩ := h
    have f2 := AutoSeq1.sub_tuple_tuple
    have z1 : items.size = ns.length := by rw [← hi.length]; simp
    have z2 : items2.size = ms.length := by rw [← hj.length]; simp
    wp_walk using wpAny_loadPart' hl, wpAny_loadPart' hb, wpAny_forIn_list _ (fun rest b s' => b.1 = none ∧ s' = ⟨hp, g, d, tk, os⟩ ∧ ∃ (vs ws : List Value) (ns' ms' : List Int), rest = vs.zip ws ∧
      IntsAre vs ns' ∧ IntsAre ws ms' ∧ ns'.length + items2.size = ms'.length + items.size ∧ R (.ok (.ret (.bool (lexLt ns' ms')))) ⟨hp, g, d, tk, os⟩) _
    case turn =>
      rintro ⟨y, x⟩ rest b s' ⟨hb', rfl, vs, ws, ns', ms', hz, hvi, hwi, hlen, hR⟩
      cases hvi with
      | nil => rw [List.zip_nil_left] at hz; cases hz
      | cons a t hvi' =>
        cases hwi with
        | nil => rw [List.zip_nil_right] at hz; cases hz
        | cons c u hwi' =>
          rw [List.zip_cons_cons] at hz
          injection hz with hyx hrest
          injection hyx with hy hx
          subst hy hx
          rw [lexLt_cons] at hR
          simp only [List.length_cons] at hlen
          obtain ⟨e, he, hiff⟩ := eqAt_int A.in1 ⟨hp, g, d, tk, os⟩ a t c u
          refine wpAny_bind (he prog w _ _ ?_)
          cases e with
          | true =>
            rw [if_pos (hiff.mp rfl)] at hR
            wp_walk
            exact ⟨rfl, rfl, _, _, _, _, hrest, hvi', hwi', by omega, hR⟩
          | false =>
            rw [if_neg (fun q => absurd (hiff.mpr q) Bool.false_ne_true)] at hR
            have hri := rcLt_int A.in1 ⟨hp, g, d, tk, os⟩ a t c u prog w
            wp_walk using hri
            exact ⟨_, rfl, by simpa using hR⟩
    case fin =>
      rintro ⟨b1, b2⟩ s' ⟨hb', rfl, vs, ws, ns', ms', hz, hvi, hwi, hlen, hR⟩
      simp only at hb'
      subst hb'
      have hv : lexLt ns' ms' = decide (items.size < items2.size) := by
        cases hvi with
        | nil =>
          cases hwi with
          | nil =>
            simp only [List.length_nil] at hlen
            rw [lexLt_nil_nil]
            exact (decide_eq_false (by omega)).symm
          | cons c u hw =>
            simp only [List.length_nil, List.length_cons] at hlen
            rw [lexLt_nil_cons]
            exact (decide_eq_true (by omega)).symm
        | cons a t hv =>
          cases hwi with
          | nil =>
            simp only [List.length_nil, List.length_cons] at hlen
            rw [lexLt_cons_nil]
            exact (decide_eq_false (by omega)).symm
          | cons c u hw =>
            rw [List.zip_cons_cons] at hz
            cases hz
      rw [hv] at hR
      wp_walk
      exact ⟨_, rfl, by simpa [Builtin.Tuple.tupleCompareSizes] using hR⟩
    case h =>
      exact ⟨rfl, rfl, items.toList, items2.toList, ns, ms, rfl, hi, hj, by omega, h⟩
end

section
variable {prog : Program} {w : World} {A : Around} {E : Value → Shared → Prop} {s : Shared}

theorem lt_tupInts {l b : Addr} {items items2 : Array Value} {ns ms : List Int} {Q : Value → Shared → Prop} (hl : IsTup s.heap l items) (hb : IsTup s.heap b items2) (hi : IntsAre items.toList ns) (hj : IntsAre items2.toList ms)
    (hu : A.units < cLine) (h : Q (.bool (lexLt ns ms)) s) : wpAny (model prog w) A (compareOp .Lt (.ref l) (.ref b)) Q E s := by
  obtain ⟨⟨cls, dd, data, sl⟩, ho, hc, n, hd⟩ := id hl
  obtain ⟨⟨cls2, dd2, data2, sl2⟩, ho2, hc2, n2, hd2⟩ := id hb
  simp only at hc hd hc2 hd2
  subst hc hd hc2 hd2
  exact richCompare_meets_room (op := .Lt) ⟨_, ho, rfl⟩ ⟨_, ho2, rfl⟩ PySem.F.slot_tuple_lt PySem.F.entry_tuple_lt (PySem.F.args_tuple_lt_2 _ _) (tuple_lt_ints l b items items2 n n2 dd dd2 sl sl2 ns ms hi hj)
    ⟨ho, ho2, show Value.bool (lexLt ns ms) ≠ Value.notImplemented ∧ Q (.bool (lexLt ns ms)) s from ⟨(fun x => nomatch x), h⟩⟩ hu

/-- t + u, t not empty -/
theorem cat_tup {t b : Addr} {vs ws : List Value} {Q : Value → Shared → Prop} (ht : IsTup s.heap t vs.toArray) (hb : IsTup s.heap b ws.toArray) (hv : vs ≠ [])
    (h1 : ws = [] → Q (.ref t) s) (h2 : ws ≠ [] → Q (.ref s.heap.objs.size) { s with heap := s.heap.push { cls := .type "tuple", data := .seq (vs ++ ws).toArray } })
    (hsz : vs.length + ws.length ≤ sizeLine) : wpAny (model prog w) A (binaryOp .Add (.ref t) (.ref b)) Q E s := by
  obtain ⟨⟨cls, dd, data, sl⟩, ho, hc, n, hd⟩ := id ht
  obtain ⟨⟨cls2, dd2, data2, sl2⟩, ho2, hc2, n2, hd2⟩ := id hb
  simp only at hc hd hc2 hd2
  subst hc hd hc2 hd2
  have e : vs.toArray ++ ws.toArray = (vs ++ ws).toArray := by simp
  by_cases hw : ws = []
  · exact concat_meets ⟨_, ho, rfl⟩ ⟨_, ho2, rfl⟩ noFill_tuple_add seq_tuple_add PySem.F.slot_tuple_add PySem.F.entry_tuple_add (PySem.F.args_tuple_add_2 _ _)
      (tuple_addW1 t b vs.toArray ws.toArray n n2 dd dd2 sl sl2 (by simpa using hv) (by simp [hw])) ⟨ho, ho2, h1 hw⟩
  · refine concat_meets ⟨_, ho, rfl⟩ ⟨_, ho2, rfl⟩ noFill_tuple_add seq_tuple_add PySem.F.slot_tuple_add PySem.F.entry_tuple_add (PySem.F.args_tuple_add_2 _ _)
      (tuple_addW2 t b vs.toArray ws.toArray n n2 dd dd2 sl sl2 (by simpa using hv) (by simpa using hw) (by rw [List.size_toArray, List.size_toArray]; exact hsz)) ⟨ho, ho2, ?_⟩
    rw [e]
    exact h2 hw

/-! ### t[a:b], not the whole -/
/-- a slice's bound as a place among n (d where it is left out) -/
def sIx (n d : Nat) : Option Int → Nat
  | none => d
  | some v => if v < 0 then (v + (n : Int)).toNat else min v.toNat n
theorem sIx_none (n d : Nat) : sIx n d none = d := rfl
theorem sIx_nat (n d k : Nat) : sIx n d (some (k : Int)) = min k n := by
  show (if (k : Int) < 0 then ((k : Int) + (n : Int)).toNat else min (k : Int).toNat n) = min k n
  rw [if_neg (by omega), Int.toNat_natCast]
theorem sIx_le (n d : Nat) (hd : d ≤ n) (o : Option Int) : sIx n d o ≤ n := by
  cases o with
  | none => exact hd
  | some v =>
    show (if v < 0 then (v + (n : Int)).toNat else min v.toNat n) ≤ n
    by_cases hv : v < 0
    · rw [if_pos hv]; omega
    · rw [if_neg hv]; exact Nat.min_le_right _ _
theorem clip_eq (v : Int) (n d : Nat) : (if v < 0 then max (v + (n : Int)) 0 else min v (n : Int)) = ((sIx n d (some v) : Nat) : Int) := by
  show (if v < 0 then max (v + (n : Int)) 0 else min v (n : Int)) = (((if v < 0 then (v + (n : Int)).toNat else min v.toNat n) : Nat) : Int)
  by_cases hv : v < 0
  · simp only [if_pos hv]; omega
  · simp only [if_neg hv]; omega
theorem adjust_gen (lo hi : Option Int) (n : Nat) : Builtin.Slice.sliceAdjust lo hi 1 (n : Int) = (((sIx n 0 lo : Nat) : Int), ((sIx n n hi : Nat) : Int)) := by
  have h1 : ¬ ((1 : Int) < 0) := by omega
  unfold Builtin.Slice.sliceAdjust
  simp only [h1, if_false]
  refine Prod.ext ?_ ?_
  · cases lo with
    | none => rfl
    | some v => exact clip_eq v n 0
  · cases hi with
    | none => rfl
    | some v => exact clip_eq v n n
theorem places_gen (i j : Nat) : Builtin.Slice.slicePlaces (i : Int) (j : Int) 1 = j - i := by
  unfold Builtin.Slice.slicePlaces
  have h1 : (1 : Int) > 0 := by omega
  simp only [h1, if_true, Int.ediv_one]
  split <;> omega
theorem slicePart_ {v : Value} {o : Option Int} {Q : Option Int → Shared → Prop} (p : IsPart v o) (h : Q o s) : wpAny (model prog w) A (Builtin.Slice.slicePartIndex v) Q E s := by
  cases p with
  | none => exact slicePart_none h
  | int i t => exact slicePart_int h
theorem sliceApplied_gen {sl : Addr} {vl vu : Value} {lo hi : Option Int} {n : Nat} {Q : Int × Int × Nat → Shared → Prop} (hs : s.heap.IsSliceOf sl vl vu .none) (pl : IsPart vl lo) (pu : IsPart vu hi)
    (h : Q (((sIx n 0 lo : Nat) : Int), 1, sIx n n hi - sIx n 0 lo) s) : wpAny (model prog w) A (Builtin.Slice.sliceApplied (.ref sl) (pure (n : Int))) Q E s := by
  obtain ⟨os, hos, hcs, hds⟩ := id hs
  unfold Builtin.Slice.sliceApplied Builtin.Slice.sliceFields
  refine wpAny_bind (wpAny_bind (wpAny_field hos hds (x := vl) rfl (wpAny_bind (wpAny_field hos hds (x := vu) rfl (wpAny_bind (wpAny_field hos hds (x := .none) rfl (wpAny_pure ?_)))))))
  refine wpAny_bind (slicePart_none ?_)
  show wpAny _ _ (if ((1 : Int) == 0) = true then _ else _) _ _ s
  rw [if_neg (by decide)]
  refine wpAny_bind (slicePart_ pl (wpAny_bind (slicePart_ pu (wpAny_bind (wpAny_pure ?_)))))
  show wpAny _ _ (match Builtin.Slice.sliceAdjust lo hi 1 (n : Int) with | (lo, hi) => pure (lo, (1 : Int), Builtin.Slice.slicePlaces lo hi 1)) _ _ s
  rw [adjust_gen lo hi n]
  show wpAny _ _ (pure (((sIx n 0 lo : Nat) : Int), (1 : Int), Builtin.Slice.slicePlaces ((sIx n 0 lo : Nat) : Int) ((sIx n n hi : Nat) : Int) 1)) _ _ s
  rw [places_gen]
  exact wpAny_pure h
theorem pick_gen (xs : Array Value) (i k : Nat) : ((List.range k).filterMap fun (m : Nat) => xs[((i : Int) + (m : Int) * 1).toNat]?).toArray = ((xs.toList.drop i).take k).toArray := by
  have e : (fun (m : Nat) => xs[((i : Int) + (m : Int) * 1).toNat]?) = fun m => xs[i + m]? := by
    funext m
    have : ((i : Int) + (m : Int) * 1).toNat = i + m := by omega
    rw [this]
  rw [e]
  have := pick_run xs i k
  rw [List.filterMap_map] at this
  have e2 : ((fun x => xs[x]?) ∘ fun x => i + x) = fun m => xs[i + m]? := rfl
  rw [e2] at this
  rw [this]

theorem getItem_tuple_cut {t sl : Addr} {items : Array Value} {vl vu : Value} {lo hi : Option Int} {Q : Value → Shared → Prop} (ht : IsTup s.heap t items) (hs : s.heap.IsSliceOf sl vl vu .none) (pl : IsPart vl lo) (pu : IsPart vu hi)
    (hw : ¬ (sIx items.size 0 lo = 0 ∧ sIx items.size items.size hi = items.size))
    (h : Q (.ref s.heap.objs.size) { s with heap := s.heap.push { cls := .type "tuple", data := .seq ((items.toList.drop (sIx items.size 0 lo)).take (sIx items.size items.size hi - sIx items.size 0 lo)).toArray } })
    (hsz : items.size ≤ sizeLine) : wpAny (model prog w) A (getItem (.ref t) (.ref sl)) Q E s := by
  have htake : sizeOk (.seq ((items.toList.drop (sIx items.size 0 lo)).take (sIx items.size items.size hi - sIx items.size 0 lo)).toArray) := by
    show ((items.toList.drop (sIx items.size 0 lo)).take (sIx items.size items.size hi - sIx items.size 0 lo)).toArray.size ≤ sizeLine
    rw [List.size_toArray, List.length_take, List.length_drop, Array.length_toList]
    omega
  have hj : sIx items.size items.size hi ≤ items.size := sIx_le _ _ (Nat.le_refl _) hi
  obtain ⟨os, hos, hcs, hds⟩ := id hs
  have hTs : s.TypeIs (.ref sl) "slice" := ⟨os, hos, hcs⟩
  unfold getItem
  try with_reducible refine wpAny_holding ?_
  first | refine wpAny_bind (wpAny_pure ?_) | skip
  refine wpAny_bind (wpAny_sequenceKey ht.typeIs (by decide) ?_)
  refine wpAny_bind (wpAny_callSpecial?_slot (name := Str.ofString "__getitem__") ht.typeIs PyProof.Rows.slot_tuple_getitem
    (wpAny_call_entry PyProof.Rows.slot_tuple_getitem ht.typeIs entry_tuple_getitem ?_ (args_tuple_getitem _ _)))
  show wpAny _ _ (Builtin.Tuple.tupleItemsOf (.ref t) >>= _) _ _ s
  refine wpAny_bind (tupleItemsOf_ ht ?_)
  refine wpAny_bind (wpAny_typeOf hTs ?_)
  rw [if_pos (by decide)]
  refine wpAny_bind (sliceApplied_gen hs pl pu ?_)
  have hno : ¬ ((((sIx items.size 0 lo : Nat) : Int) == 0 && (1 : Int) == 1 && (sIx items.size items.size hi - sIx items.size 0 lo) == items.size) = true) := by
    intro q
    rw [Bool.and_eq_true, Bool.and_eq_true] at q
    have q1 : ((sIx items.size 0 lo : Nat) : Int) = 0 := eq_of_beq q.1.1
    have q2 : sIx items.size items.size hi - sIx items.size 0 lo = items.size := eq_of_beq q.2
    exact hw ⟨by omega, by omega⟩
  show wpAny _ _ (if (((sIx items.size 0 lo : Nat) : Int) == 0 && (1 : Int) == 1 && (sIx items.size items.size hi - sIx items.size 0 lo) == items.size) = true then _ else _) _ _ s
  rw [if_neg hno, pick_gen]
  first
    | exact wpAny_bind (m := Builtin.Tuple.tupleExact _) (wpAny_newObj_type (wpAny_pure ⟨_, rfl, wpAny_pure h⟩) htake)
    | exact wpAny_bind (m := Builtin.Tuple.tupleExact _) (wpAny_newObj_type (wpAny_bind (wpAny_pure (wpAny_pure ⟨_, rfl, wpAny_pure h⟩))) htake)
    | exact wpAny_bind (wpAny_bind (m := Builtin.Tuple.tupleExact _) (wpAny_newObj_type (wpAny_pure (wpAny_pure ⟨_, rfl, wpAny_pure h⟩)) htake))
    | exact wpAny_bind (wpAny_bind (m := Builtin.Tuple.tupleExact _) (wpAny_newObj_type (wpAny_pure ⟨_, rfl, wpAny_pure h⟩) htake))
end
end HT

namespace L2
open PySem PySem.Spec PyProof.Rows

/-! ### the parts of a slice -/
abbrev TO := St → Hp → (Option Int → Hp → Prop) → Prop
/-- a slice's part (left out, or an int) -/
def PO (X : Cx) (e : Option Expr) (t : TO) : Prop :=
  ∀ (pins : List (Addr × Obj)) (s : Shared) (σ : St) (H : Hp) (Q : Option Int → Hp → Prop), Inv X pins σ H s → t σ H Q →
    wpAny (model X.prog X.w) X.A (evalPart e X.env) (fun u s' => ∃ o H', Inv X pins σ H' s' ∧ IsPart u o ∧ Q o H') X.xe s
def tNoPart : TO := fun _ H Q => Q none H
def tPart (t : TE) : TO := fun σ H Q => t σ H fun x H1 => ∃ i, x = .int i ∧ Q (some i) H1

theorem intsAre_of {ns : List Int} : ∀ {us : List Value}, Vals (ns.map V.int) us → IntsAre us ns := by
  induction ns with
  | nil => intro us r; rw [List.map_nil] at r; cases r; exact .nil
  | cons n ns ih =>
    intro us r
    rw [List.map_cons] at r
    cases r with
    | cons r1 r2 =>
      obtain ⟨t, e⟩ := r1
      subst e
      exact .cons n t (ih r2)

section
variable {X : Cx} {e : Expr} {te : TE} {lo hi : Option Expr} {tl th : TO} {pos p2 : Pos}

theorem po_none : PO X none tNoPart := by
  intro pins s σ H Q I h
  rw [evalPart_none]
  exact wpAny_pure ⟨none, H, I, .none, h⟩
theorem po_some (h : PE X e te) : PO X (some e) (tPart te) := by
  intro pins s σ H Q I hw
  rw [evalPart_some]
  refine thn (h pins s σ H _ I hw) fun u s1 ⟨x, H1, I1, r1, q1⟩ => ?_
  obtain ⟨i, rfl, q⟩ := q1
  obtain ⟨t, rfl⟩ := r1
  exact ⟨some i, H1, I1, .int i t, q⟩

/-- what a slice of a value is, by values: the slice object stands at sl -/
def SlR (X : Cx) (r : V → Option Int → Option Int → Hp → VK → Prop) : Prop :=
  ∀ (pins : List (Addr × Obj)) (s : Shared) (σ : St) (H : Hp) (x : V) (v vl vu : Value) (lo hi : Option Int) (sl : Addr) (Q : VK), Inv X pins σ H s → RelV x v → s.heap.IsSliceOf sl vl vu .none → IsPart vl lo → IsPart vu hi → r x lo hi H Q →
    ∃ T id, typeLookup (.type T) "__getitem__" = pure (some (.builtin id)) ∧ s.TypeIs v T ∧ wpAny (model X.prog X.w) X.A (getItem v (.ref sl)) (EP X pins σ Q) X.xe s
theorem SlR.or {r r' : V → Option Int → Option Int → Hp → VK → Prop} (h : SlR X r) (h' : SlR X r') : SlR X (fun x lo hi H Q => r x lo hi H Q ∨ r' x lo hi H Q) := by
  intro pins s σ H x v vl vu lo hi sl Q I rx hs pl pu q
  rcases q with q | q
  · exact h pins s σ H x v vl vu lo hi sl Q I rx hs pl pu q
  · exact h' pins s σ H x v vl vu lo hi sl Q I rx hs pl pu q
def tSl (r : V → Option Int → Option Int → Hp → VK → Prop) (te : TE) (tl th : TO) : TE := fun σ H Q => te σ H fun x H1 => tl σ H1 fun l H2 => th σ H2 fun u H3 => r x l u H3 Q
/-- a[lo:hi], any a -/
theorem pe_slice {r : V → Option Int → Option Int → Hp → VK → Prop} (hr : SlR X r) (he : PE X e te) (hl : PO X lo tl) (hu : PO X hi th) : PE X (.Subscript e (.Slice lo hi none p2) pos) (tSl r te tl th) := by
  intro pins s σ H Q I h
  refine Subscript_ (thn (he pins s σ H _ I h) fun v s1 ⟨x, H1, I1, r1, q1⟩ => ?_)
  refine wpAny_Slice (thn (hl pins s1 σ H1 _ I1 q1) fun vl s2 ⟨l, H2, I2, pl, q2⟩ => thn (hu pins s2 σ H2 _ I2 q2) fun vu s3 ⟨u, H3, I3, pu, q3⟩ => ?_)
  rw [evalPart_none]
  refine wpAny_pure ?_
  have I4 : Inv X pins σ H3 { s3 with heap := s3.heap.push { cls := .type "slice", data := .fields #[vl, vu, .none] } } := I3.kept (t' := s3.toks) fun b ob q => Heap.get?_push_of_some _ q
  obtain ⟨T, id, hT, ht, hg⟩ := hr pins { s3 with heap := s3.heap.push { cls := .type "slice", data := .fields #[vl, vu, .none] } } σ H3 x v vl vu l u s3.heap.objs.size Q I4 r1 (Heap.IsSliceOf.new ..) pl pu q3
  show wpAny (model X.prog X.w) X.A (subscriptTail e (.Slice lo hi none p2) v (.ref s3.heap.objs.size)) (EP X pins σ Q) X.xe { s3 with heap := s3.heap.push { cls := .type "slice", data := .fields #[vl, vu, .none] } }
  exact tail_any (ops := [.ref s3.heap.objs.size, v]) ht hT hg (by with_unfolding_all rfl)

/-- the items of xs[lo:hi] -/
def cutV (xs : List V) (lo hi : Option Int) : List V := (xs.drop (HT.sIx xs.length 0 lo)).take (HT.sIx xs.length xs.length hi - HT.sIx xs.length 0 lo)
theorem cutV_length (xs : List V) (lo hi : Option Int) : (cutV xs lo hi).length ≤ xs.length := by
  unfold cutV
  rw [List.length_take, List.length_drop]
  omega
/-- t[lo:hi], not the whole of it (the whole would be t itself) -/
def rSlT (K : PySem.W.Frag) : V → Option Int → Option Int → Hp → VK → Prop := fun x lo hi H Q => ∃ a xs, x = .ref a ∧ SqT K H a xs ∧
  ¬ (HT.sIx xs.length 0 lo = 0 ∧ HT.sIx xs.length xs.length hi = xs.length) ∧ ∀ p, H p = none → Q (.ref p) (upd H p (.tup (cutV xs lo hi)))
theorem sl_tup : SlR X (rSlT X.K) := by
  intro pins s σ H x v vl vu lo hi sl Q I rx hs pl pu h
  obtain ⟨a, xs, rfl, hx, hw, q⟩ := h
  cases rx
  obtain ⟨its, r, ht, hz⟩ := I.tuple hx
  have hlen : its.toArray.size = xs.length := by rw [List.size_toArray]; exact r.length.symm
  refine ⟨"tuple", _, PyProof.Rows.slot_tuple_getitem.lookup, ht.typeIs, ?_⟩
  refine HT.getItem_tuple_cut ht hs pl pu (by rw [hlen]; exact hw) ?_ (by rw [hlen]; exact hz)
  rw [hlen]
  refine ⟨.ref s.heap.objs.size, _, I.laid (t' := s.toks) (o := .tup (cutV xs lo hi)) (fun b ob q => Heap.get?_push_of_some _ q) (Nat.le_refl _) ?_, rfl, q _ (I.hok.fresh (Nat.le_refl _))⟩
  exact ⟨Nat.le_trans (cutV_length xs lo hi) hz, _, (r.drop (HT.sIx xs.length 0 lo)).take (HT.sIx xs.length xs.length hi - HT.sIx xs.length 0 lo), IsTup.new _ _⟩

/-! ### t < u, t + u -/
def rLtT (K : PySem.W.Frag) : R2 := fun x y H Q => ∃ a b ns ms, x = .ref a ∧ y = .ref b ∧ SqT K H a (ns.map V.int) ∧ SqT K H b (ms.map V.int) ∧ Q (.bl (HT.lexLt ns ms)) H
theorem op_ltT (hu : X.A.units < cLine) : OpR X (compareOp .Lt) (rLtT X.K) := by
  intro pins s σ H x y v u Q I rx ry h
  obtain ⟨a, b, ns, ms, rfl, rfl, ha, hb, q⟩ := h
  cases rx
  cases ry
  obtain ⟨its, r1, p1, _⟩ := I.tuple ha
  obtain ⟨its2, r2, p2, _⟩ := I.tuple hb
  have i1 : IntsAre its.toArray.toList ns := intsAre_of r1
  have i2 : IntsAre its2.toArray.toList ms := intsAre_of r2
  exact HT.lt_tupInts p1 p2 i1 i2 hu ⟨.bl (HT.lexLt ns ms), H, I, rfl, q⟩
/-- t + u, t not empty: u empty gives t itself -/
def rCatT (K : PySem.W.Frag) : R2 := fun x y H Q => ∃ a b xs ys, x = .ref a ∧ y = .ref b ∧ SqT K H a xs ∧ SqT K H b ys ∧ xs ≠ [] ∧ xs.length + ys.length ≤ sizeLine ∧
  (ys = [] → Q (.ref a) H) ∧ (ys ≠ [] → ∀ p, H p = none → Q (.ref p) (upd H p (.tup (xs ++ ys))))
theorem Vals.nil_iff {xs : List V} {us : List Value} (r : Vals xs us) : us = [] ↔ xs = [] := by
  cases r with
  | nil => simp
  | cons _ _ => simp
theorem op_catT : OpR X (binaryOp .Add) (rCatT X.K) := by
  intro pins s σ H x y v u Q I rx ry h
  obtain ⟨a, b, xs, ys, rfl, rfl, ha, hb, hx, hz, q1, q2⟩ := h
  cases rx
  cases ry
  obtain ⟨its, r1, p1, _⟩ := I.tuple ha
  obtain ⟨its2, r2, p2, _⟩ := I.tuple hb
  refine HT.cat_tup p1 p2 (fun z => hx (r1.nil_iff.mp z)) (fun z => ⟨.ref a, H, I, rfl, q1 (r2.nil_iff.mp z)⟩) (fun z => ?_) (by rw [← r1.length, ← r2.length]; exact hz)
  refine ⟨.ref s.heap.objs.size, _, I.laid (t' := s.toks) (o := .tup (xs ++ ys)) (fun b ob q => Heap.get?_push_of_some _ q) (Nat.le_refl _) ?_, rfl, q2 (fun w => z (r2.nil_iff.mpr w)) _ (I.hok.fresh (Nat.le_refl _))⟩
  exact ⟨by rw [List.length_append]; exact hz, _, r1.append r2, IsTup.new _ _⟩
/-- tuple(t) -/
theorem call_tupleT : CallR X (.type "tuple") (fun xs H Q => ∃ a ys, xs = [.ref a] ∧ SqT X.K H a ys ∧ Q (.ref a) H) := by
  intro pins s σ H xs us Q I r h
  obtain ⟨a, ys, rfl, ha, q⟩ := h
  obtain ⟨u, rfl, ru⟩ := vals1 r
  cases ru
  obtain ⟨its, _, p1, _⟩ := I.tuple ha
  exact call_tuple_same (items := its.toArray) p1 ⟨.ref a, H, I, rfl, q⟩
end
end L2

namespace L2
open PySem PySem.Spec PyProof.Rows

/-! ### places -/
/-- the place that an index of any sign means -/
def ixN (n : Nat) (i : Int) : Option Nat := if 0 ≤ i then (if i < n then some i.toNat else none) else if -(n : Int) ≤ i then some (i + n).toNat else none
def atI {α : Type} (xs : List α) (i : Int) : Option α := (ixN xs.length i).bind fun j => xs[j]?
theorem ixN_seq {n : Nat} {i : Int} {j : Nat} (h : ixN n i = some j) : seqIndex? i n = some j ∧ j < n ∧ -(n : Int) ≤ i ∧ i < n := by
  unfold ixN at h
  by_cases h0 : 0 ≤ i
  · rw [if_pos h0] at h
    by_cases h1 : i < n
    · rw [if_pos h1] at h
      have e : i.toNat = j := Option.some.inj h
      exact ⟨by rw [seqIndex_of h0 h1, e], by omega, by omega, h1⟩
    · rw [if_neg h1] at h; cases h
  · rw [if_neg h0] at h
    by_cases h1 : -(n : Int) ≤ i
    · rw [if_pos h1] at h
      have e : (i + n).toNat = j := Option.some.inj h
      exact ⟨by rw [seqIndex_neg (by omega) h1, e], by omega, h1, by omega⟩
    · rw [if_neg h1] at h; cases h
theorem atI_get {α : Type} {xs : List α} {i : Int} {v : α} (h : atI xs i = some v) : ∃ j, seqIndex? i xs.length = some j ∧ xs[j]? = some v ∧ j < xs.length ∧ -(xs.length : Int) ≤ i ∧ i < xs.length := by
  unfold atI at h
  cases e : ixN xs.length i with
  | none => rw [e] at h; cases h
  | some j =>
    rw [e] at h
    obtain ⟨h1, h2, h3, h4⟩ := ixN_seq e
    exact ⟨j, h1, h, h2, h3, h4⟩
theorem atI_nat {α : Type} {xs : List α} {j : Nat} {v : α} (h : xs[j]? = some v) : atI xs (j : Int) = some v := by
  have hj : j < xs.length := (List.getElem?_eq_some_iff.mp h).1
  have e : ixN xs.length (j : Int) = some j := by
    unfold ixN
    rw [if_pos (by omega), if_pos (by omega)]; simp
  unfold atI; rw [e]; exact h
theorem atI_last {α : Type} (xs : List α) (v : α) : atI (xs ++ [v]) (-1) = some v := by
  have hl : (xs ++ [v]).length = xs.length + 1 := by simp
  have e : ixN (xs ++ [v]).length (-1) = some xs.length := by
    unfold ixN
    rw [hl, if_neg (by decide), if_pos (by omega)]
    congr 1
    omega
  unfold atI
  rw [e]
  show (xs ++ [v])[xs.length]? = some v
  simp

/-! ### what may be subscripted -/
/-- what stands as an index of a plain subscript -/
def PlainIx (b : Expr) : Prop := ∀ o i, subscripted b false o i = operate [o, i] (getItem o i)
/-- a subscript by values -/
def IxR (X : Cx) (r : R2) : Prop :=
  ∀ (value slice : Expr) (pins : List (Addr × Obj)) (s : Shared) (σ : St) (H : Hp) (x y : V) (v u : Value) (Q : VK), Inv X pins σ H s → RelV x v → RelV y u → r x y H Q →
    subscripted slice false v u = operate [v, u] (getItem v u) → wpAny (model X.prog X.w) X.A (subscriptTail value slice v u) (EP X pins σ Q) X.xe s
/-- a call of a builtin's method by values: the receiver, the arguments -/
def MtR (X : Cx) (id : String) (r : V → List V → Hp → VK → Prop) : Prop :=
  ∀ (pins : List (Addr × Obj)) (s : Shared) (σ : St) (H : Hp) (x : V) (xs : List V) (v : Value) (us : List Value) (Q : VK), Inv X pins σ H s → RelV x v → Vals xs us → r x xs H Q →
    wpAny (model X.prog X.w) X.A (call (.builtin id) (v :: us)) (EP X pins σ Q) X.xe s
section
variable {X : Cx} {a b : Expr} {ta tb : TE} {pos : Pos}
theorem IxR.or {r r' : R2} (h : IxR X r) (h' : IxR X r') : IxR X (fun x y H Q => r x y H Q ∨ r' x y H Q) := by
  intro value slice pins s σ H x y v u Q I rx ry q hs
  rcases q with q | q
  · exact h value slice pins s σ H x y v u Q I rx ry q hs
  · exact h' value slice pins s σ H x y v u Q I rx ry q hs
theorem MtR.or {id : String} {r r' : V → List V → Hp → VK → Prop} (h : MtR X id r) (h' : MtR X id r') : MtR X id (fun x xs H Q => r x xs H Q ∨ r' x xs H Q) := by
  intro pins s σ H x xs v us Q I rx rs q
  rcases q with q | q
  · exact h pins s σ H x xs v us Q I rx rs q
  · exact h' pins s σ H x xs v us Q I rx rs q
/-- a[b] -/
theorem pe_ix {r : R2} (hr : IxR X r) (ha : PE X a ta) (hb : PE X b tb) (hs : PlainIx b) : PE X (.Subscript a b pos) (tOp r ta tb) := by
  intro pins s σ H Q I h
  exact Subscript_ (binT ha hb I h fun v u s2 x y H2 I2 rx ry q => hr a b pins s2 σ H2 x y v u Q I2 rx ry q (hs _ _))

def rIxL (K : PySem.W.Frag) : R2 := fun x y H Q => ∃ p xs i v, x = .ref p ∧ y = .int i ∧ SqL K H p xs ∧ atI xs i = some v ∧ Q v H
def rIxT (K : PySem.W.Frag) : R2 := fun x y H Q => ∃ p xs i v, x = .ref p ∧ y = .int i ∧ SqT K H p xs ∧ atI xs i = some v ∧ Q v H
def rIxS : R2 := fun x y H Q => ∃ z i c, x = .str z ∧ y = .int i ∧ z.length ≤ sizeLine ∧ atI z.cps.toList i = some c ∧ Q (.str ⟨#[c]⟩) H
theorem ix_list : IxR X (rIxL X.K) := by
  intro value slice pins s σ H x y v u Q I rx ry h hs
  obtain ⟨p, xs, i, z, rfl, rfl, hq, he, q⟩ := h
  cases rx
  obtain ⟨t, rfl⟩ := ry
  obtain ⟨its, r, pl, hz⟩ := I.list hq
  obtain ⟨j, h1, h2, h3, h4, h5⟩ := atI_get he
  obtain ⟨w, ew, rw'⟩ := r.get h2
  have hl := r.length
  have hn := line63
  have fin : EP X pins σ Q w s := ⟨z, H, I, rw', q⟩
  by_cases h0 : 0 ≤ i
  · have hj : i.toNat = j := by
      rw [seqIndex_of h0 h5] at h1
      exact Option.some.inj h1
    exact item_listR pl.isList h0 (by omega) (by rw [hj]; simpa using ew) fin hs
  · have hj : (i + (its.toArray.size : Int)).toNat = j := by
      rw [seqIndex_neg (by omega) h4] at h1
      rw [List.size_toArray, ← hl]
      exact Option.some.inj h1
    exact subscriptTail_builtinR (x := w) pl.isList.typeIs slot_list_getitem.lookup
      (wpAny_getItem_list_neg (Q := fun r s' => r = w ∧ EP X pins σ Q r s') pl.isList (by omega) (by rw [List.size_toArray] <;> omega) (by omega) (by rw [hj]; simpa using ew) ⟨rfl, fin⟩) hs
theorem ix_tup : IxR X (rIxT X.K) := by
  intro value slice pins s σ H x y v u Q I rx ry h hs
  obtain ⟨p, xs, i, z, rfl, rfl, hq, he, q⟩ := h
  cases rx
  obtain ⟨t, rfl⟩ := ry
  obtain ⟨its, r, pl, hz⟩ := I.tuple hq
  obtain ⟨j, h1, h2, h3, h4, h5⟩ := atI_get he
  obtain ⟨w, ew, rw'⟩ := r.get h2
  have hl := r.length
  have hn := line63
  have fin : EP X pins σ Q w s := ⟨z, H, I, rw', q⟩
  exact subscriptTail_builtinR (x := w) pl.typeIs slot_tuple_getitem.lookup
    (getItem_tuple (j := j) (Q := fun r s' => r = w ∧ EP X pins σ Q r s') pl (by omega) (by omega) (by rw [List.size_toArray, ← hl]; exact h1) (by simpa using ew) ⟨rfl, fin⟩) hs
theorem ix_str : IxR X rIxS := by
  intro value slice pins s σ H x y v u Q I rx ry h hs
  obtain ⟨z, i, c, rfl, rfl, hz, he, q⟩ := h
  obtain ⟨t, rfl⟩ := rx
  obtain ⟨t', rfl⟩ := ry
  obtain ⟨j, h1, h2, h3, h4, h5⟩ := atI_get he
  have hl : z.cps.toList.length = z.length := by simp [Str.length]
  rw [hl] at h1 h4 h5
  have hn := line63
  exact tail_any (typeIs_str s z t) slot_str_getitem.lookup (getItem_str (c := c) (by
    have e1 : decide (i < -(2 ^ 63 : Int)) = false := decide_eq_false (by omega)
    have e2 : decide (i ≥ 2 ^ 63) = false := decide_eq_false (by omega)
    rw [e1, e2, Bool.or_false]) (by rw [h1]; simpa using h2) ⟨.str ⟨#[c]⟩, H, I.tok _, ⟨_, rfl⟩, q⟩) hs
/-- list, tuple or str -/
def rIx (K : PySem.W.Frag) : R2 := fun x y H Q => rIxL K x y H Q ∨ rIxT K x y H Q ∨ rIxS x y H Q
theorem ix_seq : IxR X (rIx X.K) := ix_list.or (ix_tup.or ix_str)

/-! ### xs[i] = v, any sign -/
/-- the list's object behind a store -/
theorem mapSeq_set (its : List Value) (n j : Nat) (u : Value) : Obj.mapSeq (·.setIfInBounds j u) { cls := .type "list", data := .seq its.toArray n } = { cls := .type "list", data := .seq (its.set j u).toArray n } := by
  simp [Obj.mapSeq]
theorem Inv.lst {pins : List (Addr × Obj)} {σ : St} {H : Hp} {s : Shared} {p : Addr} {xs : List V} (I : Inv X pins σ H s) (h : H p = some (.lst xs)) :
    ∃ (its : List Value) (n : Nat), Vals xs its ∧ s.heap.get? p = some { cls := .type "list", data := .seq its.toArray n } ∧ xs.length ≤ sizeLine := by
  obtain ⟨z, its, n, r, e⟩ := I.hok p _ h
  exact ⟨its, n, r, e, z⟩
/-- the list at p is written by an update of its object -/
theorem Inv.lstUpd {pins : List (Addr × Obj)} {σ : St} {H : Hp} {s : Shared} {p : Addr} {xs ys : List V} {its its' : List Value} {n n' : Nat} {f : Obj → Obj} (I : Inv X pins σ H s) (h : H p = some (.lst xs))
    (ho : s.heap.get? p = some { cls := .type "list", data := .seq its.toArray n }) (hf : f { cls := .type "list", data := .seq its.toArray n } = { cls := .type "list", data := .seq its'.toArray n' }) (r : Vals ys its') (hz : ys.length ≤ sizeLine) (t : Nat) :
    Inv X pins σ (upd H p (.lst ys)) { s with heap := s.heap.update p f, toks := t } := by
  have e : (s.heap.update p f).get? p = some { cls := .type "list", data := .seq its'.toArray n' } := by
    rw [Heap.get?_update_self f ho (by rw [hf] <;> rfl), hf]
  refine I.write (x := p) (e := p) (by rw [h]; trivial) (.inl rfl) (fun b u hb q => (Heap.get?_update_other _ _ (Ne.symm hb)).trans q) ⟨_, e⟩ ?_
  exact ⟨hz, its', n', r, e⟩
def rSetL : V → V → V → Hp → (Hp → Prop) → Prop := fun o i v H Q => ∃ p xs k j, o = .ref p ∧ i = .int k ∧ H p = some (.lst xs) ∧ ixN xs.length k = some j ∧ Q (upd H p (.lst (xs.set j v)))
theorem set_list : PSet X rSetL := by
  intro pins s σ H o i v ov iv u Q I ro ri rv h
  obtain ⟨p, xs, k, j, rfl, rfl, hp, hj, q⟩ := h
  cases ro
  obtain ⟨t, rfl⟩ := ri
  obtain ⟨its, n, r, ho, hz⟩ := I.lst hp
  obtain ⟨h1, h2, h3, h4⟩ := ixN_seq hj
  have hl := r.length
  have hn := line63
  have I' : Inv X pins σ (upd H p (.lst (xs.set j v))) { s with heap := s.heap.update p (Obj.mapSeq (·.setIfInBounds j u)) } :=
    I.lstUpd hp ho (mapSeq_set its n j u) (r.set rv j) (by rw [List.length_set]; exact hz) s.toks
  by_cases h0 : 0 ≤ k
  · have hk : k.toNat = j := by
      rw [seqIndex_of h0 h4] at h1
      exact Option.some.inj h1
    exact PySem.W.ki_setAt ho h0 (by omega) (by rw [List.size_toArray, ← hl]; exact h4) (by rw [hk]; exact ⟨_, I', q⟩)
  · have hk : (k + (its.toArray.size : Int)).toNat = j := by
      rw [seqIndex_neg (by omega) h3] at h1
      rw [List.size_toArray, ← hl]
      exact Option.some.inj h1
    exact PySem.W.ki_setBack ho (by omega) (by rw [List.size_toArray, ← hl]; exact h3) (by omega) (by rw [hk]; exact ⟨_, I', q⟩)

/-! ### slices -/
theorem slice_bounds (lo hi : Option Int) (n : Nat) : (sliceBounds lo hi none n).1 = ((HT.sIx n 0 lo : Nat) : Int) ∧ (sliceBounds lo hi none n).2.1 = ((HT.sIx n n hi : Nat) : Int) ∧ (sliceBounds lo hi none n).2.2 = 1 := by
  refine ⟨?_, ?_, rfl⟩
  · cases lo with
    | none => simp [sliceBounds, HT.sIx]
    | some i =>
      simp only [sliceBounds, HT.sIx, Option.getD_none, show (1 : Int) > 0 by decide, if_true]
      by_cases h : i < 0
      · simp only [h, if_true] <;> omega
      · simp only [h, if_false] <;> omega
  · cases hi with
    | none => simp [sliceBounds, HT.sIx]
    | some i =>
      simp only [sliceBounds, HT.sIx, Option.getD_none, show (1 : Int) > 0 by decide, if_true]
      by_cases h : i < 0
      · simp only [h, if_true] <;> omega
      · simp only [h, if_false] <;> omega
theorem slicePick_cut (its : List Value) (lo hi : Option Int) : slicePick its.toArray lo hi none = ((its.drop (HT.sIx its.length 0 lo)).take (HT.sIx its.length its.length hi - HT.sIx its.length 0 lo)).toArray := by
  obtain ⟨h1, h2, h3⟩ := slice_bounds lo hi its.toArray.size
  unfold slicePick
  rw [h1, h2, h3]
  simp only [sliceRange_one, pick_run, List.size_toArray] <;> rfl
/-- xs[lo:hi] of a list: a new list -/
def rSlL (K : PySem.W.Frag) : V → Option Int → Option Int → Hp → VK → Prop := fun x lo hi H Q => ∃ a xs, x = .ref a ∧ SqL K H a xs ∧ ∀ p, H p = none → Q (.ref p) (upd H p (.lst (cutV xs lo hi)))
theorem sl_list : SlR X (rSlL X.K) := by
  intro pins s σ H x v vl vu lo hi sl Q I rx hs pl pu h
  obtain ⟨a, xs, rfl, hx, q⟩ := h
  cases rx
  obtain ⟨its, r, ht, hz⟩ := I.list hx
  have hlen := r.length
  refine ⟨"list", _, slot_list_getitem.lookup, ht.isList.typeIs, ?_⟩
  refine wpAny_getItem_list_slice ht.isList hs pl pu .none (by simp) ?_ (by rw [List.size_toArray] <;> omega)
  rw [slicePick_cut, ← hlen]
  refine ⟨.ref s.heap.objs.size, _, I.laid (t' := s.toks) (o := .lst (cutV xs lo hi)) (fun b ob q => Heap.get?_push_of_some _ q) (Nat.le_refl _) ?_, rfl, q _ (I.hok.fresh (Nat.le_refl _))⟩
  exact ⟨Nat.le_trans (cutV_length xs lo hi) hz, _, 0, (r.drop (HT.sIx xs.length 0 lo)).take (HT.sIx xs.length xs.length hi - HT.sIx xs.length 0 lo), Heap.get?_push_size _ rfl⟩

/-! ### in, not in: flat items -/
def flatV : V → Bool
  | .non => true
  | .bl _ => true
  | .int _ => true
  | .str _ => true
  | _ => false
/-- == of flat values -/
def eqV : V → V → Bool
  | .non, .non => true
  | .bl a, .bl b => a == b
  | .bl a, .int b => (if a then 1 else 0) == b
  | .int a, .bl b => a == (if b then 1 else 0)
  | .int a, .int b => a == b
  | .str a, .str b => a == b
  | _, _ => false
theorem eqAt_V {A : Around} {s : Shared} {y x : V} {u v : Value} (ry : RelV y u) (rx : RelV x v) (fy : flatV y = true) (fx : flatV x = true) : SeqAt.EqAt A s u v (eqV y x) := by
  cases y with
  | non =>
    cases ry
    cases x with
    | non => cases rx; exact SeqAt.EqAt.same _
    | bl b => cases rx; exact SeqAt.EqAt.none_bool b
    | int b => obtain ⟨t, rfl⟩ := rx; exact SeqAt.EqAt.none_int b t
    | str b => obtain ⟨t, rfl⟩ := rx; exact SeqAt.EqAt.none_str b t
    | _ => exact absurd (show false = true from fx) Bool.false_ne_true
  | bl a =>
    cases ry
    cases x with
    | non => cases rx; exact SeqAt.EqAt.bool_none a
    | bl b => cases rx; exact SeqAt.EqAt.bool_bool a b
    | int b => obtain ⟨t, rfl⟩ := rx; exact SeqAt.EqAt.bool_int a b t
    | str b => obtain ⟨t, rfl⟩ := rx; exact SeqAt.EqAt.bool_str a b t
    | _ => exact absurd (show false = true from fx) Bool.false_ne_true
  | int a =>
    obtain ⟨t', rfl⟩ := ry
    cases x with
    | non => cases rx; exact SeqAt.EqAt.int_none a t'
    | bl b => cases rx; exact SeqAt.EqAt.int_bool a t' b
    | int b => obtain ⟨t, rfl⟩ := rx; exact SeqAt.EqAt.int_int a t' b t
    | str b => obtain ⟨t, rfl⟩ := rx; exact SeqAt.EqAt.int_str a t' b t
    | _ => exact absurd (show false = true from fx) Bool.false_ne_true
  | str a =>
    obtain ⟨t', rfl⟩ := ry
    cases x with
    | non => cases rx; exact SeqAt.EqAt.str_none a t'
    | bl b => cases rx; exact SeqAt.EqAt.str_bool a t' b
    | int b => obtain ⟨t, rfl⟩ := rx; exact SeqAt.EqAt.str_int a t' b t
    | str b => obtain ⟨t, rfl⟩ := rx; exact SeqAt.EqAt.str_str a t' b t
    | _ => exact absurd (show false = true from fx) Bool.false_ne_true
  | _ => exact absurd (show false = true from fy) Bool.false_ne_true
/-- the items' answers, read off the values (a value's own answer does not lean on its token) -/
def eqU (x : V) (u : Value) : Bool := match u with
  | .none => eqV .non x
  | .bool b => eqV (.bl b) x
  | .int i _ => eqV (.int i) x
  | .str z _ => eqV (.str z) x
  | _ => false
theorem eqU_of {x y : V} {u : Value} (r : RelV y u) (f : flatV y = true) : eqU x u = eqV y x := by
  cases y with
  | non => cases r; rfl
  | bl b => cases r; rfl
  | int i => obtain ⟨t, rfl⟩ := r; rfl
  | str z => obtain ⟨t, rfl⟩ := r; rfl
  | _ => exact absurd (show false = true from f) Bool.false_ne_true
theorem any_eqU {x : V} : ∀ {xs : List V} {us : List Value}, Vals xs us → xs.all flatV = true → us.any (eqU x) = xs.any fun y => eqV y x
  | _, _, .nil, _ => rfl
  | y :: xs, u :: us, .cons r t, f => by
    rw [List.all_cons, Bool.and_eq_true] at f
    rw [List.any_cons, List.any_cons, eqU_of r f.1, any_eqU t f.2]
theorem mem_eqAt {A : Around} {s : Shared} {x : V} {v : Value} (rx : RelV x v) (fx : flatV x = true) : ∀ {xs : List V} {us : List Value}, Vals xs us → xs.all flatV = true → ∀ u ∈ us, SeqAt.EqAt A s u v (eqU x u)
  | _, _, .nil, _ => fun u hu => by cases hu
  | y :: xs, u :: us, .cons r t, f => fun u' hu => by
    rw [List.all_cons, Bool.and_eq_true] at f
    rcases List.mem_cons.mp hu with rfl | hu
    · rw [eqU_of r f.1]; exact eqAt_V r rx f.1 fx
    · exact mem_eqAt rx fx t f.2 u' hu
def inV (x : V) (xs : List V) : Bool := xs.any fun y => eqV y x
/-- x in a list or tuple of flat items -/
def rIn (K : PySem.W.Frag) (neg : Bool) : R2 := fun x y H Q => ∃ p xs, y = .ref p ∧ (SqL K H p xs ∨ SqT K H p xs) ∧ flatV x = true ∧ xs.all flatV = true ∧ Q (.bl (if neg then !inV x xs else inV x xs)) H
theorem op_in_seq : OpR X (compareOp .In) (rIn X.K false) := by
  intro pins s σ H x y v u Q I rx ry h
  obtain ⟨p, xs, rfl, hq, fx, fs, q⟩ := h
  cases ry
  rcases hq with hq | hq
  · obtain ⟨its, r, pl, hz⟩ := I.list hq
    refine SeqAt.in_listAt (eqU x) pl.isList (fun w hw => mem_eqAt rx fx r fs w (by simpa using hw)) ⟨.bl _, H, I, rfl, ?_⟩
    rw [show its.toArray.any (eqU x) = its.any (eqU x) by simp, any_eqU r fs]
    exact q
  · obtain ⟨its, r, pl, hz⟩ := I.tuple hq
    refine SeqAt.in_tupleAt (eqU x) pl (fun w hw => mem_eqAt rx fx r fs w (by simpa using hw)) ⟨.bl _, H, I, rfl, ?_⟩
    rw [show its.toArray.any (eqU x) = its.any (eqU x) by simp, any_eqU r fs]
    exact q
theorem op_notIn_seq : OpR X (compareOp .NotIn) (rIn X.K true) := by
  intro pins s σ H x y v u Q I rx ry h
  obtain ⟨p, xs, rfl, hq, fx, fs, q⟩ := h
  cases ry
  rcases hq with hq | hq
  · obtain ⟨its, r, pl, hz⟩ := I.list hq
    refine SeqAt.notIn_listAt (eqU x) pl.isList (fun w hw => mem_eqAt rx fx r fs w (by simpa using hw)) ⟨.bl _, H, I, rfl, ?_⟩
    rw [show its.toArray.any (eqU x) = its.any (eqU x) by simp, any_eqU r fs]
    exact q
  · obtain ⟨its, r, pl, hz⟩ := I.tuple hq
    refine SeqAt.notIn_tupleAt (eqU x) pl (fun w hw => mem_eqAt rx fx r fs w (by simpa using hw)) ⟨.bl _, H, I, rfl, ?_⟩
    rw [show its.toArray.any (eqU x) = its.any (eqU x) by simp, any_eqU r fs]
    exact q
theorem op_notIn_str : OpR X (compareOp .NotIn) (fun x y H Q => ∃ i j, x = .str i ∧ y = .str j ∧ Q (.bl (!(!(Builtin.Str.occurrences j i 0 j.length 1).isEmpty))) H) := by
  intro pins s σ H x y v u Q I rx ry h
  obtain ⟨i, j, rfl, rfl, q⟩ := h
  obtain ⟨t, rfl⟩ := rx
  obtain ⟨t', rfl⟩ := ry
  exact notIn_str ⟨.bl _, H, I, rfl, q⟩

/-! ### len, list(x), tuple(x) of any list or tuple that is read -/
theorem call_len_seq : CallR X (.builtin "len") (fun xs H Q => ∃ p ys, xs = [.ref p] ∧ (SqL X.K H p ys ∨ SqT X.K H p ys) ∧ Q (.int ys.length) H) := by
  intro pins s σ H xs us Q I r h
  obtain ⟨p, ys, rfl, hq, q⟩ := h
  obtain ⟨u, rfl, rx⟩ := vals1 r
  cases rx
  have hn := line63
  rcases hq with hq | hq
  · obtain ⟨its, r', pl, hz⟩ := I.list hq
    have hlen := r'.length
    exact Calls.call_len_list pl.isList (by simp only [List.size_toArray] <;> omega) ⟨.int ys.length, H, I.tok _, ⟨s.toks + 1, by rw [List.size_toArray, hlen]⟩, q⟩
  · obtain ⟨its, r', pl, hz⟩ := I.tuple hq
    have hlen := r'.length
    exact len_tuple pl (by simp only [List.size_toArray] <;> omega) ⟨.int ys.length, H, I.tok _, ⟨s.toks + 1, by rw [List.size_toArray, hlen]⟩, q⟩
theorem call_len_str : CallR X (.builtin "len") (fun xs H Q => ∃ z, xs = [.str z] ∧ z.length ≤ sizeLine ∧ Q (.int z.length) H) := by
  intro pins s σ H xs us Q I r h
  obtain ⟨z, rfl, hz, q⟩ := h
  obtain ⟨u, rfl, t, rfl⟩ := vals1 r
  have hn := line63
  exact len_str (by omega) ⟨.int z.length, H, I.tok _, ⟨_, rfl⟩, q⟩
theorem CallR.or {f : Value} {r r' : List V → Hp → VK → Prop} (h : CallR X f r) (h' : CallR X f r') : CallR X f (fun xs H Q => r xs H Q ∨ r' xs H Q) := by
  intro pins s σ H xs us Q I rs q
  rcases q with q | q
  · exact h pins s σ H xs us Q I rs q
  · exact h' pins s σ H xs us Q I rs q
theorem call_list_of : CallR X (.type "list") (fun xs H Q => ∃ p ys, xs = [.ref p] ∧ (SqL X.K H p ys ∨ SqT X.K H p ys) ∧ ∀ l, H l = none → Q (.ref l) (upd H l (.lst ys))) := by
  intro pins s σ H xs us Q I r h
  obtain ⟨p, ys, rfl, hq, q⟩ := h
  obtain ⟨u, rfl, rx⟩ := vals1 r
  cases rx
  have fin : ∀ (its : List Value), Vals ys its → ys.length ≤ sizeLine → ∀ (h' : Heap) (c' : Nat), (∀ b o', s.heap.get? b = some o' → h'.get? b = some o') →
      h'.get? s.heap.objs.size = some { cls := .type "list", dict := none, data := .seq its.toArray c', slots := #[] } → EP X pins σ Q (.ref s.heap.objs.size) { s with heap := h' } := fun its r' hz h' c' kp e =>
    ⟨.ref s.heap.objs.size, _, I.laid (t' := s.toks) kp (Nat.le_refl _) (show ObjOk X.prog X.w _ h' _ (.lst ys) from ⟨hz, its, c', r', e⟩), rfl, q _ (I.hok.fresh (Nat.le_refl _))⟩
  rcases hq with hq | hq
  · obtain ⟨its, r', pl, hz⟩ := I.list hq
    have hlen := r'.length
    obtain ⟨o, ho, hc, n, hd⟩ := pl.isList
    exact call_list_seq p (.inl rfl) ho hc hd (fun h' c' kp e => fin its r' hz h' c' kp e) (by simp only [List.size_toArray] <;> omega)
  · obtain ⟨its, r', pl, hz⟩ := I.tuple hq
    have hlen := r'.length
    obtain ⟨o, ho, hc, n, hd⟩ := pl
    exact call_list_seq p (.inr rfl) ho hc hd (fun h' c' kp e => fin its r' hz h' c' kp e) (by simp only [List.size_toArray] <;> omega)
theorem call_tuple_of : CallR X (.type "tuple") (fun xs H Q => ∃ p ys, xs = [.ref p] ∧ ((SqL X.K H p ys ∧ ∀ l, H l = none → Q (.ref l) (upd H l (.tup ys))) ∨ (SqT X.K H p ys ∧ Q (.ref p) H))) := by
  intro pins s σ H xs us Q I r h
  obtain ⟨p, ys, rfl, h⟩ := h
  obtain ⟨u, rfl, rx⟩ := vals1 r
  cases rx
  rcases h with ⟨hq, q⟩ | ⟨hq, q⟩
  · obtain ⟨its, r', pl, hz⟩ := I.list hq
    have hlen := r'.length
    refine call_tuple_list pl.isList (fun h' kp => ?_) (by simp only [List.size_toArray] <;> omega)
    have I1 : Inv X pins σ H { s with heap := h' } := I.kept (t' := s.toks) kp
    have I2 : Inv X pins σ (upd H h'.objs.size (.tup ys)) { s with heap := h'.push { cls := .type "tuple", data := .seq its.toArray } } :=
      I1.laid (t' := s.toks) (fun b o e => Heap.get?_push_of_some _ e) (Nat.le_refl _) (show ObjOk X.prog X.w _ _ _ (.tup ys) from ⟨hz, its, r', IsTup.new _ _⟩)
    exact ⟨.ref h'.objs.size, _, I2, rfl, q _ (I1.hok.fresh (Nat.le_refl _))⟩
  · obtain ⟨its, r', pl, hz⟩ := I.tuple hq
    exact call_tuple_same pl ⟨.ref p, H, I, rfl, q⟩

/-! ### the call of a builtin's method: o.m(..) -/
/-- the value is of that builtin type -/
def tyV (K : PySem.W.Frag) (T : String) (x : V) (H : Hp) : Prop := match x with
  | .str _ => T = "str"
  | .int _ => T = "int"
  | .ref p => (T = "list" ∧ ∃ xs, SqL K H p xs) ∨ (T = "tuple" ∧ ∃ o, K.lookup p = some o ∧ o.cls = .type "tuple" ∧ o.dict = none) ∨
      (T = "dict" ∧ ((∃ kvs, H p = some (.dK kvs)) ∨ ∃ kvs, H p = some (.dT kvs))) ∨ (T = "set" ∧ ∃ S n, H p = some (.set S n))
  | _ => False
theorem tyV_is {pins : List (Addr × Obj)} {σ : St} {H : Hp} {s : Shared} {T : String} {x : V} {v : Value} (I : Inv X pins σ H s) (r : RelV x v) (ty : tyV X.K T x H) :
    s.TypeIs v T ∧ ∀ a, v = .ref a → ∃ ob, s.heap.get? a = some ob ∧ ob.dict = none := by
  cases x with
  | str z =>
    obtain ⟨t, rfl⟩ := r
    cases (show T = "str" from ty)
    exact ⟨typeIs_str s z t, fun _ e => nomatch e⟩
  | int i =>
    obtain ⟨t, rfl⟩ := r
    cases (show T = "int" from ty)
    exact ⟨typeIs_int s i t, fun _ e => nomatch e⟩
  | ref p =>
    cases r
    rcases ty with ⟨rfl, xs, hq⟩ | ⟨rfl, o, hk, hc, hd⟩ | ⟨rfl, hk⟩ | ⟨rfl, S, n, hk⟩
    · obtain ⟨its, _, pl, _⟩ := I.list hq
      refine ⟨pl.isList.typeIs, fun a e => ?_⟩
      cases e
      obtain ⟨o, n, e, c, hd, _⟩ := pl
      exact ⟨o, e, hd⟩
    · refine ⟨⟨o, I.kIn p o hk, hc⟩, fun a e => ?_⟩
      cases e
      exact ⟨o, I.kIn _ o hk, hd⟩
    · have z : ∃ o, s.heap.get? p = some o ∧ o.ExactDict := by
        rcases hk with ⟨kvs, hk⟩ | ⟨kvs, hk⟩
        · obtain ⟨_, _, _, _, o, _, _, e, ex, _⟩ := I.hok p _ hk
          exact ⟨o, e, ex⟩
        · obtain ⟨_, _, _, _, o, _, _, e, ex, _⟩ := I.hok p _ hk
          exact ⟨o, e, ex⟩
      obtain ⟨o, e, ex⟩ := z
      refine ⟨⟨o, e, ex.1⟩, fun a e2 => ?_⟩
      cases e2
      exact ⟨o, e, ex.2.1⟩
    · obtain ⟨o, _, _, _, e, ex, _⟩ := I.hok p _ hk
      refine ⟨⟨o, e, ex.1⟩, fun a e2 => ?_⟩
      cases e2
      exact ⟨o, e, ex.2.1⟩
  | _ => exact False.elim ty
def tBM0 (K : PySem.W.Frag) (T : String) (r : V → List V → Hp → VK → Prop) (to : TE) : TE := fun σ H Q => to σ H fun x H1 => tyV K T x H1 ∧ r x [] H1 Q
def tBM (K : PySem.W.Frag) (T : String) (r : V → List V → Hp → VK → Prop) (to : TE) (t : TA) : TE := fun σ H Q => to σ H fun x H1 => tyV K T x H1 ∧ t σ H1 fun xs H2 => r x xs H2 Q
variable {o e : Expr} {es : List Expr} {to : TE} {t : TA} {name : Str} {apos cpos : Pos} {T id : String} {r : V → List V → Hp → VK → Prop}
theorem pe_bm0 (pa : PlainAttrs T) (slot : Slot T name id) (hty : typeOf (.builtin id) = pure (.type "method_descriptor")) (hm : MtR X id r) (ho : PE X o to)
    (hbase : attributeBase o name X.env (eval o X.env) = eval o X.env := by rfl) (hline : (apos.endLine == cpos.line) = true := by rfl) : PE X (.Call (.Attribute o name apos) [] [] cpos) (tBM0 X.K T r to) := by
  intro pins s σ H Q I h
  refine wpAny_Call_method0_late hbase hline (thn (ho pins s σ H _ I h) fun v s1 ⟨x, H1, I1, r1, ty, q1⟩ => ?_)
  obtain ⟨h1, h2⟩ := tyV_is I1 r1 ty
  exact ⟨T, id, pa, slot, hty, h1, h2, Calls.callWith_builtin rfl (PySem.evalArgs_none (hm pins s1 σ H1 x [] v [] Q I1 r1 .nil q1))⟩
theorem pe_bm (pa : PlainAttrs T) (slot : Slot T name id) (hty : typeOf (.builtin id) = pure (.type "method_descriptor")) (hm : MtR X id r) (ho : PE X o to) (ha : PA X (e :: es) t)
    (hbase : attributeBase o name X.env (eval o X.env) = eval o X.env := by rfl)
    (hfew : ((backTo cpos (starEach (e :: es) X.env)).all (fun x => !x.1) && (backToKw cpos (keywordEach [] X.env)).all (fun x => x.1.isSome)
      && decide ((e :: es).length + ([] : List Keyword).length + (if ([] : List Keyword).isEmpty then 0 else 1) < 30)) = true := by rfl)
    (hline : (apos.endLine == cpos.line) = true := by rfl) (hs : starEach (e :: es) X.env = (false, eval e X.env) :: starEach es X.env := by rfl) (hplain : (backTo cpos (starEach es X.env)).any (·.1) = false := by rfl) :
    PE X (.Call (.Attribute o name apos) (e :: es) [] cpos) (tBM X.K T r to t) := by
  intro pins s σ H Q I h
  refine wpAny_Call_method_late hbase hfew hline rfl (thn (ho pins s σ H _ I h) fun v s1 ⟨x, H1, I1, r1, ty, q1⟩ => ?_)
  obtain ⟨h1, h2⟩ := tyV_is I1 r1 ty
  refine ⟨T, id, pa, slot, hty, h1, h2, ?_⟩
  have hA := ha cpos pins s1 σ H1 _ I1 q1
  rw [hs] at hA ⊢
  refine Calls.callWith_builtin (by show (false || (backTo cpos (starEach es X.env)).any (·.1)) = false; rw [hplain] <;> rfl) (Calls.evalArgs_plain ?_)
  exact thn hA fun us s2 ⟨vs, H2, I2, r2, q2⟩ => hm pins s2 σ H2 x vs v us Q I2 r1 r2 q2
/- xs.append(e), list.index on a module's tuple .. are MtR facts of 06m -/
end
end L2

namespace L2
open PySem PySem.Spec PyProof.Rows

def MtM (X : Cx) (id : String) (r : V → List V → Hp → VK → Prop) : Prop :=
  ∀ (pins : List (Addr × Obj)) (s : Shared) (σ : St) (H : Hp) (x : V) (xs : List V) (v : Value) (us : List Value) (Q : VK), Inv X pins σ H s → RelV x v → Vals xs us → r x xs H Q →
    wpAny (model X.prog X.w) X.A (call (.builtin id) (v :: us)) (EP X pins σ Q) X.xe s

/-! ### lists of values -/
theorem Vals.one : ∀ {x : V} {us : List Value}, Vals [x] us → ∃ u, us = [u] ∧ RelV x u
  | _, _, .cons r .nil => ⟨_, rfl, r⟩
theorem Vals.two : ∀ {x y : V} {us : List Value}, Vals [x, y] us → ∃ u v, us = [u, v] ∧ RelV x u ∧ RelV y v
  | _, _, _, .cons r (.cons q .nil) => ⟨_, _, rfl, r, q⟩
theorem Vals.zero : ∀ {us : List Value}, Vals [] us → us = []
  | _, .nil => rfl
theorem Vals.dropLast {xs : List V} {us : List Value} (h : Vals xs us) : Vals xs.dropLast us.dropLast := by
  induction h with
  | nil => exact .nil
  | cons r t ih =>
    cases t with
    | nil => exact .nil
    | cons q t' => exact .cons r ih
theorem Vals.eraseIdx : ∀ {xs : List V} {us : List Value} (i : Nat), Vals xs us → Vals (xs.eraseIdx i) (us.eraseIdx i)
  | _, _, _, .nil => .nil
  | _, _, 0, .cons _ t => t
  | _, _, i + 1, .cons r t => .cons r (Vals.eraseIdx i t)
theorem Vals.reverse {xs : List V} {us : List Value} (h : Vals xs us) : Vals xs.reverse us.reverse := by
  induction h with
  | nil => exact .nil
  | cons r t ih => rw [List.reverse_cons, List.reverse_cons]; exact Vals.append ih (.cons r .nil)
theorem Vals.rep {xs : List V} {us : List Value} (h : Vals xs us) : ∀ k : Nat, Vals (List.replicate k xs).flatten (List.replicate k us).flatten
  | 0 => .nil
  | k + 1 => by
    rw [List.replicate_succ, List.replicate_succ, List.flatten_cons, List.flatten_cons]
    exact Vals.append h (Vals.rep h k)
theorem erase_last {α : Type} (l : List α) : l.eraseIdx (l.length - 1) = l.dropLast := by
  induction l with
  | nil => rfl
  | cons a r ih =>
    cases r with
    | nil => rfl
    | cons b r =>
      have e : (a :: b :: r).length - 1 = ((b :: r).length - 1) + 1 := by
        have h1 : (a :: b :: r).length = r.length + 2 := rfl
        have h2 : (b :: r).length = r.length + 1 := rfl
        omega
      rw [e, List.eraseIdx_cons_succ, ih]
      all_goals rfl
theorem len_erase {α : Type} : ∀ (l : List α) (i : Nat), (l.eraseIdx i).length ≤ l.length
  | [], _ => Nat.le_refl _
  | _ :: _, 0 => Nat.le_succ _
  | _ :: r, i + 1 => Nat.succ_le_succ (len_erase r i)
theorem foldl_rep (its : List Value) : ∀ (k : Nat) (acc : List Value),
    List.foldl (fun x1 x2 => x1 ++ x2) acc.toArray (List.replicate k its.toArray) = (acc ++ (List.replicate k its).flatten).toArray
  | 0, acc => by simp
  | k + 1, acc => by
    have e : acc.toArray ++ its.toArray = (acc ++ its).toArray := by simp
    have e2 : (acc ++ its) ++ (List.replicate k its).flatten = acc ++ (List.replicate (k + 1) its).flatten := by
      rw [List.replicate_succ, List.flatten_cons, List.append_assoc]
    rw [← e2, ← foldl_rep its k (acc ++ its), ← e, List.replicate_succ, List.foldl_cons]

section
variable {X : Cx} {pins : List (Addr × Obj)} {σ : St} {H : Hp} {s : Shared} {l b : Addr} {xs ys zs : List V}

/-! ### the two steps: a tracked list is rewritten, a new list is laid -/
theorem Inv.lset {its its' : List Value} {n : Nat} {f : Array Value → Array Value} {t' : Nat} (I : Inv X pins σ H s) (hH : H l = some (.lst xs))
    (e : s.heap.get? l = some { cls := .type "list", data := .seq its.toArray n }) (hf : f its.toArray = its'.toArray) (hv : Vals ys its') (hz : ys.length ≤ sizeLine) :
    Inv X pins σ (upd H l (.lst ys)) { s with heap := s.heap.update l (Obj.mapSeq f), toks := t' } := by
  have q := PySem.IsL.update e f
  rw [hf] at q
  refine I.write (x := l) (e := l) (by rw [hH]; exact trivial) (.inl rfl) (fun b' u hb hu => (Heap.get?_update_other s.heap (Obj.mapSeq f) (Ne.symm hb)).trans hu) ⟨_, q⟩ ?_
  exact ⟨hz, its', _, hv, q⟩
theorem Inv.lnew {its : List Value} {t' : Nat} (I : Inv X pins σ H s) (hv : Vals ys its) (hz : ys.length ≤ sizeLine) :
    Inv X pins σ (upd H s.heap.objs.size (.lst ys)) { s with heap := s.heap.push { cls := .type "list", data := .seq its.toArray }, toks := t' } :=
  I.laid (fun _ _ q => Heap.get?_push_of_some _ q) (Nat.le_refl _) ⟨hz, its, 0, hv, Heap.get?_push_size _ rfl⟩
theorem Inv.fresh (I : Inv X pins σ H s) : H s.heap.objs.size = none := I.hok.fresh (Nat.le_refl _)
theorem Inv.lstM (I : Inv X pins σ H s) (hH : H l = some (.lst xs)) : xs.length ≤ sizeLine ∧ ∃ (its : List Value) (n : Nat), Vals xs its ∧ xs.length = its.length ∧ s.heap.get? l = some { cls := .type "list", data := .seq its.toArray n } := by
  obtain ⟨z, its, n, r, e⟩ := I.hok l _ hH
  exact ⟨z, its, n, r, r.length, e⟩

theorem notLongL {n : Nat} (h : n ≤ sizeLine) : Builtin.List.listTooLong n = false := by
  unfold Builtin.List.listTooLong
  exact decide_eq_false (by omega)
end

section
variable {X : Cx}

/-! ### methods -/
def rAppend : V → List V → Hp → VK → Prop := fun x vs H Q => ∃ l xs y, x = .ref l ∧ vs = [y] ∧ H l = some (.lst xs) ∧ xs.length < sizeLine ∧ Q .non (upd H l (.lst (xs ++ [y])))
theorem mt_append : MtM X "list.append" rAppend := by
  intro pins s σ H x vs v us Q I rx rv h
  obtain ⟨l, xs, y, rfl, rfl, hH, hz, q⟩ := h
  cases rx
  obtain ⟨u, rfl, ru⟩ := rv.one
  obtain ⟨z, its, n, r, hl, e⟩ := I.lstM hH
  refine call_meets F.slot_list_append ⟨_, e, rfl⟩ F.entry_list_append (F.args_list_append_2 _ _) (PySem.list_append l its.toArray n u (by rw [List.size_toArray]; omega)) ⟨e, ?_⟩
  refine ⟨.non, _, I.lset (its' := its ++ [u]) hH e (by simp) (r.append (.cons ru .nil)) ?_, rfl, q⟩
  rw [List.length_append, List.length_singleton]
  omega

def rExtend : V → List V → Hp → VK → Prop := fun x vs H Q => ∃ l b xs zs, x = .ref l ∧ vs = [.ref b] ∧ H l = some (.lst xs) ∧ H b = some (.lst zs) ∧ xs.length + zs.length ≤ sizeLine ∧ Q .non (upd H l (.lst (xs ++ zs)))
theorem mt_extend : MtM X "list.extend" rExtend := by
  intro pins s σ H x vs v us Q I rx rv h
  obtain ⟨l, b, xs, zs, rfl, rfl, hH, hB, hz, q⟩ := h
  cases rx
  obtain ⟨u, rfl, ru⟩ := rv.one
  cases ru
  obtain ⟨z, its, n, r, hl, e⟩ := I.lstM hH
  obtain ⟨z2, its2, n2, r2, hl2, e2⟩ := I.lstM hB
  have hsz : its.toArray.size + its2.toArray.size ≤ sizeLine := by rw [List.size_toArray, List.size_toArray]; omega
  have hlong : ¬ (!its.toArray.isEmpty && Builtin.List.listTooLong (its.toArray.size + its2.toArray.size)) = true := by
    rw [notLongL hsz, Bool.and_false]
    exact Bool.false_ne_true
  refine call_meets F.slot_list_extend ⟨_, e, rfl⟩ F.entry_list_extend (F.args_list_extend_2 _ _)
    (AutoSeq1.list_extend_list_list_0 l its.toArray n b its2.toArray n2 hlong (by rw [List.size_toArray]; omega) (by omega)) ⟨e, e2, ?_⟩
  refine ⟨.non, _, I.lset (its' := its ++ its2) hH e (by simp) (r.append r2) ?_, rfl, q⟩
  rw [List.length_append]
  omega

def rPop : V → List V → Hp → VK → Prop := fun x vs H Q => ∃ l xs y, x = .ref l ∧ vs = [] ∧ H l = some (.lst xs) ∧ xs[xs.length - 1]? = some y ∧ Q y (upd H l (.lst xs.dropLast))
theorem mt_pop : MtM X "list.pop" rPop := by
  intro pins s σ H x vs v us Q I rx rv h
  obtain ⟨l, xs, y, rfl, rfl, hH, hy, q⟩ := h
  cases rx
  have hus := rv.zero
  subst hus
  obtain ⟨z, its, n, r, hl, e⟩ := I.lstM hH
  obtain ⟨u, hu, ru⟩ := r.get hy
  have hy' : its.toArray[its.toArray.size - 1]? = some u := by
    show its.toArray[its.length - 1]? = some u
    rw [← Array.getElem?_toList, ← hl]
    exact hu
  refine call_meets F.slot_list_pop ⟨_, e, rfl⟩ F.entry_list_pop (F.args_list_pop_1 _) (MeetsSeq.list_pop_last l its.toArray n u hy' (by rw [List.size_toArray]; omega)) ⟨e, ?_⟩
  refine ⟨y, _, I.lset (its' := its.dropLast) hH e ?_ r.dropLast ?_, ru, q⟩
  · show its.toArray.eraseIdxIfInBounds (its.toArray.size - 1) = its.dropLast.toArray
    rw [List.size_toArray, List.eraseIdxIfInBounds_toArray, erase_last]
  · rw [List.length_dropLast]
    omega

def rPopAt : V → List V → Hp → VK → Prop := fun x vs H Q => ∃ l xs i k y, x = .ref l ∧ vs = [.int i] ∧ H l = some (.lst xs) ∧ -(2 ^ 63) ≤ i ∧ i < 2 ^ 63 ∧ seqIndex? i xs.length = some k ∧ xs[k]? = some y ∧ Q y (upd H l (.lst (xs.eraseIdx k)))
theorem mt_popAt : MtM X "list.pop" rPopAt := by
  intro pins s σ H x vs v us Q I rx rv h
  obtain ⟨l, xs, i, k, y, rfl, rfl, hH, h1, h2, hk, hy, q⟩ := h
  cases rx
  obtain ⟨u, rfl, ru⟩ := rv.one
  obtain ⟨t, rfl⟩ := ru
  obtain ⟨z, its, n, r, hl, e⟩ := I.lstM hH
  obtain ⟨w, hw, rw'⟩ := r.get hy
  refine call_meets F.slot_list_pop ⟨_, e, rfl⟩ F.entry_list_pop (F.args_list_pop_2 _ _)
    (MeetsSeq.list_pop_at l its.toArray n i t k w (fitsIndex_both h1 h2) (by rw [List.size_toArray, ← hl]; exact hk) (by rw [← Array.getElem?_toList]; exact hw) (by rw [List.size_toArray]; omega)) ⟨e, ?_⟩
  refine ⟨y, _, I.lset (its' := its.eraseIdx k) hH e ?_ (r.eraseIdx k) ?_, rw', q⟩
  · show its.toArray.eraseIdxIfInBounds k = (its.eraseIdx k).toArray
    rw [List.eraseIdxIfInBounds_toArray]
  · have := len_erase xs k
    omega

def rReverse : V → List V → Hp → VK → Prop := fun x vs H Q => ∃ l xs, x = .ref l ∧ vs = [] ∧ H l = some (.lst xs) ∧ Q .non (upd H l (.lst xs.reverse))
theorem mt_reverse : MtM X "list.reverse" rReverse := by
  intro pins s σ H x vs v us Q I rx rv h
  obtain ⟨l, xs, rfl, rfl, hH, q⟩ := h
  cases rx
  have hus := rv.zero
  subst hus
  obtain ⟨z, its, n, r, hl, e⟩ := I.lstM hH
  refine call_meets F.slot_list_reverse ⟨_, e, rfl⟩ F.entry_list_reverse (F.args_list_reverse_1 _) (AutoSeq1.list_reverse_list_0 l its.toArray n (by rw [List.size_toArray]; omega)) ⟨e, ?_⟩
  refine ⟨.non, _, I.lset (its' := its.reverse) hH e (by simp) r.reverse ?_, rfl, q⟩
  rw [List.length_reverse]
  omega

def rClear : V → List V → Hp → VK → Prop := fun x vs H Q => ∃ l xs, x = .ref l ∧ vs = [] ∧ H l = some (.lst xs) ∧ Q .non (upd H l (.lst []))
theorem mt_clear : MtM X "list.clear" rClear := by
  intro pins s σ H x vs v us Q I rx rv h
  obtain ⟨l, xs, rfl, rfl, hH, q⟩ := h
  cases rx
  have hus := rv.zero
  subst hus
  obtain ⟨z, its, n, r, hl, e⟩ := I.lstM hH
  refine call_meets F.slot_list_clear ⟨_, e, rfl⟩ F.entry_list_clear (F.args_list_clear_1 _) (AutoSeq1.list_clear_list_0 l its.toArray n (by rw [List.size_toArray]; omega)) ⟨e, ?_⟩
  exact ⟨.non, _, I.lset (its' := []) (ys := []) hH e rfl .nil (Nat.zero_le _), rfl, q⟩

/-! ### list + list, list += list, list * int -/
def rCat : R2 := fun x y H Q => ∃ l b xs zs, x = .ref l ∧ y = .ref b ∧ H l = some (.lst xs) ∧ H b = some (.lst zs) ∧ xs.length + zs.length ≤ sizeLine ∧ ∀ p, H p = none → Q (.ref p) (upd H p (.lst (xs ++ zs)))
theorem op_cat : OpR X (binaryOp .Add) rCat := by
  intro pins s σ H x y v u Q I rx ry h
  obtain ⟨l, b, xs, zs, rfl, rfl, hH, hB, hz, q⟩ := h
  cases rx
  cases ry
  obtain ⟨z, its, n, r, hl, e⟩ := I.lstM hH
  obtain ⟨z2, its2, n2, r2, hl2, e2⟩ := I.lstM hB
  refine PySem.P.add_list e e2 ?_ (by rw [List.size_toArray, List.size_toArray]; omega)
  have ea : its.toArray ++ its2.toArray = (its ++ its2).toArray := by simp
  rw [ea]
  exact ⟨.ref _, _, I.lnew (t' := s.toks) (r.append r2) (by rw [List.length_append]; omega), rfl, q _ I.fresh⟩
/-- a list times an int (a negative one is nothing) -/
def rRep : R2 := fun x y H Q => ∃ l k xs, x = .ref l ∧ y = .int k ∧ H l = some (.lst xs) ∧ -(2 ^ 63) ≤ k ∧ k < 2 ^ 63 ∧ xs.length * k.toNat ≤ sizeLine ∧
  ∀ p, H p = none → Q (.ref p) (upd H p (.lst (List.replicate k.toNat xs).flatten))
theorem len_rep {α : Type} (xs : List α) (k : Nat) : (List.replicate k xs).flatten.length = k * xs.length := by
  induction k with
  | zero => simp
  | succ k ih => rw [List.replicate_succ, List.flatten_cons, List.length_append, ih, Nat.succ_mul, Nat.add_comm]
theorem op_rep : OpR X (binaryOp .Mult) rRep := by
  intro pins s σ H x y v u Q I rx ry h
  obtain ⟨l, k, xs, rfl, rfl, hH, h1, h2, hz, q⟩ := h
  cases rx
  obtain ⟨t, rfl⟩ := ry
  obtain ⟨z, its, n, r, hl, e⟩ := I.lstM hH
  have hlen : its.toArray.size * k.toNat ≤ sizeLine := by rw [List.size_toArray, ← hl]; exact hz
  have hcap : ¬ its.toArray.size * k.toNat > (2 ^ 63 - 1) / 8 := by
    have : (sizeLine : Nat) ≤ (2 ^ 63 - 1) / 8 := by decide
    omega
  have hfit : ¬ (!Builtin.List.listFitsIndex k) = true := by
    rw [fitsIndex_both h1 h2]
    exact Bool.false_ne_true
  have hlong : ¬ Builtin.List.listTooLong (its.toArray.size * k.toNat) = true := by
    rw [notLongL hlen]
    exact Bool.false_ne_true
  have hnew : List.foldl (fun x1 x2 => x1 ++ x2) #[] (List.replicate (if its.toArray.isEmpty = true then 0 else k.toNat) its.toArray) = (List.replicate k.toNat its).flatten.toArray := by
    have f0 : ∀ m : Nat, List.foldl (fun x1 x2 => x1 ++ x2) #[] (List.replicate m its.toArray) = (List.replicate m its).flatten.toArray := fun m => by
      have := foldl_rep its m []
      rw [List.nil_append] at this
      exact this
    rw [f0]
    cases its with
    | nil => simp
    | cons a r' => rw [if_neg (by simp)]
  refine wpAny_binaryOp_repeat_ref (T := "list") (U := "int") (by decide) ⟨_, e, rfl⟩ (fun s' => typeIs_int s' k t) noFill_list_mul F.fills_int_mul F.slot_int_rmul repeat_list F.slot_int_index.lookup
    (call_meets F.slot_int_rmul (typeIs_int s k t) F.entry_int_rmul (F.args_int_rmul_2 _ _) (int___rmul___int_list k t l its.toArray n)
      ⟨e, rfl, ⟨_, e, rfl⟩, call_meets F.slot_list_mul ⟨_, e, rfl⟩ F.entry_list_mul (F.args_list_mul_2 _ _) (AutoListH.list___mul___list_int_3 l its.toArray n k t hfit hcap hlong) ⟨e, ?_⟩⟩)
  rw [hnew]
  exact ⟨.ref _, _, I.lnew (t' := s.toks) (r.rep k.toNat) (by rw [len_rep, Nat.mul_comm]; exact hz), rfl, q _ I.fresh⟩

/-! ### del xs[i] -/
theorem del_list {pins : List (Addr × Obj)} {s : Shared} {σ : St} {H : Hp} {l : Addr} {xs : List V} {i : Int} {t : Tok} {k : Nat} {Q : Unit → Shared → Prop} (I : Inv X pins σ H s) (hH : H l = some (.lst xs))
    (h1 : -(2 ^ 63) ≤ i) (h2 : i < 2 ^ 63) (hk : seqIndex? i xs.length = some k) (h : ∀ s', Inv X pins σ (upd H l (.lst (xs.eraseIdx k))) s' → Q () s') :
    wpAny (model X.prog X.w) X.A (delItem (.ref l) (.int i t)) Q X.xe s := by
  obtain ⟨z, its, n, r, hl, e⟩ := I.lstM hH
  refine PySem.P.delItem_list (k := k) e (fitsIndex_both h1 h2) (by rw [List.size_toArray, ← hl]; exact hk) (h _ ?_) (by rw [List.size_toArray]; omega)
  refine I.lset (its' := its.eraseIdx k) (t' := s.toks) hH e ?_ (r.eraseIdx k) ?_
  · show its.toArray.eraseIdxIfInBounds k = (its.eraseIdx k).toArray
    rw [List.eraseIdxIfInBounds_toArray]
  · have := len_erase xs k
    omega
end

/-! ### xs[a:b] = ys -/
section
variable {prog : Program} {w : World} {A : Around} {E : Value → Shared → Prop} {s : Shared}
theorem splice_eq (its its2 : List Value) (a c : Nat) : its.toArray.extract 0 a ++ its2.toArray ++ its.toArray.extract c its.toArray.size = (its.take a ++ its2 ++ its.drop c).toArray := by
  apply Array.toList_inj.mp
  first
    | (simp
       exact List.take_of_length_le (by simp))
    | simp [List.take_of_length_le]
    | simp
theorem bounds_run {a c n : Nat} (hac : a ≤ c) (hc : c ≤ n) : sliceBounds (some (a : Int)) (some (c : Int)) none n = ((a : Int), (c : Int), 1) := by
  simp only [sliceBounds, Option.getD_none]
  have h1 : ¬ ((a : Int) < 0) := by omega
  have h2 : ¬ ((c : Int) < 0) := by omega
  simp only [h1, h2, if_false, show (1 : Int) > 0 by decide, if_true]
  congr 1
  · omega
  · congr 1; omega
set_option maxRecDepth 100000 in
/-- list.__setitem__ with a slice of step one and another list -/
theorem setItem_slice {l b sl : Addr} {items new : Array Value} {n n2 : Nat} {vl vu : Value} {a c : Nat} {Q : Unit → Shared → Prop}
    (e : s.heap.get? l = some { cls := .type "list", data := .seq items n }) (e2 : s.heap.get? b = some { cls := .type "list", data := .seq new n2 }) (hne : l ≠ b)
    (hs : s.heap.IsSliceOf sl vl vu .none) (pl : IsPart vl (some (a : Int))) (pu : IsPart vu (some (c : Int))) (hac : a ≤ c) (hc : c ≤ items.size)
    (hsz : items.size + new.size ≤ sizeLine) (h : Q () { s with heap := s.heap.update l (Obj.mapSeq fun xs => xs.extract 0 a ++ new ++ xs.extract c xs.size) }) :
    wpAny (model prog w) A (setItem (.ref l) (.ref sl) (.ref b)) Q E s := by
  have hl : s.heap.IsList l items := PySem.IsL.isList e
  have hb : s.heap.IsList b new := PySem.IsL.isList e2
  obtain ⟨os, hos, hcs, hds⟩ := id hs
  have hTs : s.TypeIs (.ref sl) "slice" := ⟨os, hos, hcs⟩
  have hstep : ¬ ((rawPart none == rawInt 0) = true) := Bool.false_ne_true
  have hsame : Builtin.List.listSameRef (.ref l) (.ref b) = false := by
    unfold Builtin.List.listSameRef
    exact beq_eq_false_iff_ne.mpr hne
  have hmax : (max (a : Int) (c : Int)).toNat = c := by omega
  have hz' : ((fun xs : Array Value => xs.extract 0 a ++ new ++ xs.extract c xs.size) items).size ≤ sizeLine + 1 := by
    simp only [Array.size_append, Array.size_extract]
    omega
  unfold setItem
  try with_reducible refine wpAny_holding ?_
  first | refine wpAny_bind (wpAny_pure ?_) | skip
  refine wpAny_bind (wpAny_sequenceKey hl.typeIs (by decide) ?_)
  refine wpAny_bind (wpAny_callSpecial?_slot (name := Str.ofString "__setitem__") hl.typeIs slot_list_setitem
    (wpAny_call_entry slot_list_setitem hl.typeIs entry_list_setitem ?_ (args_list_setitem _ _ _)))
  show wpAny _ _ (Builtin.List.listSubscript? (.ref sl) >>= _) _ _ s
  refine wpAny_bind ?_
  unfold Builtin.List.listSubscript?
  refine wpAny_bind (wpAny_specialOf hTs slice_no_index ?_)
  simp only [Option.isNone_none, if_true]
  refine wpAny_pure ?_
  show wpAny _ _ (typeOf (.ref sl) >>= _) _ _ s
  refine wpAny_bind (wpAny_typeOf hTs ?_)
  first
    | rw [if_neg (by decide)]
    | refine PySem.W.KFB.if_not (by decide) ?_
  rw [listSliceParts_eq]
  refine wpAny_bind (wpAny_bind (wpAny_field hos hds (x := .none) rfl (wpAny_bind (wpAny_listPart .none ?_))))
  rw [if_neg hstep]
  refine wpAny_bind (wpAny_field hos hds (x := vl) rfl (wpAny_bind (wpAny_listPart pl ?_)))
  refine wpAny_bind (wpAny_field hos hds (x := vu) rfl (wpAny_bind (wpAny_listPart pu (wpAny_pure ?_))))
  first
    | simp only [hsame, Bool.false_eq_true, if_false]
    | refine PySem.W.KFB.if_not hsame ?_
    | (dsimp only
       rw [if_neg (by rw [hsame]; exact Bool.false_ne_true)])
  refine wpAny_bind (m := Builtin.List.listAllItems (.ref b) "must assign iterable to extended slice") ?_
  unfold Builtin.List.listAllItems
  refine wpAny_bind (wpAny_typeOf hb.typeIs ?_)
  first
    | refine PySem.W.KFB.if_so (by decide) ?_
    | rw [if_pos (by decide)]
    | simp only [beq_self_eq_true, Bool.true_or, if_true]
  unfold Builtin.List.listItems
  refine wpAny_bind (wpAny_seqItems e2 rfl (wpAny_pure ?_))
  refine wpAny_bind (wpAny_bind (wpAny_seqItems e rfl (wpAny_pure ?_)))
  refine wpAny_bind (wpAny_of_eq ((sliceIndices_raw (some (a : Int)) (some (c : Int)) none items.size (by simp)).trans (congrArg (pure : Int × Int × Int → Sem (Int × Int × Int)) (bounds_run hac hc))) ?_)
  show wpAny _ _ (if ((1 : Int) == 1) = true then _ else _) _ _ s
  rw [if_pos (by decide)]
  refine wpAny_bind (wpAny_rule ?_)
  first
    | simp only [notLongL hsz, Bool.false_eq_true, if_false]
    | refine PySem.W.KFB.if_not (notLongL hsz) ?_
  first | refine wpAny_bind (wpAny_pure ?_) | skip
  show wpAny _ _ (updateSeq l (fun xs => xs.extract 0 ((a : Int)).toNat ++ new ++ xs.extract (max (a : Int) (c : Int)).toNat xs.size) >>= _) _ _ s
  rw [hmax, Int.toNat_natCast]
  refine wpAny_bind (wpAny_updateSeq (hz := Nat.le_trans (Nat.le_add_right _ _) hsz) (_hz' := hz') e rfl ?_)
  refine wpAny_bind (wpAny_letGo ?_)
  first
    | exact wpAny_bind (wpAny_pure (wpAny_pure ⟨.none, rfl, wpAny_pure h⟩))
    | exact wpAny_pure ⟨.none, rfl, wpAny_pure h⟩
end

section
variable {X : Cx}
/-- xs[a:c] = ys of another list, at the value level: sl is the slice object that was just made -/
theorem set_slice {pins : List (Addr × Obj)} {s : Shared} {σ : St} {H : Hp} {l b sl : Addr} {xs ys : List V} {a c : Int} {vl vu : Value} {Q : Unit → Shared → Prop} (I : Inv X pins σ H s)
    (hH : H l = some (.lst xs)) (hB : H b = some (.lst ys)) (hne : l ≠ b) (hs : s.heap.IsSliceOf sl vl vu .none) (ra : RelV (.int a) vl) (rc : RelV (.int c) vu) (h0 : 0 ≤ a) (hac : a ≤ c) (hc : c ≤ xs.length)
    (hz : xs.length + ys.length ≤ sizeLine) (h : ∀ s', Inv X pins σ (upd H l (.lst (xs.take a.toNat ++ ys ++ xs.drop c.toNat))) s' → Q () s') :
    wpAny (model X.prog X.w) X.A (setItem (.ref l) (.ref sl) (.ref b)) Q X.xe s := by
  obtain ⟨ta, rfl⟩ := ra
  obtain ⟨tc, rfl⟩ := rc
  obtain ⟨z, its, n, r, hl, e⟩ := I.lstM hH
  obtain ⟨z2, its2, n2, r2, hl2, e2⟩ := I.lstM hB
  obtain ⟨a', rfl⟩ := Int.eq_ofNat_of_zero_le h0
  obtain ⟨c', rfl⟩ := Int.eq_ofNat_of_zero_le (Int.le_trans h0 hac)
  simp only [Int.toNat_natCast] at h
  refine setItem_slice (a := a') (c := c') e e2 hne hs (.int _ _) (.int _ _) (by omega) (by rw [List.size_toArray]; omega) (by rw [List.size_toArray, List.size_toArray]; omega) (h _ ?_)
  refine I.lset (its' := its.take a' ++ its2 ++ its.drop c') (t' := s.toks) hH e ?_ (Vals.append (Vals.append (r.take _) r2) (r.drop _)) ?_
  · exact splice_eq its its2 a' c'
  · rw [List.length_append, List.length_append, List.length_take, List.length_drop]
    omega
end
end L2

namespace Att
open PySem PySem.W PySem.Calls PyProof.Rows

/-! ### the script -/
theorem ints_of_wellAll {P : Params} {h : Heap} : ∀ (ns : List Int) (vs : List Value), WellAll P h vs (ns.map WData.int) → IntsAre vs ns := by
  intro ns
  induction ns with
  | nil =>
    intro vs w
    rw [List.map_nil] at w
    cases w
    exact .nil
  | cons n ns ih =>
    intro vs w
    rw [List.map_cons] at w
    cases w with
    | cons a b =>
      cases a
      exact .cons _ _ (ih _ b)

theorem script_of {l : OpenLaw} {n : Nat} (hn : l.most = some n) {P : Params} {h : Heap} {args : List WData} {vals : List Value}
    (hpre : l.row.toRowW.claim.pre args = true) (hwl : WellAll P h vals args) :
    ∃ a vs ns, vals = [Value.ref a] ∧ args = [WData.list (ns.map WData.int)] ∧ h.get? a = some { cls := .type "list", data := .seq vs.toArray } ∧ IntsAre vs ns ∧ ns.length ≤ n := by
  have hsh : WShape.hasAll [] args [.list .int] = true := (pre_splitW hpre).1
  have hc : l.pre.holds [] { args := args } = true := (pre_splitW hpre).2
  obtain ⟨d, r, rfl, h1, h2⟩ := hasAllW_cons hsh
  obtain rfl := hasAllW_nil h2
  obtain ⟨xs, rfl, h3⟩ := hasW_list h1
  obtain ⟨ns, rfl⟩ := items_int h3
  have hlen : ns.length ≤ n := by
    unfold OpenLaw.pre at hc
    have h4 : (WTm.not (.lt (.lit (.int (n : Int))) (.len (.arg 0)))).holds [] { args := [.list (ns.map .int)] } = true := by
      have h4 := (holds_andW hc).1
      rw [hn] at h4
      exact h4
    have h5 := condW_of h4 (w_not (w_lt w_lit (w_len_list (w_arg rfl))))
    rw [List.length_map] at h5
    refine Nat.le_of_not_lt fun q => ?_
    have q' : (n : Int) < ((ns.length : Nat) : Int) := by omega
    first
      | (rw [decide_eq_true q'] at h5; exact absurd h5 (by decide))
      | (simp at h5; omega)
  cases hwl with
  | cons w1 w2 =>
    cases w2
    cases w1 with
    | list ho hall => exact ⟨_, _, ns, rfl, rfl, ho, ints_of_wellAll ns _ hall, hlen⟩

theorem post_true (l : OpenLaw) (args : List WData) : l.row.toRowW.claim.post args (.bool true) args = true :=
  postW_of (r := l.row.toRowW) (X := (true == true))
    (show WShape.has [] (.bool true) .bool = true by first | rfl | decide | simp [WShape.has, WShape.arms, WShape.armsAll])
    (show (WTm.eq .res (.lit (.bool true))).value [] { args := args, res := some (.bool true), after := args } = some (.bool (true == true)) from w_eq_bool (w_res rfl) w_lit) rfl

/-! ### the attachment: holds_open's last premise (the goal 'hc' behind k_head) from a wpAny of the law's body -/
theorem attach {l : OpenLaw} {n : Nat} {q : Program} {loose : List Str} {XP : (Str → Option Value) → Heap → Prop} {YP : World → Heap → Prop} {d : DefRec} {x : Str}
    (hn : l.most = some n) (hdf : d.params.defaults = [])
    (hbind : ∀ pm cd doc v : Value, bindArgs (docDef d.name d.params d.body d.scope pm cd doc) ⟨[v], []⟩ = pure [(x, v)])
    (hx : d.scope.names.lookup x = some .local ∨ d.scope.names.lookup x = some .cell)
    (hk : d.scope.kind = .function) (hco : d.scope.isCoroutine = false) (hgen : d.scope.isGenerator = false)
    (body : ∀ (w : World) (s₀ s₁ s : Shared) (mg mb : Str → Option Value) (fa : Addr) (o : Obj) (pm cd doc : Value) (a : Addr) (vs : List Value) (ns : List Int),
      Ground q loose [] XP w s₀ mg mb s₁.heap → YP w s₁.heap →
      s₁.heap.get? fa = some o → o.data = .func (docDef d.name d.params d.body d.scope pm cd doc) → s₁.heap.CodeRec cd d.name → mg d.name = some (.ref fa) →
      s₁.heap.get? a = some { cls := .type "list", data := .seq vs.toArray } → IntsAre vs ns → ns.length ≤ n →
      s.gens = #[] → s.os = s₁.os →
      Fr s₁.heap s₁.heap.objs.size s.heap (bindL (envOfC d.name d.scope s₁.heap.objs.size fa cd).kindOf [(x, .ref a)] fun _ => none) →
      Cl s₁.heap.objs.size (cellsFrom (s₁.heap.objs.size + 1) d.scope.names []) s.heap (bindC (envOfC d.name d.scope s₁.heap.objs.size fa cd).kindOf [(x, .ref a)] fun _ => none) →
      wpAny (model l.prog w) (callerA.deeper (envOfC d.name d.scope s₁.heap.objs.size fa cd)) (execs d.body (envOfC d.name d.scope s₁.heap.objs.size fa cd))
        (fun f s' => f = .ret (.bool true) ∧ OldK s₁.heap s'.heap ∧ s'.os = s₁.os ∧ AllBare s'.gens) (fun _ _ => False) s) :
    WalkO q loose XP YP l.row.toRowW d [] (fun f vs => PySem.call f vs) := by
  intro w s₀ s₁ mg mb G Y fa o pm cd doc dV kV ho hd hcd hD hmg hg args vals as hpre hlay hrd hwl hlo
  obtain rfl : dV = .none := Dflts.none hD hdf
  obtain rfl : kV = .none := Dflts.noKw hD
  obtain ⟨a, vs, ns, rfl, rfl, hobj, hints, hlen⟩ := script_of hn hpre hwl
  refine enter_call ?_
  refine call_cells_ret (o := o) (by rw [depth_caller]; decide) ho (fd_plain hd) G.T.nolimit hcd (hbind pm cd doc (.ref a)) (fun y hy => ?_) (fun h₁ tk F X => ?_) hco hgen hk
  · obtain rfl : y = (x, Value.ref a) := List.mem_singleton.mp hy
    rcases hx with e | e
    · exact .inl e
    · exact .inr ⟨e, cellsFrom_some _ _ _ (.inl e)⟩
  · refine wpAny_mono (body w s₀ s₁ { s₁ with heap := h₁, toks := tk } mg mb fa o pm cd doc a vs ns G Y ho (fd_plain hd) hcd hmg hobj hints hlen hg rfl F X) (fun f s' hq => ?_) (fun _ _ hq => hq)
    obtain ⟨rfl, h2, h3, h4⟩ := hq
    exact ⟨.inl ⟨.bool true, .bool true, [], rfl, fun _ => rfl, .bool true, post_true l _, fun _ => ⟨List.Pairwise.nil, fun _ hm => (nomatch hm)⟩⟩, h2, h3, h4⟩

/-- the same from a codeAny of the CALL (for a layer whose function contracts speak of calls) -/
theorem attach_call {l : OpenLaw} {n : Nat} {q : Program} {loose : List Str} {XP : (Str → Option Value) → Heap → Prop} {YP : World → Heap → Prop} {d : DefRec}
    (hn : l.most = some n) (hdf : d.params.defaults = [])
    (call : ∀ (w : World) (s₀ s₁ : Shared) (mg mb : Str → Option Value) (fa : Addr) (o : Obj) (pm cd doc : Value) (a : Addr) (vs : List Value) (ns : List Int),
      Ground q loose [] XP w s₀ mg mb s₁.heap → YP w s₁.heap →
      s₁.heap.get? fa = some o → o.data = .func (docDef d.name d.params d.body d.scope pm cd doc) → s₁.heap.CodeRec cd d.name → mg d.name = some (.ref fa) →
      s₁.heap.get? a = some { cls := .type "list", data := .seq vs.toArray } → IntsAre vs ns → ns.length ≤ n → s₁.gens = #[] →
      codeAny (model l.prog w) callerA (.call (.ref fa) ⟨[.ref a], []⟩) (fun r s' => r = .ok (.ret (.bool true)) ∧ OldK s₁.heap s'.heap ∧ s'.os = s₁.os ∧ AllBare s'.gens) s₁) :
    WalkO q loose XP YP l.row.toRowW d [] (fun f vs => PySem.call f vs) := by
  intro w s₀ s₁ mg mb G Y fa o pm cd doc dV kV ho hd hcd hD hmg hg args vals as hpre hlay hrd hwl hlo
  obtain rfl : dV = .none := Dflts.none hD hdf
  obtain rfl : kV = .none := Dflts.noKw hD
  obtain ⟨a, vs, ns, rfl, rfl, hobj, hints, hlen⟩ := script_of hn hpre hwl
  refine enter_call (codeAny_mono (call w s₀ s₁ mg mb fa o pm cd doc a vs ns G Y ho (fd_plain hd) hcd hmg hobj hints hlen hg) fun r s' hq => ?_)
  obtain ⟨rfl, h2, h3, h4⟩ := hq
  exact ⟨.inl ⟨.bool true, .bool true, [], rfl, fun _ => rfl, .bool true, post_true l _, fun _ => ⟨List.Pairwise.nil, fun _ hm => (nomatch hm)⟩⟩, h2, h3, h4⟩

/-- the same where the top left finished generators (o_head chose holds_openN): nothing may have changed at all and no generator may be left -/
theorem attachN {l : OpenLaw} {n : Nat} {q : Program} {loose : List Str} {XP : (Str → Option Value) → Heap → Prop} {YP : World → Heap → Prop} {d : DefRec} {x : Str}
    (hn : l.most = some n) (hdf : d.params.defaults = [])
    (hbind : ∀ pm cd doc v : Value, bindArgs (docDef d.name d.params d.body d.scope pm cd doc) ⟨[v], []⟩ = pure [(x, v)])
    (hx : d.scope.names.lookup x = some .local ∨ d.scope.names.lookup x = some .cell)
    (hk : d.scope.kind = .function) (hco : d.scope.isCoroutine = false) (hgen : d.scope.isGenerator = false)
    (body : ∀ (w : World) (s₀ s₁ s : Shared) (mg mb : Str → Option Value) (fa : Addr) (o : Obj) (pm cd doc : Value) (a : Addr) (vs : List Value) (ns : List Int),
      Ground q loose [] XP w s₀ mg mb s₁.heap → YP w s₁.heap →
      s₁.heap.get? fa = some o → o.data = .func (docDef d.name d.params d.body d.scope pm cd doc) → s₁.heap.CodeRec cd d.name → mg d.name = some (.ref fa) →
      s₁.heap.get? a = some { cls := .type "list", data := .seq vs.toArray } → IntsAre vs ns → ns.length ≤ n →
      s.gens = #[] → s.os = s₁.os →
      Fr s₁.heap s₁.heap.objs.size s.heap (bindL (envOfC d.name d.scope s₁.heap.objs.size fa cd).kindOf [(x, .ref a)] fun _ => none) →
      Cl s₁.heap.objs.size (cellsFrom (s₁.heap.objs.size + 1) d.scope.names []) s.heap (bindC (envOfC d.name d.scope s₁.heap.objs.size fa cd).kindOf [(x, .ref a)] fun _ => none) →
      wpAny (model l.prog w) (callerA.deeper (envOfC d.name d.scope s₁.heap.objs.size fa cd)) (execs d.body (envOfC d.name d.scope s₁.heap.objs.size fa cd))
        (fun f s' => f = .ret (.bool true) ∧ (∀ b o, s₁.heap.get? b = some o → s'.heap.get? b = some o) ∧ s'.os = s₁.os ∧ s'.gens = #[]) (fun _ _ => False) s) :
    WalkN q loose XP YP l.row.toRowW d [] (fun f vs => PySem.call f vs) := by
  intro w s₀ s₁ mg mb G Y fa o pm cd doc dV kV ho hd hcd hD hmg hg args vals as hpre hlay hrd hwl hlo
  obtain rfl : dV = .none := Dflts.none hD hdf
  obtain rfl : kV = .none := Dflts.noKw hD
  obtain ⟨a, vs, ns, rfl, rfl, hobj, hints, hlen⟩ := script_of hn hpre hwl
  refine enter_callW ?_
  refine call_cells_ret (o := o) (by rw [depth_caller]; decide) ho (fd_plain hd) G.T.nolimit hcd (hbind pm cd doc (.ref a)) (fun y hy => ?_) (fun h₁ tk F X => ?_) hco hgen hk
  · obtain rfl : y = (x, Value.ref a) := List.mem_singleton.mp hy
    rcases hx with e | e
    · exact .inl e
    · exact .inr ⟨e, cellsFrom_some _ _ _ (.inl e)⟩
  · refine wpAny_mono (body w s₀ s₁ { s₁ with heap := h₁, toks := tk } mg mb fa o pm cd doc a vs ns G Y ho (fd_plain hd) hcd hmg hobj hints hlen hg rfl F X) (fun f s' hq => ?_) (fun _ _ hq => hq)
    obtain ⟨rfl, h2, h3, h4⟩ := hq
    exact ⟨.inl ⟨.bool true, .bool true, [], rfl, fun _ => rfl, .bool true, post_true l _, fun _ => ⟨List.Pairwise.nil, fun _ hm => (nomatch hm)⟩⟩, h2, h3, h4⟩

/-! ### rules over ANY heap (no ledger) from facts about the written part K: the library's own take a ledger (News) for what they write -/
section
variable {prog : Program} {w : World} {A : Around} {E : Value → Shared → Prop} {s : Shared} {K : Frag}

/-- a def of the module, or a method (qual 'C.m'), entered: the frame is the next address; cells behind it -/
theorem call_fn {R : Result → Shared → Prop} {name qual : Str} {params : Arguments} {body : List Stmt} {scope : Scope} {dV kV doc pm cdv ct oc : Value} {an od : Option Addr} {osl : Array (Option Value)} {f : Addr} {args : Args} {binds : List (Str × Value)}
    (X : K.In s.heap) (hlim : s.heap.NoLimit) (ho : K.lookup f = some ⟨oc, od, .func (fnOf name qual params body scope dV kV doc pm an cdv ct), osl⟩) (hcd : codeIn K cdv qual = true) (hroom : A.depth < recursionLimit)
    (hbind : BindsTo s (fnOf name qual params body scope dV kV doc pm an cdv ct) args binds)
    (hkind : (binds.all fun y => scope.names.lookup y.1 == some .local || scope.names.lookup y.1 == some .cell) = true)
    (h : ∀ s₁, InCallC s s.heap.objs.size (bindL (envOfC qual scope s.heap.objs.size f cdv).kindOf binds fun _ => none) (cellsFrom (s.heap.objs.size + 1) scope.names [])
        (bindC (envOfC qual scope s.heap.objs.size f cdv).kindOf binds fun _ => none) s₁ →
      wpAny (model prog w) (A.deeper (envOfC qual scope s.heap.objs.size f cdv)) (execs body (envOfC qual scope s.heap.objs.size f cdv))
        (fun fl s' => R (.ok (.ret (match fl with | .ret v => v | _ => .none))) s')
        (fun e s' => wpAny (model prog w) (A.deeper (envOfC qual scope s.heap.objs.size f cdv)) (leaving (envOfC qual scope s.heap.objs.size f cdv) e) (fun _ s'' => R (.error e) s'') (fun e' s'' => R (.error e') s'') s') s₁)
    (hco : scope.isCoroutine = false) (hgen : scope.isGenerator = false) (hk : scope.kind = .function) : codeAny (model prog w) A (.call (.ref f) args) R s := by
  refine codeAny_call_function hroom (X _ _ ho) rfl hco hgen rfl (codeRec_of X hcd) (hbind _ _ _ _ ?_)
  refine wpAny_newFunctionEnv_cells hk (kindsX hkind _) fun env he s₁ x => ?_
  subst he
  exact ⟨hlim.keeps x.toInCall.keep, codeAny_func (h s₁ x)⟩

/-- C(..): dict at size, instance at size + 1, then __init__ -/
theorem make_obj {R : Result → Shared → Prop} {C fI : Addr} {rest : List Value} {kw : List (Str × Value)}
    (X : K.In s.heap) (hm : makesIn K C = true) (hi : findIn K (.ref C) "__init__" = some (some (.ref fI))) (hf : isFn K (.ref fI) = true)
    (h : codeAny (model prog w) (A.under (.builtin "type.__call__" ⟨.ref C :: rest, kw⟩)) (.call (.ref fI) ⟨.ref (s.heap.objs.size + 1) :: rest, kw⟩) (InitBack (s.heap.objs.size + 1) R)
      { s with heap := (s.heap.push emptyDict).push (instObj C s.heap.objs.size) }) : codeAny (model prog w) A (.call (.ref C) ⟨rest, kw⟩) R s := by
  obtain ⟨hh, g, d, t, os⟩ := s
  exact make_core (makes_of X hm) (looks_findIn X hi) (fun self => bind_fn X self (beq_iff_eq.mp hf)) (.inl rfl) h

/-- x.name where the instance's dict holds the name and the class does not -/
theorem get_field {x C : Addr} {ox : Obj} {es : List DictEntry} {n : Nat} {name : Str} {expr : Bool} {v : Value} {Q : Value → Shared → Prop}
    (X : K.In s.heap) (I : PySem.W.InstAt s.heap x ox C (some (dictOf es n))) (hg : plainGet K C name = true) (hh : hasDictIn K C = true) (ha : findIn K (.ref C) name = some none)
    (hl : getL name es = some (some v)) (hv : handedIn v = true) (h : Q v { s with toks := s.toks + 1 }) : wpAny (model prog w) A (getAttr (.ref x) name expr) Q E s :=
  get_value X I (plainGet_of hg).1 (findObj_own hh ha rfl hl) hv h

/-- x.m(..): the method found in the class -/
theorem get_method {x C f : Addr} {ox : Obj} {es : List DictEntry} {n : Nat} {name : Str} {pl : Sem Bool} {Q : Value × List Value → Shared → Prop}
    (X : K.In s.heap) (I : PySem.W.InstAt s.heap x ox C (some (dictOf es n))) (hg : plainGet K C name = true) (hf : findIn K (.ref C) name = some (some (.ref f))) (ht : isFn K (.ref f) = true)
    (hl : getL name es = some none) (h : Q (.ref f, [.ref x]) s) : wpAny (model prog w) A (getMethod (.ref x) name pl) Q E s :=
  method_fn X I (plainGet_of hg).1 (plainGet_of hg).2 hf (beq_iff_eq.mp ht) (by show (lookIn name (dictOf es n)).map _ = _; rw [lookIn_dict, hl]; rfl) h

/-! the whole heap as the ledger: makes every rule that writes through a ledger a rule over any heap -/
def noObjs (h : Heap) : Heap := { h with objs := #[] }
theorem noObjs_get (h : Heap) (b : Addr) : (noObjs h).get? b = none := by
  cases e : (noObjs h).get? b with
  | none => rfl
  | some o => exact absurd (Heap.lt_size e) (Nat.not_lt_zero _)
def ledger (h : Heap) (L d : Addr) : List (Addr × Obj) := (List.range h.objs.size).filterMap fun a => if a = L ∨ a = d then none else (h.get? a).map fun o => (a, o)
theorem mem_ledger {h : Heap} {L d a : Addr} {o : Obj} : (a, o) ∈ ledger h L d ↔ a ≠ L ∧ a ≠ d ∧ h.get? a = some o := by
  unfold ledger
  rw [List.mem_filterMap]
  constructor
  · rintro ⟨b, _, e⟩
    split at e
    · cases e
    · rename_i hb
      obtain ⟨o', ho, e'⟩ := Option.map_eq_some_iff.mp e
      cases e'
      exact ⟨fun q => hb (.inl q), fun q => hb (.inr q), ho⟩
  · rintro ⟨n1, n2, ho⟩
    refine ⟨a, List.mem_range.mpr (Heap.lt_size ho), ?_⟩
    rw [if_neg (show ¬ (a = L ∨ a = d) from fun q => q.elim n1 n2), ho] <;> rfl
theorem news_ledger {h : Heap} {L d : Addr} {od : Obj} (hne : d ≠ L) (ho : h.get? d = some od) : News (noObjs h) L h ([] ++ (d, od) :: ledger h L d) := by
  rintro ⟨a, o⟩ hp
  rcases List.mem_cons.mp hp with e | hp
  · cases e
    exact ⟨ho, hne, noObjs_get _ _⟩
  · obtain ⟨n1, n2, e⟩ := mem_ledger.mp hp
    exact ⟨e, n1, noObjs_get _ _⟩
theorem fr_all {h : Heap} {L : Addr} {m : Str → Option Value} (n : h.Ns L m) : Fr (noObjs h) L h m :=
  ⟨n, fun b o e => (by rw [noObjs_get] at e; cases e), Nat.zero_le _⟩
/-- Upd of the head entry (for append_K, setItem_K ..) -/
theorem upd_ledger {h : Heap} {L d : Addr} {o o' : Obj} : Upd d o o' ((d, o) :: ledger h L d) ((d, o') :: ledger h L d) :=
  .head fun ⟨_, _⟩ hp => (mem_ledger.mp hp).2.1

/-- x.name = v over any heap: L is any namespace of the heap (the frame's, say): its map stays, its object is not told; all else but the dict stays -/
theorem set_field {x C dx L : Addr} {ox : Obj} {m : Str → Option Value} {es es' : List DictEntry} {n n' : Nat} {name : Str} {v : Value} {Q : Unit → Shared → Prop}
    (X : K.In s.heap) (I : PySem.W.InstAt s.heap x ox C (some (dictOf es n))) (hd : ox.dict = some dx) (hL : s.heap.Ns L m) (hne : dx ≠ L)
    (hs : findIn K (.ref C) "__setattr__" = some (some (.builtin "object.__setattr__"))) (hp : plainOver K C = true) (ht : takerIn K C name = some none) (hh : hasDictIn K C = true) (hl : (getL name es).isSome = true)
    (e : (putL name (PyData.keyHash w.params name) (.str name (s.toks + 1)) v es, putN name es n) = (es', n')) (hz : es'.length ≤ 1000)
    (h : ∀ h' : Heap, h'.Ns L m → h'.get? dx = some (dictOf es' n') → (∀ b o, b ≠ dx → b ≠ L → s.heap.get? b = some o → h'.get? b = some o) → Q () { s with heap := h', toks := s.toks + 2 }) :
    wpAny (model prog w) A (setAttr (.ref x) name v) Q E s := by
  obtain ⟨e1, e2⟩ := Prod.mk.inj e
  have hdx : s.heap.get? dx = some (dictOf es n) := by
    have := I.dict
    rw [hd] at this
    exact this
  refine set_plain X I hs (osa_dict (s := { s with toks := s.toks + 1 }) (h₀ := noObjs s.heap) (L := L) (m := m) (od := dictOf es n) (od' := dictOf es' n') (es := es') (n := n') (pre := []) (post := ledger s.heap L dx)
    (fr_all hL) (news_ledger hne hdx) X I hd hp ht hh hl (fun _ q => nomatch q) (fun ⟨_, _⟩ q => (mem_ledger.mp q).2.1) (by rw [putName_dict, e1, e2]) rfl hz fun h' F' N' => ?_)
  exact h h' F'.ns (N'.get (List.Mem.head _)) fun b o n1 n2 ho => N'.get (List.Mem.tail _ (mem_ledger.mpr ⟨n2, n1, ho⟩))
end
end Att

namespace L2
open PySem PySem.Spec PyProof.Rows

theorem vals_ints : ∀ {vs : List Value} {ns : List Int}, IntsAre vs ns → Vals (ns.map V.int) vs
  | _, _, .nil => .nil
  | _, _, .cons n t h => .cons ⟨t, rfl⟩ (vals_ints h)

/-- nothing is tracked but the script, known to the object (or it is an object of the module) -/
def Only (H : Hp) : Prop := ∀ b, H b = none ∨ ∃ o xs, H b = some (.frz o (.lst xs))

/-- THE HEAD: the law's promise, at the heap behind the top. F, the promise of the law's def, may use that base is part of the heap (so K.In base, base.Ns mainGlobals mg stand in Mod) -/
theorem law_call {P : Program} {w : World} {K : PySem.W.Frag} {mg mb : Str → Option Value} {CX : CXT} {k : Nat} {fa a : Addr} {fd : FuncData} {x : Str} {sp : Sp} {s₁ : Shared} {vs : List Value} {ns : List Int}
    (KX : K.In s₁.heap) (hns : s₁.heap.Ns mainGlobals mg) (hb : s₁.heap.Ns builtinsNs mb) (hbb : ∀ x : Str, x ≠ "__name__" → mb x = bootBuiltins x) (hlim : s₁.heap.NoLimit) (hg : s₁.gens = #[])
    (ha : s₁.heap.get? a = some { cls := .type "list", data := .seq vs.toArray }) (hi : IntsAre vs ns) (hl : ns.length ≤ sizeLine) (hr : Room k callerA)
    (F : ∀ base : Heap, K.In base → base.Ns mainGlobals mg → FnOk P w K mg base CX k fa fd [x] sp) (hbind : ∀ (s : Shared) (u : Value), BindsTo s fd ⟨[u], []⟩ [(x, u)])
    (hsp : ∀ H : Hp, Only H → SqL K H a (ns.map V.int) → sp [.ref a] H (fun v _ => v = .bl true) fun _ _ _ => False)
    (hCX : ∀ H e s', CX [] H s₁ (fun _ _ _ => False) e s' → False) :
    codeAny (model P w) callerA (.call (.ref fa) ⟨[.ref a], []⟩) (fun r s' => r = .ok (.ret (.bool true)) ∧ OldK s₁.heap s'.heap ∧ s'.os = s₁.os ∧ AllBare s'.gens) s₁ := by
  have rv := vals_ints hi
  have lenV := hi.length
  -- from an abstract heap in which nothing but the script may be tracked
  have core : ∀ H : Hp, Only H → SqL K H a (ns.map V.int) → HOk P w H s₁.heap → (∀ b, H b ≠ none → b = a) → (H a ≠ none → K.lookup a = none) →
      codeAny (model P w) callerA (.call (.ref fa) ⟨[.ref a], []⟩) (fun r s' => r = .ok (.ret (.bool true)) ∧ OldK s₁.heap s'.heap ∧ s'.os = s₁.os ∧ AllBare s'.gens) s₁ := by
    intro H hO hS hok hA hK
    have base_of : ∀ {b : Addr} {o : Obj}, s₁.heap.get? b = some o → H b = none → (hidT s₁.heap H).get? b = some o := fun e n => hidT_get e n
    have noA : ∀ {b : Addr} {o : Obj} {es : Array DictEntry} {ep : Nat}, s₁.heap.get? b = some o → o.data = .dict es ep → H b = none := fun {b o es ep} e d => by
      cases q : H b with
      | none => rfl
      | some u =>
        have e' : b = a := hA b (by rw [q]; simp)
        subst e'
        rw [ha] at e; cases e
        have d' : Data.seq vs.toArray _ = Data.dict es ep := d
        cases d'
    have nsK : ∀ {b : Addr} {m : Str → Option Value}, s₁.heap.Ns b m → (hidT s₁.heap H).Ns b m := fun {b m} ⟨o, es, ep, e, d, r⟩ => ⟨o, es, ep, base_of e (noA e d), d, r⟩
    have hKb : K.In (hidT s₁.heap H) := fun b o e => base_of (KX b o e) (by
      cases q : H b with
      | none => rfl
      | some u =>
        have e' : b = a := hA b (by rw [q]; simp)
        subst e'
        rw [hK (by rw [q]; simp)] at e; cases e)
    have hM : Mod K mg (hidT s₁.heap H) := ⟨hKb, nsK hns, ⟨mb, nsK hb, hbb⟩, let ⟨mc, h1, h2⟩ := hlim; ⟨mc, nsK h1, h2⟩⟩
    have e0 : Env0 P w K mg (hidT s₁.heap H) callerA [] s₁ H := ⟨rfl, hM, fun b o e => of_hidT e, Nat.le_of_eq (hidT_size _ _), trivial, fun b hb => absurd (show b ∈ ([] : List Addr) from hb) (by simp), hok, .of_eq hg⟩
    refine codeAny_mono ((F _ hKb (nsK hns)).run callerA [] s₁ H ⟨[.ref a], []⟩ [.ref a] [.ref a] _ _ hr e0 (hbind s₁ (.ref a)) (.cons rfl .nil) (hsp H hO hS)) fun r s' h => ?_
    cases r with
    | error e => exact (hCX H e s' h).elim
    | ok fl =>
      cases fl with
      | next => exact False.elim h
      | brk => exact False.elim h
      | cont => exact False.elim h
      | ret u =>
        obtain ⟨v, H', os, bare, un, hok', r', q⟩ := h
        have q' : v = .bl true := q
        subst q'
        obtain rfl : u = Value.bool true := r'
        refine ⟨rfl, OldK.of_keep fun b o e => ?_, os, bare⟩
        cases q : H b with
        | none => exact un.keep b o e q (by intro z; exact absurd (show b ∈ ([] : List Addr) from z) (by simp)) (by simp)
        | some u =>
          rcases hO b with z | ⟨ob, xs, z⟩
          · rw [q] at z; cases z
          · have z2 := un.frzs b ob _ z
            obtain ⟨e1, _⟩ := hok b _ z
            obtain ⟨e2, _⟩ := hok' b _ z2
            rw [e] at e1; cases e1
            exact e2
  cases hk : K.lookup a with
  | some o =>
    -- the script is one of the module's own objects
    have e := KX a o hk
    rw [ha] at e
    cases e
    refine core (fun _ => none) (fun _ => .inl rfl) (.inr ⟨_, vs.toArray, _, hk, rfl, rfl, rfl, by rw [List.size_toArray, lenV]; exact hl, by simpa using rv⟩) (fun b u z => by have z' : (none : Option HO) = some u := z; cases z') (fun b z => absurd rfl z) fun z => absurd rfl z
  | none =>
    refine core (fun b => if b = a then some (.frz { cls := .type "list", data := .seq vs.toArray } (.lst (ns.map V.int))) else none) (fun b => ?_) (.inl (.inr ⟨{ cls := .type "list", data := .seq vs.toArray }, if_pos rfl⟩)) (fun b u z => ?_) (fun b z => ?_) fun _ => hk
    · by_cases hb : b = a
      · exact .inr ⟨_, _, if_pos hb⟩
      · exact .inl (if_neg hb)
    · by_cases hb : b = a
      · have z' := (if_pos hb).symm.trans z
        cases z'
        subst hb
        exact ⟨ha, by rw [List.length_map]; exact hl, vs, _, rv, ha⟩
      · have z' := (if_neg hb).symm.trans z
        cases z'
    · by_cases hb : b = a
      · exact hb
      · exact absurd (if_neg hb) z
end L2

namespace L2
open PySem PySem.Spec PyProof.Rows

abbrev KOf {K : PySem.W.Frag} {h : Heap} (_ : K.In h) : PySem.W.Frag := K

/-- the goal that k_head leaves (case hc), from the law's promise. F gives the function object fd (K's own) once, then the promise over every base -/
theorem walk_of {l : PySem.W.OpenLaw} {n k : Nat} {q : Program} {loose : List Str} {XP : (Str → Option Value) → Heap → Prop} {YP : World → Heap → Prop} {d : DefRec} {K : Params → PySem.W.Frag} {CX : World → CXT} {sp : World → Sp} {x : Str}
    (hn : l.most = some n) (hn2 : n ≤ sizeLine) (hdf : d.params.defaults = []) (hr : Room k callerA)
    (hY : ∀ (w : World) (h : Heap), YP w h → (K w.params).In h)
    (F : ∀ (w : World) (mg : Str → Option Value) (fa : Addr) (h : Heap), (K w.params).In h → h.Ns mainGlobals mg → mg d.name = some (.ref fa) →
      ∃ fd : FuncData, (∀ (s : Shared) (u : Value), BindsTo s fd ⟨[u], []⟩ [(x, u)]) ∧
        ∀ base : Heap, (K w.params).In base → base.Ns mainGlobals mg → FnOk l.prog w (K w.params) mg base (CX w) k fa fd [x] (sp w))
    (hsp : ∀ (w : World) (H : Hp) (a : Addr) (ns : List Int), ns.length ≤ n → Only H → SqL (K w.params) H a (ns.map V.int) → sp w [.ref a] H (fun v _ => v = .bl true) fun _ _ _ => False)
    (hCX : ∀ (w : World) (H : Hp) (s : Shared) (e : Value) (s' : Shared), CX w [] H s (fun _ _ _ => False) e s' → False) :
    PySem.W.WalkO q loose XP YP l.row.toRowW d [] (fun f vs => PySem.call f vs) := by
  refine Att.attach_call hn hdf fun w s₀ s₁ mg mb fa o pm cd doc a vs ns G Y ho hd hcd hmg hobj hints hlen hg => ?_
  have KX := hY w _ Y
  obtain ⟨fd, hb, hF⟩ := F w mg fa _ KX G.T.g hmg
  exact law_call KX G.T.g G.T.b G.T.builtins G.T.nolimit hg hobj hints (Nat.le_trans hlen hn2) hr hF hb (fun H hO hS => hsp w H a ns hlen hO hS) fun H e s' => hCX w H s₁ e s'
/-- the same where the promise hangs on the written part alone: (sp := My.sp_law), no hole under a binder -/
theorem walk_ofK {l : PySem.W.OpenLaw} {n k : Nat} {q : Program} {loose : List Str} {XP : (Str → Option Value) → Heap → Prop} {YP : World → Heap → Prop} {d : DefRec} {K : Params → PySem.W.Frag} {CX : CXT} {sp : PySem.W.Frag → Sp} {x : Str}
    (hn : l.most = some n) (hn2 : n ≤ sizeLine) (hdf : d.params.defaults = []) (hr : Room k callerA)
    (hY : ∀ (w : World) (h : Heap), YP w h → (K w.params).In h)
    (F : ∀ (w : World) (mg : Str → Option Value) (fa : Addr) (h : Heap), (K w.params).In h → h.Ns mainGlobals mg → mg d.name = some (.ref fa) →
      ∃ fd : FuncData, (∀ (s : Shared) (u : Value), BindsTo s fd ⟨[u], []⟩ [(x, u)]) ∧
        ∀ base : Heap, (K w.params).In base → base.Ns mainGlobals mg → FnOk l.prog w (K w.params) mg base CX k fa fd [x] (sp (K w.params)))
    (hsp : ∀ (K : PySem.W.Frag) (H : Hp) (a : Addr) (ns : List Int), ns.length ≤ n → Only H → SqL K H a (ns.map V.int) → sp K [.ref a] H (fun v _ => v = .bl true) fun _ _ _ => False)
    (hCX : ∀ (H : Hp) (s : Shared) (e : Value) (s' : Shared), CX [] H s (fun _ _ _ => False) e s' → False) :
    PySem.W.WalkO q loose XP YP l.row.toRowW d [] (fun f vs => PySem.call f vs) :=
  walk_of (K := K) (CX := fun _ => CX) (sp := fun w => sp (K w.params)) hn hn2 hdf hr hY F (fun w H a ns h1 h2 h3 => hsp (K w.params) H a ns h1 h2 h3) fun _ H s e s' => hCX H s e s'
end L2

/- THE LAST THEOREM (shape; LID, My.* are yours):
   My.Adr: a structure of the addresses that your layer names (classes, functions); My.Txt K t: a structure (Prop) of the equations over K;
   My.txt_mk : {K} {implicit addresses ..} (e1 : nsIn K mainGlobals "law" = some (some (.ref f))) (e2 : K.lookup f = some ⟨oc, od, .func (fnOf "law" "law" params body scope dV kV doc pm an cdv ct), sl⟩) (e3 : codeIn K cdv "law" = true) .. : ∃ t, My.Txt K t

set_option maxRecDepth 100000 in
set_option maxHeartbeats 0 in
theorem PySem.Challenge.cw_LID_holds : PySem.Challenge.rw_LID.Holds := by
  w_on; o_law; k_head; (case hw => w_witness2)
  k_fill
  refine L2.walk_of (l := PySem.Challenge.rw_LID) (n := 63) (k := 40) (x := "script") (CX := fun w => ..) (sp := fun _ => My.sp_law) rfl (by decide) rfl ⟨rfl, by decide, by decide⟩ (fun w h Y => PySem.W.kIn_of Y) ?F ?S ?C
  case F =>
    intro w mg fa h KX G hmg
    have T : ∃ t, My.Txt (L2.KOf KX) t := by
      dsimp only [L2.KOf]                          -- K must stand as «<heap const> w.params» for k_is
      refine' My.txt_mk ?e1 ?e2 ?e3 ..
      (case e1 => PySem.W.k_is)                    -- in the order: a name -> its address -> its object -> its parts
      (case e2 => PySem.W.k_is)
      ..
    obtain ⟨t, T⟩ := T
    have e0 := hmg.symm.trans (PySem.W.mg_of KX G T.law)
    cases e0                                       -- fa is the law's own address
    exact ⟨_, fun s u => .of_eq rfl, fun base kb nb => My.law_fn T kb nb⟩     -- if «.of_eq rfl» comes too early: refine' ⟨_, ?b, fun base kb nb => My.law_fn T kb nb⟩; exact fun s u => .of_eq rfl
  case S => exact fun w H a ns hl hO hS => ..
  case C => exact ..
(the tactic k_is has no namespace: write k_is) -/

/-! SHORT WORDS over the layer: a def of the text, its body, what a loop and a test want. -/
namespace L2
open PySem PySem.Spec PyProof.Rows

/-! ### the text by places -/
/-- the j-th statement of a class's body -/
def inClass (s : Stmt) (j : Nat) : Stmt := match s with
  | .ClassDef _ _ _ body _ _ _ _ _ _ _ => body.getD j (.Pass ⟨0, 0, 0, 0⟩)
  | _ => .Pass ⟨0, 0, 0, 0⟩
def defArgs (s : Stmt) : Arguments := match s with
  | .FunctionDef _ a _ _ _ _ _ _ _ _ => a
  | _ => { posonlyargs := [], args := [], vararg := none, kwonlyargs := [], kw_defaults := [], kwarg := none, defaults := [] }
def defBody (s : Stmt) : List Stmt := match s with
  | .FunctionDef _ _ b _ _ _ _ _ _ _ => b
  | _ => []
def defScope (s : Stmt) : Scope := match s with
  | .FunctionDef _ _ _ _ _ _ sc _ _ _ => sc
  | _ => { kind := .function, names := [], isGenerator := false, isCoroutine := false }

/-! ### no exception leaves a def -/
abbrev CX0 : CXT := fun _ _ _ _ _ _ => False
abbrev E0 : XK := fun _ _ _ => False
theorem pass0 {X : Cx} : Passes CX0 X E0 := fun _ _ _ _ _ _ _ h => h.elim

/-! ### a def (or method) of the text as it stands behind the top -/
structure Fun (K : PySem.W.Frag) (x qual : Str) (st : Stmt) (f : Addr) (fd : FuncData) : Prop where
  ex : ∃ (oc : Value) (od : Option Addr) (kV doc pm : Value) (an : Option Addr) (cdv ct : Value) (osl : Array (Option Value)),
    fd = PySem.W.fnOf x qual (defArgs st) (defBody st) (defScope st) .none kV doc pm an cdv ct ∧ K.lookup f = some ⟨oc, od, .func fd, osl⟩ ∧ PySem.W.codeIn K cdv qual = true
  kp : PySem.W.keepIn K (.ref f) = true
section
variable {P : Program} {w : World} {K : PySem.W.Frag} {mg : Str → Option Value} {base : Heap}
/-- THE RULE for a def: its body as a term of rules, and the reading of that term -/
theorem Fun.ok {x qual : Str} {st : Stmt} {f : Addr} {fd : FuncData} {N ps : List Str} {k : Nat} {sp : Sp} (F : Fun K x qual st f fd) (S : FnScope N ps (defScope st)) (len : ∀ vs H Q E, sp vs H Q E → vs.length = ps.length)
    (hbody : ∀ (cdv : Value) (A : Around) (outer : List Env) (s : Shared) (H : Hp) (vs : List V) (Q : VK) (E : XK), Room k (A.deeper (envOfC qual (defScope st) s.heap.objs.size f cdv)) → sp vs H Q E →
      ∃ t, PSs (cxOf CX0 P w K mg base N qual (defScope st) f cdv A outer s H E).nox (defBody st) t ∧ t { nx := fun _ H' => Q .non H', rt := Q } (start N vs) H) : FnOk P w K mg base CX0 (k + 1) f fd ps sp := by
  obtain ⟨oc, od, kV, doc, pm, an, cdv, ct, osl, rfl, lk, hcd⟩ := F.ex
  refine fn_of lk hcd S len fun A outer s H vs Q E hr hsp => ?_
  obtain ⟨t, h, q⟩ := hbody cdv A outer s H vs Q E hr hsp
  exact ⟨t, h.nox, q⟩
/-- how its arguments bind (no defaults): h is «fun _ _ _ _ _ _ us hl => match us, hl with | [_, _], _ => rfl», one _ a parameter -/
theorem Fun.binds {x qual : Str} {st : Stmt} {f : Addr} {fd : FuncData} {ps : List Str} (F : Fun K x qual st f fd)
    (h : ∀ (kV doc pm : Value) (an : Option Addr) (cdv ct : Value) (us : List Value), us.length = ps.length → bindArgs (PySem.W.fnOf x qual (defArgs st) (defBody st) (defScope st) .none kV doc pm an cdv ct) ⟨us, []⟩ = pure (ps.zip us)) : Binds K fd ps [] := by
  obtain ⟨oc, od, kV, doc, pm, an, cdv, ct, osl, rfl, lk, hcd⟩ := F.ex
  exact .all (h kV doc pm an cdv ct)
theorem fun_mk {x qual : Str} {st : Stmt} {f : Addr} {oc : Value} {od an : Option Addr} {osl : Array (Option Value)} {kV doc pm cdv ct : Value} (l : K.lookup f = some ⟨oc, od, .func (PySem.W.fnOf x qual (defArgs st) (defBody st) (defScope st) .none kV doc pm an cdv ct), osl⟩)
    (c : PySem.W.codeIn K cdv qual = true) (k : PySem.W.keepIn K (.ref f) = true) : Fun K x qual st f (PySem.W.fnOf x qual (defArgs st) (defBody st) (defScope st) .none kV doc pm an cdv ct) := ⟨⟨oc, od, kV, doc, pm, an, cdv, ct, osl, rfl, l, c⟩, k⟩
end
theorem hu_of {A : Around} {k : Nat} (hr : Room k A) : A.units + 1 < cLine := Nat.lt_of_le_of_lt (Nat.add_le_add_left (by decide : 1 ≤ 64) _) hr.units
theorem small1000 {n : Nat} (h : n ≤ 1000) : n < sizeLine := Nat.lt_of_le_of_lt h (by decide)

/-! ### expressions in short: the name that stands in the i-th slot -/
section
variable {X : Cx}
theorem pv (i : Nat) {x : Str} {pos : Pos} (hN : X.N[i]? = some x := by rfl) (hv : Vis X.env.scope x := by first | exact Or.inl rfl | exact Or.inr (Or.inl rfl) | exact Or.inr (Or.inr rfl)) (hd : (x == ("__debug__" : Str)) = false := by decide)
    (hcd : (x == ("__classdict__" : Str)) = false := by decide) : PE X (.Name x pos) (tVar i) := pe_var hN hv hd hcd
end

/-! ### tests -/
theorem iteF {A B : Prop} (h : B) : if false = true then A else B := by
  rw [if_neg Bool.false_ne_true]
  exact h
theorem iteT {A B : Prop} (h : A) : if true = true then A else B := by
  rw [if_pos rfl]
  exact h
theorem ite2 {c A B : Prop} [Decidable c] (h1 : c → A) (h2 : ¬ c → B) : if c then A else B := by
  by_cases h : c
  · rw [if_pos h]
    exact h1 h
  · rw [if_neg h]
    exact h2 h
theorem iteNS {c A B : Prop} [Decidable c] (hc : c) (h : B) : if (!decide c) = true then A else B := by
  rw [decide_eq_true hc]
  exact iteF h

/-! ### heaps -/
/-- all that was tracked is as it was -/
def Same (H H' : Hp) : Prop := ∀ b o, H b = some o → H' b = some o
theorem Same.refl (H : Hp) : Same H H := fun _ _ h => h
theorem Same.trans {H H1 H2 : Hp} (a : Same H H1) (b : Same H1 H2) : Same H H2 := fun c o h => b c o (a c o h)
theorem Same.free {H H' : Hp} (e : Same H H') {l : Addr} (h : H' l = Option.none) : H l = Option.none := by
  cases q : H l with
  | none => rfl
  | some o =>
    rw [e l o q] at h
    cases h
theorem Same.seq {K : PySem.W.Frag} {H H' : Hp} {a : Addr} {xs : List V} (e : Same H H') (h : SqL K H a xs) : SqL K H' a xs := by
  rcases h with (h | ⟨o, h⟩) | h
  · exact .inl (.inl (e _ _ h))
  · exact .inl (.inr ⟨o, e _ _ h⟩)
  · exact .inr h

end L2

set_option Elab.async false
set_option linter.all false
set_option maxRecDepth 100000
namespace L2
open PySem PySem.Spec PyProof.Rows

/-! ### comprehensions: [elt for tg in iter if test] -/
def compCx (X : Cx) (N' : List Str) (scope : Scope) (cl : List (Str × Addr)) (s₂ : Shared) (H₂ : Hp) (fp : List Addr) (C : Addr) : Cx :=
  { X with N := N', s₀ := s₂, H₀ := H₂, env := compEnvC scope cl C X.env, outer := X.stack, ex := fp, fn := fun _ => false, pn := [], xe := fun _ _ => False }

def lobj (ys : List Value) (k : Nat) : Obj := { cls := .type "list", data := .seq ys.toArray k }

section
variable {prog : Program} {w : World} {A : Around} {R : Result → Shared → Prop} {s : Shared}
theorem codeAny_compLoop_own {elt target iter : Expr} {ifs : List Expr} {scope : Scope} {pos : Pos} {it acc : Value} {env : Env} (I : Nat → Shared → Prop)
    (turn : ∀ n s, I n s → wpAny (model prog w) A (pyNext it) (fun r s₁ => match r with
      | none => R (.ok .next) s₁
      | some v => wpAny (model prog w) A (letOwnedTupleGo target it v) (fun _ s₁' => wpAny (model prog w) A (assign target env v) (fun _ s₂ =>
          wpAny (model prog w) A (forIn ifs true fun c r => if r = true then do let ok ← isTrue c env (eval c env); pure (ForInStep.yield ok) else pure (ForInStep.yield r)) (fun ok s₃ =>
            if ok = true then wpAny (model prog w) A (eval elt env) (fun x s₄ =>
              wpAny (model prog w) A (call (.builtin "list.append") [acc, x]) (fun _ s₅ => ∃ m, m < n ∧ I m s₅) (fun _ _ => False) s₄) (fun _ _ => False) s₃
            else ∃ m, m < n ∧ I m s₃) (fun _ _ => False) s₂) (fun _ _ => False) s₁') (fun _ _ => False) s₁) (fun _ _ => False) s)
    (n : Nat) (h : I n s) :
    codeAny (model prog w) A (.compLoop (.ListComp elt [⟨target, iter, ifs, 0⟩] scope pos) 0 it acc env) R s := by
  refine codeAny_loop rfl I (fun n s hI => ?_) n h
  show wpAny _ A ((compTurn (.ListComp elt [⟨target, iter, ifs, 0⟩] scope pos) 0 it acc env).onRaise (fun x => do noteFrame x env; theTreesLotGoes x)) _ _ s
  refine wpAny_noted ?_
  rw [compTurn_list]
  refine wpAny_bind (wpAny_standAt (wpAny_bind (wpAny_mono (turn n s hI) (fun r s₁ h₁ => ?_) fun _ _ h' => h'.elim)))
  cases r with
  | none => exact wpAny_pure h₁
  | some v =>
    refine wpAny_bind (wpAny_mono h₁ (fun _ s₁' h₁' => ?_) fun _ _ h' => h'.elim)
    refine wpAny_bind (wpAny_mono h₁' (fun _ s₂ h₂ => wpAny_bind (wpAny_mono h₂ (fun ok s₃ h₃ => ?_) fun _ _ h' => h'.elim)) fun _ _ h' => h'.elim)
    cases ok with
    | false => exact wpAny_pure ⟨rfl, h₃⟩
    | true =>
      exact wpAny_bind (wpAny_bind (wpAny_mono h₃ (fun x s₄ h₄ => wpAny_bind (wpAny_mono h₄ (fun _ s₅ h₅ => wpAny_pure (wpAny_pure ⟨rfl, h₅⟩)) fun _ _ h' => h'.elim)) fun _ _ h' => h'.elim))
end

/-- the tests of a comprehension -/
def PTs (X : Cx) (ifs : List Expr) (t : TT) : Prop :=
  ∀ (pins : List (Addr × Obj)) (s : Shared) (σ : St) (H : Hp) (Q : Bool → Hp → Prop), Inv X pins σ H s → t σ H Q →
    wpAny (model X.prog X.w) X.A (forIn ifs true fun c r => if r = true then do let ok ← isTrue c X.env (eval c X.env); pure (ForInStep.yield ok) else pure (ForInStep.yield r)) (TP X pins σ Q) X.xe s
theorem pts_nil {X : Cx} : PTs X [] (fun _ H Q => Q true H) := fun _ _ _ H _ I h => wpAny_tests_nil ⟨H, I, h⟩
theorem pts_one {X : Cx} {c : Expr} {t : TT} (h : PT X c t) : PTs X [c] t := fun pins s σ H Q I q => wpAny_tests_one (h pins s σ H Q I q)

theorem lookup_relabel {env : Env} : ∀ {names : List (Str × NameKind)} {x : Str},
    (names.map fun (n, k) => if (k == NameKind.free && env.scope.kind == .function && env.kindOf n == some .cell) then (n, NameKind.cell) else (n, k)).lookup x
      = (names.lookup x).map fun k => if (k == NameKind.free && env.scope.kind == .function && env.kindOf x == some .cell) then NameKind.cell else k
  | [], _ => rfl
  | (n, k) :: r, x => by
    have ih := @lookup_relabel env r x
    show List.lookup x ((if (k == NameKind.free && env.scope.kind == .function && env.kindOf n == some .cell) = true then (n, NameKind.cell) else (n, k)) :: _) = _
    cases hx : x == n with
    | true =>
      have e : x = n := by simpa using hx
      subst e
      by_cases hc : (k == NameKind.free && env.scope.kind == .function && env.kindOf x == some .cell) = true
      · rw [if_pos hc]; simp only [List.lookup_cons, hx, Option.map_some, if_pos hc]
      · rw [if_neg hc]; simp only [List.lookup_cons, hx, Option.map_some, if_neg hc]
    | false =>
      by_cases hc : (k == NameKind.free && env.scope.kind == .function && env.kindOf n == some .cell) = true
      · rw [if_pos hc]; simp only [List.lookup_cons, hx]; exact ih
      · rw [if_neg hc]; simp only [List.lookup_cons, hx]; exact ih

/-- the cells that the block takes with it -/
theorem closure_of {env : Env} : ∀ (names : List (Str × NameKind)) (acc : List (Str × Addr)), (∀ x ∈ names, x.2 = .free → ∃ c, env.cells.lookup x.1 = some c) →
    (∀ x c, acc.lookup x = some c → env.cells.lookup x = some c) →
    ∃ cl, (forIn names acc fun (x : Str × NameKind) (cs : List (Str × Addr)) => (if (x.2 == NameKind.free) = true then (do let c ← cellOf env x.1; pure (ForInStep.yield ((x.1, c) :: cs))) else pure (ForInStep.yield cs) : Sem (ForInStep (List (Str × Addr))))) = pure cl ∧
      (∀ x c, cl.lookup x = some c → env.cells.lookup x = some c) ∧ (∀ x, (acc.lookup x).isSome → (cl.lookup x).isSome) ∧ ∀ x ∈ names, x.2 = .free → (cl.lookup x.1).isSome
  | [], acc, _, ha => ⟨acc, rfl, ha, fun _ h => h, fun _ h => nomatch h⟩
  | (n, k) :: r, acc, hn, ha => by
    cases hk : (k == NameKind.free) with
    | true =>
      obtain ⟨c, hc⟩ := hn (n, k) List.mem_cons_self (by simpa using hk)
      have ha' : ∀ x d, ((n, c) :: acc).lookup x = some d → env.cells.lookup x = some d := fun x d e => by
        rw [List.lookup_cons] at e
        cases q : x == n with
        | true => rw [q] at e; have : x = n := by simpa using q
                  subst this; exact hc.trans e
        | false => rw [q] at e; exact ha x d e
      obtain ⟨cl, e, h1, h2, h3⟩ := closure_of r ((n, c) :: acc) (fun x hx => hn x (List.mem_cons_of_mem _ hx)) ha'
      have grow : ∀ x, (acc.lookup x).isSome → (((n, c) :: acc).lookup x).isSome := fun x hx => by
        rw [List.lookup_cons]
        cases q : x == n with
        | true => rfl
        | false => exact hx
      refine ⟨cl, ?_, h1, fun x hx => h2 x (grow x hx), fun x hx hf => ?_⟩
      · rw [List.forIn_cons]
        have q : cellOf env n = pure c := by
          unfold cellOf
          rw [hc]
        simp only [hk, if_true, q]
        exact e
      · rcases List.mem_cons.mp hx with rfl | hx
        · exact h2 _ (by simp [List.lookup_cons])
        · exact h3 x hx hf
    | false =>
      obtain ⟨cl, e, h1, h2, h3⟩ := closure_of r acc (fun x hx => hn x (List.mem_cons_of_mem _ hx)) ha
      refine ⟨cl, ?_, h1, h2, fun x hx hf => ?_⟩
      · rw [List.forIn_cons]
        simp only [hk, Bool.false_eq_true, if_false]
        exact e
      · rcases List.mem_cons.mp hx with rfl | hx
        · exfalso; have : k = .free := hf; subst this; simp at hk
        · exact h3 x hx hf
theorem closure_ex {env : Env} {scope : Scope} (h : ∀ x ∈ scope.names, x.2 = .free → ∃ c, env.cells.lookup x.1 = some c) :
    ∃ cl, closureFor scope env = pure cl ∧ (∀ x c, cl.lookup x = some c → env.cells.lookup x = some c) ∧ ∀ x ∈ scope.names, x.2 = .free → (cl.lookup x.1).isSome := by
  obtain ⟨cl, e, h1, _, h3⟩ := closure_of (env := env) scope.names [] h (fun x c e => by simp at e)
  refine ⟨cl, ?_, h1, h3⟩
  unfold closureFor
  have q : (forIn scope.names [] fun (x : Str × NameKind) (cs : List (Str × Addr)) => (match x with | (name, kind) => if (kind == NameKind.free) = true then (do let c ← cellOf env name; pure (ForInStep.yield ((name, c) :: cs))) else pure (ForInStep.yield cs) : Sem (ForInStep (List (Str × Addr))))) = pure cl := e
  first
    | (simp only [] ; rw [q]; rfl)
    | (show (do let cs ← _; pure cs) = _; rw [q]; rfl)
    | (rw [show (forIn scope.names [] _) = pure cl from q]; rfl)

/-- what is asked of a comprehension's scope; N': the names in the block, those of the def first -/
structure CompOk (X : Cx) (N' : List Str) (k : Nat) (scope : Scope) : Prop where
  kind : scope.kind = .function
  len : N'.length = X.N.length + k
  nocell : ∀ y ∈ scope.names, y.2 ≠ .cell
  names : ∀ y ∈ scope.names, y.2 = .local → scope.names.lookup y.1 = some .local
  outer : ∀ (i : Nat) x, i < X.N.length → N'[i]? = some x → (scope.names.lookup x).isSome → (scope.names.lookup x = some .free ∨ scope.names.lookup x = some .local ∨ scope.names.lookup x = some .cell) → X.N[i]? = some x ∧ scope.names.lookup x = some .free
  free : ∀ y ∈ scope.names, y.2 = .free → X.env.kindOf y.1 = some .cell ∨ X.env.kindOf y.1 = some .free
end L2

set_option Elab.async false
set_option linter.all false
set_option maxRecDepth 100000
namespace L2
open PySem PySem.Spec PyProof.Rows

/-- the reading of a comprehension: W by the turn, a measure, the list so far -/
def tComp (wi : TI) (k : Nat) (g : TG) (tc : TT) (te : TE) : TE := fun σ H Q => wi σ H fun J H1 => ∃ W : Nat → Nat → List V → St → Hp → Prop, (∃ m, W 0 m [] (σ ++ List.replicate k none) H1) ∧
  ∀ i m vs σ' H', W i m vs σ' H' → vs.length ≤ sizeLine ∧
    ((J.stop i H' ∧ ∀ p, H' p = none → Q (.ref p) (upd H' p (.lst vs))) ∨
     (J.go i H' ∧ ∀ x H2, J.yld i H' x H2 → g x σ' H2 fun σ3 H3 => tc σ3 H3 fun b H4 => if b = true then te σ3 H4 fun y H5 => ∃ m', m' < m ∧ W (i + 1) m' (vs ++ [y]) σ3 H5 else ∃ m', m' < m ∧ W (i + 1) m' vs σ3 H4))

section
variable {X : Cx} {pins : List (Addr × Obj)} {σ : St} {H2 : Hp} {s2 : Shared}
/-- an untracked list becomes tracked -/
theorem HOk.track {P : Program} {w : World} {H : Hp} {h : Heap} {D : Addr} {vs : List V} {ys : List Value} {k : Nat} (x : HOk P w H h) (hn : H D = none) (hl : vs.length ≤ sizeLine) (r : Vals vs ys) (e : h.get? D = some (lobj ys k)) :
    HOk P w (upd H D (.lst vs)) h := fun b u q => by
  by_cases hb : b = D
  · subst hb
    rw [upd_same] at q
    cases q
    exact ⟨hl, ys, k, r, e⟩
  · rw [upd_ne hb] at q
    exact (x b u q).stay (fun _ _ _ z => z) (fun c z => by rw [upd_ne (ne_of_none z hn)]; exact z) fun c xs z => by rw [upd_ne (ne_of_none z hn)]; exact z

theorem comp_core {elt tg iter : Expr} {ifs : List Expr} {scope : Scope} {pos : Pos} {N' : List Str} {k : Nat} {cl : List (Str × Addr)} {J : It} {fp : List Addr} {it : Addr} {tn : Nat → Heap → Prop} {g : TG} {tc : TT} {te : TE} {E : Value → Shared → Prop}
    {RR : Value → Addr → Result → Shared → Prop} {Q : VK}
    (hc : X.calm = true) (S : CompOk X N' k scope) (hcl : ∀ x c, cl.lookup x = some c → X.env.cells.lookup x = some c) (hcf : ∀ x ∈ scope.names, x.2 = .free → (cl.lookup x.1).isSome)
    (I : Inv X pins σ H2 s2) (T : Turn X.prog X.w X.K tg J fp it tn) (st : tn 0 s2.heap) (ff : ∀ b ∈ fp, FpOk X pins H2 b)
    (hg : ∀ C, PG (compCx X N' scope cl s2 H2 fp C) tg g) (ht : ∀ C, PTs (compCx X N' scope cl s2 H2 fp C) ifs tc) (he : ∀ C, PE (compCx X N' scope cl s2 H2 fp C) elt te)
    (rd : ∃ W : Nat → Nat → List V → St → Hp → Prop, (∃ m, W 0 m [] (σ ++ List.replicate k none) H2) ∧
      ∀ i m vs σ' H', W i m vs σ' H' → vs.length ≤ sizeLine ∧
        ((J.stop i H' ∧ ∀ p, H' p = none → Q (.ref p) (upd H' p (.lst vs))) ∨
         (J.go i H' ∧ ∀ x H2, J.yld i H' x H2 → g x σ' H2 fun σ3 H3 => tc σ3 H3 fun b H4 => if b = true then te σ3 H4 fun y H5 => ∃ m', m' < m ∧ W (i + 1) m' (vs ++ [y]) σ3 H5 else ∃ m', m' < m ∧ W (i + 1) m' vs σ3 H4)))
    (hRR : ∀ D C s' H', Inv X pins σ H' s' → (∃ m, s'.heap.Ns C m) → FpOk X pins H' C → Q (.ref D) H' → RR (.ref D) C (.ok .next) s') :
    wpAny (model X.prog X.w) X.A (newList []) (fun acc s₃ => wpAny (model X.prog X.w) X.A (newFunctionEnv scope X.env.globals cl [] X.env.qual none .none (some X.env)) (fun cenv s₄ =>
      codeAny (model X.prog X.w) X.A (.compStart (.ListComp elt [⟨tg, iter, ifs, 0⟩] scope pos) 0 (.ref it) acc { cenv with scope := relabel scope X.env }) (RR acc cenv.locals) s₄) E s₃) E s2 := by
  obtain ⟨W, ⟨m0, w0⟩, turn⟩ := rd
  refine wpAny_newObj_type (wpAny_newFunctionEnv S.nocell (by intro y hy; simp at hy) (fun h₁ hns₁ hsb₁ => ?_) S.kind)
  dsimp only at hns₁ hsb₁ ⊢
  generalize hH2 : s2.heap.push { cls := .type "list", dict := none, data := .seq ([] : List Value).toArray } = G2 at hns₁ hsb₁ ⊢
  have hCs : G2.objs.size = s2.heap.objs.size + 1 := by rw [← hH2, Heap.size_push]
  have hDC : s2.heap.objs.size ≠ G2.objs.size := by rw [hCs]; exact Nat.ne_of_lt (Nat.lt_succ_self _)
  have hCle : s2.heap.objs.size ≤ G2.objs.size := by rw [hCs]; exact Nat.le_succ _
  have below : ∀ b, b < s2.heap.objs.size → b ≠ G2.objs.size ∧ b ≠ s2.heap.objs.size := fun b hb => ⟨by rw [hCs]; exact Nat.ne_of_lt (Nat.lt_succ_of_lt hb), Nat.ne_of_lt hb⟩
  have old : ∀ b o, s2.heap.get? b = some o → h₁.get? b = some o := fun b o e => hsb₁.extBut b o (below b (Heap.lt_size e)).1 (Heap.get?_push_of_some _ (hH2 ▸ Heap.get?_push_of_some _ e))
  have hacc : h₁.get? s2.heap.objs.size = some (lobj [] 0) := hsb₁.extBut _ _ hDC (Heap.get?_push_of_some _ (hH2 ▸ Heap.get?_push_size _ rfl))
  generalize hDe : s2.heap.objs.size = D at *
  generalize hCe : G2.objs.size = C at *
  have fpD : FpOk X pins H2 D := I.fpOk (by rw [hDe]; exact Nat.le_refl _) (I.hok.fresh (by rw [hDe]; exact Nat.le_refl _))
  have fpC : ∀ H', H' C = none → FpOk X pins H' C := fun H' hn => I.fpOk (by rw [hDe]; exact hCle) hn
  have hfpD : ∀ b ∈ fp, b < D := fun b hb => by
    obtain ⟨o, e, _⟩ := T.obj _ _ st b hb
    rw [← hDe]; exact Heap.lt_size e
  have nofr : ∀ b, D ≤ b → b ∉ frs X.stack := fun b hb hm => by
    rcases List.mem_cons.mp (I.stkSub b hm) with e | hm
    · have := I.lt; rw [hDe] at this; rw [e] at hb; exact absurd (Nat.lt_of_lt_of_le this hb) (Nat.lt_irrefl _)
    · exact I.nofs (by rw [hDe]; exact hb) hm
  let X' := compCx X N' scope cl s2 H2 fp C
  have cellLt : ∀ x c, cl.lookup x = some c → c < D := fun x c e => by
    obtain ⟨v, z⟩ := I.cell x c (hcl x c e)
    rw [← hDe]; exact z.lt
  have ok' : X'.Ok := by
    refine ⟨I.ok.mod, S.kind, I.ok.glob, I.ok.blt, ?_, fun x y c e1 e2 => I.ok.inj x y c (hcl _ _ e1) (hcl _ _ e2), fun x hx => ?_, fun x c hf _ => (nomatch hf), I.ok.hd, I.ok.frames, .inl rfl, fun b hb => ⟨?_, fun x c e z => ?_⟩, I.bs, ?_, fun b o e hb => ?_, fun b hb hm => ?_, I.stack, I.stkFree⟩
    · show s2.heap.objs.size ≤ C
      rw [hDe]; exact hCle
    · have hx' : (relabel scope X.env).names.lookup x = some .cell ∨ (relabel scope X.env).names.lookup x = some .free := hx
      have e := lookup_relabel (env := X.env) (names := scope.names) (x := x)
      have e' : (relabel scope X.env).names.lookup x = (scope.names.lookup x).map fun k => if (k == NameKind.free && X.env.scope.kind == .function && X.env.kindOf x == some .cell) then NameKind.cell else k := e
      rw [e'] at hx'
      cases q : scope.names.lookup x with
      | none => rw [q] at hx'; rcases hx' with z | z <;> cases z
      | some kd =>
        have hmem := PySem.mem_of_lookup q
        rw [q] at hx'
        have hkd : kd = .free := by
          by_cases hz : kd = .free
          · exact hz
          · exfalso
            have hb : (kd == NameKind.free) = false := by simpa using hz
            simp only [hb, Bool.false_and, Bool.false_eq_true, if_false, Option.map_some] at hx'
            rcases hx' with z | z
            · exact S.nocell _ hmem (Option.some.inj z)
            · exact hz (Option.some.inj z)
        exact Option.isSome_iff_exists.mp (hcf _ hmem hkd)
    · exact Nat.ne_of_lt (Nat.lt_of_lt_of_le (hfpD b hb) hCle)
    · exact (ff b hb).2.2.2.2.1 x c (hcl x c e) z
    · exact Nat.le_trans I.ok.bsz I.sz
    · obtain ⟨_, _, _, hx, _⟩ := ff b hb
      rcases hx with hx | hx
      · exact I.ok.noex b o e hx
      · exact absurd (Nat.lt_of_lt_of_le (Heap.lt_size (I.ok.bs b o e).1) hx) (Nat.lt_irrefl _)
    · obtain ⟨_, hl, hfs, _⟩ := ff b hb
      rcases List.mem_cons.mp (I.stkSub b hm) with e | hm
      · exact hl e
      · exact hfs hm
  have lenσ : (σ ++ List.replicate k none).length = N'.length := by rw [List.length_append, List.length_replicate, I.len, S.len]
  have I0 : Inv X' [(D, lobj [] 0)] (σ ++ List.replicate k none) H2 { s2 with heap := h₁, toks := s2.toks + ([] : List (Str × Value)).length } := by
    refine ⟨ok', rfl, I.bare, Un.kept old, ⟨_, hns₁, fun i x v e1 e2 e3 => ?_⟩, fun x c e => ?_, I.hok.fresh (by rw [hDe]; exact hCle), fun x c e => I.freeC x c (hcl x c e), fun p hp => ?_, I.hok.kept old, lenσ⟩
    · have hi : i < σ.length := by
        by_cases hi : i < σ.length
        · exact hi
        · rw [List.getElem?_append_right (Nat.not_lt.mp hi), List.getElem?_replicate] at e2
          split at e2 <;> cases e2
      rw [List.getElem?_append_left hi] at e2
      have e' : (relabel scope X.env).names.lookup x = (scope.names.lookup x).map fun k => if (k == NameKind.free && X.env.scope.kind == .function && X.env.kindOf x == some .cell) then NameKind.cell else k := lookup_relabel (env := X.env) (names := scope.names) (x := x)
      have hsome : ∃ kd, scope.names.lookup x = some kd ∧ (kd = .free ∨ kd = .local ∨ kd = .cell) := by
        have e3' : (relabel scope X.env).names.lookup x = some .local ∨ (relabel scope X.env).names.lookup x = some .cell ∨ (relabel scope X.env).names.lookup x = some .free := e3
        rw [e'] at e3'
        cases q : scope.names.lookup x with
        | none => rw [q] at e3'; rcases e3' with z | z | z <;> cases z
        | some kd =>
          refine ⟨kd, rfl, ?_⟩
          rw [q] at e3'
          by_cases hz : kd = .free
          · exact .inl hz
          · have hb : (kd == NameKind.free) = false := by simpa using hz
            simp only [hb, Bool.false_and, Bool.false_eq_true, if_false, Option.map_some, Option.some.injEq] at e3'
            rcases e3' with z | z | z
            · exact .inr (.inl z)
            · exact .inr (.inr z)
            · exact .inl z
      obtain ⟨kd, hk1, hk2⟩ := hsome
      obtain ⟨hN, hfree⟩ := S.outer i x (by rw [← I.len]; exact hi) e1 (by rw [hk1]; rfl) (by rcases hk2 with z | z | z <;> subst z <;> simp [hk1])
      have hmem := PySem.mem_of_lookup hfree
      have hko := S.free _ hmem rfl
      have hkx : X.env.kindOf x = some .cell ∨ X.env.kindOf x = some .free := hko
      obtain ⟨m, hn, hl⟩ := I.loc
      obtain ⟨u, r, lk⟩ := hl i x v hN e2 (by rcases hkx with z | z; exact .inr (.inl z); exact .inr (.inr z))
      refine ⟨u, r, .inr ⟨?_, ?_⟩⟩
      · show (relabel scope X.env).names.lookup x = some .cell ∨ (relabel scope X.env).names.lookup x = some .free
        rw [e', hfree, Option.map_some]
        split
        · exact .inl rfl
        · exact .inr rfl
      · rcases lk with ⟨kl, _⟩ | ⟨_, c, ec, hcell⟩
        · rcases hkx with z | z <;> (rw [z] at kl; cases kl)
        · obtain ⟨c', ec'⟩ := Option.isSome_iff_exists.mp (hcf _ hmem rfl)
          have q := hcl _ _ ec'
          rw [ec] at q
          cases q
          exact ⟨c, ec', hcell.keeps old⟩
    · obtain ⟨v, z⟩ := I.cell x c (hcl x c e)
      exact ⟨v, z.keeps old⟩
    · have hp' : p ∈ ([] : List (Addr × Obj)) ++ [(D, lobj [] 0)] := hp
      have ep : p = (D, lobj [] 0) := by simpa using hp'
      subst ep
      exact ⟨hacc, fpD.1, hDC, nofr D (Nat.le_refl _), fun v z => nomatch z⟩
  have stat : ∀ {H' : Hp} {o : Obj}, (∀ b ∈ fp, H' b = none) → ∀ b ∈ fp, FpOk X' [(D, o)] H' b := fun {H' o} hn b hb => by
    refine ⟨hn b hb, Nat.ne_of_lt (Nat.lt_of_lt_of_le (hfpD b hb) hCle), ok'.exfs b hb, .inl hb, fun x c e z => (ff b hb).2.2.2.2.1 x c (hcl x c e) z, fun p hp => ?_⟩
    have hp' : p ∈ ([] : List (Addr × Obj)) ++ [(D, o)] := hp
    have ep : p = (D, o) := by simpa using hp'
    subst ep
    exact Nat.ne_of_gt (hfpD b hb)
  have loop : ∀ s₃ : Shared, s₃ = { s2 with heap := h₁, toks := s2.toks + ([] : List (Str × Value)).length } →
      codeAny (model X.prog X.w) X.A (.compLoop (.ListComp elt [⟨tg, iter, ifs, 0⟩] scope pos) 0 (.ref it) (.ref D) (compEnvC scope cl C X.env)) (RR (.ref D) C) s₃ := by
    rintro s₃ rfl
    refine codeAny_compLoop_own (fun n s' => ∃ i vs ys kk σ' H', Inv X' [(D, lobj ys kk)] σ' H' s' ∧ tn i s'.heap ∧ (∀ b ∈ fp, H' b = none) ∧ Vals vs ys ∧ W i n vs σ' H') ?_ m0
      ⟨0, [], [], 0, _, H2, I0, T.keep _ _ _ st fun b _ o e => old b o e, fun b hb => (ff b hb).1, .nil, w0⟩
    rintro n s3 ⟨i, vs, ys, kk, σ3, H3, I3, st3, fr3, rv, w3⟩
    obtain ⟨hvl, hcase⟩ := turn i n vs σ3 H3 w3
    have pinD : ∀ {o : Obj} {σ' H' s'}, Inv X' [(D, o)] σ' H' s' → s'.heap.get? D = some o ∧ H' D = none := fun J => ⟨(J.pin _ (List.mem_append_right _ List.mem_cons_self)).1, (J.pin _ (List.mem_append_right _ List.mem_cons_self)).2.1⟩
    rcases hcase with ⟨stop, qn⟩ | ⟨go, step⟩
    · refine thn (T.done X' rfl rfl rfl hc i _ s3 σ3 H3 (fun _ _ => False) I3 (stat fr3) st3 stop) fun r s4 ⟨hr, I4⟩ => ?_
      subst hr
      obtain ⟨gD, nD⟩ := pinD I4
      obtain ⟨m', hm', _⟩ := I4.loc
      have hC4 : H3 C = none := I4.free
      have u0 : Un (frs X.stack) fp H2 H3 s2.heap s4.heap := I4.base
      have neD : ∀ b o, s2.heap.get? b = some o → b ≠ D := fun b o e => by rw [← hDe]; exact Nat.ne_of_lt (Heap.lt_size e)
      have u1 : Un (frs X.stack) fp H2 (upd H3 D (.lst vs)) s2.heap s4.heap :=
        ⟨u0.keep, u0.slot, fun b o e n hx => by rw [upd_ne (neD b o e)]; exact u0.free b o e n hx, u0.there,
          fun b xs e => by have q := u0.tups b xs e; rw [upd_ne (ne_of_none q nD)]; exact q,
          fun b o u e => by have q := u0.frzs b o u e; rw [upd_ne (ne_of_none q nD)]; exact q,
          fun b ps e => by obtain ⟨more, q⟩ := u0.tbls b ps e; exact ⟨more, by rw [upd_ne (ne_of_none q nD)]; exact q⟩⟩
      have I5 : Inv X pins σ (upd H3 D (.lst vs)) s4 := I.call' I4.os u1 (I4.hok.track nD hvl rv gD) I4.bare fun b hb => ⟨(ff b hb).2.2.2.1, (ff b hb).2.1, (ff b hb).2.2.2.2.1, (ff b hb).2.2.2.2.2⟩
      exact hRR D C s4 _ I5 ⟨m', hm'⟩ (fpC _ (by rw [upd_ne (Ne.symm hDC)]; exact hC4)) (qn D nD)
    · refine thn (T.item X' rfl rfl rfl hc i _ s3 σ3 H3 (fun _ _ => False) I3 (stat fr3) st3 go) fun r s4 ⟨u, hr, h4⟩ => ?_
      subst hr
      refine thn h4 fun _ s5 ⟨x, H5, I5, r5, y5, st5, fr5⟩ => ?_
      have I5' := I5.pinned (stat fr5) (T.obj _ _ st5)
      refine thn (hg C _ s5 σ3 H5 x u _ I5' r5 (step x H5 y5)) fun _ s6 ⟨σ6, H6, I6, q6⟩ => ?_
      refine thn (ht C _ s6 σ6 H6 _ I6 q6) fun ok s7 ⟨H7, I7, q7⟩ => ?_
      have unpin : ∀ {σ' H' s'}, Inv X' ([(D, lobj ys kk)] ++ pinsAt fp s5.heap) σ' H' s' → Inv X' [(D, lobj ys kk)] σ' H' s' ∧ tn (i + 1) s'.heap ∧ ∀ b ∈ fp, H' b = none := fun {σ' H' s'} J =>
        ⟨J.unpinned, T.keep _ _ _ st5 fun b hb o e => (J.pin (b, o) (List.mem_append_right _ (List.mem_append_right _ (mem_pinsAt hb e)))).1, fun b hb => by
          obtain ⟨o, e, d⟩ := T.obj _ _ st5 b hb
          exact (J.pin (b, o) (List.mem_append_right _ (List.mem_append_right _ (mem_pinsAt hb e)))).2.1⟩
      cases ok with
      | false =>
        rw [if_neg Bool.false_ne_true]
        rw [if_neg Bool.false_ne_true] at q7
        obtain ⟨m', hm', w7⟩ := q7
        obtain ⟨J1, J2, J3⟩ := unpin I7
        exact ⟨m', hm', i + 1, vs, ys, kk, σ6, H7, J1, J2, J3, rv, w7⟩
      | true =>
        rw [if_pos rfl]
        rw [if_pos rfl] at q7
        refine thn (he C _ s7 σ6 H7 _ I7 q7) fun uy s8 ⟨y, H8, I8, r8, m', hm', w8⟩ => ?_
        obtain ⟨J1, J2, J3⟩ := unpin I8
        obtain ⟨gD, nD⟩ := pinD J1
        refine append_at (hsz := by show ys.toArray.size ≤ sizeLine; rw [List.size_toArray, ← rv.length]; exact hvl) gD fun h9 hs9 hD9 => ?_
        have J1' : Inv X' [] σ6 H8 s8 := J1.pins_of fun p hp => nomatch hp
        have J9 : Inv X' [] σ6 H8 { s8 with heap := h9 } := J1'.turned (t' := s8.toks) (it := D) (fun b o hb e => hs9.extBut b o hb e) nD hDC (.inr (by show s2.heap.objs.size ≤ D; rw [hDe]; exact Nat.le_refl _)) (fun x c e => Nat.ne_of_lt (cellLt x c e)) fun p hp => nomatch hp
        have eo : ({ cls := .type "list", data := .seq (ys.toArray.push uy) (kk + 1) } : Obj) = lobj (ys ++ [uy]) (kk + 1) := by
          unfold lobj
          rw [List.push_toArray]
        refine ⟨m', hm', i + 1, vs ++ [y], ys ++ [uy], kk + 1, σ6, H8, J9.pins_of fun p hp => ?_, T.keep _ _ _ J2 fun b hb o e => hs9.extBut b o (Nat.ne_of_lt (hfpD b hb)) e, J3, rv.append (.cons r8 .nil), w8⟩
        have ep : p = (D, lobj (ys ++ [uy]) (kk + 1)) := by simpa using hp
        subst ep
        exact ⟨by show h9.get? D = _; rw [hD9, eo], nD, hDC, nofr D (Nat.le_refl _), fun v z => nomatch z⟩
  exact codeAny_compStart_list (loop _ rfl) (T.self _ 0 _ _ _ (T.keep _ _ _ st fun b _ o e => old b o e) (loop _ rfl))
end

section
variable {X : Cx}
theorem pe_comp {elt tg iter : Expr} {ifs : List Expr} {scope : Scope} {pos : Pos} {N' : List Str} {k : Nat} {wi : TI} {g : TG} {tc : TT} {te : TE}
    (hc : X.calm = true) (S : CompOk X N' k scope) (hcells : ∀ x ∈ scope.names, x.2 = .free → ∃ c, X.env.cells.lookup x.1 = some c) (hi : PI X tg iter wi)
    (hg : ∀ cl s H fp C, PG (compCx X N' scope cl s H fp C) tg g) (ht : ∀ cl s H fp C, PTs (compCx X N' scope cl s H fp C) ifs tc) (he : ∀ cl s H fp C, PE (compCx X N' scope cl s H fp C) elt te)
    (hs : ∀ x, foldedSetIterable iter X.env x = pure x := by intro _; rfl) :
    PE X (.ListComp elt [⟨tg, iter, ifs, 0⟩] scope pos) (tComp wi k g tc te) := by
  intro pins s σ H Q I h
  obtain ⟨cl, hclos, h1, h2⟩ := closure_ex (env := X.env) (scope := scope) hcells
  rw [eval_ListComp]
  refine wpAny_comprehension_free (use := none) rfl hs hclos S.kind S.names (thn (hi pins s σ H _ I h) fun xv s1 h1' => thn h1' fun itv s2 h2' => ?_)
  obtain ⟨it, fp, tn, J, H2, e, I2, T, st2, f2, rd⟩ := h2'
  subst e
  refine comp_core hc S h1 h2 I2 T st2 f2 (fun C => hg _ _ _ _ C) (fun C => ht _ _ _ _ C) (fun C => he _ _ _ _ C) rd fun D C s' H' I' ⟨m, hm⟩ fC q => ?_
  refine ⟨m, hm, fun h' hs' => ⟨.ref D, H', ?_, rfl, q⟩⟩
  exact I'.turned (t' := s'.toks) (it := C) (fun b o hb e => hs'.extBut b o hb e) fC.1 fC.2.1 fC.2.2.2.1 fC.2.2.2.2.1 fC.2.2.2.2.2
/-- y = [..], where the store comes ahead of the letting go -/
theorem ps_setComp {elt tg iter : Expr} {ifs : List Expr} {scope : Scope} {pos pos' spos : Pos} {N' : List Str} {k i : Nat} {y : Str} {wi : TI} {g : TG} {tc : TT} {te : TE}
    (hN : X.N.Nodup) (hy : X.N[i]? = some y) (hly : Loc X.env.scope y) (hfn : X.fn y = true ∨ X.env.scope.names.lookup y = some .local)
    (hc : X.calm = true) (S : CompOk X N' k scope) (hcells : ∀ x ∈ scope.names, x.2 = .free → ∃ c, X.env.cells.lookup x.1 = some c) (hi : PI X tg iter wi)
    (hg : ∀ cl s H fp C, PG (compCx X N' scope cl s H fp C) tg g) (ht : ∀ cl s H fp C, PTs (compCx X N' scope cl s H fp C) ifs tc) (he : ∀ cl s H fp C, PE (compCx X N' scope cl s H fp C) elt te)
    (hsw : swapsWith (.ListComp elt [⟨tg, iter, ifs, 0⟩] scope pos) (some (.Name y pos')) spos.line X.env = pure true)
    (hs : ∀ x, foldedSetIterable iter X.env x = pure x := by intro _; rfl) :
    PS X (.Assign [.Name y pos'] (.ListComp elt [⟨tg, iter, ifs, 0⟩] scope pos) spos) (tAsg (tComp wi k g tc te) (gName i)) := by
  intro pins s σ H D₀ I h
  obtain ⟨cl, hclos, h1, h2⟩ := closure_ex (env := X.env) (scope := scope) hcells
  rw [exec_Assign_Name_used _ _ _ _ hsw]
  refine wpAny_bind (wpAny_standAt (wpAny_bind ?_))
  show wpAny _ X.A (do let _ ← comprehension (.ListComp elt [⟨tg, iter, ifs, 0⟩] scope pos) scope X.env _ (newList []) false (eval iter X.env) (some (assign (.Name y pos') X.env))) _ _ s
  refine wpAny_bind (wpAny_mono (wpAny_comprehension_free (use := some (assign (.Name y pos') X.env)) (Q := fun _ s' => SP X pins D₀ .next s') rfl hs hclos S.kind S.names
    (thn (hi pins s σ H _ I h) fun xv s1 h1' => thn h1' fun itv s2 h2' => ?_)) (fun _ s' hq => wpAny_pure (wpAny_pure hq)) fun _ _ e => e)
  obtain ⟨it, fp, tn, J, H2, e, I2, T, st2, f2, rd⟩ := h2'
  subst e
  refine comp_core (Q := fun x H1 => gName i x σ H1 D₀.nx) hc S h1 h2 I2 T st2 f2 (fun C => hg _ _ _ _ C) (fun C => ht _ _ _ _ C) (fun C => he _ _ _ _ C) rd fun D C s' H' I' ⟨m, hm⟩ fC q => ?_
  show wpAny _ X.A (assign (.Name y pos') X.env (.ref D)) _ _ _
  refine wpAny_assign_Name (store_ok2 I' hN hy hly (show RelV (.ref D) (.ref D) from rfl) (fun s'' I'' ⟨a, hsb, ha⟩ => ?_) hfn)
  have hCa : C ≠ a := by
    rcases ha with rfl | ha
    · exact fC.2.1
    · exact fun z => fC.2.2.2.2.1 y a ha z.symm
  refine ⟨m, hm.sameBut hsb hCa, fun h' hs' => ⟨_, H', ?_, q⟩⟩
  exact I''.turned (t' := s''.toks) (it := C) (fun b o hb e => hs'.extBut b o hb e) fC.1 fC.2.1 fC.2.2.2.1 fC.2.2.2.2.1 fC.2.2.2.2.2
end
end L2

set_option Elab.async false
set_option linter.all false
set_option maxRecDepth 100000
namespace L3
open PySem PySem.Spec PyProof.Rows L2

abbrev D := PyData
abbrev Fg := PySem.W.Frag

/-! ### data as trees over the tracked heap -/
mutual
inductive Rep (K : Fg) (F : Hp) : V → D → Prop
  | non : Rep K F .non .none
  | bl (b) : Rep K F (.bl b) (.bool b)
  | int (i) : Rep K F (.int i) (.int i)
  | str (x) : Rep K F (.str x) (.str x)
  | tup {a vs ds} : SqT K F a vs → RepL K F vs ds → Rep K F (.ref a) (.tuple ds)
  | lst {a vs ds} : SqL K F a vs → RepL K F vs ds → Rep K F (.ref a) (.list ds)
inductive RepL (K : Fg) (F : Hp) : List V → List D → Prop
  | nil : RepL K F [] []
  | cons {v d vs ds} : Rep K F v d → RepL K F vs ds → RepL K F (v :: vs) (d :: ds)
end

theorem sqT_mono {K : Fg} {F F' : Hp} {a : Addr} {xs : List V} (e : Same F F') (h : SqT K F a xs) : SqT K F' a xs := by
  rcases h with (h | ⟨o, h⟩) | h
  · exact .inl (.inl (e _ _ h))
  · exact .inl (.inr ⟨o, e _ _ h⟩)
  · exact .inr h
mutual
theorem Rep.mono {K : Fg} {F F' : Hp} (e : Same F F') : ∀ {v d}, Rep K F v d → Rep K F' v d
  | _, _, .non => .non
  | _, _, .bl b => .bl b
  | _, _, .int b => .int b
  | _, _, .str b => .str b
  | _, _, .tup h r => .tup (sqT_mono e h) (RepL.mono e r)
  | _, _, .lst h r => .lst (e.seq h) (RepL.mono e r)
theorem RepL.mono {K : Fg} {F F' : Hp} (e : Same F F') : ∀ {vs ds}, RepL K F vs ds → RepL K F' vs ds
  | _, _, .nil => .nil
  | _, _, .cons h r => .cons (Rep.mono e h) (RepL.mono e r)
end
theorem RepL.length {K : Fg} {F : Hp} : ∀ {vs ds}, RepL K F vs ds → vs.length = ds.length
  | _, _, .nil => rfl
  | _, _, .cons _ r => by simp [RepL.length r]
theorem RepL.get {K : Fg} {F : Hp} : ∀ {vs ds} {i : Nat} {d : D}, RepL K F vs ds → ds[i]? = some d → ∃ v, vs[i]? = some v ∧ Rep K F v d
  | _, _, _, _, .nil, e => by simp at e
  | _, _, 0, _, .cons h _, e => by simp at e; subst e; exact ⟨_, rfl, h⟩
  | _, _, i + 1, d, .cons _ r, e => by
    obtain ⟨v, h1, h2⟩ := RepL.get (i := i) (d := d) r (by simpa using e)
    exact ⟨v, by simpa using h1, h2⟩
theorem RepL.getV {K : Fg} {F : Hp} : ∀ {vs ds} {i : Nat} {v : V}, RepL K F vs ds → vs[i]? = some v → ∃ d, ds[i]? = some d ∧ Rep K F v d
  | _, _, _, _, .nil, e => by simp at e
  | _, _, 0, _, .cons h _, e => by simp at e; subst e; exact ⟨_, rfl, h⟩
  | _, _, i + 1, d, .cons _ r, e => by
    obtain ⟨v, h1, h2⟩ := RepL.getV (i := i) (v := d) r (by simpa using e)
    exact ⟨v, by simpa using h1, h2⟩
theorem RepL.append {K : Fg} {F : Hp} : ∀ {vs ds us es}, RepL K F vs ds → RepL K F us es → RepL K F (vs ++ us) (ds ++ es)
  | _, _, _, _, .nil, s => s
  | _, _, _, _, .cons h r, s => .cons h (RepL.append r s)
theorem RepL.take {K : Fg} {F : Hp} : ∀ {vs ds} (n : Nat), RepL K F vs ds → RepL K F (vs.take n) (ds.take n)
  | _, _, 0, _ => .nil
  | _, _, _ + 1, .nil => .nil
  | _, _, n + 1, .cons h r => .cons h (RepL.take n r)
theorem RepL.drop {K : Fg} {F : Hp} : ∀ {vs ds} (n : Nat), RepL K F vs ds → RepL K F (vs.drop n) (ds.drop n)
  | _, _, 0, r => r
  | _, _, _ + 1, .nil => .nil
  | _, _, n + 1, .cons _ r => RepL.drop n r
theorem RepL.set {K : Fg} {F : Hp} {v : V} {d : D} (h : Rep K F v d) : ∀ {vs ds} (i : Nat), RepL K F vs ds → RepL K F (vs.set i v) (ds.set i d)
  | _, _, _, .nil => .nil
  | _, _, 0, .cons _ r => .cons h r
  | _, _, i + 1, .cons q r => .cons q (RepL.set h i r)
theorem RepL.reverse {K : Fg} {F : Hp} {vs ds} (h : RepL K F vs ds) : RepL K F vs.reverse ds.reverse := by
  induction vs generalizing ds with
  | nil => cases h; exact .nil
  | cons v vs ih => cases h with
    | cons a b => rw [List.reverse_cons, List.reverse_cons]; exact (ih b).append (.cons a .nil)
theorem RepL.ints {K : Fg} {F : Hp} : ∀ (ns : List Int), RepL K F (ns.map V.int) (ns.map PyData.int)
  | [] => .nil
  | n :: r => .cons (.int n) (RepL.ints r)

/-- what is read off the heap itself -/
theorem reads_of {X : Cx} {pins : List (Addr × Obj)} {σ : L2.St} {H : Hp} {s : Shared} (I : Inv X pins σ H s) :
    (∀ {v d}, Rep X.K H v d → ∀ {u}, RelV v u → ∃ as, Reads s.heap u d as) ∧ (∀ {vs ds}, RepL X.K H vs ds → ∀ {us}, Vals vs us → ∃ as, ReadsAll s.heap us ds as) := by
  suffices hh : ∀ n, (∀ {v d}, sizeOf d < n → Rep X.K H v d → ∀ {u}, RelV v u → ∃ as, Reads s.heap u d as) ∧ (∀ {vs ds}, sizeOf ds < n → RepL X.K H vs ds → ∀ {us}, Vals vs us → ∃ as, ReadsAll s.heap us ds as) by
    exact ⟨fun {v d} h {u} r => (hh (sizeOf d + 1)).1 (Nat.lt_succ_self _) h r, fun {vs ds} h {us} r => (hh (sizeOf ds + 1)).2 (Nat.lt_succ_self _) h r⟩
  intro n
  induction n with
  | zero => exact ⟨fun h => absurd h (Nat.not_lt_zero _), fun h => absurd h (Nat.not_lt_zero _)⟩
  | succ n ih =>
    refine ⟨fun {v d} hn h {u} r => ?_, fun {vs ds} hn h {us} r => ?_⟩
    · cases h with
      | non => cases r; exact ⟨_, .none⟩
      | bl b => cases r; exact ⟨_, .bool b⟩
      | int i => obtain ⟨t, rfl⟩ := r; exact ⟨_, .int i t⟩
      | str x => obtain ⟨t, rfl⟩ := r; exact ⟨_, .str x t⟩
      | @tup a vs ds hq rl =>
        cases r
        obtain ⟨its, rv, ⟨o, e1, e2, n', e3⟩, hz⟩ := I.tuple hq
        obtain ⟨as, ra⟩ := ih.2 (by simp at hn ⊢; omega) rl rv
        exact ⟨_, .tuple e1 e2 e3 (by simpa using ra)⟩
      | @lst a vs ds hq rl =>
        cases r
        obtain ⟨its, rv, ⟨o, n', e1, e2, e3, e4⟩, hz⟩ := I.list hq
        obtain ⟨as, ra⟩ := ih.2 (by simp at hn ⊢; omega) rl rv
        exact ⟨_, .list e1 e2 e4 (by simpa using ra)⟩
    · cases h with
      | nil => cases r; exact ⟨_, .nil⟩
      | cons h t =>
        cases r with
        | cons r rr =>
          obtain ⟨as, ra⟩ := ih.1 (by simp at hn ⊢; omega) h r
          obtain ⟨bs, rb⟩ := ih.2 (by simp at hn ⊢; omega) t rr
          exact ⟨_, .cons ra rb⟩

/-! ### states: slots that hold frozen data or an own list -/
inductive OC where
  | l (ds : List D)
inductive AV where
  | fz (d : D)
  | ol (c : OC)
  | op (c : OC)
abbrev En := List (Option AV)
/-- the value of an expression: data, a fresh own thing, or the own thing of a slot -/
inductive RV where
  | fz (d : D)
  | fr (c : OC)
  | bor (i : Nat)
structure Gh where
  P : Nat → Option Addr
  O : Hp
def Held (K : Fg) (F H : Hp) (a : Addr) : OC → Prop
  | .l ds => ∃ vs, H a = some (.lst vs) ∧ RepL K F vs ds
structure OwnAt (K : Fg) (G : Gh) (F H : Hp) (a : Addr) (c : OC) : Prop where
  nf : F a = none
  no : G.O a = none
  he : Held K F H a c
def own (ρ : En) (i : Nat) (c : OC) : Prop := ρ[i]? = some (some (.ol c)) ∨ ρ[i]? = some (some (.op c))
structure StOk (K : Fg) (G : Gh) (F : Hp) (σ : L2.St) (H : Hp) (ρ : En) : Prop where
  fh : Same F H
  oh : Same G.O H
  fo : ∀ b o, G.O b = some o → F b = none
  ln : σ.length = ρ.length
  fz : ∀ (i : Nat) (d : D), ρ[i]? = some (some (AV.fz d)) → ∃ v, σ[i]? = some (some v) ∧ Rep K F v d
  ow : ∀ (i : Nat) (c : OC), own ρ i c → ∃ a : Addr, σ[i]? = some (some (V.ref a)) ∧ OwnAt K G F H a c
  dj : ∀ (i j : Nat) (c e : OC) (a : Addr), own ρ i c → own ρ j e → σ[i]? = some (some (V.ref a)) → σ[j]? = some (some (V.ref a)) → i = j
  pp : ∀ (i : Nat) (a : Addr), G.P i = some a → σ[i]? = some (some (V.ref a)) ∧ ∃ c, ρ[i]? = some (some (AV.op c))
  pq : ∀ (i : Nat) (c : OC), ρ[i]? = some (some (AV.op c)) → ∃ a, G.P i = some a
def RVR (K : Fg) (G : Gh) (F : Hp) (σ : L2.St) (H : Hp) (ρ : En) (v : V) : RV → Prop
  | .fz d => Rep K F v d
  | .fr c => ∃ a, v = .ref a ∧ OwnAt K G F H a c ∧ ∀ (i : Nat) (e : OC), own ρ i e → σ[i]? ≠ some (some (V.ref a))
  | .bor i => ∃ c, own ρ i c ∧ σ[i]? = some (some v)

theorem Held.mono {K : Fg} {F F' H : Hp} {a : Addr} {c : OC} (e : Same F F') (h : Held K F H a c) : Held K F' H a c := by
  cases c with
  | l ds => obtain ⟨vs, h1, h2⟩ := h; exact ⟨vs, h1, h2.mono e⟩
theorem Held.some {K : Fg} {F H : Hp} {a : Addr} {c : OC} (h : Held K F H a c) : ∃ o, H a = some o := by
  cases c with
  | l ds => obtain ⟨vs, h1, h2⟩ := h; exact ⟨_, h1⟩
theorem Held.at {K : Fg} {F H H' : Hp} {a : Addr} {c : OC} (h : Held K F H a c) (e : H' a = H a) : Held K F H' a c := by
  cases c with
  | l ds => obtain ⟨vs, h1, h2⟩ := h; exact ⟨vs, e.trans h1, h2⟩
theorem same_upd {F : Hp} {p : Addr} {o : HO} (h : F p = none) : Same F (upd F p o) := fun b u e => by
  rw [upd_ne (ne_of_none e h)]
  exact e
theorem same_upd2 {F H : Hp} {p : Addr} {o : HO} (s : Same F H) (h : F p = none) : Same F (upd H p o) := fun b u e => by
  rw [upd_ne (ne_of_none e h)]
  exact s b u e

section
variable {K : Fg} {G : Gh} {F H : Hp} {σ : L2.St} {ρ : En}
/-- a new untracked thing is laid -/
theorem StOk.lay (S : StOk K G F σ H ρ) {p : Addr} {o : HO} (hp : H p = none) : StOk K G F σ (upd H p o) ρ := by
  have fp : F p = none := S.fh.free hp
  have op : G.O p = none := S.oh.free hp
  refine ⟨same_upd2 S.fh fp, same_upd2 S.oh op, S.fo, S.ln, S.fz, fun i c h => ?_, S.dj, S.pp, S.pq⟩
  obtain ⟨a, e, oa⟩ := S.ow i c h
  refine ⟨a, e, oa.nf, oa.no, oa.he.at ?_⟩
  obtain ⟨u, hu⟩ := oa.he.some
  exact upd_ne (ne_of_none hu hp)
theorem StOk.fresh_ne (S : StOk K G F σ H ρ) {p : Addr} (hp : H p = none) : ∀ (i : Nat) (e : OC), own ρ i e → σ[i]? ≠ some (some (V.ref p)) := fun i e h q => by
  obtain ⟨a, e1, oa⟩ := S.ow i e h
  rw [e1] at q
  injection q with q; injection q with q; injection q with q
  subst q
  obtain ⟨u, hu⟩ := oa.he.some
  rw [hp] at hu; cases hu
/-- what stands there and is nobody's becomes frozen -/
theorem StOk.freeze (S : StOk K G F σ H ρ) {a : Addr} {o : HO} (ha : H a = some o) (fa : F a = none) (oa : G.O a = none) (ne : ∀ (i : Nat) (e : OC), own ρ i e → σ[i]? ≠ some (some (V.ref a))) : StOk K G (upd F a o) σ H ρ := by
  have sm : Same F (upd F a o) := same_upd fa
  refine ⟨fun b u e => ?_, S.oh, fun b u e => ?_, S.ln, fun i d h => ?_, fun i c h => ?_, S.dj, S.pp, S.pq⟩
  · by_cases hb : b = a
    · subst hb; rw [upd_same] at e; cases e; exact ha
    · rw [upd_ne hb] at e; exact S.fh b u e
  · rw [upd_ne (ne_of_none e oa)]; exact S.fo b u e
  · obtain ⟨v, e, r⟩ := S.fz i d h; exact ⟨v, e, r.mono sm⟩
  · obtain ⟨b, e, ob⟩ := S.ow i c h
    refine ⟨b, e, ?_, ob.no, ob.he.mono sm⟩
    rw [upd_ne (fun z => ne i c h (by rw [e, z]))]
    exact ob.nf
/-- a new tuple -/
theorem StOk.newTup (S : StOk K G F σ H ρ) {p : Addr} {vs : List V} {ds : List D} (hp : H p = none) (r : RepL K F vs ds) :
    Same F (upd F p (.tup vs)) ∧ StOk K G (upd F p (.tup vs)) σ (upd H p (.tup vs)) ρ ∧ Rep K (upd F p (.tup vs)) (.ref p) (.tuple ds) := by
  have fp : F p = none := S.fh.free hp
  refine ⟨same_upd fp, (S.lay hp).freeze upd_same fp (S.oh.free hp) (S.fresh_ne hp), ?_⟩
  exact .tup (.inl (.inl upd_same)) (r.mono (same_upd fp))
/-- a new list -/
theorem StOk.newLst (S : StOk K G F σ H ρ) {p : Addr} {vs : List V} {ds : List D} (hp : H p = none) (r : RepL K F vs ds) :
    StOk K G F σ (upd H p (.lst vs)) ρ ∧ RVR K G F σ (upd H p (.lst vs)) ρ (.ref p) (.fr (.l ds)) :=
  ⟨S.lay hp, p, rfl, ⟨S.fh.free hp, S.oh.free hp, vs, upd_same, r⟩, S.fresh_ne hp⟩
/-- a fresh list becomes data -/
theorem StOk.settle (S : StOk K G F σ H ρ) {v : V} {ds : List D} (r : RVR K G F σ H ρ v (.fr (.l ds))) :
    ∃ F', Same F F' ∧ StOk K G F' σ H ρ ∧ Rep K F' v (.list ds) := by
  obtain ⟨a, rfl, oa, ne⟩ := r
  obtain ⟨vs, h1, h2⟩ := oa.he
  exact ⟨upd F a (.lst vs), same_upd oa.nf, S.freeze h1 oa.nf oa.no ne, .lst (.inl (.inl upd_same)) (h2.mono (same_upd oa.nf))⟩
/-- an own list of a slot (no parameter's) becomes data -/
theorem getElem?_set_eq {α : Type} (l : List α) (i : Nat) (x y : α) (h : l[i]? = some y) : (l.set i x)[i]? = some x := by
  rw [List.getElem?_set_self (List.getElem?_eq_some_iff.mp h).1]
theorem StOk.settleB (S : StOk K G F σ H ρ) {i : Nat} {ds : List D} (hi : ρ[i]? = some (some (.ol (.l ds)))) {v : V} (hv : σ[i]? = some (some v)) :
    ∃ F', Same F F' ∧ StOk K G F' σ H (ρ.set i (some (.fz (.list ds)))) ∧ Rep K F' v (.list ds) := by
  obtain ⟨a, e, oa⟩ := S.ow i _ (.inl hi)
  rw [hv] at e
  injection e with e; injection e with e
  subst e
  obtain ⟨vs, h1, h2⟩ := oa.he
  have sm : Same F (upd F a (.lst vs)) := same_upd oa.nf
  have rp : Rep K (upd F a (.lst vs)) (.ref a) (.list ds) := .lst (.inl (.inl upd_same)) (h2.mono sm)
  have ne : ∀ j, j ≠ i → (ρ.set i (some (.fz (.list ds))))[j]? = ρ[j]? := fun j hj => List.getElem?_set_ne (Ne.symm hj)
  have at_i : (ρ.set i (some (.fz (.list ds))))[i]? = some (some (.fz (.list ds))) := getElem?_set_eq _ _ _ _ hi
  have ownj : ∀ j c, own (ρ.set i (some (.fz (.list ds)))) j c → j ≠ i ∧ own ρ j c := fun j c h => by
    have hj : j ≠ i := by
      rintro rfl
      rcases h with h | h <;> (rw [at_i] at h; cases h)
    refine ⟨hj, ?_⟩
    rcases h with h | h
    · exact .inl (by rw [← ne j hj]; exact h)
    · exact .inr (by rw [← ne j hj]; exact h)
  refine ⟨upd F a (.lst vs), sm, ⟨fun b u e => ?_, S.oh, fun b u e => ?_, by simpa using S.ln, fun j d h => ?_, fun j c h => ?_, fun j k c e b h1 h2 => S.dj j k c e b (ownj j c h1).2 (ownj k e h2).2, fun j b h => ?_, fun j c h => ?_⟩, rp⟩
  · by_cases hb : b = a
    · subst hb; rw [upd_same] at e; cases e; exact h1
    · rw [upd_ne hb] at e; exact S.fh b u e
  · rw [upd_ne (ne_of_none e oa.no)]; exact S.fo b u e
  · by_cases hj : j = i
    · subst hj
      rw [at_i] at h
      cases h
      exact ⟨_, hv, rp⟩
    · rw [ne j hj] at h
      obtain ⟨w, e, r⟩ := S.fz j d h
      exact ⟨w, e, r.mono sm⟩
  · obtain ⟨hj, h'⟩ := ownj j c h
    obtain ⟨b, e, ob⟩ := S.ow j c h'
    refine ⟨b, e, ?_, ob.no, ob.he.mono sm⟩
    rw [upd_ne (fun z => hj (S.dj j i _ _ a h' (.inl hi) (by rw [e, z]) hv))]
    exact ob.nf
  · obtain ⟨q, c, q'⟩ := S.pp j b h
    refine ⟨q, c, ?_⟩
    have hj : j ≠ i := by rintro rfl; rw [hi] at q'; cases q'
    rw [ne j hj]; exact q'
  · have hj : j ≠ i := by rintro rfl; rw [at_i] at h; cases h
    rw [ne j hj] at h
    exact S.pq j c h
/-- a name is stored -/
theorem StOk.store (S : StOk K G F σ H ρ) {j : Nat} {v : V} {av : AV} (hj : ∀ c, ρ[j]? ≠ some (some (.op c))) (hl : j < ρ.length)
    (h : (∃ d, av = .fz d ∧ Rep K F v d) ∨ ∃ c, av = .ol c ∧ RVR K G F σ H ρ v (.fr c)) : StOk K G F (σ.set j (some v)) H (ρ.set j (some av)) := by
  have hls : j < σ.length := by rw [S.ln]; exact hl
  have ne : ∀ i, i ≠ j → (ρ.set j (some av))[i]? = ρ[i]? := fun i hi => List.getElem?_set_ne (Ne.symm hi)
  have nes : ∀ i, i ≠ j → (σ.set j (some v))[i]? = σ[i]? := fun i hi => List.getElem?_set_ne (Ne.symm hi)
  have atj : (ρ.set j (some av))[j]? = some (some av) := List.getElem?_set_self hl
  have atjs : (σ.set j (some v))[j]? = some (some v) := List.getElem?_set_self hls
  have owni : ∀ i c, i ≠ j → own (ρ.set j (some av)) i c → own ρ i c := fun i c hi h => by
    unfold own at h ⊢
    rw [ne i hi] at h
    exact h
  refine ⟨S.fh, S.oh, S.fo, by simpa using S.ln, fun i d q => ?_, fun i c q => ?_, fun i k c e a q1 q2 e1 e2 => ?_, fun i a q => ?_, fun i c q => ?_⟩
  · by_cases hi : i = j
    · subst hi
      rw [atj] at q
      rcases h with ⟨d', rfl, r⟩ | ⟨c, rfl, _⟩
      · cases q; exact ⟨v, atjs, r⟩
      · cases q
    · rw [ne i hi] at q
      obtain ⟨w, e, r⟩ := S.fz i d q
      exact ⟨w, by rw [nes i hi]; exact e, r⟩
  · by_cases hi : i = j
    · subst hi
      rcases h with ⟨d', rfl, r⟩ | ⟨c', rfl, a, rfl, oa, _⟩
      · rcases q with q | q <;> (rw [atj] at q; cases q)
      · rcases q with q | q
        · rw [atj] at q; cases q; exact ⟨a, atjs, oa⟩
        · rw [atj] at q; cases q
    · obtain ⟨a, e, oa⟩ := S.ow i c (owni i c hi q)
      exact ⟨a, by rw [nes i hi]; exact e, oa⟩
  · by_cases hi : i = j
    · by_cases hk : k = j
      · rw [hi, hk]
      · exfalso
        subst hi
        rw [nes k hk] at e2
        rw [atjs] at e1
        injection e1 with e1; injection e1 with e1
        subst e1
        rcases h with ⟨d', rfl, r⟩ | ⟨c', rfl, a', e, oa, nn⟩
        · rcases q1 with q | q <;> (rw [atj] at q; cases q)
        · injection e with e; subst e
          exact nn k _ (owni k _ hk q2) e2
    · by_cases hk : k = j
      · exfalso
        subst hk
        rw [nes i hi] at e1
        rw [atjs] at e2
        injection e2 with e2; injection e2 with e2
        subst e2
        rcases h with ⟨d', rfl, r⟩ | ⟨c', rfl, a', e, oa, nn⟩
        · rcases q2 with q | q <;> (rw [atj] at q; cases q)
        · injection e with e; subst e
          exact nn i _ (owni i _ hi q1) e1
      · rw [nes i hi] at e1
        rw [nes k hk] at e2
        exact S.dj i k _ _ a (owni i _ hi q1) (owni k _ hk q2) e1 e2
  · obtain ⟨q1, c, q2⟩ := S.pp i a q
    have hi : i ≠ j := by rintro rfl; exact hj c q2
    exact ⟨by rw [nes i hi]; exact q1, c, by rw [ne i hi]; exact q2⟩
  · have hi : i ≠ j := by
      rintro rfl
      rw [atj] at q
      rcases h with ⟨d', rfl, r⟩ | ⟨c', rfl, _⟩ <;> cases q
    rw [ne i hi] at q
    exact S.pq i c q
/-- an own thing is changed in its place -/
theorem StOk.change (S : StOk K G F σ H ρ) {j : Nat} {a : Addr} {c c' : OC} {o : HO} (hj : own ρ j c) (ha : σ[j]? = some (some (.ref a))) (hh : Held K F (upd H a o) a c') :
    StOk K G F σ (upd H a o) (ρ.set j ((ρ[j]?.join).map fun | .op _ => .op c' | _ => .ol c')) := by
  obtain ⟨b, e, ob⟩ := S.ow j c hj
  rw [ha] at e
  injection e with e; injection e with e; injection e with e
  subst e
  have hl : j < ρ.length := by rcases hj with h | h <;> exact (List.getElem?_eq_some_iff.mp h).1
  generalize hav : ((ρ[j]?.join).map fun (x : AV) => match x with | .op _ => AV.op c' | _ => AV.ol c') = av
  have ne : ∀ i, i ≠ j → (ρ.set j av)[i]? = ρ[i]? := fun i hi => List.getElem?_set_ne (Ne.symm hi)
  have atj : (ρ.set j av)[j]? = some av := List.getElem?_set_self hl
  have owni : ∀ i e, i ≠ j → own (ρ.set j av) i e → own ρ i e := fun i c hi h => by
    unfold own at h ⊢
    rw [ne i hi] at h
    exact h
  have kind : (ρ[j]? = some (some (.ol c)) ∧ av = some (.ol c')) ∨ (ρ[j]? = some (some (.op c)) ∧ av = some (.op c')) := by
    rcases hj with h | h
    · exact .inl ⟨h, by rw [← hav, h]; rfl⟩
    · exact .inr ⟨h, by rw [← hav, h]; rfl⟩
  have ownj : ∀ e, own (ρ.set j av) j e → e = c' := fun e h => by
    unfold own at h
    rw [atj] at h
    rcases kind with ⟨_, k⟩ | ⟨_, k⟩ <;> rw [k] at h <;> rcases h with h | h <;> cases h <;> rfl
  refine ⟨same_upd2 S.fh ob.nf, same_upd2 S.oh ob.no, S.fo, by simpa using S.ln, fun i d q => ?_, fun i e q => ?_, fun i k c1 e1 b q1 q2 => ?_, fun i b q => ?_, fun i e q => ?_⟩
  · by_cases hi : i = j
    · subst hi
      rw [atj] at q
      rcases kind with ⟨_, k⟩ | ⟨_, k⟩ <;> rw [k] at q <;> cases q
    · rw [ne i hi] at q; exact S.fz i d q
  · by_cases hi : i = j
    · subst hi
      have := ownj e q
      subst this
      exact ⟨a, ha, ob.nf, ob.no, hh⟩
    · have q' := owni i e hi q
      obtain ⟨b', e', ob'⟩ := S.ow i e q'
      refine ⟨b', e', ob'.nf, ob'.no, ob'.he.at (upd_ne fun z => hi (S.dj i j _ _ a q' hj (by rw [e', z]) ha))⟩
  · have o1 : ∃ e, own ρ i e := by
      by_cases hi : i = j
      · exact ⟨c, hi ▸ hj⟩
      · exact ⟨_, owni i _ hi q1⟩
    have o2 : ∃ e, own ρ k e := by
      by_cases hk : k = j
      · exact ⟨c, hk ▸ hj⟩
      · exact ⟨_, owni k _ hk q2⟩
    exact S.dj i k _ _ b o1.choose_spec o2.choose_spec
  · obtain ⟨q1, e, q2⟩ := S.pp i b q
    refine ⟨q1, ?_⟩
    by_cases hi : i = j
    · subst hi
      rcases kind with ⟨k1, k⟩ | ⟨k1, k⟩
      · rw [k1] at q2; cases q2
      · exact ⟨c', by rw [atj, k]⟩
    · exact ⟨e, by rw [ne i hi]; exact q2⟩
  · by_cases hi : i = j
    · subst hi
      rcases kind with ⟨k1, k⟩ | ⟨k1, k⟩
      · rw [atj, k] at q; cases q
      · exact S.pq i c k1
    · rw [ne i hi] at q; exact S.pq i e q
end
end L3

set_option Elab.async false
set_option linter.all false
set_option maxRecDepth 100000
namespace L4
open PySem PySem.Spec PyProof.Rows L2 L3

/-! ### what a computation comes to -/
/-- an error of one's own: its class's name and its fields -/
structure Ex where
  cls : Str
  fs : List (Str × D)
inductive M (S : Type) where
  | ret (s : S)
  | exc (x : Ex)
  | bad
def M.on {S T : Type} (m : M S) (x : Ex → M T) (k : S → M T) : M T := match m with
  | .ret s => k s
  | .exc e => x e
  | .bad => .bad
/-- one behind another -/
def bd {S T : Type} (m : M S) (k : S → M T) : M T := m.on .exc k
def oM {S : Type} (o : Option S) : M S := match o with
  | some s => .ret s
  | none => .bad
section
variable {S T U : Type}
@[simp] theorem on_ret (s : S) (x : Ex → M T) (k : S → M T) : (M.ret s).on x k = k s := rfl
@[simp] theorem on_exc (e : Ex) (x : Ex → M T) (k : S → M T) : (M.exc e).on x k = x e := rfl
@[simp] theorem on_bad (x : Ex → M T) (k : S → M T) : (M.bad).on x k = .bad := rfl
@[simp] theorem bd_ret (s : S) (k : S → M T) : bd (.ret s) k = k s := rfl
@[simp] theorem bd_exc (e : Ex) (k : S → M T) : bd (.exc e) k = .exc e := rfl
@[simp] theorem bd_bad (k : S → M T) : bd .bad k = .bad := rfl
@[simp] theorem oM_some (s : S) : oM (some s) = .ret s := rfl
@[simp] theorem oM_none : oM (none : Option S) = .bad := rfl
theorem on_exc_bd (m : M S) (k : S → M T) : m.on (fun e => .exc e) k = bd m k := rfl
end

abbrev Pu (α : Type) := En → M α
/-- what is wanted of an exception that is raised at a state of these slots -/
def XW (X : Cx) (G : Gh) (F : Hp) (ρ : En) (x : Ex) : Prop := False
theorem XW.mono {X : Cx} {G : Gh} {F F' : Hp} {ρ : En} {x : Ex} (s : Same F F') (h : XW X G F ρ x) : XW X G F' ρ x := h
/-- what is wanted of a computation that leaves the slots as they are -/
def W (X : Cx) (G : Gh) (F : Hp) (σ : L2.St) (ρ : En) {α : Type} (m : M α) (C : α → Hp → Hp → Prop) : Prop := match m with
  | .ret a => ∀ F' H', Same F F' → StOk X.K G F' σ H' ρ → C a F' H'
  | .exc x => XW X G F ρ x
  | .bad => False
section
variable {X : Cx} {G : Gh} {F F' H : Hp} {σ : L2.St} {ρ : En} {α β : Type} {m : M α} {k : α → M β} {C C' : α → Hp → Hp → Prop}
theorem W.up {C : β → Hp → Hp → Prop} {m : M β} (s : Same F F') (h : W X G F σ ρ m C) : W X G F' σ ρ m C := by
  cases m with
  | ret a => exact fun F2 H2 s2 S2 => h F2 H2 (s.trans s2) S2
  | exc x => exact XW.mono (X := X) (G := G) (ρ := ρ) (x := x) s h
  | bad => exact h
theorem W.bind {C : β → Hp → Hp → Prop} (h : W X G F σ ρ (bd m k) C) : W X G F σ ρ m fun a F' H' => W X G F' σ ρ (k a) C := by
  cases m with
  | ret a => exact fun F2 H2 s2 S2 => W.up s2 h
  | exc x => exact h
  | bad => exact h
theorem W.imp (h : W X G F σ ρ m C) (w : ∀ a F' H', Same F F' → StOk X.K G F' σ H' ρ → C a F' H' → C' a F' H') : W X G F σ ρ m C' := by
  cases m with
  | ret a => exact fun F2 H2 s2 S2 => w a F2 H2 s2 S2 (h F2 H2 s2 S2)
  | exc x => exact h
  | bad => exact h
theorem W.opt {o : Option α} (h : W X G F σ ρ (oM o) C) : ∃ a, o = some a ∧ ∀ F' H', Same F F' → StOk X.K G F' σ H' ρ → C a F' H' := by
  cases o with
  | none => exact h.elim
  | some a => exact ⟨a, rfl, h⟩
end

/-! ### the weakest readings -/
@[irreducible] def tSem (X : Cx) (e : Expr) : TE := fun σ H Q => ∀ (pins : List (Addr × Obj)) (s : Shared), Inv X pins σ H s → wpAny (model X.prog X.w) X.A (eval e X.env) (EP X pins σ Q) X.xe s
@[irreducible] def tSemT (X : Cx) (e : Expr) : TT := fun σ H Q => ∀ (pins : List (Addr × Obj)) (s : Shared), Inv X pins σ H s → wpAny (model X.prog X.w) X.A (isTrue e X.env (eval e X.env)) (TP X pins σ Q) X.xe s
@[irreducible] def tSemW (X : Cx) (e : Expr) : TT := fun σ H Q => ∀ (whole : Sem Value) (pins : List (Addr × Obj)) (s : Shared), Inv X pins σ H s → wpAny (model X.prog X.w) X.A (isTrue e X.env whole) (TP X pins σ Q) X.xe s
@[irreducible] def tSemA (X : Cx) (es : List Expr) : TA := fun σ H Q => ∀ (pos : Pos) (pins : List (Addr × Obj)) (s : Shared), Inv X pins σ H s → wpAny (model X.prog X.w) X.A (spliced (backTo pos (starEach es X.env))) (AP X pins σ Q) X.xe s
section
variable {X : Cx} {e : Expr} {es : List Expr} {σ : L2.St} {H : Hp}
theorem pe_sem : PE X e (tSem X e) := fun pins s σ H Q I h => by unfold tSem at h; exact h pins s I
theorem pt_sem : PT X e (tSemT X e) := fun pins s σ H Q I h => by unfold tSemT at h; exact h pins s I
theorem pw_sem : PW X e (tSemW X e) := fun wh pins s σ H Q I h => by unfold tSemW at h; exact h wh pins s I
theorem pa_sem : PA X es (tSemA X es) := fun pos pins s σ H Q I h => by unfold tSemA at h; exact h pos pins s I
theorem sem {t : TE} {Q : VK} (h : PE X e t) (q : t σ H Q) : tSem X e σ H Q := by unfold tSem; exact fun pins s I => h pins s σ H Q I q
theorem semT {t : TT} {Q : Bool → Hp → Prop} (h : PT X e t) (q : t σ H Q) : tSemT X e σ H Q := by unfold tSemT; exact fun pins s I => h pins s σ H Q I q
theorem semW {t : TT} {Q : Bool → Hp → Prop} (h : PW X e t) (q : t σ H Q) : tSemW X e σ H Q := by unfold tSemW; exact fun wh pins s I => h wh pins s σ H Q I q
theorem semA {t : TA} {Q : List V → Hp → Prop} (h : PA X es t) (q : t σ H Q) : tSemA X es σ H Q := by unfold tSemA; exact fun pos pins s I => h pos pins s σ H Q I q
end

/-! ### operands: data, or what an own thing of a slot holds -/
def ownL (ρ : En) (i : Nat) : Option (List D) := match ρ[i]? with
  | some (some (.ol (.l ds))) => some ds
  | some (some (.op (.l ds))) => some ds
  | _ => none
theorem ownL_own {ρ : En} {i : Nat} {ds : List D} (h : ownL ρ i = some ds) : own ρ i (.l ds) := by
  unfold ownL at h
  split at h
  · rename_i q; cases h; exact .inl q
  · rename_i q; cases h; exact .inr q
  · cases h
def VO (K : Fg) (F : Hp) (σ : L2.St) (ρ : En) (v : V) (d : D) : Prop := Rep K F v d ∨ ∃ i ds, ownL ρ i = some ds ∧ σ[i]? = some (some v) ∧ d = .list ds
inductive VOs (K : Fg) (F : Hp) (σ : L2.St) (ρ : En) : List V → List D → Prop
  | nil : VOs K F σ ρ [] []
  | cons {v d vs ds} : VO K F σ ρ v d → VOs K F σ ρ vs ds → VOs K F σ ρ (v :: vs) (d :: ds)
theorem VO.mono {K : Fg} {F F' : Hp} {σ : L2.St} {ρ : En} {v : V} {d : D} (s : Same F F') (h : VO K F σ ρ v d) : VO K F' σ ρ v d := h.imp (Rep.mono s) id
theorem VOs.mono {K : Fg} {F F' : Hp} {σ : L2.St} {ρ : En} (s : Same F F') : ∀ {vs ds}, VOs K F σ ρ vs ds → VOs K F' σ ρ vs ds
  | _, _, .nil => .nil
  | _, _, .cons h t => .cons (h.mono s) (t.mono s)
/-- an operand as it stands: data, or an own list of data -/
def OR (K : Fg) (F H : Hp) (v : V) (d : D) : Prop := Rep K F v d ∨ ∃ a vs ds, v = .ref a ∧ d = .list ds ∧ H a = some (.lst vs) ∧ RepL K F vs ds
inductive ORs (K : Fg) (F H : Hp) : List V → List D → Prop
  | nil : ORs K F H [] []
  | cons {v d vs ds} : OR K F H v d → ORs K F H vs ds → ORs K F H (v :: vs) (d :: ds)
theorem VO.or {K : Fg} {G : Gh} {F H : Hp} {σ : L2.St} {ρ : En} {v : V} {d : D} (S : StOk K G F σ H ρ) (h : VO K F σ ρ v d) : OR K F H v d := by
  rcases h with h | ⟨i, ds, ho, hv, rfl⟩
  · exact .inl h
  · obtain ⟨a, e1, oa⟩ := S.ow i _ (ownL_own ho)
    rw [hv] at e1
    injection e1 with e1; injection e1 with e1
    obtain ⟨vs, h1, h2⟩ := oa.he
    exact .inr ⟨a, vs, ds, e1, rfl, h1, h2⟩
theorem VOs.ors {K : Fg} {G : Gh} {F H : Hp} {σ : L2.St} {ρ : En} (S : StOk K G F σ H ρ) : ∀ {vs ds}, VOs K F σ ρ vs ds → ORs K F H vs ds
  | _, _, .nil => .nil
  | _, _, .cons h t => .cons (h.or S) (t.ors S)
section
variable {K : Fg} {F H : Hp} {v : V} {ds : List D}
theorem OR.rep {d : D} (s : Same F H) (h : OR K F H v d) : Rep K H v d := by
  rcases h with h | ⟨a, vs, ds, rfl, rfl, h1, h2⟩
  · exact h.mono s
  · exact .lst (.inl (.inl h1)) (h2.mono s)
theorem OR.list (s : Same F H) (h : OR K F H v (.list ds)) : ∃ a vs, v = .ref a ∧ SqL K H a vs ∧ RepL K F vs ds := by
  rcases h with h | ⟨a, vs, ds', e, e2, h1, h2⟩
  · cases h with
    | lst h1 h2 => exact ⟨_, _, rfl, s.seq h1, h2⟩
  · cases e2; exact ⟨a, vs, e, .inl (.inl h1), h2⟩
theorem OR.tuple (s : Same F H) (h : OR K F H v (.tuple ds)) : ∃ a vs, v = .ref a ∧ SqT K H a vs ∧ RepL K F vs ds := by
  rcases h with h | ⟨a, vs, ds', e, e2, h1, h2⟩
  · cases h with
    | tup h1 h2 => exact ⟨_, _, rfl, sqT_mono s h1, h2⟩
  · cases e2
theorem OR.tup' (h : OR K F H v (.tuple ds)) : Rep K F v (.tuple ds) := by
  rcases h with h | ⟨a, vs, ds', e, e2, h1, h2⟩
  · exact h
  · cases e2
theorem OR.int {i : Int} (h : OR K F H v (.int i)) : v = .int i := by
  rcases h with h | ⟨a, vs, ds', e, e2, h1, h2⟩
  · cases h; rfl
  · cases e2
theorem OR.bool {i : Bool} (h : OR K F H v (.bool i)) : v = .bl i := by
  rcases h with h | ⟨a, vs, ds', e, e2, h1, h2⟩
  · cases h; rfl
  · cases e2
theorem OR.str {i : Str} (h : OR K F H v (.str i)) : v = .str i := by
  rcases h with h | ⟨a, vs, ds', e, e2, h1, h2⟩
  · cases h; rfl
  · cases e2
theorem OR.none (h : OR K F H v .none) : v = .non := by
  rcases h with h | ⟨a, vs, ds', e, e2, h1, h2⟩
  · cases h; rfl
  · cases e2
theorem ors_cons {vs : List V} {d : D} {ds : List D} (h : ORs K F H vs (d :: ds)) : ∃ v r, vs = v :: r ∧ OR K F H v d ∧ ORs K F H r ds := by
  cases h with | cons a b => exact ⟨_, _, rfl, a, b⟩
theorem ors_nil {vs : List V} (h : ORs K F H vs []) : vs = [] := by cases h; rfl
end

/-! ### pure readings -/
/-- data that may be kept -/
def AP (X : Cx) (e : Expr) (p : Pu D) : Prop :=
  ∀ (G : Gh) (F : Hp) (σ : L2.St) (H : Hp) (ρ : En) (Q : VK), StOk X.K G F σ H ρ → W X G F σ ρ (p ρ) (fun d F' H' => ∀ v, Rep X.K F' v d → Q v H') → tSem X e σ H Q
/-- an operand -/
def AO (X : Cx) (e : Expr) (p : Pu D) : Prop :=
  ∀ (G : Gh) (F : Hp) (σ : L2.St) (H : Hp) (ρ : En) (Q : VK), StOk X.K G F σ H ρ → W X G F σ ρ (p ρ) (fun d F' H' => ∀ v, VO X.K F' σ ρ v d → Q v H') → tSem X e σ H Q
def AT (X : Cx) (e : Expr) (p : Pu Bool) : Prop :=
  ∀ (G : Gh) (F : Hp) (σ : L2.St) (H : Hp) (ρ : En) (Q : Bool → Hp → Prop), StOk X.K G F σ H ρ → W X G F σ ρ (p ρ) (fun d F' H' => Q d H') → tSemT X e σ H Q
def AW (X : Cx) (e : Expr) (p : Pu Bool) : Prop :=
  ∀ (G : Gh) (F : Hp) (σ : L2.St) (H : Hp) (ρ : En) (Q : Bool → Hp → Prop), StOk X.K G F σ H ρ → W X G F σ ρ (p ρ) (fun d F' H' => Q d H') → tSemW X e σ H Q
/-- a value that is a bool -/
def AB (X : Cx) (e : Expr) (p : Pu Bool) : Prop :=
  ∀ (G : Gh) (F : Hp) (σ : L2.St) (H : Hp) (ρ : En) (Q : VK), StOk X.K G F σ H ρ → W X G F σ ρ (p ρ) (fun d F' H' => Q (.bl d) H') → tSem X e σ H Q
def AA {α : Type} (X : Cx) (es : List Expr) (m : (List D → M α) → En → M α) : Prop :=
  ∀ (G : Gh) (F : Hp) (σ : L2.St) (H : Hp) (ρ : En) (Q : List V → Hp → Prop) (k : List D → M α) (C : α → Hp → Hp → Prop), StOk X.K G F σ H ρ → W X G F σ ρ (m k ρ) C →
    (∀ ds vs F' H', Same F F' → StOk X.K G F' σ H' ρ → vs.length = es.length → RepL X.K F' vs ds → W X G F' σ ρ (k ds) C → Q vs H') → tSemA X es σ H Q
def AAo {α : Type} (X : Cx) (es : List Expr) (m : (List D → M α) → En → M α) : Prop :=
  ∀ (G : Gh) (F : Hp) (σ : L2.St) (H : Hp) (ρ : En) (Q : List V → Hp → Prop) (k : List D → M α) (C : α → Hp → Hp → Prop), StOk X.K G F σ H ρ → W X G F σ ρ (m k ρ) C →
    (∀ ds vs F' H', Same F F' → StOk X.K G F' σ H' ρ → VOs X.K F' σ ρ vs ds → W X G F' σ ρ (k ds) C → Q vs H') → tSemA X es σ H Q
/-- a list that is new and nobody's -/
def Frs (K : Fg) (G : Gh) (F : Hp) (σ : L2.St) (H : Hp) (ρ : En) (v : V) (c : OC) : Prop := ∃ a, v = .ref a ∧ OwnAt K G F H a c ∧ ∀ (i : Nat) (e : OC), own ρ i e → σ[i]? ≠ some (some (V.ref a))
def AL (X : Cx) (e : Expr) (p : Pu (List D)) : Prop :=
  ∀ (G : Gh) (F : Hp) (σ : L2.St) (H : Hp) (ρ : En) (Q : VK), StOk X.K G F σ H ρ → W X G F σ ρ (p ρ) (fun ds F' H' => ∀ v, Frs X.K G F' σ H' ρ v (.l ds) → Q v H') → tSem X e σ H Q

def pVar (i : Nat) : Pu D := fun ρ => match ρ[i]? with
  | some (some (.fz d)) => .ret d
  | _ => .bad
def pPeek (i : Nat) : Pu D := fun ρ => match ρ[i]? with
  | some (some (.ol (.l ds))) => .ret (.list ds)
  | some (some (.op (.l ds))) => .ret (.list ds)
  | _ => .bad
def pCon (d : D) : Pu D := fun _ => .ret d
def pBin (f : D → D → Option D) (a b : Pu D) : Pu D := fun ρ => bd (a ρ) fun x => bd (b ρ) fun y => oM (f x y)
def pBinL (f : D → D → Option (List D)) (a b : Pu D) : Pu (List D) := fun ρ => bd (a ρ) fun x => bd (b ρ) fun y => oM (f x y)
def pBinB (f : D → D → Option Bool) (a b : Pu D) : Pu Bool := fun ρ => bd (a ρ) fun x => bd (b ρ) fun y => oM (f x y)
def pUn (f : D → Option D) (a : Pu D) : Pu D := fun ρ => bd (a ρ) fun x => oM (f x)
abbrev Pa (α : Type) := (List D → M α) → En → M α
def pNil {α : Type} : Pa α := fun k _ => k []
def pCons {α : Type} (a : Pu D) (r : Pa α) : Pa α := fun k ρ => bd (a ρ) fun x => r (fun xs => k (x :: xs)) ρ
def fitM {S : Type} (ds : List S) : M (List S) := if ds.length ≤ sizeLine then .ret ds else .bad
def pTup (ps : Pa D) : Pu D := fun ρ => ps (fun ds => .ret (.tuple ds)) ρ
def pLst (ps : Pa (List D)) : Pu (List D) := fun ρ => ps (fun ds => .ret ds) ρ
theorem le1000 {n : Nat} (h : n ≤ 1000) : n ≤ sizeLine := Nat.le_trans h (by decide)
def pCall (f : List D → Option D) (ps : Pa D) : Pu D := fun ρ => ps (fun ds => oM (f ds)) ρ
def pCallB (f : List D → Option Bool) (ps : Pa Bool) : Pu Bool := fun ρ => ps (fun ds => oM (f ds)) ρ
def pCallL (f : List D → Option (List D)) (ps : Pa (List D)) : Pu (List D) := fun ρ => ps (fun ds => oM (f ds)) ρ
def pB (p : Pu Bool) : Pu D := fun ρ => bd (p ρ) fun b => .ret (.bool b)
/-- a new list as data -/
def pZ (p : Pu (List D)) : Pu D := fun ρ => bd (p ρ) fun ds => .ret (.list ds)
def asB (d : D) : M Bool := match d with
  | .bool b => .ret b
  | _ => .bad
def pAsB (p : Pu D) : Pu Bool := fun ρ => bd (p ρ) asB
def truD : D → Option Bool
  | .none => some false
  | .bool b => some b
  | .int i => some (i != 0)
  | .str x => if x.length ≤ sizeLine then some ((x.length : Int) != 0) else none
  | .list ds => some (!ds.isEmpty)
  | .tuple ds => some (!ds.isEmpty)
  | .dict _ => none
def pTru (p : Pu D) : Pu Bool := fun ρ => bd (p ρ) fun d => oM (truD d)
def pAnd (a b : Pu Bool) : Pu Bool := fun ρ => bd (a ρ) fun t => if t then b ρ else .ret false
def pOr (a b : Pu Bool) : Pu Bool := fun ρ => bd (a ρ) fun t => if t then .ret true else b ρ
def pNot (a : Pu Bool) : Pu Bool := fun ρ => bd (a ρ) fun t => .ret (!t)
def pIf {α : Type} (c : Pu Bool) (a b : Pu α) : Pu α := fun ρ => bd (c ρ) fun t => if t then a ρ else b ρ

/-- what a two-place operation does to data -/
def OpD (K : Fg) (r : R2) (f : D → D → Option D) : Prop :=
  ∀ (G : Gh) (F : Hp) (σ : L2.St) (H : Hp) (ρ : En) (x y : V) (dx dy : D) (res : D) (Q : VK), StOk K G F σ H ρ → OR K F H x dx → OR K F H y dy → f dx dy = some res →
    (∀ v F' H', Same F F' → StOk K G F' σ H' ρ → Rep K F' v res → Q v H') → r x y H Q
def OpL (K : Fg) (r : R2) (f : D → D → Option (List D)) : Prop :=
  ∀ (G : Gh) (F : Hp) (σ : L2.St) (H : Hp) (ρ : En) (x y : V) (dx dy : D) (res : List D) (Q : VK), StOk K G F σ H ρ → OR K F H x dx → OR K F H y dy → f dx dy = some res →
    (∀ v F' H', Same F F' → StOk K G F' σ H' ρ → Frs K G F' σ H' ρ v (.l res) → Q v H') → r x y H Q
def OpB (K : Fg) (r : R2) (f : D → D → Option Bool) : Prop :=
  ∀ (G : Gh) (F : Hp) (σ : L2.St) (H : Hp) (ρ : En) (x y : V) (dx dy : D) (res : Bool) (Q : VK), StOk K G F σ H ρ → OR K F H x dx → OR K F H y dy → f dx dy = some res → Q (.bl res) H → r x y H Q
def UnD (K : Fg) (r : V → Hp → VK → Prop) (f : D → Option D) : Prop :=
  ∀ (G : Gh) (F : Hp) (σ : L2.St) (H : Hp) (ρ : En) (x : V) (dx : D) (res : D) (Q : VK), StOk K G F σ H ρ → OR K F H x dx → f dx = some res →
    (∀ v F' H', Same F F' → StOk K G F' σ H' ρ → Rep K F' v res → Q v H') → r x H Q
def CallD (K : Fg) (r : List V → Hp → VK → Prop) (f : List D → Option D) : Prop :=
  ∀ (G : Gh) (F : Hp) (σ : L2.St) (H : Hp) (ρ : En) (xs : List V) (ds : List D) (res : D) (Q : VK), StOk K G F σ H ρ → ORs K F H xs ds → f ds = some res →
    (∀ v F' H', Same F F' → StOk K G F' σ H' ρ → Rep K F' v res → Q v H') → r xs H Q
def CallBo (K : Fg) (r : List V → Hp → VK → Prop) (f : List D → Option Bool) : Prop :=
  ∀ (G : Gh) (F : Hp) (σ : L2.St) (H : Hp) (ρ : En) (xs : List V) (ds : List D) (res : Bool) (Q : VK), StOk K G F σ H ρ → ORs K F H xs ds → f ds = some res → Q (.bl res) H → r xs H Q
def CallL (K : Fg) (r : List V → Hp → VK → Prop) (f : List D → Option (List D)) : Prop :=
  ∀ (G : Gh) (F : Hp) (σ : L2.St) (H : Hp) (ρ : En) (xs : List V) (ds : List D) (res : List D) (Q : VK), StOk K G F σ H ρ → ORs K F H xs ds → f ds = some res →
    (∀ v F' H', Same F F' → StOk K G F' σ H' ρ → Frs K G F' σ H' ρ v (.l res) → Q v H') → r xs H Q

section
variable {X : Cx} {e a b c : Expr} {es rest : List Expr} {p pa pb : Pu D} {ta tb tc : Pu Bool} {ps : Pa D} {pb' : Pa Bool} {pl : Pa (List D)} {α : Type} {pα : Pa α} {qs : Pu (List D)} {pos : Pos}
theorem ap_var {i : Nat} {x : Str} (hN : X.N[i]? = some x) (hv : Vis X.env.scope x) (hd : (x == ("__debug__" : Str)) = false := by decide) (hcd : (x == ("__classdict__" : Str)) = false := by decide) : AP X (.Name x pos) (pVar i) :=
  fun G F σ H ρ Q S w => sem (pe_var hN hv hd hcd) <| by
    unfold pVar at w
    split at w
    · rename_i d q
      obtain ⟨v, e1, r1⟩ := S.fz i d q
      exact ⟨v, e1, w F H (Same.refl _) S v r1⟩
    · exact w.elim
theorem ao_peek {i : Nat} {x : Str} (hN : X.N[i]? = some x) (hv : Vis X.env.scope x) (hd : (x == ("__debug__" : Str)) = false := by decide) (hcd : (x == ("__classdict__" : Str)) = false := by decide) : AO X (.Name x pos) (pPeek i) :=
  fun G F σ H ρ Q S w => sem (pe_var hN hv hd hcd) <| by
    have go : ∀ ds, ownL ρ i = some ds → W X G F σ ρ (.ret (.list ds)) (fun d F' H' => ∀ v, VO X.K F' σ ρ v d → Q v H') → tVar i σ H Q := fun ds ho w => by
      obtain ⟨a, e1, oa⟩ := S.ow i _ (ownL_own ho)
      exact ⟨_, e1, w F H (Same.refl _) S _ (.inr ⟨i, ds, ho, e1, rfl⟩)⟩
    unfold pPeek at w
    split at w
    · rename_i ds q; exact go ds (by unfold ownL; rw [q]) w
    · rename_i ds q; exact go ds (by unfold ownL; rw [q]) w
    · exact w.elim
theorem ao (h : AP X e p) : AO X e p := fun G F σ H ρ Q S w => h G F σ H ρ Q S (w.imp fun d F' H' _ _ q v r => q v (.inl r))
theorem ap_con {v : V} {d : D} (h : PE X e (tC v)) (r : ∀ F, Rep X.K F v d) : AP X e (pCon d) :=
  fun G F σ H ρ Q S w => sem h (w F H (Same.refl _) S v (r F))
theorem ap_int {i j} : AP X (.Constant (.int i) j pos) (pCon (.int i)) := ap_con pe_int fun _ => .int _
theorem ap_bl {i j} : AP X (.Constant (.bool i) j pos) (pCon (.bool i)) := ap_con pe_bl fun _ => .bl _
theorem ap_str {i j} : AP X (.Constant (.str i) j pos) (pCon (.str i)) := ap_con pe_str fun _ => .str _
theorem ap_non {j} : AP X (.Constant .none j pos) (pCon .none) := ap_con pe_non fun _ => .non
theorem bin_go {r : R2} {Q : VK} {G : Gh} {F H : Hp} {σ : L2.St} {ρ : En} {α : Type} {f : D → D → M α} {C : α → Hp → Hp → Prop} (ha : AO X a pa) (hb : AO X b pb) (S : StOk X.K G F σ H ρ) (w : W X G F σ ρ (bd (pa ρ) fun x => bd (pb ρ) fun y => f x y) C)
    (k : ∀ x y dx dy F' H', Same F F' → StOk X.K G F' σ H' ρ → OR X.K F' H' x dx → OR X.K F' H' y dy → W X G F' σ ρ (f dx dy) C → r x y H' Q) : tOp r (tSem X a) (tSem X b) σ H Q :=
  ha G F σ H ρ _ S (w.bind.imp fun dx F1 H1 s1 S1 w1 x hx => hb G F1 σ H1 ρ _ S1 (w1.bind.imp fun dy F2 H2 s2 S2 w2 y hy => k x y dx dy F2 H2 (s1.trans s2) S2 ((hx.mono s2).or S2) (hy.or S2) w2))
theorem ap_bin {op : Operator} {r : R2} {f : D → D → Option D} (ho : OpR X (binaryOp op) r) (hf : OpD X.K r f) (ha : AO X a pa) (hb : AO X b pb) : AP X (.BinOp a op b pos) (pBin f pa pb) :=
  fun G F σ H ρ Q S w => sem (pe_op ho pe_sem pe_sem) (bin_go ha hb S w fun x y dx dy F' H' s' S' hx hy w' => by
    obtain ⟨res, e, k⟩ := w'.opt
    exact hf G F' σ H' ρ x y dx dy res Q S' hx hy e fun v F2 H2 s2 S2 r2 => k F2 H2 s2 S2 v r2)
theorem al_bin {op : Operator} {r : R2} {f : D → D → Option (List D)} (ho : OpR X (binaryOp op) r) (hf : OpL X.K r f) (ha : AO X a pa) (hb : AO X b pb) : AL X (.BinOp a op b pos) (pBinL f pa pb) :=
  fun G F σ H ρ Q S w => sem (pe_op ho pe_sem pe_sem) (bin_go ha hb S w fun x y dx dy F' H' s' S' hx hy w' => by
    obtain ⟨res, e, k⟩ := w'.opt
    exact hf G F' σ H' ρ x y dx dy res Q S' hx hy e fun v F2 H2 s2 S2 r2 => k F2 H2 s2 S2 v r2)
theorem ap_ix {r : R2} {f : D → D → Option D} (hr : IxR X r) (hf : OpD X.K r f) (ha : AO X a pa) (hb : AO X b pb) (hs : PlainIx b) : AP X (.Subscript a b pos) (pBin f pa pb) :=
  fun G F σ H ρ Q S w => sem (pe_ix hr pe_sem pe_sem hs) (bin_go ha hb S w fun x y dx dy F' H' s' S' hx hy w' => by
    obtain ⟨res, e, k⟩ := w'.opt
    exact hf G F' σ H' ρ x y dx dy res Q S' hx hy e fun v F2 H2 s2 S2 r2 => k F2 H2 s2 S2 v r2)
theorem ab_cmp {op : CmpOp} {r : R2} {f : D → D → Option Bool} (ho : OpR X (compareOp op) r) (hf : OpB X.K r f) (ha : AO X a pa) (hb : AO X b pb) (hm : behindInMarks op b = false) : AB X (.Compare a [op] [b] pos) (pBinB f pa pb) :=
  fun G F σ H ρ Q S w => sem (pe_cmpR ho pe_sem pe_sem hm) (bin_go ha hb S w fun x y dx dy F' H' s' S' hx hy w' => by
    obtain ⟨res, e, k⟩ := w'.opt
    exact hf G F' σ H' ρ x y dx dy res Q S' hx hy e (k F' H' (Same.refl _) S'))
theorem at_cmp {op : CmpOp} {r : R2} {f : D → D → Option Bool} (ho : OpR X (compareOp op) r) (hf : OpB X.K r f) (ha : AO X a pa) (hb : AO X b pb) (hm : behindInMarks op b = false) : AT X (.Compare a [op] [b] pos) (pBinB f pa pb) :=
  fun G F σ H ρ Q S w => semT (pt_cmpR ho pe_sem pe_sem hm) (bin_go (Q := fun x H' => ∃ k, x = .bl k ∧ Q k H') ha hb S w fun x y dx dy F' H' s' S' hx hy w' => by
    obtain ⟨res, e, k⟩ := w'.opt
    exact hf G F' σ H' ρ x y dx dy res _ S' hx hy e ⟨res, rfl, k F' H' (Same.refl _) S'⟩)
theorem ap_b (h : AB X e ta) : AP X e (pB ta) := fun G F σ H ρ Q S w => h G F σ H ρ Q S (w.bind.imp fun b F' H' s1 S1 w1 => w1 F' H' (Same.refl _) S1 _ (.bl b))
theorem ap_un {op : UnaryOp} {r : V → Hp → VK → Prop} {f : D → Option D} (ho : UnR X (unaryOp op) r) (hf : UnD X.K r f) (ha : AO X a pa) : AP X (.UnaryOp op a pos) (pUn f pa) :=
  fun G F σ H ρ Q S w => sem (pe_un ho pe_sem) (ha G F σ H ρ _ S (w.bind.imp fun dx F1 H1 s1 S1 w1 x hx => by
    obtain ⟨res, e, k⟩ := w1.opt
    exact hf G F1 σ H1 ρ x dx res Q S1 (hx.or S1) e fun v F2 H2 s2 S2 r2 => k F2 H2 s2 S2 v r2))
/-- what was made a list, as data -/
theorem ap_z (h : AL X e qs) : AP X e (pZ qs) := fun G F σ H ρ Q S w => h G F σ H ρ Q S (w.bind.imp fun ds F' H' s1 S1 w1 v fr => by
  obtain ⟨F2, s2, S2, r2⟩ := S1.settle (v := v) (ds := ds) fr
  exact w1 F2 H' s2 S2 v r2)
theorem aa_nil : AA (α := α) X [] pNil := fun G F σ H ρ Q k C S w kk => semA pa_nil (kk [] [] F H (Same.refl _) S rfl .nil w)
theorem aa_cons (h : AP X e p) (hr : AA X es pα) (hs : starEach (e :: es) X.env = (false, eval e X.env) :: starEach es X.env) : AA X (e :: es) (pCons p pα) :=
  fun G F σ H ρ Q k C S w kk => semA (pa_cons pe_sem pa_sem hs) (h G F σ H ρ _ S (w.bind.imp fun d F1 H1 s1 S1 w1 v r1 =>
    hr G F1 σ H1 ρ _ _ C S1 w1 fun ds vs F2 H2 s2 S2 hl r2 w2 => kk (d :: ds) (v :: vs) F2 H2 (s1.trans s2) S2 (by simp [hl]) (.cons (r1.mono s2) r2) w2))
theorem aao_nil : AAo (α := α) X [] pNil := fun G F σ H ρ Q k C S w kk => semA pa_nil (kk [] [] F H (Same.refl _) S .nil w)
theorem aao_cons (h : AO X e p) (hr : AAo X es pα) (hs : starEach (e :: es) X.env = (false, eval e X.env) :: starEach es X.env) : AAo X (e :: es) (pCons p pα) :=
  fun G F σ H ρ Q k C S w kk => semA (pa_cons pe_sem pa_sem hs) (h G F σ H ρ _ S (w.bind.imp fun d F1 H1 s1 S1 w1 v r1 =>
    hr G F1 σ H1 ρ _ _ C S1 w1 fun ds vs F2 H2 s2 S2 r2 w2 => kk (d :: ds) (v :: vs) F2 H2 (s1.trans s2) S2 (.cons (r1.mono s2) r2) w2))
theorem W.fit {α : Type} {G : Gh} {F : Hp} {σ : L2.St} {ρ : En} {ds : List α} {C : List α → Hp → Hp → Prop} (h : W X G F σ ρ (fitM ds) C) : ds.length ≤ sizeLine ∧ ∀ F' H', Same F F' → StOk X.K G F' σ H' ρ → C ds F' H' := by
  unfold fitM at h
  split at h
  · exact ⟨by assumption, h⟩
  · exact h.elim
theorem ap_tup {x1} (h : AA X es ps) (hz : es.length ≤ 1000) : AP X (.Tuple es x1 pos) (pTup ps) :=
  fun G F σ H ρ Q S w => sem (pe_tup pa_sem) (h G F σ H ρ _ _ _ S w fun ds vs F1 H1 s1 S1 hl r1 w1 => by
    refine ⟨by rw [hl]; exact le1000 hz, fun q hq => ?_⟩
    obtain ⟨s2, S2, r2⟩ := S1.newTup hq r1
    exact w1 _ _ s2 S2 _ r2)
theorem al_lst (h : AA X es pl) (hz : es.length ≤ 1000) : AL X (.List es pos) (pLst pl) :=
  fun G F σ H ρ Q S w => sem (pe_lst pa_sem) (h G F σ H ρ _ _ _ S w fun ds vs F1 H1 s1 S1 hl r1 w1 => by
    refine ⟨by rw [hl]; exact le1000 hz, fun q hq => ?_⟩
    obtain ⟨S2, r2⟩ := S1.newLst hq r1
    exact w1 _ _ (Same.refl _) S2 _ r2)
theorem call_go {r : List V → Hp → VK → Prop} {Q : VK} {G : Gh} {F H : Hp} {σ : L2.St} {ρ : En} {f : List D → M α} {C : α → Hp → Hp → Prop} (ha : AAo X es pα) (S : StOk X.K G F σ H ρ) (w : W X G F σ ρ (pα f ρ) C)
    (k : ∀ xs ds F' H', Same F F' → StOk X.K G F' σ H' ρ → ORs X.K F' H' xs ds → W X G F' σ ρ (f ds) C → r xs H' Q) : tCB r (tSemA X es) σ H Q :=
  ha G F σ H ρ _ _ C S w fun ds xs F1 H1 s1 S1 hx w1 => k xs ds F1 H1 s1 S1 (hx.ors S1) w1
/-- f(..), f a built-in function -/
theorem ap_callB {x : Str} {p : Pos} {id : String} {r : List V → Hp → VK → Prop} {f : List D → Option D} (hc : CallR X (.builtin id) r) (hf : CallD X.K r f) (hg : Gl X x) (hm : X.mg x = none) (hv : bootBuiltins x = some (.builtin id)) (ha : AAo X (e :: es) ps)
    (hn : x ≠ "__name__") (hdb : (x == ("__debug__" : Str)) = false) (he : starEach (e :: es) X.env = (false, eval e X.env) :: starEach es X.env) (hpl : (backTo pos (starEach es X.env)).any (·.1) = false) : AP X (.Call (.Name x p) (e :: es) [] pos) (pCall f ps) :=
  fun G F σ H ρ Q S w => sem (pe_callB hc hg hm hv pa_sem hn hdb he hpl) (call_go ha S w fun xs ds F' H' s' S' hx w' => by
    obtain ⟨res, e, k⟩ := w'.opt
    exact hf G F' σ H' ρ xs ds res Q S' hx e fun v F2 H2 s2 S2 r2 => k F2 H2 s2 S2 v r2)
theorem al_callB {x : Str} {p : Pos} {id : String} {r : List V → Hp → VK → Prop} {f : List D → Option (List D)} (hc : CallR X (.builtin id) r) (hf : CallL X.K r f) (hg : Gl X x) (hm : X.mg x = none) (hv : bootBuiltins x = some (.builtin id)) (ha : AAo X (e :: es) pl)
    (hn : x ≠ "__name__") (hdb : (x == ("__debug__" : Str)) = false) (he : starEach (e :: es) X.env = (false, eval e X.env) :: starEach es X.env) (hpl : (backTo pos (starEach es X.env)).any (·.1) = false) : AL X (.Call (.Name x p) (e :: es) [] pos) (pCallL f pl) :=
  fun G F σ H ρ Q S w => sem (pe_callB hc hg hm hv pa_sem hn hdb he hpl) (call_go ha S w fun xs ds F' H' s' S' hx w' => by
    obtain ⟨res, e, k⟩ := w'.opt
    exact hf G F' σ H' ρ xs ds res Q S' hx e fun v F2 H2 s2 S2 r2 => k F2 H2 s2 S2 v r2)
theorem ab_callB {x : Str} {p : Pos} {id : String} {r : List V → Hp → VK → Prop} {f : List D → Option Bool} (hc : CallR X (.builtin id) r) (hf : CallBo X.K r f) (hg : Gl X x) (hm : X.mg x = none) (hv : bootBuiltins x = some (.builtin id)) (ha : AAo X (e :: es) pb')
    (hn : x ≠ "__name__") (hdb : (x == ("__debug__" : Str)) = false) (he : starEach (e :: es) X.env = (false, eval e X.env) :: starEach es X.env) (hpl : (backTo pos (starEach es X.env)).any (·.1) = false) : AB X (.Call (.Name x p) (e :: es) [] pos) (pCallB f pb') :=
  fun G F σ H ρ Q S w => sem (pe_callB hc hg hm hv pa_sem hn hdb he hpl) (call_go ha S w fun xs ds F' H' s' S' hx w' => by
    obtain ⟨res, e, k⟩ := w'.opt
    exact hf G F' σ H' ρ xs ds res Q S' hx e (k F' H' (Same.refl _) S'))
theorem ap_callTy {x : Str} {p : Pos} {T : String} {r : List V → Hp → VK → Prop} {f : List D → Option D} (hc : CallR X (.type T) r) (hf : CallD X.K r f) (hg : Gl X x) (hm : X.mg x = none) (hv : bootBuiltins x = some (.type T)) (ha : AAo X (e :: es) ps)
    (hn : x ≠ "__name__") (hdb : (x == ("__debug__" : Str)) = false) (he : starEach (e :: es) X.env = (false, eval e X.env) :: starEach es X.env) (hpl : (backTo pos (starEach es X.env)).any (·.1) = false) : AP X (.Call (.Name x p) (e :: es) [] pos) (pCall f ps) :=
  fun G F σ H ρ Q S w => sem (pe_callTy hc hg hm hv pa_sem hn hdb he hpl) (call_go ha S w fun xs ds F' H' s' S' hx w' => by
    obtain ⟨res, e, k⟩ := w'.opt
    exact hf G F' σ H' ρ xs ds res Q S' hx e fun v F2 H2 s2 S2 r2 => k F2 H2 s2 S2 v r2)
theorem al_callTy {x : Str} {p : Pos} {T : String} {r : List V → Hp → VK → Prop} {f : List D → Option (List D)} (hc : CallR X (.type T) r) (hf : CallL X.K r f) (hg : Gl X x) (hm : X.mg x = none) (hv : bootBuiltins x = some (.type T)) (ha : AAo X (e :: es) pl)
    (hn : x ≠ "__name__") (hdb : (x == ("__debug__" : Str)) = false) (he : starEach (e :: es) X.env = (false, eval e X.env) :: starEach es X.env) (hpl : (backTo pos (starEach es X.env)).any (·.1) = false) : AL X (.Call (.Name x p) (e :: es) [] pos) (pCallL f pl) :=
  fun G F σ H ρ Q S w => sem (pe_callTy hc hg hm hv pa_sem hn hdb he hpl) (call_go ha S w fun xs ds F' H' s' S' hx w' => by
    obtain ⟨res, e, k⟩ := w'.opt
    exact hf G F' σ H' ρ xs ds res Q S' hx e fun v F2 H2 s2 S2 r2 => k F2 H2 s2 S2 v r2)

/-! ### tests -/
theorem isEmpty_repL {K : Fg} {F : Hp} {vs : List V} {ds : List D} (h : RepL K F vs ds) : (!vs.isEmpty) = !ds.isEmpty := by cases h <;> rfl
theorem at_tru (ha : AO X a pa) (he : ∀ whole, isTrue a X.env whole = (do let v ← whole; standAt a.pos; holding [v] (truthy v))) : AT X a (pTru pa) :=
  fun G F σ H ρ Q S w => semT (pt_truth pe_sem he) (ha G F σ H ρ _ S (w.bind.imp fun x F1 H1 s1 S1 w1 v hv => by
    obtain ⟨bb, hb, k⟩ := w1.opt
    refine ⟨bb, ?_, k F1 H1 (Same.refl _) S1⟩
    have o := hv.or S1
    cases x with
    | none => rw [o.none]; cases hb; exact rfl
    | bool i => rw [o.bool]; cases hb; exact rfl
    | int i => rw [o.int]; cases hb; exact rfl
    | str i =>
      rw [o.str]
      unfold truD at hb
      dsimp only at hb
      split at hb
      · rename_i hl; cases hb; exact ⟨hl, rfl⟩
      · cases hb
    | list ds => obtain ⟨a, vs, rfl, h1, h2⟩ := o.list S1.fh; cases hb; exact .inl ⟨vs, h1, (isEmpty_repL h2).symm⟩
    | tuple ds => obtain ⟨a, vs, rfl, h1, h2⟩ := o.tuple S1.fh; cases hb; exact .inr (.inl ⟨vs, h1, (isEmpty_repL h2).symm⟩)
    | dict ds => cases hb))
theorem at_b (ha : AB X a ta) (he : ∀ whole, isTrue a X.env whole = (do let v ← whole; standAt a.pos; holding [v] (truthy v))) : AT X a ta :=
  fun G F σ H ρ Q S w => semT (pt_truth pe_sem he) (ha G F σ H ρ _ S (w.imp fun x F1 H1 s1 S1 w1 => ⟨x, rfl, w1⟩))
theorem aw_and1 (ha : AT X a ta) : AW X (.BoolOp .And [a] pos) ta := fun G F σ H ρ Q S w => semW (pw_and1 pt_sem) (ha G F σ H ρ Q S w)
theorem aw_or1 (ha : AT X a ta) : AW X (.BoolOp .Or [a] pos) ta := fun G F σ H ρ Q S w => semW (pw_or1 pt_sem) (ha G F σ H ρ Q S w)
theorem aw_and (ha : AT X a ta) (hb : AW X (.BoolOp .And (b :: rest) pos) tb) : AW X (.BoolOp .And (a :: b :: rest) pos) (pAnd ta tb) :=
  fun G F σ H ρ Q S w => semW (pw_and pt_sem pw_sem) (ha G F σ H ρ _ S (w.bind.imp fun t F1 H1 s1 S1 w1 => by
    cases t with
    | true => refine iteT ?_; exact hb G F1 σ H1 ρ Q S1 w1
    | false => refine iteF ?_; exact w1 F1 H1 (Same.refl _) S1))
theorem aw_or (ha : AT X a ta) (hb : AW X (.BoolOp .Or (b :: rest) pos) tb) : AW X (.BoolOp .Or (a :: b :: rest) pos) (pOr ta tb) :=
  fun G F σ H ρ Q S w => semW (pw_or pt_sem pw_sem) (ha G F σ H ρ _ S (w.bind.imp fun t F1 H1 s1 S1 w1 => by
    cases t with
    | true => refine iteT ?_; exact w1 F1 H1 (Same.refl _) S1
    | false => refine iteF ?_; exact hb G F1 σ H1 ρ Q S1 w1))
theorem at_aw (h : AW X e ta) : AT X e ta := fun G F σ H ρ Q S w => semT (fun pins s σ H Q I h => pw_sem _ pins s σ H Q I h) (h G F σ H ρ Q S w)
theorem at_not (ha : AT X a ta) : AT X (.UnaryOp .Not a pos) (pNot ta) :=
  fun G F σ H ρ Q S w => semT (pt_not pt_sem) (ha G F σ H ρ _ S (w.bind.imp fun t F1 H1 s1 S1 w1 => w1 F1 H1 (Same.refl _) S1))
/-- bools as values -/
theorem ab_as (h : AP X a pa) : AB X a (pAsB pa) := fun G F σ H ρ Q S w => h G F σ H ρ Q S (w.bind.imp fun d F1 H1 s1 S1 w1 v r => by
  cases r with
  | bl b => exact w1 F1 H1 (Same.refl _) S1
  | non => exact w1.elim
  | int i => exact w1.elim
  | str i => exact w1.elim
  | tup _ _ => exact w1.elim
  | lst _ _ => exact w1.elim)
theorem ab_one {op} (h : AB X a ta) : AB X (.BoolOp op [a] pos) ta := fun G F σ H ρ Q S w => sem (pe_one pe_sem) (h G F σ H ρ Q S w)
theorem ab_and (ha : AB X a ta) (hb : AB X (.BoolOp .And (b :: rest) pos) tb) : AB X (.BoolOp .And (a :: b :: rest) pos) (pAnd ta tb) :=
  fun G F σ H ρ Q S w => sem (pe_and pe_sem pe_sem) (ha G F σ H ρ _ S (w.bind.imp fun t F1 H1 s1 S1 w1 => ⟨t, rfl, by
    cases t with
    | true => refine iteT ?_; exact hb G F1 σ H1 ρ Q S1 w1
    | false => refine iteF ?_; exact w1 F1 H1 (Same.refl _) S1⟩))
theorem ab_or (ha : AB X a ta) (hb : AB X (.BoolOp .Or (b :: rest) pos) tb) : AB X (.BoolOp .Or (a :: b :: rest) pos) (pOr ta tb) :=
  fun G F σ H ρ Q S w => sem (pe_or pe_sem pe_sem) (ha G F σ H ρ _ S (w.bind.imp fun t F1 H1 s1 S1 w1 => ⟨t, rfl, by
    cases t with
    | true => refine iteT ?_; exact w1 F1 H1 (Same.refl _) S1
    | false => refine iteF ?_; exact hb G F1 σ H1 ρ Q S1 w1⟩))
theorem ab_not (ha : AB X a ta) : AB X (.UnaryOp .Not a pos) (pNot ta) :=
  fun G F σ H ρ Q S w => sem (pe_not pe_sem) (ha G F σ H ρ _ S (w.bind.imp fun t F1 H1 s1 S1 w1 => ⟨t, rfl, w1 F1 H1 (Same.refl _) S1⟩))
theorem ap_if (hc : AT X c tc) (ha : AP X a pa) (hb : AP X b pb) : AP X (.IfExp c a b pos) (pIf tc pa pb) :=
  fun G F σ H ρ Q S w => sem (pe_ifExp pt_sem pe_sem pe_sem) (hc G F σ H ρ _ S (w.bind.imp fun t F1 H1 s1 S1 w1 => by
    cases t with
    | true => refine iteT ?_; exact ha G F1 σ H1 ρ Q S1 w1
    | false => refine iteF ?_; exact hb G F1 σ H1 ρ Q S1 w1))
theorem ab_if (hc : AT X c tc) (ha : AB X a ta) (hb : AB X b tb) : AB X (.IfExp c a b pos) (pIf tc ta tb) :=
  fun G F σ H ρ Q S w => sem (pe_ifExp pt_sem pe_sem pe_sem) (hc G F σ H ρ _ S (w.bind.imp fun t F1 H1 s1 S1 w1 => by
    cases t with
    | true => refine iteT ?_; exact ha G F1 σ H1 ρ Q S1 w1
    | false => refine iteF ?_; exact hb G F1 σ H1 ρ Q S1 w1))
theorem al_if {qa qb : Pu (List D)} (hc : AT X c tc) (ha : AL X a qa) (hb : AL X b qb) : AL X (.IfExp c a b pos) (pIf tc qa qb) :=
  fun G F σ H ρ Q S w => sem (pe_ifExp pt_sem pe_sem pe_sem) (hc G F σ H ρ _ S (w.bind.imp fun t F1 H1 s1 S1 w1 => by
    cases t with
    | true => refine iteT ?_; exact ha G F1 σ H1 ρ Q S1 w1
    | false => refine iteF ?_; exact hb G F1 σ H1 ρ Q S1 w1))
end
end L4

set_option Elab.async false
set_option linter.all false
set_option maxRecDepth 100000
namespace L4
open PySem PySem.Spec PyProof.Rows L2 L3

/-! ### ints -/
def mulOk (i j : Int) : Bool := (decide (-(2 ^ 64) < i) && decide (i < 2 ^ 64)) || (decide (-(2 ^ 64) < j) && decide (j < 2 ^ 64))
def opAdd : D → D → Option D
  | .int i, .int j => some (.int (i + j))
  | .str a, .str b => if a.length + b.length ≤ sizeLine then some (.str (a ++ b)) else none
  | .tuple a, .tuple b => if a.length + b.length ≤ sizeLine then some (.tuple (a ++ b)) else none
  | .list a, .list b => if a.length + b.length ≤ sizeLine then some (.list (a ++ b)) else none
  | _, _ => none
def opAddL : D → D → Option (List D)
  | .list a, .list b => if a.length + b.length ≤ sizeLine then some (a ++ b) else none
  | _, _ => none
def opSub : D → D → Option D
  | .int i, .int j => some (.int (i - j))
  | _, _ => none
def opMul : D → D → Option D
  | .int i, .int j => if mulOk i j then some (.int (i * j)) else none
  | .list a, .int k => if decide (-(2 ^ 63) ≤ k) && decide (k < 2 ^ 63) && decide (a.length * k.toNat ≤ sizeLine) then some (.list (List.replicate k.toNat a).flatten) else none
  | _, _ => none
def opMulI : D → D → Option D
  | .int i, .int j => if mulOk i j then some (.int (i * j)) else none
  | _, _ => none
def opMulL : D → D → Option (List D)
  | .list a, .int k => if decide (-(2 ^ 63) ≤ k) && decide (k < 2 ^ 63) && decide (a.length * k.toNat ≤ sizeLine) then some (List.replicate k.toNat a).flatten else none
  | _, _ => none
def opDiv : D → D → Option D
  | .int i, .int j => if decide (0 < j) && decide (j < 1073741824) then some (.int (i / j)) else none
  | _, _ => none
def opMod : D → D → Option D
  | .int i, .int j => if 0 < j then some (.int (i % j)) else none
  | _, _ => none
def opPow : D → D → Option D
  | .int i, .int j => if decide (0 ≤ j) && decide (j ≤ 1000000) && decide (i.natAbs < 2 ^ 64) then some (.int (i ^ j.toNat)) else none
  | _, _ => none
def opNeg : D → Option D
  | .int i => some (.int (-i))
  | _ => none
def opLt : D → D → Option Bool
  | .int i, .int j => some (decide (i < j))
  | _, _ => none
def opLe : D → D → Option Bool
  | .int i, .int j => some (decide (i ≤ j))
  | _, _ => none
def opGt : D → D → Option Bool
  | .int i, .int j => some (decide (j < i))
  | _, _ => none
def opGe : D → D → Option Bool
  | .int i, .int j => some (decide (j ≤ i))
  | _, _ => none

/-- t + u, any tuples -/
def rCat0 (K : Fg) : R2 := fun x y H Q => ∃ a b xs ys, x = .ref a ∧ y = .ref b ∧ SqT K H a xs ∧ SqT K H b ys ∧ xs.length + ys.length ≤ sizeLine ∧
  (xs = [] → Q (.ref b) H) ∧ (xs ≠ [] → ys = [] → Q (.ref a) H) ∧ (xs ≠ [] → ys ≠ [] → ∀ p, H p = none → Q (.ref p) (upd H p (.tup (xs ++ ys))))
theorem op_cat0 {X : Cx} : OpR X (binaryOp .Add) (rCat0 X.K) := by
  intro pins s σ H x y v u Q I rx ry h
  obtain ⟨a, b, xs, ys, rfl, rfl, ha, hb, hz, q0, q1, q2⟩ := h
  by_cases hx : xs = []
  · cases rx
    cases ry
    obtain ⟨its, r1, p1, _⟩ := I.tuple ha
    obtain ⟨its2, r2, p2, _⟩ := I.tuple hb
    have hv : its = [] := r1.nil_iff.mpr hx
    obtain ⟨⟨cls, dd, data, sl⟩, ho, hc, n, hd⟩ := id p1
    obtain ⟨⟨cls2, dd2, data2, sl2⟩, ho2, hc2, n2, hd2⟩ := id p2
    simp only at hc hd hc2 hd2
    subst hc hd hc2 hd2
    exact concat_meets ⟨_, ho, rfl⟩ ⟨_, ho2, rfl⟩ noFill_tuple_add seq_tuple_add PySem.F.slot_tuple_add PySem.F.entry_tuple_add (PySem.F.args_tuple_add_2 _ _)
      (tuple_addW0 a b its.toArray its2.toArray n n2 dd dd2 sl sl2 (by simp [hv])) ⟨ho, ho2, ⟨.ref b, H, I, rfl, q0 hx⟩⟩
  · exact op_catT pins s σ H _ _ v u Q I rx ry ⟨a, b, xs, ys, rfl, rfl, ha, hb, hx, hz, q1 hx, q2 hx⟩

section
variable {K : Fg} {X : Cx}
theorem okI {C : Int → Int → Prop} {g : Int → Int → V} {f : D → D → Option D} (h : ∀ dx dy res, f dx dy = some res → ∃ i j, dx = .int i ∧ dy = .int j ∧ C i j ∧ ∀ K F, Rep K F (g i j) res) : OpD K (rI C g) f := by
  intro G F σ H ρ x y dx dy res Q S ox oy e k
  obtain ⟨i, j, rfl, rfl, hc, hr⟩ := h dx dy res e
  exact ⟨i, j, ox.int, oy.int, hc, k _ F H (Same.refl _) S (hr K F)⟩
theorem okB {g : Int → Int → Bool} {f : D → D → Option Bool} (h : ∀ dx dy res, f dx dy = some res → ∃ i j, dx = .int i ∧ dy = .int j ∧ res = g i j) : OpB K (rI0 fun i j => .bl (g i j)) f := by
  intro G F σ H ρ x y dx dy res Q S ox oy e k
  obtain ⟨i, j, rfl, rfl, rfl⟩ := h dx dy res e
  exact ⟨i, j, ox.int, oy.int, k⟩
theorem ok_sub : OpD K (rI0 fun i j => .int (i - j)) opSub := by
  intro G F σ H ρ x y dx dy res Q S ox oy e k
  cases dx <;> cases dy <;> cases e
  exact ⟨_, _, ox.int, oy.int, k _ F H (Same.refl _) S (.int _)⟩
theorem ok_lt : OpB K (rI0 fun i j => .bl (decide (i < j))) opLt := okB fun dx dy res e => by
  cases dx <;> cases dy <;> cases e
  exact ⟨_, _, rfl, rfl, rfl⟩
theorem ok_le : OpB K (rI0 fun i j => .bl (decide (i ≤ j))) opLe := okB fun dx dy res e => by
  cases dx <;> cases dy <;> cases e
  exact ⟨_, _, rfl, rfl, rfl⟩
theorem ok_gt : OpB K (rI0 fun i j => .bl (decide (j < i))) opGt := okB fun dx dy res e => by
  cases dx <;> cases dy <;> cases e
  exact ⟨_, _, rfl, rfl, rfl⟩
theorem ok_ge : OpB K (rI0 fun i j => .bl (decide (j ≤ i))) opGe := okB fun dx dy res e => by
  cases dx <;> cases dy <;> cases e
  exact ⟨_, _, rfl, rfl, rfl⟩
theorem ok_div : OpD K (rI CDiv fun i j => .int (i / j)) opDiv := okI fun dx dy res e => by
  cases dx <;> cases dy <;> try (cases e)
  rename_i i j
  dsimp only [opDiv] at e
  split at e
  · rename_i hc
    cases e
    simp only [Bool.and_eq_true, decide_eq_true_eq] at hc
    exact ⟨i, j, rfl, rfl, hc, fun _ _ => .int _⟩
  · cases e
theorem ok_mod : OpD K (rI (fun _ j => 0 < j) fun i j => .int (i % j)) opMod := okI fun dx dy res e => by
  cases dx <;> cases dy <;> try (cases e)
  rename_i i j
  dsimp only [opMod] at e
  split at e
  · rename_i hc
    cases e
    exact ⟨i, j, rfl, rfl, hc, fun _ _ => .int _⟩
  · cases e
theorem ok_pow : OpD K (rI CPow fun i j => .int (i ^ j.toNat)) opPow := okI fun dx dy res e => by
  cases dx <;> cases dy <;> try (cases e)
  rename_i i j
  dsimp only [opPow] at e
  split at e
  · rename_i hc
    cases e
    simp only [Bool.and_eq_true, decide_eq_true_eq] at hc
    exact ⟨i, j, rfl, rfl, ⟨hc.1.1, hc.1.2, hc.2⟩, fun _ _ => .int _⟩
  · cases e
theorem ok_neg : UnD K (rU fun i => .int (-i)) opNeg := by
  intro G F σ H ρ x dx res Q S ox e k
  cases dx <;> cases e
  exact ⟨_, ox.int, k _ F H (Same.refl _) S (.int _)⟩
theorem repL_nil_iff {F : Hp} {vs : List V} {ds : List D} (r : RepL K F vs ds) : vs = [] ↔ ds = [] := by cases r <;> simp
/-- a list of the text's own is there too -/
def rCatL (K : Fg) : R2 := fun x y H Q => ∃ l b xs zs, x = .ref l ∧ y = .ref b ∧ SqL K H l xs ∧ SqL K H b zs ∧ xs.length + zs.length ≤ sizeLine ∧ ∀ p, H p = none → Q (.ref p) (upd H p (.lst (xs ++ zs)))
theorem op_catL : OpR X (binaryOp .Add) (rCatL X.K) := by
  intro pins s σ H x y v u Q I rx ry h
  obtain ⟨l, b, xs, zs, rfl, rfl, hH, hB, hz, q⟩ := h
  cases rx
  cases ry
  obtain ⟨its, r, pl, _⟩ := I.list hH
  obtain ⟨its2, r2, pl2, _⟩ := I.list hB
  obtain ⟨⟨cls, dd, data, sl⟩, ho, hc, n, hd⟩ := id pl.isList
  obtain ⟨⟨cls2, dd2, data2, sl2⟩, ho2, hc2, n2, hd2⟩ := id pl2.isList
  simp only at hc hd hc2 hd2
  subst hc hd hc2 hd2
  have e : its.toArray ++ its2.toArray = (its ++ its2).toArray := by simp
  refine concat_meets ⟨_, ho, rfl⟩ ⟨_, ho2, rfl⟩ noFill_list_add seq_list_add PySem.F.slot_list_add PySem.F.entry_list_add (PySem.F.args_list_add_2 _ _) (list_addW l b its.toArray its2.toArray n n2 dd dd2 sl sl2 (by rw [List.size_toArray, List.size_toArray, ← r.length, ← r2.length]; exact hz)) ⟨ho, ho2, ?_⟩
  rw [e]
  exact ⟨.ref _, _, I.laid (t' := s.toks) (o := .lst (xs ++ zs)) (fun b ob q => Heap.get?_push_of_some _ q) (Nat.le_refl _) ⟨by rw [List.length_append]; exact hz, _, 0, r.append r2, Heap.get?_push_size _ rfl⟩, rfl, q _ (I.hok.fresh (Nat.le_refl _))⟩
theorem ok_catL : OpL K (rCatL K) opAddL := by
  intro G F σ H ρ x y dx dy res Q S ox oy e k
  cases dx <;> cases dy <;> try (cases e)
  dsimp only [opAddL] at e
  split at e
  · rename_i hz
    cases e
    obtain ⟨a, vs, rfl, h1, h2⟩ := ox.list S.fh
    obtain ⟨b, us, rfl, g1, g2⟩ := oy.list S.fh
    refine ⟨a, b, vs, us, rfl, rfl, h1, g1, by rw [h2.length, g2.length]; exact hz, fun p hp => ?_⟩
    obtain ⟨S2, r2⟩ := S.newLst hp (h2.append g2)
    exact k _ F _ (Same.refl _) S2 r2
  · cases e
def rStr2 : R2 := fun x y H Q => ∃ i j, x = .str i ∧ y = .str j ∧ i.length + j.length ≤ sizeLine ∧ Q (.str (i ++ j)) H
def rAdd0 (K : Fg) : R2 := fun x y H Q => rI0 (fun i j => .int (i + j)) x y H Q ∨ (rStr2 x y H Q ∨ (rCat0 K x y H Q ∨ rCatL K x y H Q))
theorem op_addA : OpR X (binaryOp .Add) (rAdd0 X.K) := op_add.or (OpR.or op_add_str (op_cat0.or op_catL))
theorem ok_add : OpD K (rAdd0 K) opAdd := by
  intro G F σ H ρ x y dx dy res Q S ox oy e k
  cases dx <;> cases dy <;> try (cases e)
  · exact .inl ⟨_, _, ox.int, oy.int, k _ F H (Same.refl _) S (.int _)⟩
  · dsimp only [opAdd] at e
    split at e
    · rename_i hz
      cases e
      exact .inr (.inl ⟨_, _, ox.str, oy.str, hz, k _ F H (Same.refl _) S (.str _)⟩)
    · cases e
  · dsimp only [opAdd] at e
    split at e
    · rename_i hz
      cases e
      obtain ⟨a, vs, rfl, h1, h2⟩ := ox.list S.fh
      obtain ⟨b, us, rfl, g1, g2⟩ := oy.list S.fh
      refine .inr (.inr (.inr ⟨a, b, vs, us, rfl, rfl, h1, g1, by rw [h2.length, g2.length]; exact hz, fun p hp => ?_⟩))
      obtain ⟨S2, r2⟩ := S.newLst hp (h2.append g2)
      obtain ⟨F2, s3, S3, r3⟩ := S2.settle r2
      exact k _ F2 _ s3 S3 r3
    · cases e
  · dsimp only [opAdd] at e
    split at e
    · rename_i hz
      cases e
      obtain ⟨a, vs, rfl, h1, h2⟩ := ox.tuple S.fh
      obtain ⟨b, us, rfl, g1, g2⟩ := oy.tuple S.fh
      refine .inr (.inr (.inl ⟨a, b, vs, us, rfl, rfl, h1, g1, by rw [h2.length, g2.length]; exact hz, fun z => ?_, fun _ z => ?_, fun _ _ p hp => ?_⟩))
      · have z' := (repL_nil_iff h2).mp z
        subst z'
        exact k _ F H (Same.refl _) S oy.tup'
      · have z' := (repL_nil_iff g2).mp z
        subst z'
        exact k _ F H (Same.refl _) S (by rw [List.append_nil]; exact ox.tup')
      · obtain ⟨s2, S2, r2⟩ := S.newTup hp (h2.append g2)
        exact k _ _ _ s2 S2 r2
    · cases e
theorem RepL.rep {F : Hp} {vs : List V} {ds : List D} (h : RepL K F vs ds) : ∀ k : Nat, RepL K F (List.replicate k vs).flatten (List.replicate k ds).flatten
  | 0 => .nil
  | k + 1 => by rw [List.replicate_succ, List.replicate_succ, List.flatten_cons, List.flatten_cons]; exact h.append (RepL.rep h k)
/-- a list of ours times an int -/
def rRepF : R2 := fun x y H Q => rI CMul (fun i j => .int (i * j)) x y H Q ∨ rRep x y H Q
theorem op_mulA : OpR X (binaryOp .Mult) rRepF := OpR.or op_mul op_rep
theorem ok_mul : OpD K (rI CMul fun i j => .int (i * j)) opMulI := okI fun dx dy res e => by
  cases dx <;> cases dy <;> try (cases e)
  rename_i i j
  dsimp only [opMulI] at e
  split at e
  · rename_i hc
    cases e
    unfold mulOk at hc
    simp only [Bool.or_eq_true, Bool.and_eq_true, decide_eq_true_eq] at hc
    exact ⟨i, j, rfl, rfl, hc, fun _ _ => .int _⟩
  · cases e
end

/-! ### equality, membership: by the data -/
def eqOk (d e : D) : Bool := d.canLay0 && e.canLay0 && decide (d.depth ≤ 1000)
def opEq (d e : D) : Option Bool := if eqOk d e then some (PyData.eqv d e) else none
def opNe (d e : D) : Option Bool := if eqOk d e then some (!PyData.eqv d e) else none
def inOk (d : D) (xs : List D) : Bool := PyData.canLayAll0 xs && d.canLay0 && decide (d.depth ≤ 1000)
def inStr (i j : Str) : Bool := !(Builtin.Str.occurrences j i 0 j.length 1).isEmpty
def opIn (d c : D) : Option Bool := match c with
  | .list xs => if inOk d xs then some (xs.any fun y => PyData.eqv y d) else none
  | .tuple xs => if inOk d xs then some (xs.any fun y => PyData.eqv y d) else none
  | .str j => match d with
    | .str i => some (inStr i j)
    | _ => none
  | _ => none
def opNotIn (d c : D) : Option Bool := match c with
  | .list xs => if inOk d xs then some (!xs.any fun y => PyData.eqv y d) else none
  | .tuple xs => if inOk d xs then some (!xs.any fun y => PyData.eqv y d) else none
  | .str j => match d with
    | .str i => some (!inStr i j)
    | _ => none
  | _ => none
def isNone : D → Bool
  | .none => true
  | _ => false
def opIsN (d e : D) : Option Bool := match e with
  | .none => some (isNone d)
  | _ => none
def opNotN (d e : D) : Option Bool := match e with
  | .none => some (!isNone d)
  | _ => none
def rD2 (K : Fg) (f : D → D → Option Bool) : R2 := fun x y H Q => ∃ d e b, Rep K H x d ∧ Rep K H y e ∧ f d e = some b ∧ Q (.bl b) H
theorem ok_D2 {K : Fg} {f : D → D → Option Bool} : OpB K (rD2 K f) f := by
  intro G F σ H ρ x y dx dy res Q S ox oy e k
  exact ⟨dx, dy, res, ox.rep S.fh, oy.rep S.fh, e, k⟩
theorem Rep.non_iff {K : Fg} {F : Hp} {v : V} {d : D} (r : Rep K F v d) : (decide (v = .non)) = isNone d := by
  cases r <;> rfl
section
variable {X : Cx}
theorem opr_eq (hu : X.A.units + 1100 < cLine) : OpR X (compareOp .Eq) (rD2 X.K opEq) := by
  intro pins s σ H x y v u Q I rx ry ⟨d, e, b, r1, r2, ho, q⟩
  obtain ⟨as, ra⟩ := (reads_of I).1 r1 rx
  obtain ⟨bs, rb⟩ := (reads_of I).1 r2 ry
  unfold opEq at ho
  split at ho
  case isFalse => cases ho
  rename_i hc
  cases ho
  simp only [eqOk, Bool.and_eq_true, decide_eq_true_eq] at hc
  exact SeqAt.compareEq_reads ra rb hc.1.1 hc.1.2 (by have := Nat.min_le_left d.depth e.depth; omega) ⟨.bl _, H, I, rfl, q⟩
theorem opr_ne (hu : X.A.units + 1100 < cLine) : OpR X (compareOp .NotEq) (rD2 X.K opNe) := by
  intro pins s σ H x y v u Q I rx ry ⟨d, e, b, r1, r2, ho, q⟩
  obtain ⟨as, ra⟩ := (reads_of I).1 r1 rx
  obtain ⟨bs, rb⟩ := (reads_of I).1 r2 ry
  unfold opNe at ho
  split at ho
  case isFalse => cases ho
  rename_i hc
  cases ho
  simp only [eqOk, Bool.and_eq_true, decide_eq_true_eq] at hc
  exact SeqAt.compareNe_reads ra rb hc.1.1 hc.1.2 (by have := Nat.min_le_left d.depth e.depth; omega) ⟨.bl _, H, I, rfl, q⟩
theorem opr_in (hu : X.A.units + 1100 < cLine) : OpR X (compareOp .In) (rD2 X.K opIn) := by
  intro pins s σ H x y v u Q I rx ry ⟨d, e, b, r1, r2, ho, q⟩
  obtain ⟨as, ra⟩ := (reads_of I).1 r1 rx
  obtain ⟨bs, rb⟩ := (reads_of I).1 r2 ry
  unfold opIn at ho
  split at ho
  · rename_i xs
    split at ho
    case isFalse => cases ho
    rename_i hc
    cases ho
    simp only [inOk, Bool.and_eq_true, decide_eq_true_eq] at hc
    exact SeqAt.in_list_reads rb ra hc.1.1 hc.1.2 (by have := Nat.min_le_right (PyData.depthAll xs) d.depth; omega) ⟨.bl _, H, I, rfl, q⟩
  · rename_i xs
    split at ho
    case isFalse => cases ho
    rename_i hc
    cases ho
    simp only [inOk, Bool.and_eq_true, decide_eq_true_eq] at hc
    exact SeqAt.in_tuple_reads rb ra hc.1.1 hc.1.2 (by have := Nat.min_le_right (PyData.depthAll xs) d.depth; omega) ⟨.bl _, H, I, rfl, q⟩
  · split at ho
    · cases ho
      cases r1
      cases r2
      exact op_in_str pins s σ H _ _ v u Q I rx ry ⟨_, _, rfl, rfl, q⟩
    · cases ho
  · cases ho
theorem opr_notIn (hu : X.A.units + 1100 < cLine) : OpR X (compareOp .NotIn) (rD2 X.K opNotIn) := by
  intro pins s σ H x y v u Q I rx ry ⟨d, e, b, r1, r2, ho, q⟩
  obtain ⟨as, ra⟩ := (reads_of I).1 r1 rx
  obtain ⟨bs, rb⟩ := (reads_of I).1 r2 ry
  unfold opNotIn at ho
  split at ho
  · rename_i xs
    split at ho
    case isFalse => cases ho
    rename_i hc
    cases ho
    simp only [inOk, Bool.and_eq_true, decide_eq_true_eq] at hc
    exact SeqAt.notIn_list_reads rb ra hc.1.1 hc.1.2 (by have := Nat.min_le_right (PyData.depthAll xs) d.depth; omega) ⟨.bl _, H, I, rfl, q⟩
  · rename_i xs
    split at ho
    case isFalse => cases ho
    rename_i hc
    cases ho
    simp only [inOk, Bool.and_eq_true, decide_eq_true_eq] at hc
    exact SeqAt.notIn_tuple_reads rb ra hc.1.1 hc.1.2 (by have := Nat.min_le_right (PyData.depthAll xs) d.depth; omega) ⟨.bl _, H, I, rfl, q⟩
  · split at ho
    · cases ho
      cases r1
      cases r2
      exact op_notin_str pins s σ H _ _ v u Q I rx ry ⟨_, _, rfl, rfl, q⟩
    · cases ho
  · cases ho
theorem opr_isN : OpR X (compareOp .Is) (rD2 X.K opIsN) := by
  intro pins s σ H x y v u Q I rx ry ⟨d, e, b, r1, r2, ho, q⟩
  unfold opIsN at ho
  split at ho
  · cases ho
    cases r2
    refine op_isN pins s σ H x _ v u Q I rx ry ⟨rfl, ?_⟩
    rw [Rep.non_iff r1]
    exact q
  · cases ho
theorem opr_notN : OpR X (compareOp .IsNot) (rD2 X.K opNotN) := by
  intro pins s σ H x y v u Q I rx ry ⟨d, e, b, r1, r2, ho, q⟩
  unfold opNotN at ho
  split at ho
  · cases ho
    cases r2
    refine op_notN pins s σ H x _ v u Q I rx ry ⟨rfl, ?_⟩
    rw [Rep.non_iff r1]
    exact q
  · cases ho
end

/-! ### index -/
def opIx : D → D → Option D
  | .list ds, .int i => atI ds i
  | .tuple ds, .int i => atI ds i
  | .str z, .int i => if z.length ≤ sizeLine then (atI z.cps.toList i).map fun c => .str ⟨#[c]⟩ else none
  | _, _ => none
theorem atI_rep {K : Fg} {F : Hp} {vs : List V} {ds : List D} {i : Int} {d : D} (r : RepL K F vs ds) (h : atI ds i = some d) : ∃ v, atI vs i = some v ∧ Rep K F v d := by
  unfold atI at h ⊢
  rw [r.length]
  cases q : ixN ds.length i with
  | none => rw [q] at h; cases h
  | some j =>
    rw [q] at h
    exact r.get (i := j) h
theorem ok_ix {K : Fg} : OpD K (rIx K) opIx := by
  intro G F σ H ρ x y dx dy res Q S ox oy e k
  cases dx <;> cases dy <;> try (cases e)
  · dsimp only [opIx] at e
    split at e
    · rename_i hz
      obtain ⟨c, hc, rfl⟩ := Option.map_eq_some_iff.mp e
      exact .inr (.inr ⟨_, _, c, ox.str, oy.int, hz, hc, k _ F H (Same.refl _) S (.str _)⟩)
    · cases e
  · obtain ⟨a, vs, rfl, h1, h2⟩ := ox.list S.fh
    obtain ⟨v, e1, e2⟩ := atI_rep h2 e
    exact .inl ⟨a, vs, _, v, rfl, oy.int, h1, e1, k v F H (Same.refl _) S e2⟩
  · obtain ⟨a, vs, rfl, h1, h2⟩ := ox.tuple S.fh
    obtain ⟨v, e1, e2⟩ := atI_rep h2 e
    exact .inr (.inl ⟨a, vs, _, v, rfl, oy.int, h1, e1, k v F H (Same.refl _) S e2⟩)
end L4

set_option Elab.async false
set_option linter.all false
set_option maxRecDepth 100000
namespace L4
open PySem PySem.Spec PyProof.Rows L2 L3
theorem Vals.one {v : V} {us : List Value} (h : Vals [v] us) : ∃ u, us = [u] ∧ RelV v u := by
  cases h with | cons a b => cases b; exact ⟨_, rfl, a⟩
def fLen : List D → Option D
  | [.list ds] => some (.int ds.length)
  | [.tuple ds] => some (.int ds.length)
  | [.str z] => if z.length ≤ sizeLine then some (.int z.length) else none
  | _ => none
def fTuple : List D → Option D
  | [.list ds] => some (.tuple ds)
  | [.tuple ds] => some (.tuple ds)
  | _ => none
def fAbs : List D → Option D
  | [.int i] => some (.int (if i < 0 then -i else i))
  | _ => none
def fMin2 : List D → Option D
  | [.int i, .int j] => some (.int (if j < i then j else i))
  | _ => none
def rLen (K : Fg) : List V → Hp → VK → Prop := fun xs H Q => (∃ p ys, xs = [.ref p] ∧ (SqL K H p ys ∨ SqT K H p ys) ∧ Q (.int ys.length) H) ∨ ∃ z, xs = [.str z] ∧ z.length ≤ sizeLine ∧ Q (.int z.length) H
theorem call_lenA {X : Cx} : CallR X (.builtin "len") (rLen X.K) := CallR.or call_len_seq call_len_str
theorem ok_len {K : Fg} : CallD K (rLen K) fLen := by
  intro G F σ H ρ xs ds res Q S o e k
  unfold fLen at e
  split at e
  · rename_i es
    cases e
    obtain ⟨v, r, rfl, ho, hr⟩ := ors_cons o
    obtain rfl := ors_nil hr
    obtain ⟨a, vs, rfl, h1, h2⟩ := ho.list S.fh
    exact .inl ⟨a, vs, rfl, .inl h1, k _ F H (Same.refl _) S (by rw [h2.length]; exact .int _)⟩
  · rename_i es
    cases e
    obtain ⟨v, r, rfl, ho, hr⟩ := ors_cons o
    obtain rfl := ors_nil hr
    obtain ⟨a, vs, rfl, h1, h2⟩ := ho.tuple S.fh
    exact .inl ⟨a, vs, rfl, .inr h1, k _ F H (Same.refl _) S (by rw [h2.length]; exact .int _)⟩
  · split at e
    · rename_i hz
      cases e
      obtain ⟨v, r, rfl, ho, hr⟩ := ors_cons o
      obtain rfl := ors_nil hr
      exact .inr ⟨_, by rw [ho.str], hz, k _ F H (Same.refl _) S (.int _)⟩
    · cases e
  · cases e
theorem ok_tuple {K : Fg} : CallD K (fun xs H Q => ∃ p ys, xs = [.ref p] ∧ ((SqL K H p ys ∧ ∀ l, H l = none → Q (.ref l) (upd H l (.tup ys))) ∨ (SqT K H p ys ∧ Q (.ref p) H))) fTuple := by
  intro G F σ H ρ xs ds res Q S o e k
  unfold fTuple at e
  split at e
  · rename_i es
    cases e
    obtain ⟨v, r, rfl, ho, hr⟩ := ors_cons o
    obtain rfl := ors_nil hr
    obtain ⟨a, vs, rfl, h1, h2⟩ := ho.list S.fh
    refine ⟨a, vs, rfl, .inl ⟨h1, fun l hl => ?_⟩⟩
    obtain ⟨s2, S2, r2⟩ := S.newTup hl h2
    exact k _ _ _ s2 S2 r2
  · rename_i es
    cases e
    obtain ⟨v, r, rfl, ho, hr⟩ := ors_cons o
    obtain rfl := ors_nil hr
    rcases ho with ho | ⟨a, vs, ds', _, z, _⟩
    · cases ho with
      | tup h1 h2 => exact ⟨_, _, rfl, .inr ⟨sqT_mono S.fh h1, k _ F H (Same.refl _) S (show Rep K F _ _ from .tup h1 h2)⟩⟩
    · cases z
  · cases e
theorem ok_abs {K : Fg} : CallD K (fun xs H Q => ∃ i, xs = [.int i] ∧ Q (.int (if i < 0 then -i else i)) H) fAbs := by
  intro G F σ H ρ xs ds res Q S o e k
  unfold fAbs at e
  split at e
  · cases e
    obtain ⟨v, r, rfl, ho, hr⟩ := ors_cons o
    obtain rfl := ors_nil hr
    exact ⟨_, by rw [ho.int], k _ F H (Same.refl _) S (show Rep K F _ _ from .int _)⟩
  · cases e
theorem ok_min2 {K : Fg} : CallD K (fun xs H Q => ∃ i j, xs = [.int i, .int j] ∧ Q (.int (if j < i then j else i)) H) fMin2 := by
  intro G F σ H ρ xs ds res Q S o e k
  unfold fMin2 at e
  split at e
  · cases e
    obtain ⟨v, r, rfl, ho, hr⟩ := ors_cons o
    obtain ⟨v2, r2, rfl, ho2, hr2⟩ := ors_cons hr
    obtain rfl := ors_nil hr2
    exact ⟨_, _, by rw [ho.int, ho2.int], k _ F H (Same.refl _) S (show Rep K F _ _ from .int _)⟩
  · cases e
/-! repr -/
def reprOk (d : D) : Bool := d.showable && d.canLay0 && decide (d.depth ≤ 1000) && decide (d.shown.length ≤ sizeLine)
def fRepr : List D → Option D
  | [d] => if reprOk d then some (.str d.shown) else none
  | _ => none
def rRepr (K : Fg) : List V → Hp → VK → Prop := fun xs H Q => ∃ v d, xs = [v] ∧ Rep K H v d ∧ reprOk d = true ∧ Q (.str d.shown) H
theorem ok_repr {K : Fg} : CallD K (rRepr K) fRepr := by
  intro G F σ H ρ xs ds res Q S o e k
  unfold fRepr at e
  split at e
  · rename_i d
    split at e
    · rename_i hc
      cases e
      obtain ⟨v, r, rfl, ho, hr⟩ := ors_cons o
      obtain rfl := ors_nil hr
      exact ⟨v, d, rfl, ho.rep S.fh, hc, k _ F H (Same.refl _) S (.str _)⟩
    · cases e
  · cases e
theorem call_repr {X : Cx} (hu : X.A.units + 1100 < cLine) (hg : X.A.guards = some []) : CallR X (.builtin "repr") (rRepr X.K) := by
  intro pins s σ H xs us Q I r h0
  obtain ⟨v, d, rfl, rp, hc, q⟩ := h0
  obtain ⟨u, rfl, ru⟩ := Vals.one r
  obtain ⟨as, ra⟩ := (reads_of I).1 rp ru
  simp only [reprOk, Bool.and_eq_true, decide_eq_true_eq] at hc
  have big : ∀ a, v = .ref a → wpAny (model X.prog X.w) X.A (call (.builtin "repr") [u]) (EP X pins σ Q) X.xe s := fun a e => by
    subst e
    cases ru
    exact repr_of_reads' ra hc.1.1.1 (PyData.noDict_hsm (PyData.hasDict_of_canLay d hc.1.1.2)) hg (by omega) (fun _ _ e => e) (fun h' u tk hk => ⟨.str _, H, I.kept hk, ⟨_, rfl⟩, q⟩) hc.2
  cases rp with
  | non => cases ru; exact PySem.P.repr_of_none ⟨.str _, H, I.tok _, ⟨_, rfl⟩, q⟩
  | bl b => cases ru; exact PySem.P.repr_of_bool ⟨.str _, H, I.tok _, ⟨_, rfl⟩, q⟩
  | int i => obtain ⟨t, rfl⟩ := ru; exact PySem.P.repr_of_int (by simpa [PyData.showable] using hc.1.1.1) ⟨.str _, H, I.tok _, ⟨_, rfl⟩, q⟩
  | str x => obtain ⟨t, rfl⟩ := ru; exact PySem.P.repr_of_str ⟨.str _, H, I.tok _, ⟨_, rfl⟩, q⟩ hc.2
  | tup h1 h2 => exact big _ rfl
  | lst h1 h2 => exact big _ rfl
/-! isinstance -/
def tyD : D → String
  | .none => "NoneType"
  | .bool _ => "bool"
  | .int _ => "int"
  | .str _ => "str"
  | .list _ => "list"
  | .tuple _ => "tuple"
  | .dict _ => "dict"
/-- isinstance(x, T), T one of Python's own -/
def isS (T S : String) : Bool := S == T || (S == "bool" && T == "int")
def isT (T : String) (d : D) : Bool := isS T (tyD d)
def fIs (T : String) : List D → Option Bool
  | [d] => some (isT T d)
  | _ => none
def intsOf : List D → Option (List Int)
  | [] => some []
  | .int i :: r => match intsOf r with
    | some l => some (i :: l)
    | none => none
  | _ => none
theorem intsOf_eq : ∀ {ds : List D} {ns : List Int}, intsOf ds = some ns → ds = ns.map PyData.int
  | [], ns, h => by cases h; rfl
  | .int i :: r, ns, h => by
    dsimp only [intsOf] at h
    split at h
    · rename_i l e; cases h; rw [intsOf_eq e]; rfl
    · cases h
  | .none :: _, _, h => by cases h
  | .bool _ :: _, _, h => by cases h
  | .str _ :: _, _, h => by cases h
  | .list _ :: _, _, h => by cases h
  | .tuple _ :: _, _, h => by cases h
  | .dict _ :: _, _, h => by cases h
theorem intsOf_map (ns : List Int) : intsOf (ns.map PyData.int) = some ns := by
  induction ns with
  | nil => rfl
  | cons n r ih => simp [intsOf, ih]
theorem repL_ints {K : Fg} {F : Hp} : ∀ {vs : List V} {ns : List Int}, RepL K F vs (ns.map PyData.int) → vs = ns.map V.int
  | _, [], h => by cases h; rfl
  | _, n :: r, h => by
    cases h with
    | cons a b => cases a; rw [repL_ints b]; rfl
theorem vals_pairs : ∀ {ns : List Int} {us : List Value}, Vals (ns.map V.int) us → ∃ ps : List (Int × Tok), us = ps.map (fun p => Value.int p.1 p.2) ∧ ps.map Prod.fst = ns
  | [], _, h => by cases h; exact ⟨[], rfl, rfl⟩
  | n :: r, _, h => by
    cases h with
    | cons a b =>
      obtain ⟨t, rfl⟩ := a
      obtain ⟨ps, rfl, e⟩ := vals_pairs b
      exact ⟨(n, t) :: ps, rfl, by simp [e]⟩
def sumOk (ns : List Int) : Bool := ns.all (fun i => decide (i.natAbs ≤ 2 ^ 40)) && decide (ns.length ≤ 2 ^ 20)
def fSum : List D → Option D
  | [.list ds] => match intsOf ds with
    | some ns => if sumOk ns then some (.int ns.sum) else none
    | none => none
  | _ => none
def maxL : List Int → Int
  | [] => 0
  | n :: r => r.foldl max n
def fMax : List D → Option D
  | [.list ds] => match intsOf ds with
    | some (n :: r) => some (.int (maxL (n :: r)))
    | _ => none
  | [.int i, .int j] => some (.int (if j > i then j else i))
  | _ => none
def rInts (K : Fg) (f : List Int → Option Int) : List V → Hp → VK → Prop := fun xs H Q => ∃ a ns i, xs = [.ref a] ∧ SqL K H a (ns.map V.int) ∧ f ns = some i ∧ Q (.int i) H
def gSum (ns : List Int) : Option Int := if sumOk ns then some ns.sum else none
def gMax : List Int → Option Int
  | [] => none
  | ns => some (maxL ns)
theorem ok_sum {K : Fg} : CallD K (rInts K gSum) fSum := by
  intro G F σ H ρ xs ds res Q S o e k
  unfold fSum at e
  split at e
  case h_2 => cases e
  rename_i es
  split at e
  case h_2 => cases e
  rename_i ns hns
  split at e
  case isFalse => cases e
  rename_i hc
  cases e
  obtain ⟨v, r, rfl, ho, hr⟩ := ors_cons o
  obtain rfl := ors_nil hr
  obtain ⟨a, vs, rfl, h1, h2⟩ := ho.list S.fh
  rw [intsOf_eq hns] at h2
  rw [repL_ints h2] at h1
  exact ⟨a, ns, _, rfl, h1, by unfold gSum; rw [if_pos hc], k _ F H (Same.refl _) S (show Rep K F _ _ from .int _)⟩
theorem numAt_of {ps : List (Int × Tok)} {i : Nat} : numAt ps.toArray i = (ps.map Prod.fst).getD i 0 := by
  unfold numAt
  rw [List.getElem?_toArray, List.getD_eq_getElem?_getD, List.getElem?_map]
theorem preSum_of (ns : List Int) : ∀ j, j ≤ ns.length → preSum (fun i => ns.getD i 0) j = (ns.take j).sum
  | 0, _ => by simp [preSum]
  | j + 1, h => by
    rw [preSum, preSum_of ns j (by omega), List.take_add_one, List.sum_append]
    congr 1
    rw [List.getD_eq_getElem?_getD]
    rw [List.getElem?_eq_getElem (by omega)]
    simp
theorem sum_bound (B : Nat) : ∀ (ns : List Int), (∀ i ∈ ns, i.natAbs ≤ B) → ns.sum.natAbs ≤ ns.length * B
  | [], _ => by simp
  | n :: r, h => by
    have h1 := h n List.mem_cons_self
    have h2 := sum_bound B r fun i hi => h i (List.mem_cons_of_mem _ hi)
    rw [List.sum_cons, List.length_cons, Nat.succ_mul]
    omega
theorem call_sumL {X : Cx} (hc : X.calm = true) : CallR X (.builtin "sum") (rInts X.K gSum) := by
  intro pins s σ H xs us Q I r h0
  obtain ⟨a, ns, i, rfl, hq, e, q⟩ := h0
  obtain ⟨u, rfl, ru⟩ := Vals.one r
  cases ru
  unfold gSum at e
  split at e
  case isFalse => cases e
  rename_i hok
  cases e
  obtain ⟨its, rv, pl, hz⟩ := I.list hq
  obtain ⟨ps, rfl, rfl⟩ := vals_pairs rv
  have hnum : ∀ j, numAt ps.toArray j = (ps.map Prod.fst).getD j 0 := fun j => numAt_of
  have hfun : numAt ps.toArray = fun j => (ps.map Prod.fst).getD j 0 := funext hnum
  unfold sumOk at hok
  simp only [Bool.and_eq_true, List.all_eq_true, decide_eq_true_eq] at hok
  have hl : s.heap.IsList a (intItems ps.toArray) := by
    have := pl.isList
    unfold intItems
    simpa using this
  have bnd : ∀ j, j ≤ ps.length → ((ps.map Prod.fst).take j).sum.natAbs ≤ 2 ^ 60 := fun j hj => by
    have h1 := sum_bound (2 ^ 40) ((ps.map Prod.fst).take j) fun i hi => hok.1 i (List.mem_of_mem_take hi)
    have h2 : ((ps.map Prod.fst).take j).length ≤ 2 ^ 20 := by rw [List.length_take]; have := hok.2; omega
    calc _ ≤ _ := h1
      _ ≤ 2 ^ 20 * 2 ^ 40 := Nat.mul_le_mul_right _ h2
  refine sum_intList (I.ok.hd hc) hl (fun j hj => ?_) fun h' tk t' hk => ?_
  · have hj' : j < ps.length := by simpa using hj
    rw [hfun, preSum_of _ _ (by simp; omega)]
    have h1 := bnd (j + 1) hj'
    have h2 : ((ps.map Prod.fst).getD j 0).natAbs ≤ 2 ^ 40 := by
      rw [List.getD_eq_getElem?_getD, List.getElem?_eq_getElem (by simpa using hj')]
      exact hok.1 _ (List.getElem_mem _)
    unfold InLong
    dsimp only
    constructor <;> constructor <;> omega
  · refine ⟨.int _, H, I.kept hk, ⟨_, rfl⟩, ?_⟩
    rw [hfun, preSum_of _ _ (by simp), List.take_of_length_le (by simp)]
    exact q
theorem ok_max {K : Fg} : CallD K (fun xs H Q => rInts K gMax xs H Q ∨ ∃ i j, xs = [.int i, .int j] ∧ Q (.int (if j > i then j else i)) H) fMax := by
  intro G F σ H ρ xs ds res Q S o e k
  unfold fMax at e
  split at e
  · rename_i es
    split at e
    case h_2 => cases e
    rename_i n r' hns
    cases e
    obtain ⟨v, r, rfl, ho, hr⟩ := ors_cons o
    obtain rfl := ors_nil hr
    obtain ⟨a, vs, rfl, h1, h2⟩ := ho.list S.fh
    rw [intsOf_eq hns] at h2
    rw [repL_ints h2] at h1
    exact .inl ⟨a, _, _, rfl, h1, rfl, k _ F H (Same.refl _) S (show Rep K F _ _ from .int _)⟩
  · cases e
    obtain ⟨v, r, rfl, ho, hr⟩ := ors_cons o
    obtain ⟨v2, r2, rfl, ho2, hr2⟩ := ors_cons hr
    obtain rfl := ors_nil hr2
    exact .inr ⟨_, _, by rw [ho.int, ho2.int], k _ F H (Same.refl _) S (show Rep K F _ _ from .int _)⟩
  · cases e
theorem foldl_max (r : List Int) : ∀ n : Int, n ≤ r.foldl max n ∧ (∀ i ∈ r, i ≤ r.foldl max n) ∧ (r.foldl max n = n ∨ r.foldl max n ∈ r) := by
  induction r with
  | nil => intro n; exact ⟨Int.le_refl _, fun i hi => (nomatch hi), .inl rfl⟩
  | cons a r ih =>
    intro n
    obtain ⟨h1, h2, h3⟩ := ih (max n a)
    rw [List.foldl_cons]
    refine ⟨by omega, fun i hi => ?_, ?_⟩
    · rcases List.mem_cons.mp hi with rfl | hi
      · omega
      · exact h2 i hi
    · rcases h3 with h3 | h3
      · rw [h3]
        by_cases hna : n ≤ a
        · right; rw [show max n a = a by omega]; exact List.mem_cons_self
        · left; omega
      · right; exact List.mem_cons_of_mem _ h3
theorem maxL_spec {ns : List Int} (h : ns ≠ []) : (∀ i ∈ ns, i ≤ maxL ns) ∧ maxL ns ∈ ns := by
  cases ns with
  | nil => exact absurd rfl h
  | cons n r =>
    obtain ⟨h1, h2, h3⟩ := foldl_max r n
    refine ⟨fun i hi => ?_, ?_⟩
    · rcases List.mem_cons.mp hi with rfl | hi
      · exact h1
      · exact h2 i hi
    · rcases h3 with h3 | h3
      · show r.foldl max n ∈ _; rw [h3]; exact List.mem_cons_self
      · exact List.mem_cons_of_mem _ h3
theorem call_maxL {X : Cx} (hc : X.calm = true) : CallR X (.builtin "max") (rInts X.K gMax) := by
  intro pins s σ H xs us Q I r h0
  obtain ⟨a, ns, i, rfl, hq, e, q⟩ := h0
  obtain ⟨u, rfl, ru⟩ := Vals.one r
  cases ru
  obtain ⟨its, rv, pl, hz⟩ := I.list hq
  obtain ⟨ps, rfl, rfl⟩ := vals_pairs rv
  have hne : ps ≠ [] := by rintro rfl; cases e
  have hne' : ps.map Prod.fst ≠ [] := by simpa using hne
  have ei : i = maxL (ps.map Prod.fst) := by
    cases hp : ps.map Prod.fst with
    | nil => exact absurd hp hne'
    | cons n r => rw [hp] at e; cases e; rfl
  subst ei
  have hl : s.heap.IsList a (intItems ps.toArray) := by
    have := pl.isList
    unfold intItems
    simpa using this
  have hpos : 0 < ps.length := List.length_pos_iff.mpr hne
  refine max_intList (I.ok.hd hc) hl (by simpa using hpos) fun v h' tk hv hk => ?_
  obtain ⟨t, rfl⟩ := intItems_at hv
  refine ⟨.int _, H, I.kept hk, ⟨_, rfl⟩, ?_⟩
  have b := argBest_gt (numAt ps.toArray) (ps.toArray.size - 1)
  generalize argBest (fun i j => decide (numAt ps.toArray i > numAt ps.toArray j)) (ps.toArray.size - 1) = m at b hv
  have hm : m < ps.length := by
    have h0 := b.1
    simp at h0
    omega
  have hsp := maxL_spec hne'
  have e1 : numAt ps.toArray m = maxL (ps.map Prod.fst) := by
    refine Int.le_antisymm ?_ ?_
    · refine hsp.1 _ ?_
      rw [numAt_of, List.getD_eq_getElem?_getD, List.getElem?_eq_getElem (by simpa using hm)]
      exact List.getElem_mem _
    · obtain ⟨j, hj, ej⟩ := List.getElem_of_mem hsp.2
      have h0 := b.2 j (by simp at hj ⊢; omega)
      rw [numAt_of, List.getD_eq_getElem?_getD, List.getElem?_eq_getElem hj] at h0
      rw [← ej]
      exact h0
  rw [e1]
  exact q

def tyOk (T : String) : Bool := T == "bool" || T == "int" || T == "str" || T == "list" || T == "tuple" || T == "dict"
def kitT (S T : String) : Option Bool := if (Value.type S == Value.type T) = true then some true else if PySem.W.kitMeta T = true then (fastBuiltinMro S).map (·.contains (.type T)) else none
theorem kitT_of (K : Fg) (S T : String) : PySem.W.kitOne K (.type S) (.type T) = kitT S T := rfl
theorem kit_all : ∀ S ∈ ["NoneType", "bool", "int", "str", "list", "tuple", "dict"], ∀ T ∈ ["bool", "int", "str", "list", "tuple", "dict"], kitT S T = some (isS T S) := by decide +kernel
theorem kit_of (K : Fg) {T : String} (h : tyOk T = true) (d : D) : PySem.W.kitOne K (.type (tyD d)) (.type T) = some (isT T d) := by
  simp only [tyOk, Bool.or_eq_true, beq_iff_eq] at h
  rw [kitT_of]
  exact kit_all (tyD d) (by cases d <;> simp [tyD]) T (by rcases h with ((((rfl | rfl) | rfl) | rfl) | rfl) | rfl <;> simp)
def rIs (K : Fg) (T : String) : List V → Hp → VK → Prop := fun xs H Q => ∃ v d, xs = [v] ∧ Rep K H v d ∧ Q (.bl (isT T d)) H
theorem isinst_rep {X : Cx} {T : String} (hT : tyOk T = true) {pins : List (Addr × Obj)} {σ : L2.St} {H : Hp} {s : Shared} {v : V} {d : D} {u : Value} {Q : Value → Shared → Prop} {E : Value → Shared → Prop} (I : Inv X pins σ H s) (rp : Rep X.K H v d) (ru : RelV v u)
    (h : ∀ tk, Q (.bool (isT T d)) { s with toks := tk }) : wpAny (model X.prog X.w) X.A (call (.builtin "isinstance") [u, .type T]) Q E s := by
  have e := kit_of X.K hT d
  cases rp with
  | non => cases ru; exact PySem.W.kia_one PySem.W.kitx_none I.kIn True.intro e (fun z => nomatch z) h
  | bl y => cases ru; exact PySem.W.kia_one PySem.W.kitx_bool I.kIn True.intro e (fun z => nomatch z) h
  | int i => obtain ⟨t, rfl⟩ := ru; exact PySem.W.kia_one PySem.W.kitx_int I.kIn True.intro e (fun z => nomatch z) h
  | str y => obtain ⟨t, rfl⟩ := ru; exact PySem.W.kia_one PySem.W.kitx_str I.kIn True.intro e (fun z => nomatch z) h
  | lst h1 h2 =>
    cases ru
    obtain ⟨its, _, ⟨o, n, e1, e2, _⟩, _⟩ := I.list h1
    exact PySem.W.kia_one PySem.W.kitx_list I.kIn ⟨o, e1, e2⟩ e (fun z => nomatch z) h
  | tup h1 h2 =>
    cases ru
    obtain ⟨its, _, ⟨o, e1, e2, _⟩, _⟩ := I.tuple h1
    exact PySem.W.kia_one PySem.W.kitx_tuple I.kIn ⟨o, e1, e2⟩ e (fun z => nomatch z) h
end L4

set_option Elab.async false
set_option linter.all false
set_option maxRecDepth 100000
namespace L4
open PySem PySem.Spec PyProof.Rows L2 L3

/-! ### states, weakened and changed -/
section
variable {K : Fg} {G : Gh} {F H : Hp} {σ : L2.St} {ρ ρ' : En}
theorem _root_.L3.StOk.weak (S : StOk K G F σ H ρ) (hl : ρ'.length = ρ.length) (h : ∀ (i : Nat) (av : AV), ρ'[i]? = some (some av) → ρ[i]? = some (some av)) (hp : ∀ (i : Nat) (c : OC), ρ[i]? = some (some (AV.op c)) → ρ'[i]? = some (some (AV.op c))) : StOk K G F σ H ρ' := by
  have ow' : ∀ j c, own ρ' j c → own ρ j c := fun j c q => q.imp (h _ _) (h _ _)
  refine ⟨S.fh, S.oh, S.fo, S.ln.trans hl.symm, fun j d q => S.fz j d (h _ _ q), fun j c q => S.ow j c (ow' j c q), fun j k c e a h1 h2 => S.dj j k c e a (ow' j c h1) (ow' k e h2), fun j a q => ?_, fun j c q => S.pq j c (h _ _ q)⟩
  obtain ⟨q1, c, q2⟩ := S.pp j a q
  exact ⟨q1, c, hp _ _ q2⟩
theorem app_none {k : Nat} {i : Nat} {av : AV} (h : (ρ ++ List.replicate k none)[i]? = some (some av)) : ρ[i]? = some (some av) := by
  by_cases hi : i < ρ.length
  · rw [List.getElem?_append_left hi] at h; exact h
  · rw [List.getElem?_append_right (Nat.not_lt.mp hi), List.getElem?_replicate] at h
    split at h <;> cases h
theorem _root_.L3.StOk.grow (S : StOk K G F σ H ρ) (k : Nat) : StOk K G F (σ ++ List.replicate k none) H (ρ ++ List.replicate k none) := by
  have ap : ∀ {i : Nat} {v : V}, σ[i]? = some (some v) → (σ ++ List.replicate k none)[i]? = some (some v) := fun {i v} e => by
    rw [List.getElem?_append_left (List.getElem?_eq_some_iff.mp e).1]; exact e
  have apr : ∀ {i : Nat} {v : AV}, ρ[i]? = some (some v) → (ρ ++ List.replicate k none)[i]? = some (some v) := fun {i v} e => by
    rw [List.getElem?_append_left (List.getElem?_eq_some_iff.mp e).1]; exact e
  have ow' : ∀ i c, own (ρ ++ List.replicate k none) i c → own ρ i c := fun i c h => by
    rcases h with h | h
    · exact .inl (app_none h)
    · exact .inr (app_none h)
  refine ⟨S.fh, S.oh, S.fo, by simp [S.ln], fun i d h => ?_, fun i c h => ?_, fun i j c e a h1 h2 e1 e2 => ?_, fun i a h => ?_, fun i c h => S.pq i c (app_none h)⟩
  · obtain ⟨v, e, r⟩ := S.fz i d (app_none h); exact ⟨v, ap e, r⟩
  · obtain ⟨a, e, oa⟩ := S.ow i c (ow' i c h); exact ⟨a, ap e, oa⟩
  · have o1 := ow' i c h1
    have o2 := ow' j e h2
    obtain ⟨a1, q1, _⟩ := S.ow i c o1
    obtain ⟨a2, q2, _⟩ := S.ow j e o2
    rw [ap q1] at e1; rw [ap q2] at e2
    injection e1 with e1; injection e2 with e2
    exact S.dj i j c e a o1 o2 (by rw [q1, e1]) (by rw [q2, e2])
  · obtain ⟨e, c, q⟩ := S.pp i a h; exact ⟨ap e, c, apr q⟩
/-- the block's own names go -/
theorem _root_.L3.StOk.shrink (S : StOk K G F σ H ρ) {n : Nat} (hn : n ≤ ρ.length) (hp : ∀ i a, G.P i = some a → i < n) : StOk K G F (σ.take n) H (ρ.take n) := by
  have tk : ∀ {i : Nat} {v : AV}, (ρ.take n)[i]? = some (some v) → i < n ∧ ρ[i]? = some (some v) := fun {i v} e => by
    have hi : i < n := by
      have := (List.getElem?_eq_some_iff.mp e).1
      rw [List.length_take] at this; omega
    rw [List.getElem?_take_of_lt hi] at e
    exact ⟨hi, e⟩
  have ow' : ∀ i c, own (ρ.take n) i c → i < n ∧ own ρ i c := fun i c h => by
    rcases h with h | h
    · exact ⟨(tk h).1, .inl (tk h).2⟩
    · exact ⟨(tk h).1, .inr (tk h).2⟩
  refine ⟨S.fh, S.oh, S.fo, by simp [S.ln], fun i d h => ?_, fun i c h => ?_, fun i j c e a h1 h2 e1 e2 => ?_, fun i a h => ?_, fun i c h => S.pq i c (tk h).2⟩
  · obtain ⟨v, e, r⟩ := S.fz i d (tk h).2; exact ⟨v, by rw [List.getElem?_take_of_lt (tk h).1]; exact e, r⟩
  · obtain ⟨a, e, oa⟩ := S.ow i c (ow' i c h).2; exact ⟨a, by rw [List.getElem?_take_of_lt (ow' i c h).1]; exact e, oa⟩
  · rw [List.getElem?_take_of_lt (ow' i c h1).1] at e1
    rw [List.getElem?_take_of_lt (ow' j e h2).1] at e2
    exact S.dj i j c e a (ow' i c h1).2 (ow' j e h2).2 e1 e2
  · obtain ⟨e, c, q⟩ := S.pp i a h
    exact ⟨by rw [List.getElem?_take_of_lt (hp i a h)]; exact e, c, by rw [List.getElem?_take_of_lt (hp i a h)]; exact q⟩
end
theorem take_eq_of {α : Type} {l l' : List α} {n : Nat} (h : ∀ j, j < n → l'[j]? = l[j]?) (hl : l.length = n) : l'.take n = l := by
  apply List.ext_getElem?
  intro i
  by_cases hi : i < n
  · rw [List.getElem?_take_of_lt hi, h i hi]
  · rw [List.getElem?_eq_none_iff.mpr (by rw [List.length_take]; omega), List.getElem?_eq_none_iff.mpr (by omega)]

/-! ### shapes of states: what is live -/
inductive Kd where
  | dead | f | o | p
@[reducible] def SOf : List Kd → Type
  | [] => Unit
  | .dead :: r => SOf r
  | .f :: r => D × SOf r
  | .o :: r => List D × SOf r
  | .p :: r => List D × SOf r
def rd : (sh : List Kd) → En → Option (SOf sh)
  | [], [] => some ()
  | .dead :: r, x :: ρ => match x with
    | some (.op _) => none
    | _ => rd r ρ
  | .f :: r, x :: ρ => match x with
    | some (.fz d) => match rd r ρ with
      | some s => some (d, s)
      | none => none
    | _ => none
  | .o :: r, x :: ρ => match x with
    | some (.ol (.l ds)) => match rd r ρ with
      | some s => some (ds, s)
      | none => none
    | _ => none
  | .p :: r, x :: ρ => match x with
    | some (.op (.l ds)) => match rd r ρ with
      | some s => some (ds, s)
      | none => none
    | _ => none
  | _, _ => none
def wr : (sh : List Kd) → SOf sh → En
  | [], _ => []
  | .dead :: r, s => none :: wr r s
  | .f :: r, s => some (.fz s.1) :: wr r s.2
  | .o :: r, s => some (.ol (.l s.1)) :: wr r s.2
  | .p :: r, s => some (.op (.l s.1)) :: wr r s.2
theorem rd_wr : ∀ (sh : List Kd) (ρ : En) (s : SOf sh), rd sh ρ = some s → (wr sh s).length = ρ.length ∧ (∀ (i : Nat) (av : AV), (wr sh s)[i]? = some (some av) → ρ[i]? = some (some av)) ∧ (∀ (i : Nat) (c : OC), ρ[i]? = some (some (AV.op c)) → (wr sh s)[i]? = some (some (AV.op c)))
  | [], [], s, h => ⟨rfl, fun i av q => by simpa [wr] using q, fun i c q => by simp at q⟩
  | [], _ :: _, s, h => by cases h
  | .dead :: r, [], s, h => by cases h
  | .f :: r, [], s, h => by cases h
  | .o :: r, [], s, h => by cases h
  | .p :: r, [], s, h => by cases h
  | .dead :: r, x :: ρ, s, h => by
    dsimp only [rd] at h
    split at h
    · cases h
    · rename_i hx
      obtain ⟨h1, h2, h3⟩ := rd_wr r ρ s h
      refine ⟨by simp [wr, h1], fun i av q => ?_, fun i c q => ?_⟩
      · cases i with
        | zero => simp [wr] at q
        | succ i => simpa using h2 i av (by simpa [wr] using q)
      · cases i with
        | zero => simp at q; exact absurd q (hx c)
        | succ i => simpa [wr] using h3 i c (by simpa using q)
  | .f :: r, x :: ρ, s, h => by
    dsimp only [rd] at h
    split at h
    · split at h
      · rename_i s' e
        cases h
        obtain ⟨h1, h2, h3⟩ := rd_wr r ρ s' e
        refine ⟨by simp [wr, h1], fun i av q => ?_, fun i c q => ?_⟩
        · cases i with
          | zero => simpa [wr] using q
          | succ i => simpa using h2 i av (by simpa [wr] using q)
        · cases i with
          | zero => simp at q
          | succ i => simpa [wr] using h3 i c (by simpa using q)
      · cases h
    · cases h
  | .o :: r, x :: ρ, s, h => by
    dsimp only [rd] at h
    split at h
    · split at h
      · rename_i s' e
        cases h
        obtain ⟨h1, h2, h3⟩ := rd_wr r ρ s' e
        refine ⟨by simp [wr, h1], fun i av q => ?_, fun i c q => ?_⟩
        · cases i with
          | zero => simpa [wr] using q
          | succ i => simpa using h2 i av (by simpa [wr] using q)
        · cases i with
          | zero => simp at q
          | succ i => simpa [wr] using h3 i c (by simpa using q)
      · cases h
    · cases h
  | .p :: r, x :: ρ, s, h => by
    dsimp only [rd] at h
    split at h
    · split at h
      · rename_i s' e
        cases h
        obtain ⟨h1, h2, h3⟩ := rd_wr r ρ s' e
        refine ⟨by simp [wr, h1], fun i av q => ?_, fun i c q => ?_⟩
        · cases i with
          | zero => simpa [wr] using q
          | succ i => simpa using h2 i av (by simpa [wr] using q)
        · cases i with
          | zero => simpa [wr] using q
          | succ i => simpa [wr] using h3 i c (by simpa using q)
      · cases h
    · cases h
theorem _root_.L3.StOk.rd {K : Fg} {G : Gh} {F H : Hp} {σ : L2.St} {ρ : En} {sh : List Kd} {s : SOf sh} (S : StOk K G F σ H ρ) (h : L4.rd sh ρ = some s) : StOk K G F σ H (wr sh s) := by
  obtain ⟨h1, h2, h3⟩ := rd_wr sh ρ s h
  exact S.weak h1 h2 h3
def rdk {S : Type} (sh : List Kd) (k : SOf sh → M S) (ρ : En) : M S := match rd sh ρ with
  | some s => k s
  | none => .bad

/-! ### readings with an end: k what comes behind, x what is done with an exception -/
abbrev Ev (S α : Type) := (Ex → En → M S) → (α → En → M S) → En → M S
structure KS (S : Type) where
  nx : En → M S
  rt : D → En → M S
  rl : List D → En → M S
  bk : En → M S
  ct : En → M S
  x : Ex → En → M S
def KOk {S : Type} (OK : M S → Prop) : Prop := ¬ OK .bad
def XL {S : Type} (X : Cx) (OK : M S → Prop) (x : Ex → En → M S) (G : Gh) : Prop := ∀ F ρ e, OK (x e ρ) → XW X G F ρ e
def AE {S : Type} (X : Cx) (e : Expr) (m : Ev S D) : Prop :=
  ∀ (OK : M S → Prop) (x : Ex → En → M S) (k : D → En → M S) (G : Gh) (F : Hp) (σ : L2.St) (H : Hp) (ρ : En) (Q : VK), KOk OK → XL X OK x G → StOk X.K G F σ H ρ → OK (m x k ρ) →
    (∀ d v F' H' ρ', Same F F' → StOk X.K G F' σ H' ρ' → Rep X.K F' v d → OK (k d ρ') → Q v H') → tSem X e σ H Q
def AEt {S : Type} (X : Cx) (e : Expr) (m : Ev S Bool) : Prop :=
  ∀ (OK : M S → Prop) (x : Ex → En → M S) (k : Bool → En → M S) (G : Gh) (F : Hp) (σ : L2.St) (H : Hp) (ρ : En) (Q : Bool → Hp → Prop), KOk OK → XL X OK x G → StOk X.K G F σ H ρ → OK (m x k ρ) →
    (∀ d F' H' ρ', Same F F' → StOk X.K G F' σ H' ρ' → OK (k d ρ') → Q d H') → tSemT X e σ H Q
def AEw {S : Type} (X : Cx) (e : Expr) (m : Ev S Bool) : Prop :=
  ∀ (OK : M S → Prop) (x : Ex → En → M S) (k : Bool → En → M S) (G : Gh) (F : Hp) (σ : L2.St) (H : Hp) (ρ : En) (Q : Bool → Hp → Prop), KOk OK → XL X OK x G → StOk X.K G F σ H ρ → OK (m x k ρ) →
    (∀ d F' H' ρ', Same F F' → StOk X.K G F' σ H' ρ' → OK (k d ρ') → Q d H') → tSemW X e σ H Q
def AEb {S : Type} (X : Cx) (e : Expr) (m : Ev S Bool) : Prop :=
  ∀ (OK : M S → Prop) (x : Ex → En → M S) (k : Bool → En → M S) (G : Gh) (F : Hp) (σ : L2.St) (H : Hp) (ρ : En) (Q : VK), KOk OK → XL X OK x G → StOk X.K G F σ H ρ → OK (m x k ρ) →
    (∀ d F' H' ρ', Same F F' → StOk X.K G F' σ H' ρ' → OK (k d ρ') → Q (.bl d) H') → tSem X e σ H Q
def AEa {S : Type} (X : Cx) (es : List Expr) (m : Ev S (List D)) : Prop :=
  ∀ (OK : M S → Prop) (x : Ex → En → M S) (k : List D → En → M S) (G : Gh) (F : Hp) (σ : L2.St) (H : Hp) (ρ : En) (Q : List V → Hp → Prop), KOk OK → XL X OK x G → StOk X.K G F σ H ρ → OK (m x k ρ) →
    (∀ ds vs F' H' ρ', Same F F' → StOk X.K G F' σ H' ρ' → vs.length = es.length → RepL X.K F' vs ds → OK (k ds ρ') → Q vs H') → tSemA X es σ H Q
def AEl {S : Type} (X : Cx) (e : Expr) (m : Ev S (List D)) : Prop :=
  ∀ (OK : M S → Prop) (x : Ex → En → M S) (k : List D → En → M S) (G : Gh) (F : Hp) (σ : L2.St) (H : Hp) (ρ : En) (Q : VK), KOk OK → XL X OK x G → StOk X.K G F σ H ρ → OK (m x k ρ) →
    (∀ ds v F' H' ρ', Same F F' → StOk X.K G F' σ H' ρ' → Frs X.K G F' σ H' ρ' v (.l ds) → OK (k ds ρ') → Q v H') → tSem X e σ H Q
/-- a pure reading among others -/
def ePu {S α : Type} (p : Pu α) : Ev S α := fun x k ρ => (p ρ).on (fun e => x e ρ) (fun a => k a ρ)
section
variable {S α : Type} {X : Cx} {OK : M S → Prop} {x : Ex → En → M S} {k : α → En → M S} {G : Gh} {F : Hp} {σ : L2.St} {ρ : En} {p : Pu α} {C : α → Hp → Hp → Prop}
theorem W.of (hO : KOk OK) (hX : XL X OK x G) (h : OK (ePu p x k ρ)) (w : ∀ a F' H', Same F F' → StOk X.K G F' σ H' ρ → OK (k a ρ) → C a F' H') : W X G F σ ρ (p ρ) C := by
  unfold ePu at h
  cases hp : p ρ with
  | ret a => rw [hp] at h; exact fun F' H' s S' => w a F' H' s S' h
  | exc e => rw [hp] at h; exact hX F ρ e h
  | bad => rw [hp] at h; exact hO h
end
section
variable {S : Type} {X : Cx} {e a b c : Expr} {es rest : List Expr} {p : Pu D} {pt : Pu Bool} {ps : Pu (List D)} {pos : Pos}
theorem ae_pu (h : AP X e p) : AE (S := S) X e (ePu p) := fun OK x k G F σ H ρ Q hO hX St ok kk => h G F σ H ρ Q St (W.of hO hX ok fun d F' H' s S' o v r => kk d v F' H' ρ s S' r o)
theorem aet_pu (h : AT X e pt) : AEt (S := S) X e (ePu pt) := fun OK x k G F σ H ρ Q hO hX St ok kk => h G F σ H ρ Q St (W.of hO hX ok fun d F' H' s S' o => kk d F' H' ρ s S' o)
theorem aew_pu (h : AW X e pt) : AEw (S := S) X e (ePu pt) := fun OK x k G F σ H ρ Q hO hX St ok kk => h G F σ H ρ Q St (W.of hO hX ok fun d F' H' s S' o => kk d F' H' ρ s S' o)
theorem aeb_pu (h : AB X e pt) : AEb (S := S) X e (ePu pt) := fun OK x k G F σ H ρ Q hO hX St ok kk => h G F σ H ρ Q St (W.of hO hX ok fun d F' H' s S' o => kk d F' H' ρ s S' o)
theorem ael_pu (h : AL X e ps) : AEl (S := S) X e (ePu ps) := fun OK x k G F σ H ρ Q hO hX St ok kk => h G F σ H ρ Q St (W.of hO hX ok fun d F' H' s S' o v r => kk d v F' H' ρ s S' r o)

def eB (m : Ev S Bool) : Ev S D := fun x k ρ => m x (fun b ρ1 => k (.bool b) ρ1) ρ
def eZ (m : Ev S (List D)) : Ev S D := fun x k ρ => m x (fun ds ρ1 => k (.list ds) ρ1) ρ
def eAsB (m : Ev S D) : Ev S Bool := fun x k ρ => m x (fun d ρ1 => (asB d).on (fun e => x e ρ1) (fun b => k b ρ1)) ρ
def eBin (f : D → D → Option D) (a b : Ev S D) : Ev S D := fun x k ρ => a x (fun d ρ1 => b x (fun d2 ρ2 => (oM (f d d2)).on (fun e => x e ρ2) (fun r => k r ρ2)) ρ1) ρ
def eBinB (f : D → D → Option Bool) (a b : Ev S D) : Ev S Bool := fun x k ρ => a x (fun d ρ1 => b x (fun d2 ρ2 => (oM (f d d2)).on (fun e => x e ρ2) (fun r => k r ρ2)) ρ1) ρ
def eTru (m : Ev S D) : Ev S Bool := fun x k ρ => m x (fun d ρ1 => (oM (truD d)).on (fun e => x e ρ1) (fun r => k r ρ1)) ρ
def eNil : Ev S (List D) := fun _ k ρ => k [] ρ
def eCons (m : Ev S D) (ms : Ev S (List D)) : Ev S (List D) := fun x k ρ => m x (fun d ρ1 => ms x (fun ds ρ2 => k (d :: ds) ρ2) ρ1) ρ
def eTup (ms : Ev S (List D)) : Ev S D := fun x k ρ => ms x (fun ds ρ1 => k (.tuple ds) ρ1) ρ
def eLst (ms : Ev S (List D)) : Ev S (List D) := fun x k ρ => ms x (fun ds ρ1 => k ds ρ1) ρ
def eCall (f : List D → Option D) (ms : Ev S (List D)) : Ev S D := fun x k ρ => ms x (fun ds ρ1 => (oM (f ds)).on (fun e => x e ρ1) (fun r => k r ρ1)) ρ
def eAnd (a b : Ev S Bool) : Ev S Bool := fun x k ρ => a x (fun t ρ1 => if t then b x k ρ1 else k false ρ1) ρ
def eOr (a b : Ev S Bool) : Ev S Bool := fun x k ρ => a x (fun t ρ1 => if t then k true ρ1 else b x k ρ1) ρ
def eNot (a : Ev S Bool) : Ev S Bool := fun x k ρ => a x (fun t ρ1 => k (!t) ρ1) ρ
def eIf {α : Type} (c : Ev S Bool) (a b : Ev S α) : Ev S α := fun x k ρ => c x (fun t ρ1 => if t then a x k ρ1 else b x k ρ1) ρ

theorem opt_ok {α : Type} {OK : M S → Prop} (hO : KOk OK) {o : Option α} {x : Ex → M S} {k : α → M S} (h : OK ((oM o).on x k)) : ∃ a, o = some a ∧ OK (k a) := by
  cases o with
  | none => exact (hO h).elim
  | some a => exact ⟨a, rfl, h⟩
theorem fit_ok {α : Type} {OK : M S → Prop} (hO : KOk OK) {ds : List α} {x : Ex → M S} {k : List α → M S} (h : OK ((fitM ds).on x k)) : ds.length ≤ sizeLine ∧ OK (k ds) := by
  unfold fitM at h
  split at h
  · exact ⟨by assumption, h⟩
  · exact (hO h).elim
variable {ma mb m : Ev S D} {ta tb tc : Ev S Bool} {ms : Ev S (List D)}
theorem ae_b (h : AEb X e ta) : AE X e (eB ta) := fun OK x k G F σ H ρ Q hO hX St ok kk => h OK x _ G F σ H ρ Q hO hX St ok fun b F' H' ρ' s S' o => kk _ _ F' H' ρ' s S' (.bl b) o
theorem ae_z (h : AEl X e ms) : AE X e (eZ ms) := fun OK x k G F σ H ρ Q hO hX St ok kk => h OK x _ G F σ H ρ Q hO hX St ok fun ds v F' H' ρ' s S' fr o => by
  obtain ⟨F2, s2, S2, r2⟩ := S'.settle (v := v) (ds := ds) fr
  exact kk _ v F2 H' ρ' (s.trans s2) S2 r2 o
theorem aeb_as (h : AE X e m) : AEb X e (eAsB m) := fun OK x k G F σ H ρ Q hO hX St ok kk => h OK x _ G F σ H ρ Q hO hX St ok fun d v F' H' ρ' s S' r o => by
  cases r with
  | bl b => exact kk b F' H' ρ' s S' o
  | non => exact (hO o).elim
  | int i => exact (hO o).elim
  | str i => exact (hO o).elim
  | tup _ _ => exact (hO o).elim
  | lst _ _ => exact (hO o).elim
theorem ebin_go {r : R2} {Q : VK} {OK : M S → Prop} {x : Ex → En → M S} {G : Gh} {F H : Hp} {σ : L2.St} {ρ : En} {f : D → D → En → M S} (ha : AE X a ma) (hb : AE X b mb) (hO : KOk OK) (hX : XL X OK x G) (St : StOk X.K G F σ H ρ)
    (ok : OK (ma x (fun d ρ1 => mb x (fun d2 ρ2 => f d d2 ρ2) ρ1) ρ)) (k : ∀ u v dx dy F' H' ρ', Same F F' → StOk X.K G F' σ H' ρ' → Rep X.K F' u dx → Rep X.K F' v dy → OK (f dx dy ρ') → r u v H' Q) : tOp r (tSem X a) (tSem X b) σ H Q :=
  ha OK x _ G F σ H ρ _ hO hX St ok fun d v F1 H1 ρ1 s1 S1 r1 o1 => hb OK x _ G F1 σ H1 ρ1 _ hO hX S1 o1 fun d2 u F2 H2 ρ2 s2 S2 r2 o2 => k v u d d2 F2 H2 ρ2 (s1.trans s2) S2 (r1.mono s2) r2 o2
theorem ae_bin {op : Operator} {r : R2} {f : D → D → Option D} (ho : OpR X (binaryOp op) r) (hf : OpD X.K r f) (ha : AE X a ma) (hb : AE X b mb) : AE X (.BinOp a op b pos) (eBin f ma mb) :=
  fun OK x k G F σ H ρ Q hO hX St ok kk => sem (pe_op ho pe_sem pe_sem) (ebin_go ha hb hO hX St ok fun u v dx dy F' H' ρ' s S' r1 r2 o => by
    obtain ⟨res, e, o'⟩ := opt_ok hO o
    exact hf G F' σ H' ρ' u v dx dy res Q S' (.inl r1) (.inl r2) e fun w F2 H2 s2 S2 r3 => kk res w F2 H2 ρ' (s.trans s2) S2 r3 o')
theorem ae_ix {r : R2} {f : D → D → Option D} (hr : IxR X r) (hf : OpD X.K r f) (ha : AE X a ma) (hb : AE X b mb) (hs : PlainIx b) : AE X (.Subscript a b pos) (eBin f ma mb) :=
  fun OK x k G F σ H ρ Q hO hX St ok kk => sem (pe_ix hr pe_sem pe_sem hs) (ebin_go ha hb hO hX St ok fun u v dx dy F' H' ρ' s S' r1 r2 o => by
    obtain ⟨res, e, o'⟩ := opt_ok hO o
    exact hf G F' σ H' ρ' u v dx dy res Q S' (.inl r1) (.inl r2) e fun w F2 H2 s2 S2 r3 => kk res w F2 H2 ρ' (s.trans s2) S2 r3 o')
theorem aeb_cmp {op : CmpOp} {r : R2} {f : D → D → Option Bool} (ho : OpR X (compareOp op) r) (hf : OpB X.K r f) (ha : AE X a ma) (hb : AE X b mb) (hm : behindInMarks op b = false) : AEb X (.Compare a [op] [b] pos) (eBinB f ma mb) :=
  fun OK x k G F σ H ρ Q hO hX St ok kk => sem (pe_cmpR ho pe_sem pe_sem hm) (ebin_go ha hb hO hX St ok fun u v dx dy F' H' ρ' s S' r1 r2 o => by
    obtain ⟨res, e, o'⟩ := opt_ok hO o
    exact hf G F' σ H' ρ' u v dx dy res Q S' (.inl r1) (.inl r2) e (kk res F' H' ρ' s S' o'))
theorem aet_cmp {op : CmpOp} {r : R2} {f : D → D → Option Bool} (ho : OpR X (compareOp op) r) (hf : OpB X.K r f) (ha : AE X a ma) (hb : AE X b mb) (hm : behindInMarks op b = false) : AEt X (.Compare a [op] [b] pos) (eBinB f ma mb) :=
  fun OK x k G F σ H ρ Q hO hX St ok kk => semT (pt_cmpR ho pe_sem pe_sem hm) (ebin_go (Q := fun x H' => ∃ k, x = .bl k ∧ Q k H') ha hb hO hX St ok fun u v dx dy F' H' ρ' s S' r1 r2 o => by
    obtain ⟨res, e, o'⟩ := opt_ok hO o
    exact hf G F' σ H' ρ' u v dx dy res _ S' (.inl r1) (.inl r2) e ⟨res, rfl, kk res F' H' ρ' s S' o'⟩)
theorem aea_nil : AEa (S := S) X [] eNil := fun OK x k G F σ H ρ Q hO hX St ok kk => semA pa_nil (kk [] [] F H ρ (Same.refl _) St rfl .nil ok)
theorem aea_cons (h : AE X e m) (hr : AEa X es ms) (hs : starEach (e :: es) X.env = (false, eval e X.env) :: starEach es X.env) : AEa X (e :: es) (eCons m ms) :=
  fun OK x k G F σ H ρ Q hO hX St ok kk => semA (pa_cons pe_sem pa_sem hs) (h OK x _ G F σ H ρ _ hO hX St ok fun d v F1 H1 ρ1 s1 S1 r1 o1 =>
    hr OK x _ G F1 σ H1 ρ1 _ hO hX S1 o1 fun ds vs F2 H2 ρ2 s2 S2 hl r2 o2 => kk (d :: ds) (v :: vs) F2 H2 ρ2 (s1.trans s2) S2 (by simp [hl]) (.cons (r1.mono s2) r2) o2)
theorem ae_tup {x1} (h : AEa X es ms) (hz : es.length ≤ 1000) : AE X (.Tuple es x1 pos) (eTup ms) :=
  fun OK x k G F σ H ρ Q hO hX St ok kk => sem (pe_tup pa_sem) (h OK x _ G F σ H ρ _ hO hX St ok fun ds vs F1 H1 ρ1 s1 S1 hl r1 o1 => by
    refine ⟨by rw [hl]; exact le1000 hz, fun q hq => ?_⟩
    obtain ⟨s2, S2, r2⟩ := S1.newTup hq r1
    exact kk _ _ _ _ ρ1 (s1.trans s2) S2 r2 o1)
theorem ael_lst (h : AEa X es ms) (hz : es.length ≤ 1000) : AEl X (.List es pos) (eLst ms) :=
  fun OK x k G F σ H ρ Q hO hX St ok kk => sem (pe_lst pa_sem) (h OK x _ G F σ H ρ _ hO hX St ok fun ds vs F1 H1 ρ1 s1 S1 hl r1 o1 => by
    refine ⟨by rw [hl]; exact le1000 hz, fun q hq => ?_⟩
    obtain ⟨S2, r2⟩ := S1.newLst hq r1
    exact kk _ _ _ _ ρ1 s1 S2 r2 o1)
theorem aew_and1 (ha : AEt X a ta) : AEw X (.BoolOp .And [a] pos) ta := fun OK x k G F σ H ρ Q hO hX St ok kk => semW (pw_and1 pt_sem) (ha OK x k G F σ H ρ Q hO hX St ok kk)
theorem aew_or1 (ha : AEt X a ta) : AEw X (.BoolOp .Or [a] pos) ta := fun OK x k G F σ H ρ Q hO hX St ok kk => semW (pw_or1 pt_sem) (ha OK x k G F σ H ρ Q hO hX St ok kk)
theorem aew_and (ha : AEt X a ta) (hb : AEw X (.BoolOp .And (b :: rest) pos) tb) : AEw X (.BoolOp .And (a :: b :: rest) pos) (eAnd ta tb) :=
  fun OK x k G F σ H ρ Q hO hX St ok kk => semW (pw_and pt_sem pw_sem) (ha OK x _ G F σ H ρ _ hO hX St ok fun t F1 H1 ρ1 s1 S1 o1 => by
    cases t with
    | true => refine iteT ?_; exact hb OK x k G F1 σ H1 ρ1 Q hO hX S1 o1 fun d F2 H2 ρ2 s2 S2 o2 => kk d F2 H2 ρ2 (s1.trans s2) S2 o2
    | false => refine iteF ?_; exact kk false F1 H1 ρ1 s1 S1 o1)
theorem aew_or (ha : AEt X a ta) (hb : AEw X (.BoolOp .Or (b :: rest) pos) tb) : AEw X (.BoolOp .Or (a :: b :: rest) pos) (eOr ta tb) :=
  fun OK x k G F σ H ρ Q hO hX St ok kk => semW (pw_or pt_sem pw_sem) (ha OK x _ G F σ H ρ _ hO hX St ok fun t F1 H1 ρ1 s1 S1 o1 => by
    cases t with
    | true => refine iteT ?_; exact kk true F1 H1 ρ1 s1 S1 o1
    | false => refine iteF ?_; exact hb OK x k G F1 σ H1 ρ1 Q hO hX S1 o1 fun d F2 H2 ρ2 s2 S2 o2 => kk d F2 H2 ρ2 (s1.trans s2) S2 o2)
theorem aet_aw (h : AEw X e ta) : AEt X e ta := fun OK x k G F σ H ρ Q hO hX St ok kk => semT (fun pins s σ H Q I h => pw_sem _ pins s σ H Q I h) (h OK x k G F σ H ρ Q hO hX St ok kk)
theorem aet_not (ha : AEt X a ta) : AEt X (.UnaryOp .Not a pos) (eNot ta) :=
  fun OK x k G F σ H ρ Q hO hX St ok kk => semT (pt_not pt_sem) (ha OK x _ G F σ H ρ _ hO hX St ok fun t F1 H1 ρ1 s1 S1 o1 => kk (!t) F1 H1 ρ1 s1 S1 o1)
theorem aet_b (ha : AEb X a ta) (he : ∀ whole, isTrue a X.env whole = (do let v ← whole; standAt a.pos; holding [v] (truthy v))) : AEt X a ta :=
  fun OK x k G F σ H ρ Q hO hX St ok kk => semT (pt_truth pe_sem he) (ha OK x _ G F σ H ρ _ hO hX St ok fun t F1 H1 ρ1 s1 S1 o1 => ⟨t, rfl, kk t F1 H1 ρ1 s1 S1 o1⟩)
theorem ae_if (hc : AEt X c tc) (ha : AE X a ma) (hb : AE X b mb) : AE X (.IfExp c a b pos) (eIf tc ma mb) :=
  fun OK x k G F σ H ρ Q hO hX St ok kk => sem (pe_ifExp pt_sem pe_sem pe_sem) (hc OK x _ G F σ H ρ _ hO hX St ok fun t F1 H1 ρ1 s1 S1 o1 => by
    cases t with
    | true => refine iteT ?_; exact ha OK x k G F1 σ H1 ρ1 Q hO hX S1 o1 fun d v F2 H2 ρ2 s2 S2 r2 o2 => kk d v F2 H2 ρ2 (s1.trans s2) S2 r2 o2
    | false => refine iteF ?_; exact hb OK x k G F1 σ H1 ρ1 Q hO hX S1 o1 fun d v F2 H2 ρ2 s2 S2 r2 o2 => kk d v F2 H2 ρ2 (s1.trans s2) S2 r2 o2)
theorem RepL.ors {K : Fg} {F H : Hp} : ∀ {vs : List V} {ds : List D}, RepL K F vs ds → ORs K F H vs ds
  | _, _, .nil => .nil
  | _, _, .cons h t => .cons (.inl h) (RepL.ors t)
theorem ae_callB {x : Str} {p : Pos} {id : String} {r : List V → Hp → VK → Prop} {f : List D → Option D} (hc : CallR X (.builtin id) r) (hf : CallD X.K r f) (hg : Gl X x) (hm : X.mg x = none) (hv : bootBuiltins x = some (.builtin id)) (ha : AEa X (e :: es) ms)
    (hn : x ≠ "__name__") (hdb : (x == ("__debug__" : Str)) = false) (he : starEach (e :: es) X.env = (false, eval e X.env) :: starEach es X.env) (hpl : (backTo pos (starEach es X.env)).any (·.1) = false) : AE X (.Call (.Name x p) (e :: es) [] pos) (eCall f ms) :=
  fun OK y k G F σ H ρ Q hO hX St ok kk => sem (pe_callB hc hg hm hv pa_sem hn hdb he hpl) (ha OK y _ G F σ H ρ _ hO hX St ok fun ds vs F1 H1 ρ1 s1 S1 _ r1 o1 => by
    obtain ⟨res, e, o'⟩ := opt_ok hO o1
    exact hf G F1 σ H1 ρ1 vs ds res Q S1 (RepL.ors r1) e fun w F2 H2 s2 S2 r3 => kk res w F2 H2 ρ1 (s1.trans s2) S2 r3 o')
theorem ae_callTy {x : Str} {p : Pos} {T : String} {r : List V → Hp → VK → Prop} {f : List D → Option D} (hc : CallR X (.type T) r) (hf : CallD X.K r f) (hg : Gl X x) (hm : X.mg x = none) (hv : bootBuiltins x = some (.type T)) (ha : AEa X (e :: es) ms)
    (hn : x ≠ "__name__") (hdb : (x == ("__debug__" : Str)) = false) (he : starEach (e :: es) X.env = (false, eval e X.env) :: starEach es X.env) (hpl : (backTo pos (starEach es X.env)).any (·.1) = false) : AE X (.Call (.Name x p) (e :: es) [] pos) (eCall f ms) :=
  fun OK y k G F σ H ρ Q hO hX St ok kk => sem (pe_callTy hc hg hm hv pa_sem hn hdb he hpl) (ha OK y _ G F σ H ρ _ hO hX St ok fun ds vs F1 H1 ρ1 s1 S1 _ r1 o1 => by
    obtain ⟨res, e, o'⟩ := opt_ok hO o1
    exact hf G F1 σ H1 ρ1 vs ds res Q S1 (RepL.ors r1) e fun w F2 H2 s2 S2 r3 => kk res w F2 H2 ρ1 (s1.trans s2) S2 r3 o')
end
end L4

set_option Elab.async false
set_option linter.all false
set_option maxRecDepth 100000
namespace L4
open PySem PySem.Spec PyProof.Rows L2 L3

/-! ### what is walked -/
structure Walk (K : Fg) (J : It) (ds : List D) (F : Hp) : Prop where
  go : ∀ (i : Nat) (G : Gh) (F2 : Hp) (σ : L2.St) (H2 : Hp) (ρ : En), Same F F2 → StOk K G F2 σ H2 ρ → i < ds.length → J.go i H2
  yld : ∀ (i : Nat) (G : Gh) (F2 : Hp) (σ : L2.St) (H2 : Hp) (ρ : En) (x : V) (H3 : Hp) (d : D), Same F F2 → StOk K G F2 σ H2 ρ → ds[i]? = some d → J.yld i H2 x H3 → ∃ F3, Same F2 F3 ∧ StOk K G F3 σ H3 ρ ∧ Rep K F3 x d
  stop : ∀ (G : Gh) (F2 : Hp) (σ : L2.St) (H2 : Hp) (ρ : En), Same F F2 → StOk K G F2 σ H2 ρ → J.stop ds.length H2
theorem walk_list {K : Fg} {F : Hp} {a : Addr} {vs : List V} {ds : List D} (h : SqL K F a vs) (r : RepL K F vs ds) : Walk K (Itl K a) ds F where
  go := fun i G F2 σ H2 ρ s S hi => by
    have hi' : i < vs.length := by rw [r.length]; exact hi
    exact ⟨vs, vs[i], S.fh.seq (s.seq h), by simp [hi']⟩
  yld := fun i G F2 σ H2 ρ x H3 d s S hd ⟨e, q⟩ => by
    subst e
    obtain ⟨v, e1, e2⟩ := r.get hd
    have := q vs (S.fh.seq (s.seq h))
    rw [e1] at this
    cases this
    exact ⟨F2, Same.refl _, S, e2.mono s⟩
  stop := fun G F2 σ H2 ρ s S => ⟨vs, S.fh.seq (s.seq h), by rw [r.length]; exact Nat.le_refl _⟩
theorem walk_tup {K : Fg} {F : Hp} {a : Addr} {vs : List V} {ds : List D} (h : SqT K F a vs) (r : RepL K F vs ds) : Walk K (Itt K a) ds F where
  go := fun i G F2 σ H2 ρ s S hi => by
    have hi' : i < vs.length := by rw [r.length]; exact hi
    exact ⟨vs, vs[i], sqT_mono S.fh (sqT_mono s h), by simp [hi']⟩
  yld := fun i G F2 σ H2 ρ x H3 d s S hd ⟨e, q⟩ => by
    subst e
    obtain ⟨v, e1, e2⟩ := r.get hd
    have := q vs (sqT_mono S.fh (sqT_mono s h))
    rw [e1] at this
    cases this
    exact ⟨F2, Same.refl _, S, e2.mono s⟩
  stop := fun G F2 σ H2 ρ s S => ⟨vs, sqT_mono S.fh (sqT_mono s h), by rw [r.length]; exact Nat.le_refl _⟩
def rangeD (lo : Int) (n : Nat) : List D := (List.range n).map fun (i : Nat) => PyData.int (lo + (i : Int))
theorem rangeD_length (lo : Int) (n : Nat) : (rangeD lo n).length = n := by simp [rangeD]
theorem walk_range {K : Fg} {F : Hp} (lo : Int) (n : Nat) : Walk K (Itr lo n) (rangeD lo n) F where
  go := fun i G F2 σ H2 ρ s S hi => by rw [rangeD_length] at hi; exact hi
  yld := fun i G F2 σ H2 ρ x H3 d s S hd ⟨e, q⟩ => by
    subst e q
    have e' : (rangeD lo n)[i]? = some d := hd
    unfold rangeD at e'
    rw [List.getElem?_map] at e'
    have hi : i < n := by
      have := (List.getElem?_eq_some_iff.mp hd).1
      rw [rangeD_length] at this; exact this
    rw [List.getElem?_range hi] at e'
    cases e'
    exact ⟨F2, Same.refl _, S, .int _⟩
  stop := fun G F2 σ H2 ρ s S => by rw [rangeD_length]; exact Nat.le_refl _
@[irreducible] def tSemI (X : Cx) (tg iter : Expr) : TI := fun σ H R => ∀ (pins : List (Addr × Obj)) (s : Shared), Inv X pins σ H s → wpAny (model X.prog X.w) X.A (eval iter X.env) (fun v s1 => wpAny (model X.prog X.w) X.A (pyIter v) (PIE X pins σ tg R) X.xe s1) X.xe s
theorem pi_sem {X : Cx} {tg e : Expr} : PI X tg e (tSemI X tg e) := fun pins s σ H R I h => by unfold tSemI at h; exact h pins s I
theorem semI {X : Cx} {tg e : Expr} {σ : L2.St} {H : Hp} {R : It → Hp → Prop} {t : TI} (h : PI X tg e t) (q : t σ H R) : tSemI X tg e σ H R := by unfold tSemI; exact fun pins s I => h pins s σ H R I q
def AI (X : Cx) (tg e : Expr) (p : Pu (List D)) : Prop :=
  ∀ (G : Gh) (F : Hp) (σ : L2.St) (H : Hp) (ρ : En) (R : It → Hp → Prop), StOk X.K G F σ H ρ → W X G F σ ρ (p ρ) (fun ds F' H' => ∀ J, Walk X.K J ds F' → R J H') → tSemI X tg e σ H R
def AEi {S : Type} (X : Cx) (tg e : Expr) (m : Ev S (List D)) : Prop :=
  ∀ (OK : M S → Prop) (x : Ex → En → M S) (k : List D → En → M S) (G : Gh) (F : Hp) (σ : L2.St) (H : Hp) (ρ : En) (R : It → Hp → Prop), KOk OK → XL X OK x G → StOk X.K G F σ H ρ → OK (m x k ρ) →
    (∀ ds J F' H' ρ', Same F F' → StOk X.K G F' σ H' ρ' → Walk X.K J ds F' → OK (k ds ρ') → R J H') → tSemI X tg e σ H R
theorem aei_pu {S : Type} {X : Cx} {tg e : Expr} {ps : Pu (List D)} (h : AI X tg e ps) : AEi (S := S) X tg e (ePu ps) := fun OK x k G F σ H ρ Q hO hX St ok kk => h G F σ H ρ Q St (W.of hO hX ok fun d F' H' s S' o v r => kk d v F' H' ρ s S' r o)
def iSeq (K : Fg) (tl : TE) : TI := fun σ H R => tl σ H fun x H1 => (∃ a, x = .ref a ∧ (∃ xs, SqL K H1 a xs) ∧ R (Itl K a) H1) ∨ ∃ a, x = .ref a ∧ (∃ xs, SqT K H1 a xs) ∧ R (Itt K a) H1
theorem pi_seq {X : Cx} {tg l : Expr} {tl : TE} (hl : PE X l tl) : PI X tg l (iSeq X.K tl) := by
  intro pins s σ H R I h
  refine thn (hl pins s σ H _ I h) fun v s1 ⟨x, H1, I1, r1, q1⟩ => ?_
  rcases q1 with ⟨a, e, ⟨xs, hq⟩, q⟩ | ⟨a, e, ⟨xs, hq⟩, q⟩
  · subst e
    cases r1
    obtain ⟨its, rv, p, hz⟩ := I1.list hq
    refine wpAny_pyIter_list p.isList ?_
    refine ⟨s1.heap.objs.size, [s1.heap.objs.size], _, _, H1, rfl, I1.kept (t' := s1.toks) fun b o e => Heap.get?_push_of_some _ e, turn_list a _, ⟨_, Heap.get?_push_size _ rfl, rfl, rfl⟩, fun b hb => ?_, q⟩
    have e : b = s1.heap.objs.size := by simpa using hb
    subst e
    exact I1.fpOk (Nat.le_refl _) (I1.hok.fresh (Nat.le_refl _))
  · subst e
    cases r1
    obtain ⟨its, rv, p, hz⟩ := I1.tuple hq
    refine wpAny_pyIter_tuple (show s1.heap.IsTuple a its.toArray from p) ?_
    refine ⟨s1.heap.objs.size, [s1.heap.objs.size], _, _, H1, rfl, I1.kept (t' := s1.toks) fun b o e => Heap.get?_push_of_some _ e, turn_tuple a _, ⟨_, Heap.get?_push_size _ rfl, rfl, rfl⟩, fun b hb => ?_, q⟩
    have e : b = s1.heap.objs.size := by simpa using hb
    subst e
    exact I1.fpOk (Nat.le_refl _) (I1.hok.fresh (Nat.le_refl _))
def seqD : D → Option (List D)
  | .list ds => some ds
  | .tuple ds => some ds
  | _ => none
def pIt (p : Pu D) : Pu (List D) := fun ρ => bd (p ρ) fun d => oM (seqD d)
def eIt {S : Type} (m : Ev S D) : Ev S (List D) := fun x k ρ => m x (fun d ρ1 => (oM (seqD d)).on (fun e => x e ρ1) (fun r => k r ρ1)) ρ
def small62 (i : Int) : Bool := decide (-(2 ^ 62) ≤ i) && decide (i < 2 ^ 62)
theorem small62_of {i : Int} (h : small62 i = true) : -(2 ^ 62) ≤ i ∧ i < 2 ^ 62 := by
  unfold small62 at h
  simp only [Bool.and_eq_true, decide_eq_true_eq] at h
  exact h
def fRange1 : List D → Option (List D)
  | [.int j] => if small62 j then some (rangeD 0 j.toNat) else none
  | _ => none
def fRange2 : List D → Option (List D)
  | [.int i, .int j] => if small62 i && small62 j then some (rangeD i (j - i).toNat) else none
  | _ => none
def eCallL {S : Type} (f : List D → Option (List D)) (ms : Ev S (List D)) : Ev S (List D) := fun x k ρ => ms x (fun ds ρ1 => (oM (f ds)).on (fun e => x e ρ1) (fun r => k r ρ1)) ρ
section
variable {S : Type} {X : Cx} {tg e a b : Expr} {pp : Pu D} {ps : Pa (List D)} {m : Ev S D} {ms : Ev S (List D)} {p pos : Pos}
theorem seq_walk {F H : Hp} {v : V} {d : D} {ds : List D} {R : It → Hp → Prop} (s : Same F H) (r : Rep X.K F v d) (hd : seqD d = some ds) (k : ∀ J, Walk X.K J ds F → R J H) :
    (∃ a, v = .ref a ∧ (∃ xs, SqL X.K H a xs) ∧ R (Itl X.K a) H) ∨ ∃ a, v = .ref a ∧ (∃ xs, SqT X.K H a xs) ∧ R (Itt X.K a) H := by
  cases r with
  | lst h1 h2 => cases hd; exact .inl ⟨_, rfl, ⟨_, s.seq h1⟩, k _ (walk_list h1 h2)⟩
  | tup h1 h2 => cases hd; exact .inr ⟨_, rfl, ⟨_, sqT_mono s h1⟩, k _ (walk_tup h1 h2)⟩
  | non => cases hd
  | bl _ => cases hd
  | int _ => cases hd
  | str _ => cases hd
theorem ai_seq (h : AP X e pp) : AI X tg e (pIt pp) := fun G F σ H ρ R S w => semI (pi_seq pe_sem) (h G F σ H ρ _ S (w.bind.imp fun d F1 H1 s1 S1 w1 v r1 => by
  obtain ⟨ds, hd, k⟩ := w1.opt
  exact seq_walk S1.fh r1 hd (k F1 H1 (Same.refl _) S1)))
theorem aei_seq (h : AE X e m) : AEi X tg e (eIt m) := fun OK x k G F σ H ρ R hO hX St ok kk => semI (pi_seq pe_sem) (h OK x _ G F σ H ρ _ hO hX St ok fun d v F1 H1 ρ1 s1 S1 r1 o1 => by
  obtain ⟨ds, hd, o⟩ := opt_ok hO o1
  exact seq_walk S1.fh r1 hd fun J wk => kk ds J F1 H1 ρ1 s1 S1 wk o)
theorem range1_go {F H : Hp} {vs : List V} {ds out : List D} {R : It → Hp → Prop} (r : RepL X.K F vs ds) (h : fRange1 ds = some out) (k : ∀ J, Walk X.K J out F → R J H) : ∃ j, vs = [.int j] ∧ -(2 ^ 62) ≤ j ∧ j < 2 ^ 62 ∧ R (Itr 0 j.toNat) H := by
  unfold fRange1 at h
  split at h
  · rename_i j
    split at h
    · rename_i hs
      cases h
      cases r with
      | cons r1 r2 =>
        cases r2
        cases r1
        exact ⟨j, rfl, (small62_of hs).1, (small62_of hs).2, k _ (walk_range 0 j.toNat)⟩
    · cases h
  · cases h
theorem range2_go {F H : Hp} {vs : List V} {ds out : List D} {R : It → Hp → Prop} (r : RepL X.K F vs ds) (h : fRange2 ds = some out) (k : ∀ J, Walk X.K J out F → R J H) :
    ∃ i j, vs = [.int i, .int j] ∧ (-(2 ^ 62) ≤ i ∧ i < 2 ^ 62 ∧ -(2 ^ 62) ≤ j ∧ j < 2 ^ 62) ∧ R (Itr i (j - i).toNat) H := by
  unfold fRange2 at h
  split at h
  · rename_i i j
    split at h
    · rename_i hs
      cases h
      rw [Bool.and_eq_true] at hs
      cases r with
      | cons r1 r2 =>
        cases r2 with
        | cons r3 r4 =>
          cases r4
          cases r1
          cases r3
          exact ⟨i, j, rfl, ⟨(small62_of hs.1).1, (small62_of hs.1).2, (small62_of hs.2).1, (small62_of hs.2).2⟩, k _ (walk_range i (j - i).toNat)⟩
    · cases h
  · cases h
theorem ai_range1 (hg : Gl X "range") (hm : X.mg "range" = none) (ha : AA X [a] ps) (hs : starEach [a] X.env = [(false, eval a X.env)]) : AI X tg (.Call (.Name "range" p) [a] [] pos) (pCallL fRange1 ps) :=
  fun G F σ H ρ R S w => semI (pi_range1 hg hm pa_sem hs) (ha G F σ H ρ _ _ _ S w fun ds vs F1 H1 s1 S1 _ r1 w1 => by
    obtain ⟨out, hd, k⟩ := w1.opt
    exact range1_go r1 hd (k F1 H1 (Same.refl _) S1))
theorem ai_range2 (hg : Gl X "range") (hm : X.mg "range" = none) (ha : AA X [a, b] ps) (hs : starEach [a, b] X.env = [(false, eval a X.env), (false, eval b X.env)]) (hs2 : starEach [b] X.env = [(false, eval b X.env)]) : AI X tg (.Call (.Name "range" p) [a, b] [] pos) (pCallL fRange2 ps) :=
  fun G F σ H ρ R S w => semI (pi_range2 hg hm pa_sem hs hs2) (ha G F σ H ρ _ _ _ S w fun ds vs F1 H1 s1 S1 _ r1 w1 => by
    obtain ⟨out, hd, k⟩ := w1.opt
    exact range2_go r1 hd (k F1 H1 (Same.refl _) S1))
theorem aei_range1 (hg : Gl X "range") (hm : X.mg "range" = none) (ha : AEa X [a] ms) (hs : starEach [a] X.env = [(false, eval a X.env)]) : AEi X tg (.Call (.Name "range" p) [a] [] pos) (eCallL fRange1 ms) :=
  fun OK x k G F σ H ρ R hO hX St ok kk => semI (pi_range1 hg hm pa_sem hs) (ha OK x _ G F σ H ρ _ hO hX St ok fun ds vs F1 H1 ρ1 s1 S1 _ r1 o1 => by
    obtain ⟨out, hd, o⟩ := opt_ok hO o1
    exact range1_go r1 hd fun J wk => kk out J F1 H1 ρ1 s1 S1 wk o)
theorem aei_range2 (hg : Gl X "range") (hm : X.mg "range" = none) (ha : AEa X [a, b] ms) (hs : starEach [a, b] X.env = [(false, eval a X.env), (false, eval b X.env)]) (hs2 : starEach [b] X.env = [(false, eval b X.env)]) : AEi X tg (.Call (.Name "range" p) [a, b] [] pos) (eCallL fRange2 ms) :=
  fun OK x k G F σ H ρ R hO hX St ok kk => semI (pi_range2 hg hm pa_sem hs hs2) (ha OK x _ G F σ H ρ _ hO hX St ok fun ds vs F1 H1 ρ1 s1 S1 _ r1 o1 => by
    obtain ⟨out, hd, o⟩ := opt_ok hO o1
    exact range2_go r1 hd fun J wk => kk out J F1 H1 ρ1 s1 S1 wk o)
end

/-! ### targets -/
abbrev Tg (S : Type) := D → (En → M S) → En → M S
def okSet (ρ : En) (i : Nat) : Bool := decide (i < ρ.length) && (match ρ[i]? with
  | some (some (.op _)) => false
  | _ => true)
theorem okSet_of {ρ : En} {i : Nat} (h : okSet ρ i = true) : i < ρ.length ∧ ∀ c, ρ[i]? ≠ some (some (.op c)) := by
  unfold okSet at h
  rw [Bool.and_eq_true] at h
  refine ⟨by simpa using h.1, fun c e => ?_⟩
  rw [e] at h
  exact absurd h.2 (by simp)
@[irreducible] def tSemG (X : Cx) (tg : Expr) : TG := fun v σ H Q => ∀ (pins : List (Addr × Obj)) (s : Shared) (u : Value), Inv X pins σ H s → RelV v u → wpAny (model X.prog X.w) X.A (assign tg X.env u) (fun _ s' => ∃ σ' H', Inv X pins σ' H' s' ∧ Q σ' H') X.xe s
@[irreducible] def tSemGs (X : Cx) (tgs : List Expr) : TGs := fun vs σ H Q => ∀ (pins : List (Addr × Obj)) (s : Shared) (us : List Value), Inv X pins σ H s → Vals vs us → wpAny (model X.prog X.w) X.A (assignInOrder ((assignEach tgs X.env).map (·.2)) us) (fun _ s' => ∃ σ' H', Inv X pins σ' H' s' ∧ Q σ' H') X.xe s
theorem pg_sem {X : Cx} {tg : Expr} : PG X tg (tSemG X tg) := fun pins s σ H v u Q I r h => by unfold tSemG at h; exact h pins s u I r
theorem pgs_sem {X : Cx} {tgs : List Expr} : PGs X tgs (tSemGs X tgs) := fun pins s σ H vs us Q I r h => by unfold tSemGs at h; exact h pins s us I r
theorem semG {X : Cx} {tg : Expr} {t : TG} {v : V} {σ : L2.St} {H : Hp} {Q : L2.St → Hp → Prop} (h : PG X tg t) (q : t v σ H Q) : tSemG X tg v σ H Q := by unfold tSemG; exact fun pins s u I r => h pins s σ H v u Q I r q
theorem semGs {X : Cx} {tgs : List Expr} {t : TGs} {vs : List V} {σ : L2.St} {H : Hp} {Q : L2.St → Hp → Prop} (h : PGs X tgs t) (q : t vs σ H Q) : tSemGs X tgs vs σ H Q := by unfold tSemGs; exact fun pins s us I r => h pins s σ H vs us Q I r q
def AG {S : Type} (X : Cx) (n : Nat) (tg : Expr) (st : Tg S) : Prop :=
  ∀ (OK : M S → Prop) (k : En → M S) (G : Gh) (F : Hp) (σ : L2.St) (H : Hp) (ρ : En) (v : V) (d : D) (Q : L2.St → Hp → Prop), KOk OK → StOk X.K G F σ H ρ → Rep X.K F v d → OK (st d k ρ) →
    (∀ σ' ρ', StOk X.K G F σ' H ρ' → (∀ j, j < n → σ'[j]? = σ[j]? ∧ ρ'[j]? = ρ[j]?) → σ'.length = σ.length → ρ'.length = ρ.length → OK (k ρ') → Q σ' H) → tSemG X tg v σ H Q
def AGs {S : Type} (X : Cx) (n : Nat) (tgs : List Expr) (st : List D → (En → M S) → En → M S) : Prop :=
  ∀ (OK : M S → Prop) (k : En → M S) (G : Gh) (F : Hp) (σ : L2.St) (H : Hp) (ρ : En) (vs : List V) (ds : List D) (Q : L2.St → Hp → Prop), KOk OK → StOk X.K G F σ H ρ → RepL X.K F vs ds → OK (st ds k ρ) →
    (∀ σ' ρ', StOk X.K G F σ' H ρ' → (∀ j, j < n → σ'[j]? = σ[j]? ∧ ρ'[j]? = ρ[j]?) → σ'.length = σ.length → ρ'.length = ρ.length → OK (k ρ') → Q σ' H) → tSemGs X tgs vs σ H Q
def gSet {S : Type} (i : Nat) : Tg S := fun d k ρ => match okSet ρ i with
  | true => k (ρ.set i (some (.fz d)))
  | false => .bad
def gsNil {S : Type} : List D → (En → M S) → En → M S
  | [], k, ρ => k ρ
  | _, _, _ => .bad
def gsCons {S : Type} (t : Tg S) (ts : List D → (En → M S) → En → M S) : List D → (En → M S) → En → M S
  | d :: ds, k, ρ => t d (fun ρ1 => ts ds k ρ1) ρ
  | [], _, _ => .bad
def un1 {S : Type} (d : D) (k : D → M S) : M S := match d with
  | .tuple [a] => k a
  | _ => .bad
def un2 {S : Type} (d : D) (k : D → D → M S) : M S := match d with
  | .tuple [a, b] => k a b
  | _ => .bad
def un3 {S : Type} (d : D) (k : D → D → D → M S) : M S := match d with
  | .tuple [a, b, c] => k a b c
  | _ => .bad
def un4 {S : Type} (d : D) (k : D → D → D → D → M S) : M S := match d with
  | .tuple [a, b, c, e] => k a b c e
  | _ => .bad
def gTup2 {S : Type} (ts : List D → (En → M S) → En → M S) : Tg S := fun d k ρ => un2 d fun a b => ts [a, b] k ρ
def gTup3 {S : Type} (ts : List D → (En → M S) → En → M S) : Tg S := fun d k ρ => un3 d fun a b c => ts [a, b, c] k ρ
def gTup4 {S : Type} (ts : List D → (En → M S) → En → M S) : Tg S := fun d k ρ => un4 d fun a b c e => ts [a, b, c, e] k ρ
section
variable {S : Type} {X : Cx} {pos : Pos} {n : Nat}
theorem ag_name {i : Nat} {x : Str} (hn : n ≤ i) (hN : X.N.Nodup) (hi : X.N[i]? = some x) (hx : Loc X.env.scope x) (hf : X.fn x = true ∨ X.env.scope.names.lookup x = some .local) : AG (S := S) X n (.Name x pos) (gSet i) := by
  intro OK k G F σ H ρ v d Q hO S r ok kk
  unfold gSet at ok
  split at ok
  · rename_i ho
    obtain ⟨hl, hop⟩ := okSet_of ho
    refine semG (pg_name hN hi hx hf) ?_
    exact kk _ _ (S.store hop hl (.inl ⟨d, rfl, r⟩)) (fun j hj => ⟨List.getElem?_set_ne (by omega), List.getElem?_set_ne (by omega)⟩) (by simp) (by simp) ok
  · exact (hO ok).elim
theorem ags_nil : AGs (S := S) X n [] gsNil := by
  intro OK k G F σ H ρ vs ds Q hO S r ok kk
  cases ds with
  | nil =>
    cases r
    exact semGs pgs_nil ⟨rfl, kk σ ρ S (fun _ _ => ⟨rfl, rfl⟩) rfl rfl ok⟩
  | cons d ds => exact (hO ok).elim
theorem ags_cons {e : Expr} {es : List Expr} {st : Tg S} {sts : List D → (En → M S) → En → M S} (h1 : AG X n e st) (h2 : AGs X n es sts)
    (hs : (assignEach (e :: es) X.env).map (·.2) = assign e X.env :: (assignEach es X.env).map (·.2)) : AGs X n (e :: es) (gsCons st sts) := by
  intro OK k G F σ H ρ vs ds Q hO S r ok kk
  cases ds with
  | nil => exact (hO ok).elim
  | cons d ds =>
    cases r with
    | cons rv rr =>
      refine semGs (pgs_cons pg_sem pgs_sem hs) ⟨_, _, rfl, ?_⟩
      refine h1 OK _ G F σ H ρ _ d _ hO S rv ok fun σ1 ρ1 S1 kp1 l1 m1 o1 => ?_
      exact h2 OK k G F σ1 H ρ1 _ ds _ hO S1 rr o1 fun σ2 ρ2 S2 kp2 l2 m2 o2 => kk σ2 ρ2 S2 (fun j hj => ⟨(kp2 j hj).1.trans (kp1 j hj).1, (kp2 j hj).2.trans (kp1 j hj).2⟩) (l2.trans l1) (m2.trans m1) o2
theorem ag_tupN {es : List Expr} {kk l : Nat} {sts : List D → (En → M S) → En → M S} {st : Tg S} (hc : X.calm = true) (h : AGs X n es sts) (hn : (assignEach es X.env).length = l) (hst : (assignEach es X.env).findIdx? (·.1) = none)
    (hw : ∀ (OK : M S → Prop) d k ρ, KOk OK → OK (st d k ρ) → ∃ ds, d = .tuple ds ∧ ds.length = l ∧ OK (sts ds k ρ)) : AG X n (.Tuple es kk pos) st := by
  intro OK k G F σ H ρ v d Q hO S r ok k2
  obtain ⟨ds, rfl, hl, ok⟩ := hw OK d k ρ hO ok
  cases r with
  | tup h1 h2 =>
    refine semG (pg_tup hc pgs_sem hn hst) ⟨_, _, rfl, sqT_mono S.fh h1, by rw [h2.length]; exact hl, ?_⟩
    exact h OK k G F σ H ρ _ ds _ hO S h2 ok k2
theorem ag_tup2 {es : List Expr} {kk : Nat} {sts : List D → (En → M S) → En → M S} (hc : X.calm = true) (h : AGs X n es sts) (hn : (assignEach es X.env).length = 2) (hst : (assignEach es X.env).findIdx? (·.1) = none) : AG X n (.Tuple es kk pos) (gTup2 sts) :=
  ag_tupN hc h hn hst fun OK d k ρ hO o => by
    unfold gTup2 un2 at o
    split at o
    · exact ⟨_, rfl, rfl, o⟩
    · exact (hO o).elim
theorem ag_tup3 {es : List Expr} {kk : Nat} {sts : List D → (En → M S) → En → M S} (hc : X.calm = true) (h : AGs X n es sts) (hn : (assignEach es X.env).length = 3) (hst : (assignEach es X.env).findIdx? (·.1) = none) : AG X n (.Tuple es kk pos) (gTup3 sts) :=
  ag_tupN hc h hn hst fun OK d k ρ hO o => by
    unfold gTup3 un3 at o
    split at o
    · exact ⟨_, rfl, rfl, o⟩
    · exact (hO o).elim
theorem ag_tup4 {es : List Expr} {kk : Nat} {sts : List D → (En → M S) → En → M S} (hc : X.calm = true) (h : AGs X n es sts) (hn : (assignEach es X.env).length = 4) (hst : (assignEach es X.env).findIdx? (·.1) = none) : AG X n (.Tuple es kk pos) (gTup4 sts) :=
  ag_tupN hc h hn hst fun OK d k ρ hO o => by
    unfold gTup4 un4 at o
    split at o
    · exact ⟨_, rfl, rfl, o⟩
    · exact (hO o).elim
end

/-! ### statements -/
abbrev SM (S : Type) := KS S → En → M S
structure EOk {S : Type} (X : Cx) (OK : M S → Prop) (K : KS S) (G : Gh) (F : Hp) (E : Ends) : Prop where
  nx : ∀ F' σ' H' ρ', Same F F' → StOk X.K G F' σ' H' ρ' → OK (K.nx ρ') → E.nx σ' H'
  rt : ∀ F' σ' H' ρ' d v, Same F F' → StOk X.K G F' σ' H' ρ' → Rep X.K F' v d → OK (K.rt d ρ') → E.rt v H'
  rl : ∀ F' σ' H' ρ' ds v, Same F F' → StOk X.K G F' σ' H' ρ' → Frs X.K G F' σ' H' ρ' v (.l ds) → OK (K.rl ds ρ') → E.rt v H'
  bk : ∀ F' σ' H' ρ', Same F F' → StOk X.K G F' σ' H' ρ' → OK (K.bk ρ') → E.bk σ' H'
  ct : ∀ F' σ' H' ρ', Same F F' → StOk X.K G F' σ' H' ρ' → OK (K.ct ρ') → E.ct σ' H'
theorem EOk.up {S : Type} {X : Cx} {OK : M S → Prop} {K : KS S} {G : Gh} {F F' : Hp} {E : Ends} (h : EOk X OK K G F E) (s : Same F F') : EOk X OK K G F' E :=
  ⟨fun F2 σ' H' ρ' s2 => h.nx F2 σ' H' ρ' (s.trans s2), fun F2 σ' H' ρ' d v s2 => h.rt F2 σ' H' ρ' d v (s.trans s2), fun F2 σ' H' ρ' d v s2 => h.rl F2 σ' H' ρ' d v (s.trans s2), fun F2 σ' H' ρ' s2 => h.bk F2 σ' H' ρ' (s.trans s2), fun F2 σ' H' ρ' s2 => h.ct F2 σ' H' ρ' (s.trans s2)⟩
@[irreducible] def tSemS (X : Cx) (st : Stmt) : TS := fun E σ H => ∀ (pins : List (Addr × Obj)) (s : Shared), Inv X pins σ H s → wpAny (model X.prog X.w) X.A (exec st X.env) (SP X pins E) X.xe s
@[irreducible] def tSemB (X : Cx) (sts : List Stmt) : TS := fun E σ H => ∀ (pins : List (Addr × Obj)) (s : Shared), Inv X pins σ H s → wpAny (model X.prog X.w) X.A (execs sts X.env) (SP X pins E) X.xe s
section
variable {X : Cx} {st : Stmt} {sts : List Stmt} {σ : L2.St} {H : Hp} {E : Ends} {t : TS}
theorem ps_sem : PS X st (tSemS X st) := fun pins s σ H E I h => by unfold tSemS at h; exact h pins s I
theorem pss_sem : PSs X sts (tSemB X sts) := fun pins s σ H E I h => by unfold tSemB at h; exact h pins s I
theorem semS (h : PS X st t) (q : t E σ H) : tSemS X st E σ H := by unfold tSemS; exact fun pins s I => h pins s σ H E I q
theorem semB (h : PSs X sts t) (q : t E σ H) : tSemB X sts E σ H := by unfold tSemB; exact fun pins s I => h pins s σ H E I q
end
def AS {S : Type} (X : Cx) (st : Stmt) (m : SM S) : Prop :=
  ∀ (OK : M S → Prop) (K : KS S) (G : Gh) (F : Hp) (σ : L2.St) (H : Hp) (ρ : En) (E : Ends), KOk OK → XL X OK K.x G → StOk X.K G F σ H ρ → OK (m K ρ) → EOk X OK K G F E → tSemS X st E σ H
def ASs {S : Type} (X : Cx) (st : List Stmt) (m : SM S) : Prop :=
  ∀ (OK : M S → Prop) (K : KS S) (G : Gh) (F : Hp) (σ : L2.St) (H : Hp) (ρ : En) (E : Ends), KOk OK → XL X OK K.x G → StOk X.K G F σ H ρ → OK (m K ρ) → EOk X OK K G F E → tSemB X st E σ H
section
variable {S : Type}
def sNext : SM S := fun K ρ => K.nx ρ
def sSeq (m n : SM S) : SM S := fun K ρ => m { K with nx := fun ρ1 => n K ρ1 } ρ
def sIf (c : Ev S Bool) (m n : SM S) : SM S := fun K ρ => c K.x (fun b ρ1 => if b then m K ρ1 else n K ρ1) ρ
/-- what is not live goes -/
def sTo (sh : List Kd) (m : SM S) : SM S := fun K ρ => m { K with nx := fun ρ1 => rdk sh (fun s => K.nx (wr sh s)) ρ1 } ρ
def sSet (i : Nat) (m : Ev S D) : SM S := fun K ρ => m K.x (fun d ρ1 => match okSet ρ1 i with
  | true => K.nx (ρ1.set i (some (.fz d)))
  | false => .bad) ρ
def sSetL (i : Nat) (m : Ev S (List D)) : SM S := fun K ρ => m K.x (fun ds ρ1 => match okSet ρ1 i with
  | true => K.nx (ρ1.set i (some (.ol (.l ds))))
  | false => .bad) ρ
def sAsg (t : Tg S) (m : Ev S D) : SM S := fun K ρ => m K.x (fun d ρ1 => t d K.nx ρ1) ρ
def sRet (m : Ev S D) : SM S := fun K ρ => m K.x K.rt ρ
def sRetL (m : Ev S (List D)) : SM S := fun K ρ => m K.x K.rl ρ
/-- a name's own list is handed back -/
def sRetO (i : Nat) : SM S := fun K ρ => match ρ[i]? with
  | some (some (.ol (.l ds))) => K.rl ds (ρ.set i none)
  | _ => .bad
def sRetN : SM S := fun K ρ => K.rt .none ρ
def sBreak : SM S := fun K ρ => K.bk ρ
def sCont : SM S := fun K ρ => K.ct ρ
def sDrop (m : Ev S D) : SM S := fun K ρ => m K.x (fun _ ρ1 => K.nx ρ1) ρ
/-- a name's own list becomes data -/
def sFrz (i : Nat) (m : SM S) : SM S := fun K ρ => match ρ[i]? with
  | some (some (.ol (.l ds))) => m K (ρ.set i (some (.fz (.list ds))))
  | _ => .bad
def setO (ρ : En) (i : Nat) (ds : List D) : En := match ρ[i]? with
  | some (some (.op _)) => ρ.set i (some (.op (.l ds)))
  | _ => ρ.set i (some (.ol (.l ds)))
/-- a change of an own list in its place -/
def sMut (i : Nat) (f : List D → List D → Option (List D)) (ms : Ev S (List D)) : SM S := fun K ρ => match ownL ρ i with
  | some _ => ms K.x (fun as ρ1 => match ownL ρ1 i with
    | some ds => (oM (f ds as)).on (fun e => K.x e ρ1) (fun ds' => K.nx (setO ρ1 i ds'))
    | none => .bad) ρ
  | none => .bad
def forC {T : Type} (step : T → D → (T → M S) → M S) : List D → T → (T → M S) → M S
  | [], s, k => k s
  | d :: r, s, k => step s d (fun s' => forC step r s' k)
@[reducible] def loopK (sh : List Kd) (K : KS S) (kn : SOf sh → M S) : KS S := { K with
    nx := fun ρ3 => rdk sh kn ρ3
    ct := fun ρ3 => rdk sh kn ρ3
    bk := fun ρ3 => rdk sh (fun s' => K.nx (wr sh s')) ρ3 }
def sFor (sh : List Kd) (it : Ev S (List D)) (t : Tg S) (mb : SM S) : SM S := fun K ρ => it K.x (fun ds ρ1 => rdk sh (fun s => forC (fun s d kn => t d (fun ρ2 => mb (loopK sh K kn) ρ2) (wr sh s)) ds s (fun s' => K.nx (wr sh s'))) ρ1) ρ
def whileC {T : Type} (step : T → (T → M S) → M S) : Nat → T → M S
  | 0, _ => .bad
  | n + 1, s => step s (fun s' => whileC step n s')
def sWhile (sh : List Kd) (fuel : Nat) (c : Ev S Bool) (mb : SM S) : SM S := fun K ρ => rdk sh (fun s => whileC (fun s kn => c K.x (fun b ρ2 => if b then mb (loopK sh K kn) ρ2 else rdk sh (fun s' => K.nx (wr sh s')) ρ2) (wr sh s)) fuel s) ρ
end
theorem setO_change (ρ : En) (i : Nat) (ds ds0 : List D) (h : ownL ρ i = some ds0) : setO ρ i ds = ρ.set i ((ρ[i]?.join).map fun | .op _ => .op (.l ds) | _ => .ol (.l ds)) := by
  unfold ownL at h
  unfold setO
  split at h
  · rename_i q; rw [q]; rfl
  · rename_i q; rw [q]; rfl
  · cases h
theorem rdk_ok {S : Type} {OK : M S → Prop} (hO : KOk OK) {sh : List Kd} {k : SOf sh → M S} {ρ : En} (h : OK (rdk sh k ρ)) : ∃ s, rd sh ρ = some s ∧ OK (k s) := by
  unfold rdk at h
  split at h
  · rename_i s e; exact ⟨s, e, h⟩
  · exact (hO h).elim
section
variable {S : Type} {X : Cx} {st : Stmt} {sts rest : List Stmt} {m n : SM S} {e c a b : Expr} {me : Ev S D} {mt : Ev S Bool} {ml : Ev S (List D)} {pos pos' tpos : Pos}
theorem ass_nil : ASs (S := S) X [] sNext := fun OK K G F σ H ρ E hO hX St ok eo => semB pss_nil (eo.nx F σ H ρ (Same.refl _) St ok)
theorem ass_cons (h1 : AS X st m) (h2 : ASs X rest n) : ASs X (st :: rest) (sSeq m n) := fun OK K G F σ H ρ E hO hX St ok eo =>
  semB (pss_cons ps_sem pss_sem) (h1 OK { K with nx := fun ρ1 => n K ρ1 } G F σ H ρ _ hO hX St ok ⟨fun F' σ' H' ρ' s S' o => h2 OK K G F' σ' H' ρ' E hO hX S' o (eo.up s), eo.rt, eo.rl, eo.bk, eo.ct⟩)
theorem ass_one (h1 : AS X st m) : ASs X [st] m := fun OK K G F σ H ρ E hO hX St ok eo => semB (pss_one ps_sem) (h1 OK K G F σ H ρ E hO hX St ok eo)
theorem as_pass : AS (S := S) X (.Pass pos) sNext := fun OK K G F σ H ρ E hO hX St ok eo => semS ps_pass (eo.nx F σ H ρ (Same.refl _) St ok)
theorem as_break : AS (S := S) X (.Break pos) sBreak := fun OK K G F σ H ρ E hO hX St ok eo => semS ps_break (eo.bk F σ H ρ (Same.refl _) St ok)
theorem as_cont : AS (S := S) X (.Continue pos) sCont := fun OK K G F σ H ρ E hO hX St ok eo => semS ps_continue (eo.ct F σ H ρ (Same.refl _) St ok)
theorem as_if {A B : List Stmt} (hc : AEt X c mt) (ha : ASs X A m) (hb : ASs X B n) : AS X (.If c A B pos) (sIf mt m n) := fun OK K G F σ H ρ E hO hX St ok eo =>
  semS (ps_if pt_sem pss_sem pss_sem) (hc OK K.x _ G F σ H ρ _ hO hX St ok fun t F1 H1 ρ1 s1 S1 o1 => by
    cases t with
    | true => exact ha OK K G F1 σ H1 ρ1 E hO hX S1 o1 (eo.up s1)
    | false => exact hb OK K G F1 σ H1 ρ1 E hO hX S1 o1 (eo.up s1))
theorem as_to {sh : List Kd} (h : AS X st m) : AS X st (sTo sh m) := fun OK K G F σ H ρ E hO hX St ok eo =>
  h OK { K with nx := fun ρ1 => rdk sh (fun s => K.nx (wr sh s)) ρ1 } G F σ H ρ E hO hX St ok ⟨fun F' σ' H' ρ' s S' o => by
    obtain ⟨s', e', o'⟩ := rdk_ok hO o
    exact eo.nx F' σ' H' _ s (S'.rd e') o', eo.rt, eo.rl, eo.bk, eo.ct⟩
theorem as_frz {i : Nat} (h : AS X st m) : AS X st (sFrz i m) := fun OK K G F σ H ρ E hO hX St ok eo => by
  unfold sFrz at ok
  split at ok
  · rename_i ds q
    obtain ⟨a, ea, _⟩ := St.ow i _ (.inl q)
    obtain ⟨F2, s2, S2, _⟩ := St.settleB q ea
    exact h OK K G F2 σ H _ E hO hX S2 ok (eo.up s2)
  · exact (hO ok).elim
theorem as_ret (he : AE X e me) : AS X (.Return (some e) pos) (sRet me) := fun OK K G F σ H ρ E hO hX St ok eo =>
  semS (ps_ret pe_sem) (he OK K.x K.rt G F σ H ρ _ hO hX St ok fun d v F1 H1 ρ1 s1 S1 r1 o1 => eo.rt F1 σ H1 ρ1 d v s1 S1 r1 o1)
theorem as_retL (he : AEl X e ml) : AS X (.Return (some e) pos) (sRetL ml) := fun OK K G F σ H ρ E hO hX St ok eo =>
  semS (ps_ret pe_sem) (he OK K.x K.rl G F σ H ρ _ hO hX St ok fun d v F1 H1 ρ1 s1 S1 r1 o1 => eo.rl F1 σ H1 ρ1 d v s1 S1 r1 o1)
theorem as_retN : AS (S := S) X (.Return none pos) sRetN := fun OK K G F σ H ρ E hO hX St ok eo => semS ps_retN (eo.rt F σ H ρ .none .non (Same.refl _) St .non ok)
theorem _root_.L3.StOk.drop {K : Fg} {G : Gh} {F H : Hp} {σ : L2.St} {ρ : En} (S : StOk K G F σ H ρ) {i : Nat} (hi : ∀ c, ρ[i]? ≠ some (some (.op c))) : StOk K G F σ H (ρ.set i none) := by
  refine S.weak (by simp) (fun j av e => ?_) (fun j c e => ?_)
  · by_cases hj : j = i
    · subst hj
      exfalso
      by_cases hl : j < ρ.length
      · rw [List.getElem?_set_self hl] at e; cases e
      · rw [List.getElem?_eq_none_iff.mpr (by simp; omega)] at e; cases e
    · rw [List.getElem?_set_ne (Ne.symm hj)] at e; exact e
  · have hj : j ≠ i := by rintro rfl; exact hi c e
    rw [List.getElem?_set_ne (Ne.symm hj)]; exact e
theorem as_retO {i : Nat} {x : Str} (hN : X.N[i]? = some x) (hv : Vis X.env.scope x) (hd : (x == ("__debug__" : Str)) = false := by decide) (hcd : (x == ("__classdict__" : Str)) = false := by decide) : AS (S := S) X (.Return (some (.Name x pos')) pos) (sRetO i) := fun OK K G F σ H ρ E hO hX St ok eo =>
  semS (ps_ret (pe_var hN hv hd hcd)) (by
    unfold sRetO at ok
    split at ok
    · rename_i ds q
      obtain ⟨a, ea, oa⟩ := St.ow i _ (.inl q)
      refine ⟨_, ea, eo.rl F σ H _ ds (.ref a) (Same.refl _) (St.drop fun c e => by rw [q] at e; cases e) ⟨a, rfl, oa, fun j f ho e2 => ?_⟩ ok⟩
      have hl : i < ρ.length := (List.getElem?_eq_some_iff.mp q).1
      by_cases hj : j = i
      · subst hj
        rcases ho with ho | ho <;> (rw [List.getElem?_set_self hl] at ho; cases ho)
      · have ho' : own ρ j f := by
          unfold own at ho ⊢
          rw [List.getElem?_set_ne (Ne.symm hj)] at ho
          exact ho
        exact hj (St.dj j i _ _ a ho' (.inl q) e2 ea)
    · exact (hO ok).elim)
theorem as_set {i : Nat} {x : Str} (hN : X.N.Nodup) (hi : X.N[i]? = some x) (hx : Loc X.env.scope x) (he : AE X e me) (hs : swapsWith e (some (.Name x pos')) pos.line X.env = pure false) (hf : X.fn x = true ∨ X.env.scope.names.lookup x = some .local) :
    AS X (.Assign [.Name x pos'] e pos) (sSet i me) := fun OK K G F σ H ρ E hO hX St ok eo =>
  semS (ps_set hN hi hx pe_sem hs hf) (he OK K.x _ G F σ H ρ _ hO hX St ok fun d v F1 H1 ρ1 s1 S1 r1 o1 => by
    split at o1
    · rename_i ho
      obtain ⟨hl, hop⟩ := okSet_of ho
      exact eo.nx F1 _ H1 _ s1 (S1.store hop hl (.inl ⟨d, rfl, r1⟩)) o1
    · exact (hO o1).elim)
theorem as_setL {i : Nat} {x : Str} (hN : X.N.Nodup) (hi : X.N[i]? = some x) (hx : Loc X.env.scope x) (he : AEl X e ml) (hs : swapsWith e (some (.Name x pos')) pos.line X.env = pure false) (hf : X.fn x = true ∨ X.env.scope.names.lookup x = some .local) :
    AS X (.Assign [.Name x pos'] e pos) (sSetL i ml) := fun OK K G F σ H ρ E hO hX St ok eo =>
  semS (ps_set hN hi hx pe_sem hs hf) (he OK K.x _ G F σ H ρ _ hO hX St ok fun d v F1 H1 ρ1 s1 S1 r1 o1 => by
    split at o1
    · rename_i ho
      obtain ⟨hl, hop⟩ := okSet_of ho
      exact eo.nx F1 _ H1 _ s1 (S1.store hop hl (.inr ⟨.l d, rfl, r1⟩)) o1
    · exact (hO o1).elim)
theorem as_asg {tg : Expr} {t : Tg S} (he : AE X e me) (hg : AG X 0 tg t) (hs : swapsWithSole [tg] e pos.line X.env = pure false) (hw : swappedStores [tg] e X.env = pure none)
    (h1 : (assignEach [tg] X.env).map (·.2) = [assign tg X.env]) : AS X (.Assign [tg] e pos) (sAsg t me) := fun OK K G F σ H ρ E hO hX St ok eo =>
  semS (ps_asg pe_sem pg_sem hs hw h1) (he OK K.x _ G F σ H ρ _ hO hX St ok fun d v F1 H1 ρ1 s1 S1 r1 o1 =>
    hg OK K.nx G F1 σ H1 ρ1 v d _ hO S1 r1 o1 fun σ' ρ' S' _ _ _ o' => eo.nx F1 σ' H1 ρ' s1 S' o')
theorem as_drop (he : AE X e me) (hs : swapsWith e none pos.line X.env = pure false) : AS X (.Expr e pos) (sDrop me) := fun OK K G F σ H ρ E hO hX St ok eo =>
  semS (ps_expr pe_sem hs) (he OK K.x _ G F σ H ρ _ hO hX St ok fun d v F1 H1 ρ1 s1 S1 r1 o1 => eo.nx F1 σ H1 ρ1 s1 S1 o1)
theorem as_doc {x j pos pos'} : AS (S := S) X (.Expr (.Constant (.str x) j pos) pos') sNext := fun OK K G F σ H ρ E hO hX St ok eo => semS ps_doc (eo.nx F σ H ρ (Same.refl _) St ok)
end
end L4

set_option Elab.async false
set_option linter.all false
set_option maxRecDepth 100000
namespace L4
open PySem PySem.Spec PyProof.Rows L2 L3

section
variable {S : Type} {X : Cx} {m n mb : SM S} {e c a b o : Expr} {me mi : Ev S D} {mt : Ev S Bool} {ml ms : Ev S (List D)} {pos pos' tpos apos cpos : Pos}
theorem as_for {tg iter : Expr} {body : List Stmt} {sh : List Kd} {t : Tg S} (hp : PassesOwn (model X.prog X.w) X.A X.env X.xe) (hc : X.calm = true) (hi : AEi X tg iter ml) (hg : AG X 0 tg t) (hb : ASs X body mb)
    (hs : ∀ x, foldedSetIterable iter X.env x = pure x) : AS X (.For tg iter body [] pos) (sFor sh ml t mb) := fun OK K G F σ H ρ E hO hX St ok eo =>
  semS (ps_for hp hc pi_sem pg_sem pss_sem hs) (hi OK K.x _ G F σ H ρ _ hO hX St ok fun ds J F1 H1 ρ1 s1 S1 wk o1 => by
    obtain ⟨s0, e0, o0⟩ := rdk_ok hO o1
    have S0 := S1.rd e0
    clear o1
    generalize hstep : (fun (s : SOf sh) d (kn : SOf sh → M S) => t d (fun ρ2 => mb (loopK sh K kn) ρ2) (wr sh s)) = step at o0
    refine ⟨fun i m σ' H' => ∃ F' s, m = ds.length - i ∧ i ≤ ds.length ∧ Same F1 F' ∧ StOk X.K G F' σ' H' (wr sh s) ∧ OK (forC step (ds.drop i) s (fun s' => K.nx (wr sh s'))), ⟨ds.length, F1, s0, rfl, Nat.zero_le _, Same.refl _, S0, o0⟩, ?_⟩
    rintro i m σ' H' ⟨F', s, rfl, hi, s2, S2, go⟩
    by_cases hlt : i < ds.length
    · have ed : ds.drop i = ds[i] :: ds.drop (i + 1) := List.drop_eq_getElem_cons hlt
      rw [ed] at go
      dsimp only [forC] at go
      rw [← hstep] at go
      have again : ∀ F5 σ5 H5 ρ5, Same F' F5 → StOk X.K G F5 σ5 H5 ρ5 → OK (rdk sh (fun s' => forC step (ds.drop (i + 1)) s' fun s' => K.nx (wr sh s')) ρ5) →
          ∃ m', m' < ds.length - i ∧ ∃ F' s, m' = ds.length - (i + 1) ∧ i + 1 ≤ ds.length ∧ Same F1 F' ∧ StOk X.K G F' σ5 H5 (wr sh s) ∧ OK (forC step (ds.drop (i + 1)) s (fun s' => K.nx (wr sh s'))) := fun F5 σ5 H5 ρ5 s5 S5 o5 => by
        obtain ⟨s', e', o'⟩ := rdk_ok hO o5
        exact ⟨ds.length - (i + 1), by omega, F5, s', rfl, hlt, s2.trans s5, S5.rd e', o'⟩
      refine .inr ⟨wk.go i G F' σ' H' _ s2 S2 hlt, fun σ4 H4 => ∃ m', m' < ds.length - i ∧ ∃ F' s, m' = ds.length - (i + 1) ∧ i + 1 ≤ ds.length ∧ Same F1 F' ∧ StOk X.K G F' σ4 H4 (wr sh s) ∧ OK (forC step (ds.drop (i + 1)) s (fun s' => K.nx (wr sh s'))), fun σ4 H4 h4 => h4, fun x H2 y => ?_⟩
      obtain ⟨F3, s3, S3, r3⟩ := wk.yld i G F' σ' H' _ x H2 ds[i] s2 S2 (by simp [hlt]) y
      refine hg OK _ G F3 σ' H2 (wr sh s) x ds[i] _ hO S3 r3 go fun σ3 ρ3 S4 _ _ _ o4 => ?_
      rw [hstep] at o4
      refine hb OK (loopK sh K fun s' => forC step (ds.drop (i + 1)) s' fun s' => K.nx (wr sh s')) G F3 σ3 H2 ρ3 _ hO hX S4 o4 ⟨fun F5 σ5 H5 ρ5 s5 S5 o5 => ?_, fun F5 σ5 H5 ρ5 d v s5 => eo.rt F5 σ5 H5 ρ5 d v ((s1.trans (s2.trans s3)).trans s5), fun F5 σ5 H5 ρ5 d v s5 => eo.rl F5 σ5 H5 ρ5 d v ((s1.trans (s2.trans s3)).trans s5), fun F5 σ5 H5 ρ5 s5 S5 o5 => ?_, fun F5 σ5 H5 ρ5 s5 S5 o5 => ?_⟩
      · exact again F5 σ5 H5 ρ5 (s3.trans s5) S5 o5
      · obtain ⟨s', e', o'⟩ := rdk_ok hO o5
        exact eo.nx F5 σ5 H5 _ ((s1.trans (s2.trans s3)).trans s5) (S5.rd e') o'
      · exact again F5 σ5 H5 ρ5 (s3.trans s5) S5 o5
    · have ei : i = ds.length := by omega
      subst ei
      rw [List.drop_length] at go
      exact .inl ⟨wk.stop G F' σ' H' _ s2 S2, eo.nx F' σ' H' _ (s1.trans s2) S2 go⟩)
theorem as_while {body : List Stmt} {sh : List Kd} {fuel : Nat} (hp : PassesOwn (model X.prog X.w) X.A X.env X.xe) (hc : AEt X c mt) (hb : ASs X body mb) : AS X (.While c body [] pos) (sWhile sh fuel mt mb) := fun OK K G F σ H ρ E hO hX St ok eo =>
  semS (ps_while hp pt_sem pss_sem) (by
    obtain ⟨s0, e0, o0⟩ := rdk_ok hO ok
    have S0 := St.rd e0
    clear ok
    generalize hstep : (fun (s : SOf sh) (kn : SOf sh → M S) => mt K.x (fun b ρ2 => if b then mb (loopK sh K kn) ρ2 else rdk sh (fun s' => K.nx (wr sh s')) ρ2) (wr sh s)) = step at o0
    refine ⟨fun m σ' H' => ∃ F' s, Same F F' ∧ StOk X.K G F' σ' H' (wr sh s) ∧ OK (whileC step m s), ⟨fuel, F, s0, Same.refl _, S0, o0⟩, ?_⟩
    rintro m σ' H' ⟨F', s, s2, S2, go⟩
    cases m with
    | zero => exact (hO go).elim
    | succ m =>
      dsimp only [whileC] at go
      rw [← hstep] at go
      refine hc OK K.x _ G F' σ' H' (wr sh s) _ hO hX S2 go fun t F1 H1 ρ1 s1 S1 o1 => ?_
      cases t with
      | false =>
        obtain ⟨s', e', o'⟩ := rdk_ok hO (show OK (rdk sh (fun s' => K.nx (wr sh s')) ρ1) from o1)
        exact eo.nx F1 σ' H1 _ (s2.trans s1) (S1.rd e') o'
      | true =>
        have o1' : OK (mb (loopK sh K fun s' => whileC (fun (s : SOf sh) (kn : SOf sh → M S) => mt K.x (fun b ρ2 => if b then mb (loopK sh K kn) ρ2 else rdk sh (fun s' => K.nx (wr sh s')) ρ2) (wr sh s)) m s') ρ1) := o1
        rw [hstep] at o1'
        have again : ∀ F5 σ5 H5 ρ5, Same F1 F5 → StOk X.K G F5 σ5 H5 ρ5 → OK (rdk sh (fun s' => whileC step m s') ρ5) → ∃ m', m' < m + 1 ∧ ∃ F' s, Same F F' ∧ StOk X.K G F' σ5 H5 (wr sh s) ∧ OK (whileC step m' s) := fun F5 σ5 H5 ρ5 s5 S5 o5 => by
          obtain ⟨s', e', o'⟩ := rdk_ok hO o5
          exact ⟨m, Nat.lt_succ_self _, F5, s', (s2.trans s1).trans s5, S5.rd e', o'⟩
        refine iteT ⟨fun σ4 H4 => ∃ m', m' < m + 1 ∧ ∃ F' s, Same F F' ∧ StOk X.K G F' σ4 H4 (wr sh s) ∧ OK (whileC step m' s), fun σ4 H4 h4 => h4, ?_⟩
        refine hb OK (loopK sh K fun s' => whileC step m s') G F1 σ' H1 ρ1 _ hO hX S1 o1' ⟨fun F5 σ5 H5 ρ5 s5 S5 o5 => again F5 σ5 H5 ρ5 s5 S5 o5, fun F5 σ5 H5 ρ5 d v s5 => eo.rt F5 σ5 H5 ρ5 d v ((s2.trans s1).trans s5), fun F5 σ5 H5 ρ5 d v s5 => eo.rl F5 σ5 H5 ρ5 d v ((s2.trans s1).trans s5), fun F5 σ5 H5 ρ5 s5 S5 o5 => ?_, fun F5 σ5 H5 ρ5 s5 S5 o5 => again F5 σ5 H5 ρ5 s5 S5 o5⟩
        obtain ⟨s', e', o'⟩ := rdk_ok hO o5
        exact eo.nx F5 σ5 H5 _ ((s2.trans s1).trans s5) (S5.rd e') o')

/-! ### changes of own lists -/
/-- the own list of a slot, as a value -/
theorem own_ref {K : Fg} {G : Gh} {F H : Hp} {σ : L2.St} {ρ : En} {i : Nat} {ds : List D} (St : StOk K G F σ H ρ) (h : ownL ρ i = some ds) : ∃ a vs, σ[i]? = some (some (.ref a)) ∧ H a = some (.lst vs) ∧ RepL K F vs ds := by
  obtain ⟨a, ea, oa⟩ := St.ow i _ (ownL_own h)
  obtain ⟨vs, h1, h2⟩ := oa.he
  exact ⟨a, vs, ea, h1, h2⟩
theorem own_set {K : Fg} {G : Gh} {F H : Hp} {σ : L2.St} {ρ : En} {i : Nat} {a : Addr} {ds ds' : List D} {vs' : List V} (St : StOk K G F σ H ρ) (h : ownL ρ i = some ds) (ha : σ[i]? = some (some (.ref a))) (r : RepL K F vs' ds') :
    StOk K G F σ (upd H a (.lst vs')) (setO ρ i ds') := by
  rw [setO_change ρ i ds' ds h]
  exact St.change (ownL_own h) ha (c' := .l ds') ⟨_, upd_same, r⟩
def mApp (ds as : List D) : Option (List D) := match as with
  | [d] => if ds.length < sizeLine then some (ds ++ [d]) else none
  | _ => none
/-- xs.append(e), xs in slot i -/
theorem as_app {i : Nat} {x : Str} (hN : X.N[i]? = some x) (hv : Vis X.env.scope x) (he : AEa X [e] ms)
    (hbase : attributeBase (.Name x pos') "append" X.env (eval (.Name x pos') X.env) = eval (.Name x pos') X.env)
    (hfew : ((backTo cpos (starEach [e] X.env)).all (fun x => !x.1) && (backToKw cpos (keywordEach [] X.env)).all (fun x => x.1.isSome)
      && decide ([e].length + ([] : List Keyword).length + (if ([] : List Keyword).isEmpty then 0 else 1) < 30)) = true)
    (hline : (apos.endLine == cpos.line) = true) (hs : starEach [e] X.env = (false, eval e X.env) :: starEach [] X.env) (hplain : (backTo cpos (starEach [] X.env)).any (·.1) = false)
    (hsw : swapsWith (.Call (.Attribute (.Name x pos') "append" apos) [e] [] cpos) none pos.line X.env = pure false) (hd : (x == ("__debug__" : Str)) = false := by decide) (hcd : (x == ("__classdict__" : Str)) = false := by decide) :
    AS X (.Expr (.Call (.Attribute (.Name x pos') "append" apos) [e] [] cpos) pos) (sMut i mApp ms) := fun OK K G F σ H ρ E hO hX St ok eo =>
  semS (ps_expr (pe_bm PySem.F.plainAttrs_list PySem.F.slot_list_append PySem.F.type_list_append mt_append (pe_var hN hv hd hcd) pa_sem hbase hfew hline hs hplain) hsw) (by
    unfold sMut at ok
    split at ok
    case h_2 => exact (hO ok).elim
    · rename_i ds0 h0
      obtain ⟨a, vs0, ea, hh, _⟩ := own_ref St h0
      refine ⟨_, ea, .inl ⟨rfl, vs0, .inl (.inl hh)⟩, he OK K.x _ G F σ H ρ _ hO hX St ok fun as ws F1 H1 ρ1 s1 S1 _ r1 o1 => ?_⟩
      split at o1
      · rename_i ds hds
        obtain ⟨ds', hf, o2⟩ := opt_ok hO o1
        obtain ⟨a', vs, ea', hh', rv⟩ := own_ref S1 hds
        rw [ea] at ea'
        injection ea' with ea'; injection ea' with ea'; injection ea' with ea'
        subst ea'
        unfold mApp at hf
        split at hf
        · split at hf
          · rename_i hz
            cases hf
            cases r1 with
            | cons ra rb =>
              cases rb
              refine ⟨a, vs, _, rfl, rfl, hh', by rw [rv.length]; exact hz, ?_⟩
              exact eo.nx F1 σ _ _ s1 (own_set S1 hds ea (rv.append (.cons ra .nil))) o2
          · cases hf
        · cases hf
      · exact (hO o1).elim)
end
end L4

set_option Elab.async false
set_option linter.all false
set_option maxRecDepth 100000
namespace L4
open PySem PySem.Spec PyProof.Rows L2 L3

/-! ### calls of defs -/
theorem map_some_get {α : Type} {l : List α} {i : Nat} {x : α} : (l.map some)[i]? = some (some x) ↔ l[i]? = some x := by
  rw [List.getElem?_map]
  cases l[i]? <;> simp
open Classical in
noncomputable def calleeO (G : Gh) (σ : L2.St) (ρ : En) (H : Hp) (ex : Option Addr) : Hp := fun b => if (∃ (i : Nat) (c : OC), own ρ i c ∧ σ[i]? = some (some (V.ref b))) ∧ some b ≠ ex then H b else G.O b
def setC (ρ : En) (j : Nat) (c : OC) : En := ρ.set j ((ρ[j]?.join).map fun | .op _ => .op c | _ => .ol c)
section
variable {K : Fg} {G : Gh} {F F' H H' : Hp} {σ : L2.St} {ρ : En} {vs : List V} {ds : List D}
theorem calleeO_of {ex : Option Addr} (S : StOk K G F σ H ρ) {b : Addr} {o : HO} (h : G.O b = some o) : calleeO G σ ρ H ex b = some o := by
  unfold calleeO
  rw [if_neg]
  · exact h
  · rintro ⟨⟨i, c, ho, e⟩, _⟩
    obtain ⟨a, e', oa⟩ := S.ow i c ho
    rw [e] at e'
    injection e' with e'; injection e' with e'; injection e' with e'
    subst e'
    rw [oa.no] at h; cases h
theorem calleeO_own {ex : Option Addr} {b : Addr} {i : Nat} {c : OC} (ho : own ρ i c) (e : σ[i]? = some (some (V.ref b))) (hx : some b ≠ ex) : calleeO G σ ρ H ex b = H b := by
  unfold calleeO
  rw [if_pos ⟨⟨i, c, ho, e⟩, hx⟩]
theorem calleeO_h {ex : Option Addr} (S : StOk K G F σ H ρ) : Same (calleeO G σ ρ H ex) H := fun b o h => by
  unfold calleeO at h
  split at h
  · exact h
  · exact S.oh b o h
theorem calleeO_f {ex : Option Addr} (S : StOk K G F σ H ρ) : ∀ b o, calleeO G σ ρ H ex b = some o → F b = none := fun b o h => by
  unfold calleeO at h
  split at h
  · rename_i hc
    obtain ⟨⟨i, c, ho, e⟩, _⟩ := hc
    obtain ⟨a, e', oa⟩ := S.ow i c ho
    rw [e] at e'
    injection e' with e'; injection e' with e'; injection e' with e'
    subst e'
    exact oa.nf
  · exact S.fo b o h
theorem fz_get {i : Nat} {av : AV} (h : ((ds.map AV.fz).map some)[i]? = some (some av)) : ∃ d, av = .fz d ∧ ds[i]? = some d := by
  rw [map_some_get, List.getElem?_map] at h
  cases q : ds[i]? with
  | none => rw [q] at h; cases h
  | some d => rw [q] at h; cases h; exact ⟨d, rfl, rfl⟩
theorem no_own {i : Nat} {c : OC} (h : own ((ds.map AV.fz).map some) i c) : False := by
  rcases h with h | h <;> (obtain ⟨d, z, _⟩ := fz_get h; cases z)
theorem call_preD (S : StOk K G F σ H ρ) (r : RepL K F vs ds) : StOk K ⟨fun _ => none, calleeO G σ ρ H none⟩ F (vs.map some) H ((ds.map AV.fz).map some) := by
  refine ⟨S.fh, calleeO_h S, calleeO_f S, by simp [r.length], fun i d h => ?_, fun i c h => (no_own h).elim, fun i j c e a h => (no_own h).elim, fun i a h => (nomatch h), fun i c h => ?_⟩
  · obtain ⟨d', z, e⟩ := fz_get h
    cases z
    obtain ⟨v, e1, e2⟩ := r.get e
    exact ⟨v, map_some_get.mpr e1, e2⟩
  · obtain ⟨d', z, e⟩ := fz_get h; cases z
/-- behind a call to which no own thing was handed -/
theorem call_postD {avs' : List AV} (S : StOk K G F σ H ρ) (s1 : Same F F') (S1 : StOk K ⟨fun _ => none, calleeO G σ ρ H none⟩ F' (vs.map some) H' (avs'.map some)) :
    StOk K G F' σ H' ρ ∧ ∀ v c, Frs K ⟨fun _ => none, calleeO G σ ρ H none⟩ F' (vs.map some) H' (avs'.map some) v c → Frs K G F' σ H' ρ v c := by
  have oo : ∀ b, calleeO G σ ρ H none b = none → G.O b = none := fun b h => by
    cases q : G.O b with
    | none => rfl
    | some o => rw [calleeO_of S q] at h; cases h
  refine ⟨⟨S1.fh, fun b o h => S1.oh b o (calleeO_of S h), fun b o h => S1.fo b o (calleeO_of S h), S.ln, fun i d h => ?_, fun i c h => ?_, S.dj, S.pp, S.pq⟩, fun v cc h => ?_⟩
  · obtain ⟨v, e, r⟩ := S.fz i d h; exact ⟨v, e, r.mono s1⟩
  · obtain ⟨a, e, oa⟩ := S.ow i c h
    obtain ⟨o, ho⟩ := oa.he.some
    have q : calleeO G σ ρ H none a = some o := by rw [calleeO_own h e (by simp)]; exact ho
    exact ⟨a, e, S1.fo a o q, oa.no, (oa.he.mono s1).at (by rw [S1.oh a o q, ho])⟩
  · obtain ⟨a, rfl, oa, _⟩ := h
    refine ⟨a, rfl, ⟨oa.nf, oo a oa.no, oa.he⟩, fun i e ho q => ?_⟩
    obtain ⟨a', e', oa'⟩ := S.ow i e ho
    rw [q] at e'
    injection e' with e'; injection e' with e'; injection e' with e'
    subst e'
    obtain ⟨o, hh⟩ := oa'.he.some
    have := oa.no
    rw [show (⟨fun _ => none, calleeO G σ ρ H none⟩ : Gh).O a = calleeO G σ ρ H none a from rfl, calleeO_own ho q (by simp), hh] at this
    cases this
def P1 (a : Addr) : Nat → Option Addr
  | 0 => some a
  | _ => none
theorem call_pre1 {j : Nat} {c : OC} {a : Addr} (S : StOk K G F σ H ρ) (hj : own ρ j c) (ha : σ[j]? = some (some (V.ref a))) (r : RepL K F vs ds) :
    StOk K ⟨P1 a, calleeO G σ ρ H (some a)⟩ F ((V.ref a :: vs).map some) H ((AV.op c :: ds.map AV.fz).map some) := by
  obtain ⟨a', e', oa⟩ := S.ow j c hj
  rw [ha] at e'
  injection e' with e'; injection e' with e'; injection e' with e'
  subst e'
  have at0 : ∀ i d, own ((AV.op c :: ds.map AV.fz).map some) i d → i = 0 ∧ d = c := fun i d h => by
    cases i with
    | zero => rcases h with h | h <;> (simp at h); exact ⟨rfl, h.symm⟩
    | succ i => exact (no_own (ds := ds) (i := i) (c := d) (by unfold own at h ⊢; simpa using h)).elim
  refine ⟨S.fh, calleeO_h S, calleeO_f S, by simp [r.length], fun i d h => ?_, fun i d h => ?_, fun i k d e b h1 h2 _ _ => ?_, fun i b h => ?_, fun i d h => ?_⟩
  · cases i with
    | zero => simp at h
    | succ i =>
      obtain ⟨d', z, e⟩ := fz_get (ds := ds) (i := i) (av := .fz d) (by simpa using h)
      cases z
      obtain ⟨v, e1, e2⟩ := r.get e
      exact ⟨v, by simpa using e1, e2⟩
  · obtain ⟨rfl, rfl⟩ := at0 i d h
    refine ⟨a, rfl, oa.nf, ?_, oa.he⟩
    show calleeO G σ ρ H (some a) a = none
    unfold calleeO
    rw [if_neg (by simp)]
    exact oa.no
  · rw [(at0 i d h1).1, (at0 k e h2).1]
  · cases i with
    | zero => cases h; exact ⟨rfl, c, rfl⟩
    | succ i => cases h
  · cases i with
    | zero => exact ⟨a, rfl⟩
    | succ i =>
      obtain ⟨d', z, e⟩ := fz_get (ds := ds) (i := i) (av := .op d) (by simpa using h)
      cases z
theorem call_post1 {j : Nat} {c c' : OC} {a : Addr} {l : List AV} (S : StOk K G F σ H ρ) (hj : own ρ j c) (ha : σ[j]? = some (some (V.ref a))) (s1 : Same F F')
    (S1 : StOk K ⟨P1 a, calleeO G σ ρ H (some a)⟩ F' ((V.ref a :: vs).map some) H' ((AV.op c' :: l).map some)) :
    StOk K G F' σ H' (setC ρ j c') ∧ ∀ v cc, Frs K ⟨P1 a, calleeO G σ ρ H (some a)⟩ F' ((V.ref a :: vs).map some) H' ((AV.op c' :: l).map some) v cc → Frs K G F' σ H' (setC ρ j c') v cc := by
  have oo : ∀ b, calleeO G σ ρ H (some a) b = none → G.O b = none := fun b h => by
    cases q : G.O b with
    | none => rfl
    | some o => rw [calleeO_of S q] at h; cases h
  obtain ⟨a', e', oa⟩ := S.ow j c hj
  rw [ha] at e'
  injection e' with e'; injection e' with e'; injection e' with e'
  subst e'
  have hl : j < ρ.length := by rcases hj with h | h <;> exact (List.getElem?_eq_some_iff.mp h).1
  generalize hav : ((ρ[j]?.join).map fun (x : AV) => match x with | .op _ => AV.op c' | _ => AV.ol c') = av
  have hset : setC ρ j c' = ρ.set j av := by rw [← hav]; rfl
  rw [hset]
  have ne : ∀ i, i ≠ j → (ρ.set j av)[i]? = ρ[i]? := fun i hi => List.getElem?_set_ne (Ne.symm hi)
  have atj : (ρ.set j av)[j]? = some av := List.getElem?_set_self hl
  have kind : (ρ[j]? = some (some (.ol c)) ∧ av = some (.ol c')) ∨ (ρ[j]? = some (some (.op c)) ∧ av = some (.op c')) := by
    rcases hj with h | h
    · exact .inl ⟨h, by rw [← hav, h]; rfl⟩
    · exact .inr ⟨h, by rw [← hav, h]; rfl⟩
  have owni : ∀ i e, own (ρ.set j av) i e → (i = j ∧ e = c') ∨ (i ≠ j ∧ own ρ i e) := fun i e h => by
    by_cases hi : i = j
    · subst hi
      unfold own at h
      rw [atj] at h
      rcases kind with ⟨_, k⟩ | ⟨_, k⟩ <;> rw [k] at h <;> rcases h with h | h <;> cases h <;> exact .inl ⟨rfl, rfl⟩
    · unfold own at h ⊢
      rw [ne i hi] at h
      exact .inr ⟨hi, h⟩
  have nea : ∀ i e b, i ≠ j → own ρ i e → σ[i]? = some (some (V.ref b)) → b ≠ a := fun i e b hi ho q z => by
    subst z
    exact hi (S.dj i j e c b ho hj q ha)
  have own1 : OwnAt K ⟨P1 a, calleeO G σ ρ H (some a)⟩ F' H' a c' := by
    obtain ⟨b, e1, ob⟩ := S1.ow 0 c' (.inr rfl)
    have : V.ref a = V.ref b := by simpa using e1
    injection this with this
    subst this
    exact ob
  refine ⟨⟨S1.fh, fun b o h => S1.oh b o (calleeO_of S h), fun b o h => S1.fo b o (calleeO_of S h), by simpa using S.ln, fun i d h => ?_, fun i e h => ?_, fun i k d e b h1 h2 => ?_, fun i b h => ?_, fun i d h => ?_⟩, fun v cc h => ?_⟩
  · by_cases hi : i = j
    · subst hi
      rw [atj] at h
      rcases kind with ⟨_, k⟩ | ⟨_, k⟩ <;> rw [k] at h <;> cases h
    · rw [ne i hi] at h
      obtain ⟨v, e, r⟩ := S.fz i d h; exact ⟨v, e, r.mono s1⟩
  · rcases owni i e h with ⟨rfl, rfl⟩ | ⟨hi, ho⟩
    · exact ⟨a, ha, own1.nf, oa.no, own1.he⟩
    · obtain ⟨b, eb, ob⟩ := S.ow i e ho
      obtain ⟨o, hh⟩ := ob.he.some
      have q : calleeO G σ ρ H (some a) b = some o := by rw [calleeO_own ho eb (fun z => nea i e b hi ho eb (Option.some.inj z))]; exact hh
      exact ⟨b, eb, S1.fo b o q, ob.no, (ob.he.mono s1).at (by rw [S1.oh b o q, hh])⟩
  · have f : ∀ i e, own (ρ.set j av) i e → ∃ d, own ρ i d := fun i e h => by
      rcases owni i e h with ⟨rfl, _⟩ | ⟨_, ho⟩
      · exact ⟨c, hj⟩
      · exact ⟨e, ho⟩
    exact S.dj i k _ _ b (f i d h1).choose_spec (f k e h2).choose_spec
  · obtain ⟨q1, e, q2⟩ := S.pp i b h
    refine ⟨q1, ?_⟩
    by_cases hi : i = j
    · subst hi
      rcases kind with ⟨k1, k⟩ | ⟨k1, k⟩
      · rw [k1] at q2; cases q2
      · exact ⟨c', by rw [atj, k]⟩
    · exact ⟨e, by rw [ne i hi]; exact q2⟩
  · by_cases hi : i = j
    · subst hi
      rcases kind with ⟨k1, k⟩ | ⟨k1, k⟩
      · rw [atj, k] at h; cases h
      · exact S.pq i c k1
    · rw [ne i hi] at h; exact S.pq i d h
  · obtain ⟨b, rfl, ob, nn⟩ := h
    refine ⟨b, rfl, ⟨ob.nf, oo b ob.no, ob.he⟩, fun i e ho q => ?_⟩
    rcases owni i e ho with ⟨rfl, _⟩ | ⟨hi, ho'⟩
    · rw [ha] at q
      injection q with q; injection q with q; injection q with q
      subst q
      exact nn 0 c' (.inr rfl) rfl
    · obtain ⟨b', eb, ob'⟩ := S.ow i e ho'
      rw [q] at eb
      injection eb with eb; injection eb with eb; injection eb with eb
      subst eb
      obtain ⟨o, hh⟩ := ob'.he.some
      have := ob.no
      rw [show (⟨P1 a, calleeO G σ ρ H (some a)⟩ : Gh).O b = calleeO G σ ρ H (some a) b from rfl, calleeO_own ho' q (fun z => nea i e b hi ho' q (Option.some.inj z)), hh] at this
      cases this
end

/-! ### defs: what they are worth -/
abbrev fzs (ds : List D) : En := (ds.map AV.fz).map some
def KD : KS D := ⟨fun _ => .ret .none, fun d _ => .ret d, fun _ _ => .bad, fun _ => .bad, fun _ => .bad, fun e _ => .exc e⟩
def KL : KS (List D) := ⟨fun _ => .bad, fun _ _ => .bad, fun ds _ => .ret ds, fun _ => .bad, fun _ => .bad, fun e _ => .exc e⟩
def at0 {S : Type} (ρ : En) (k : List D → M S) : M S := match (ρ[0]? : Option (Option AV)) with
  | some (some (AV.op (OC.l f))) => k f
  | _ => .bad
def K1 : KS (D × List D) := ⟨fun ρ => at0 ρ fun f => .ret (.none, f), fun d ρ => at0 ρ fun f => .ret (d, f), fun _ _ => .bad, fun _ => .bad, fun _ => .bad, fun e _ => .exc e⟩
def K1L : KS (List D × List D) := ⟨fun _ => .bad, fun _ _ => .bad, fun ds ρ => at0 ρ fun f => .ret (ds, f), fun _ => .bad, fun _ => .bad, fun e _ => .exc e⟩
/-- data in, data out -/
def spD (K : Fg) (n : Nat) (mf : List D → M D) : Sp := fun vs H Q _ => ∃ G F ds d, vs.length = n ∧ StOk K G F (vs.map some) H (fzs ds) ∧ mf ds = .ret d ∧ ∀ v F' H', Same F F' → StOk K G F' (vs.map some) H' (fzs ds) → Rep K F' v d → Q v H'
def spL (K : Fg) (n : Nat) (mf : List D → M (List D)) : Sp := fun vs H Q _ => ∃ G F ds d, vs.length = n ∧ StOk K G F (vs.map some) H (fzs ds) ∧ mf ds = .ret d ∧ ∀ v F' H', Same F F' → StOk K G F' (vs.map some) H' (fzs ds) → Frs K G F' (vs.map some) H' (fzs ds) v (.l d) → Q v H'
/-- the first argument an own list -/
def sp1 (K : Fg) (n : Nat) (mf : List D → List D → M (D × List D)) : Sp := fun vs H Q _ => ∃ G F f ds r, vs.length = n ∧ StOk K G F (vs.map some) H (some (.op (.l f)) :: fzs ds) ∧ mf f ds = .ret r ∧
  ∀ v F' H', Same F F' → StOk K G F' (vs.map some) H' (some (.op (.l r.2)) :: fzs ds) → Rep K F' v r.1 → Q v H'
def sp1L (K : Fg) (n : Nat) (mf : List D → List D → M (List D × List D)) : Sp := fun vs H Q _ => ∃ G F f ds r, vs.length = n ∧ StOk K G F (vs.map some) H (some (.op (.l f)) :: fzs ds) ∧ mf f ds = .ret r ∧
  ∀ v F' H', Same F F' → StOk K G F' (vs.map some) H' (some (.op (.l r.2)) :: fzs ds) → Frs K G F' (vs.map some) H' (some (.op (.l r.2)) :: fzs ds) v (.l r.1) → Q v H'
section
variable {K : Fg} {G : Gh} {F F' H H' : Hp} {vs : List V} {σ : L2.St} {ρ : En} {ds : List D}
theorem back_D (S : StOk K G F (vs.map some) H (fzs ds)) (s1 : Same F F') (S1 : StOk K G F' σ H' ρ) : StOk K G F' (vs.map some) H' (fzs ds) := by
  refine ⟨S1.fh, S1.oh, S1.fo, S.ln, fun i d q => ?_, fun i c q => (no_own q).elim, fun i j c e a q => (no_own q).elim, S.pp, S.pq⟩
  obtain ⟨v, e, r⟩ := S.fz i d q
  exact ⟨v, e, r.mono s1⟩
theorem back_DL {v : V} {c : OC} (S1 : StOk K G F' σ H' ρ) (h : Frs K G F' σ H' ρ v c) : Frs K G F' (vs.map some) H' (fzs ds) v c := by
  obtain ⟨a, rfl, oa, _⟩ := h
  exact ⟨a, rfl, oa, fun i e q => (no_own q).elim⟩
theorem own1 {f : List D} {i : Nat} {c : OC} (h : own (some (.op (.l f)) :: fzs ds) i c) : i = 0 ∧ c = .l f := by
  cases i with
  | zero => rcases h with h | h <;> simp at h; exact ⟨rfl, h.symm⟩
  | succ i => exact (no_own (ds := ds) (i := i) (c := c) (by unfold own at h ⊢; simpa using h)).elim
theorem back_1 {f f' : List D} (S : StOk K G F (vs.map some) H (some (.op (.l f)) :: fzs ds)) (s1 : Same F F') (S1 : StOk K G F' σ H' ρ) (h0 : ρ[0]? = some (some (.op (.l f')))) :
    StOk K G F' (vs.map some) H' (some (.op (.l f')) :: fzs ds) ∧ ∀ v c, Frs K G F' σ H' ρ v c → Frs K G F' (vs.map some) H' (some (.op (.l f')) :: fzs ds) v c := by
  obtain ⟨a, ha⟩ := S1.pq 0 _ h0
  obtain ⟨e1, _⟩ := S1.pp 0 a ha
  obtain ⟨e2, _⟩ := S.pp 0 a ha
  obtain ⟨b, eb, ob⟩ := S1.ow 0 _ (.inr h0)
  rw [e1] at eb
  injection eb with eb; injection eb with eb; injection eb with eb
  subst eb
  have only : ∀ i b, G.P i = some b → i = 0 := fun i b h => by
    obtain ⟨_, c, q⟩ := S.pp i b h
    exact (own1 (.inr q)).1
  refine ⟨⟨S1.fh, S1.oh, S1.fo, S.ln, fun i d q => ?_, fun i c q => ?_, fun i j c e b q1 q2 _ _ => ?_, fun i b q => ?_, fun i c q => ?_⟩, fun v c h => ?_⟩
  · cases i with
    | zero => simp at q
    | succ i =>
      obtain ⟨v, e, r⟩ := S.fz (i + 1) d (by simpa using q)
      exact ⟨v, e, r.mono s1⟩
  · obtain ⟨rfl, rfl⟩ := own1 q
    exact ⟨a, e2, ob⟩
  · rw [(own1 q1).1, (own1 q2).1]
  · have := only i b q
    subst this
    exact ⟨(S.pp 0 b q).1, _, rfl⟩
  · obtain ⟨rfl, _⟩ := own1 (.inr q)
    exact ⟨a, ha⟩
  · obtain ⟨b, rfl, ob2, nn⟩ := h
    refine ⟨b, rfl, ob2, fun i e q z => ?_⟩
    obtain ⟨rfl, rfl⟩ := own1 q
    rw [e2] at z
    injection z with z; injection z with z; injection z with z
    subst z
    exact nn 0 _ (.inr h0) e1
end
section
variable {P : Program} {w : World} {K : Fg} {mg : Str → Option Value} {base : Heap} {x qual : Str} {st : Stmt} {f : Addr} {fd : FuncData} {N ps : List Str} {k : Nat}
theorem start_fz {vs : List V} {ds : List D} {G : Gh} {F H : Hp} (hl : vs.length = ps.length) (S0 : StOk K G F (vs.map some) H (fzs ds)) : StOk K G F (L2.start N vs) H (fzs ds ++ List.replicate (N.length - ps.length) none) := by
  have e0 : L2.start N vs = vs.map some ++ List.replicate (N.length - ps.length) none := by unfold L2.start; rw [hl]
  rw [e0]
  exact S0.grow _
/-- THE RULE for a def -/
theorem fn_okD {mb : SM D} {mf : List D → M D} (Fn : Fun K x qual st f fd) (Sc : FnScope N ps (defScope st))
    (hb : ∀ (cdv : Value) (A : Around) (outer : List Env) (s : Shared) (H : Hp) (E : XK), Room k (A.deeper (envOfC qual (defScope st) s.heap.objs.size f cdv)) →
      ASs (cxOf CX0 P w K mg base N qual (defScope st) f cdv A outer s H E).nox (defBody st) mb)
    (hm : ∀ ds, ds.length = ps.length → mf ds = mb KD (fzs ds ++ List.replicate (N.length - ps.length) none)) : FnOk P w K mg base CX0 (k + 1) f fd ps (spD K ps.length mf) := by
  refine Fn.ok Sc (fun vs H Q E h => ?_) (fun cdv A outer s H vs Q E hr h => ?_)
  · obtain ⟨_, _, _, _, h1, _⟩ := h; exact h1
  · obtain ⟨G, F0, ds, d, h1, S0, e, kk⟩ := h
    have hl : ds.length = ps.length := by have := S0.ln; simp at this; omega
    rw [hm ds hl] at e
    refine ⟨_, pss_sem, hb cdv A outer s H E hr (fun m => m = .ret d) KD G F0 _ H _ _ (fun z => nomatch z) (fun F ρ e z => nomatch z) (start_fz h1 S0) e ?_⟩
    exact ⟨fun F' σ' H' ρ' s S' o => (by cases o; exact kk .non F' H' s (back_D S0 s S') .non), fun F' σ' H' ρ' d' v s S' r o => (by cases o; exact kk v F' H' s (back_D S0 s S') r), fun F' σ' H' ρ' d' v s S' r o => (nomatch o), fun F' σ' H' ρ' s S' o => (nomatch o), fun F' σ' H' ρ' s S' o => (nomatch o)⟩
theorem fn_okL {mb : SM (List D)} {mf : List D → M (List D)} (Fn : Fun K x qual st f fd) (Sc : FnScope N ps (defScope st))
    (hb : ∀ (cdv : Value) (A : Around) (outer : List Env) (s : Shared) (H : Hp) (E : XK), Room k (A.deeper (envOfC qual (defScope st) s.heap.objs.size f cdv)) →
      ASs (cxOf CX0 P w K mg base N qual (defScope st) f cdv A outer s H E).nox (defBody st) mb)
    (hm : ∀ ds, ds.length = ps.length → mf ds = mb KL (fzs ds ++ List.replicate (N.length - ps.length) none)) : FnOk P w K mg base CX0 (k + 1) f fd ps (spL K ps.length mf) := by
  refine Fn.ok Sc (fun vs H Q E h => ?_) (fun cdv A outer s H vs Q E hr h => ?_)
  · obtain ⟨_, _, _, _, h1, _⟩ := h; exact h1
  · obtain ⟨G, F0, ds, d, h1, S0, e, kk⟩ := h
    have hl : ds.length = ps.length := by have := S0.ln; simp at this; omega
    rw [hm ds hl] at e
    refine ⟨_, pss_sem, hb cdv A outer s H E hr (fun m => m = .ret d) KL G F0 _ H _ _ (fun z => nomatch z) (fun F ρ e z => nomatch z) (start_fz h1 S0) e ?_⟩
    exact ⟨fun F' σ' H' ρ' s S' o => (nomatch o), fun F' σ' H' ρ' d' v s S' r o => (nomatch o), fun F' σ' H' ρ' d' v s S' r o => (by cases o; exact kk v F' H' s (back_D S0 s S') (back_DL S' r)), fun F' σ' H' ρ' s S' o => (nomatch o), fun F' σ' H' ρ' s S' o => (nomatch o)⟩
theorem at0_ok {S : Type} {ρ : En} {k : List D → M S} {s : S} (h : at0 ρ k = .ret s) : ∃ f, ρ[0]? = some (some (AV.op (OC.l f))) ∧ k f = .ret s := by
  unfold at0 at h
  split at h
  · rename_i f q; exact ⟨f, q, h⟩
  · cases h
theorem start_1 {vs : List V} {ds g : List D} {G : Gh} {F H : Hp} (hl : vs.length = ps.length) (S0 : StOk K G F (vs.map some) H (some (.op (.l g)) :: fzs ds)) : StOk K G F (L2.start N vs) H (some (.op (.l g)) :: fzs ds ++ List.replicate (N.length - ps.length) none) := by
  have e0 : L2.start N vs = vs.map some ++ List.replicate (N.length - ps.length) none := by unfold L2.start; rw [hl]
  rw [e0]
  exact S0.grow _
theorem fn_ok1 {mb : SM (D × List D)} {mf : List D → List D → M (D × List D)} (Fn : Fun K x qual st f fd) (Sc : FnScope N ps (defScope st))
    (hb : ∀ (cdv : Value) (A : Around) (outer : List Env) (s : Shared) (H : Hp) (E : XK), Room k (A.deeper (envOfC qual (defScope st) s.heap.objs.size f cdv)) →
      ASs (cxOf CX0 P w K mg base N qual (defScope st) f cdv A outer s H E).nox (defBody st) mb)
    (hm : ∀ g ds, ds.length + 1 = ps.length → mf g ds = mb K1 (some (.op (.l g)) :: fzs ds ++ List.replicate (N.length - ps.length) none)) : FnOk P w K mg base CX0 (k + 1) f fd ps (sp1 K ps.length mf) := by
  refine Fn.ok Sc (fun vs H Q E h => ?_) (fun cdv A outer s H vs Q E hr h => ?_)
  · obtain ⟨_, _, _, _, _, h1, _⟩ := h; exact h1
  · obtain ⟨G, F0, g, ds, r, h1, S0, e, kk⟩ := h
    have hl : ds.length + 1 = ps.length := by have := S0.ln; simp at this; omega
    rw [hm g ds hl] at e
    refine ⟨_, pss_sem, hb cdv A outer s H E hr (fun m => m = .ret r) K1 G F0 _ H _ _ (fun z => nomatch z) (fun F ρ e z => nomatch z) (start_1 h1 S0) e ?_⟩
    refine ⟨fun F' σ' H' ρ' s S' o => ?_, fun F' σ' H' ρ' d' v s S' rv o => ?_, fun F' σ' H' ρ' d' v s S' r o => (nomatch o), fun F' σ' H' ρ' s S' o => (nomatch o), fun F' σ' H' ρ' s S' o => (nomatch o)⟩
    · obtain ⟨f', q, e'⟩ := at0_ok o
      cases e'
      exact kk .non F' H' s (back_1 S0 s S' q).1 .non
    · obtain ⟨f', q, e'⟩ := at0_ok o
      cases e'
      exact kk v F' H' s (back_1 S0 s S' q).1 rv
theorem fn_ok1L {mb : SM (List D × List D)} {mf : List D → List D → M (List D × List D)} (Fn : Fun K x qual st f fd) (Sc : FnScope N ps (defScope st))
    (hb : ∀ (cdv : Value) (A : Around) (outer : List Env) (s : Shared) (H : Hp) (E : XK), Room k (A.deeper (envOfC qual (defScope st) s.heap.objs.size f cdv)) →
      ASs (cxOf CX0 P w K mg base N qual (defScope st) f cdv A outer s H E).nox (defBody st) mb)
    (hm : ∀ g ds, ds.length + 1 = ps.length → mf g ds = mb K1L (some (.op (.l g)) :: fzs ds ++ List.replicate (N.length - ps.length) none)) : FnOk P w K mg base CX0 (k + 1) f fd ps (sp1L K ps.length mf) := by
  refine Fn.ok Sc (fun vs H Q E h => ?_) (fun cdv A outer s H vs Q E hr h => ?_)
  · obtain ⟨_, _, _, _, _, h1, _⟩ := h; exact h1
  · obtain ⟨G, F0, g, ds, r, h1, S0, e, kk⟩ := h
    have hl : ds.length + 1 = ps.length := by have := S0.ln; simp at this; omega
    rw [hm g ds hl] at e
    refine ⟨_, pss_sem, hb cdv A outer s H E hr (fun m => m = .ret r) K1L G F0 _ H _ _ (fun z => nomatch z) (fun F ρ e z => nomatch z) (start_1 h1 S0) e ?_⟩
    refine ⟨fun F' σ' H' ρ' s S' o => (nomatch o), fun F' σ' H' ρ' d' v s S' rv o => (nomatch o), fun F' σ' H' ρ' d' v s S' rv o => ?_, fun F' σ' H' ρ' s S' o => (nomatch o), fun F' σ' H' ρ' s S' o => (nomatch o)⟩
    obtain ⟨f', q, e'⟩ := at0_ok o
    cases e'
    exact kk v F' H' s (back_1 S0 s S' q).1 ((back_1 S0 s S' q).2 v _ rv)
end
/-! ### a def of the text as callers see it -/
structure CF (P : Program) (w : World) (K : Fg) (mg : Str → Option Value) (base : Heap) (x : Str) (k : Nat) (sp : Sp) : Prop where
  ex : ∃ (f : Addr) (fd : FuncData) (ps : List Str), FnOk P w K mg base CX0 k f fd ps sp ∧ mg x = some (.ref f) ∧ PySem.W.keepIn K (.ref f) = true ∧ L2.Binds K fd ps []
def pFnD (mf : List D → M D) (ps : Pa D) : Pu D := fun ρ => ps (fun ds => mf ds) ρ
def pFnL (mf : List D → M (List D)) (ps : Pa (List D)) : Pu (List D) := fun ρ => ps (fun ds => mf ds) ρ
section
variable {S : Type}
def eFnD (mf : List D → M D) (ms : Ev S (List D)) : Ev S D := fun x k ρ => ms x (fun ds ρ1 => (mf ds).on (fun e => x e ρ1) (fun d => k d ρ1)) ρ
def eFnL (mf : List D → M (List D)) (ms : Ev S (List D)) : Ev S (List D) := fun x k ρ => ms x (fun ds ρ1 => (mf ds).on (fun e => x e ρ1) (fun d => k d ρ1)) ρ
def eFn1 (mf : List D → List D → M (D × List D)) (i : Nat) (ms : Ev S (List D)) : Ev S D := fun x k ρ => ms x (fun ds ρ1 => match ownL ρ1 i with
  | some f => (mf f ds).on (fun e => x e ρ1) (fun r => k r.1 (setO ρ1 i r.2))
  | none => .bad) ρ
def eFn1L (mf : List D → List D → M (List D × List D)) (i : Nat) (ms : Ev S (List D)) : Ev S (List D) := fun x k ρ => ms x (fun ds ρ1 => match ownL ρ1 i with
  | some f => (mf f ds).on (fun e => x e ρ1) (fun r => k r.1 (setO ρ1 i r.2))
  | none => .bad) ρ
end
section
variable {S : Type} {X : Cx} {k n : Nat} {mf : List D → M D} {ml : List D → M (List D)} {m1 : List D → List D → M (D × List D)} {m1L : List D → List D → M (List D × List D)} {x : Str} {p pos pn : Pos} {e : Expr} {es : List Expr} {ps : Pa D} {pl : Pa (List D)} {ms : Ev S (List D)}
/-- a def that only comes to an end without an exception -/
def NoX (mf : List D → M D) : Prop := ∀ ds e, mf ds ≠ .exc e
theorem ap_fn (C : CF X.prog X.w X.K X.mg X.base x k (spD X.K n mf)) (hr : Room k X.A) (hg : Gl X x) (ha : AA X (e :: es) ps) (hn : (e :: es).length = n)
    (hdb : (x == ("__debug__" : Str)) = false) (he : starEach (e :: es) X.env = (false, eval e X.env) :: starEach es X.env) (hpl : (backTo pos (starEach es X.env)).any (·.1) = false) : AP X (.Call (.Name x p) (e :: es) [] pos) (pFnD mf ps) := by
  obtain ⟨f, fd, pl, Fn, h1, h2, h3⟩ := C.ex
  intro G F σ H ρ Q St w
  refine sem (pe_call Fn hr hg h1 h2 h3 .nil pass0 pa_sem hdb he hpl) ?_
  refine ha G F σ H ρ _ _ _ St w fun ds vs F1 H1 s1 S1 hl r1 w1 => ?_
  show spD X.K n mf (vs ++ []) H1 Q E0
  rw [List.append_nil]
  cases hd : mf ds with
  | bad => rw [hd] at w1; exact w1.elim
  | exc e => rw [hd] at w1; exact w1.elim
  | ret d =>
    rw [hd] at w1
    refine ⟨_, F1, ds, d, hl.trans hn, call_preD S1 r1, hd, fun v F2 H2 s2 S2 r2 => ?_⟩
    obtain ⟨S3, t3⟩ := call_postD (avs' := ds.map AV.fz) S1 s2 S2
    exact w1 F2 H2 s2 S3 v r2
theorem al_fn (C : CF X.prog X.w X.K X.mg X.base x k (spL X.K n ml)) (hr : Room k X.A) (hg : Gl X x) (ha : AA X (e :: es) pl) (hn : (e :: es).length = n)
    (hdb : (x == ("__debug__" : Str)) = false) (he : starEach (e :: es) X.env = (false, eval e X.env) :: starEach es X.env) (hpl : (backTo pos (starEach es X.env)).any (·.1) = false) : AL X (.Call (.Name x p) (e :: es) [] pos) (pFnL ml pl) := by
  obtain ⟨f, fd, pz, Fn, h1, h2, h3⟩ := C.ex
  intro G F σ H ρ Q St w
  refine sem (pe_call Fn hr hg h1 h2 h3 .nil pass0 pa_sem hdb he hpl) ?_
  refine ha G F σ H ρ _ _ _ St w fun ds vs F1 H1 s1 S1 hl r1 w1 => ?_
  show spL X.K n ml (vs ++ []) H1 Q E0
  rw [List.append_nil]
  cases hd : ml ds with
  | bad => rw [hd] at w1; exact w1.elim
  | exc e => rw [hd] at w1; exact w1.elim
  | ret d =>
    rw [hd] at w1
    refine ⟨_, F1, ds, d, hl.trans hn, call_preD S1 r1, hd, fun v F2 H2 s2 S2 r2 => ?_⟩
    obtain ⟨S3, t3⟩ := call_postD (avs' := ds.map AV.fz) S1 s2 S2
    exact w1 F2 H2 s2 S3 v (t3 v _ r2)
theorem setO_setC {ρ : En} {i : Nat} {f g : List D} (h : ownL ρ i = some g) : setO ρ i f = setC ρ i (.l f) := setO_change ρ i f g h
theorem ae_fn (C : CF X.prog X.w X.K X.mg X.base x k (spD X.K n mf)) (hr : Room k X.A) (hg : Gl X x) (ha : AEa X (e :: es) ms) (hn : (e :: es).length = n)
    (hdb : (x == ("__debug__" : Str)) = false) (he : starEach (e :: es) X.env = (false, eval e X.env) :: starEach es X.env) (hpl : (backTo pos (starEach es X.env)).any (·.1) = false) : AE X (.Call (.Name x p) (e :: es) [] pos) (eFnD mf ms) := by
  obtain ⟨f, fd, pl, Fn, h1, h2, h3⟩ := C.ex
  intro OK y kk G F σ H ρ Q hO hX St ok k2
  refine sem (pe_call Fn hr hg h1 h2 h3 .nil pass0 pa_sem hdb he hpl) ?_
  refine ha OK y _ G F σ H ρ _ hO hX St ok fun ds vs F1 H1 ρ1 s1 S1 hl r1 o1 => ?_
  show spD X.K n mf (vs ++ []) H1 Q E0
  rw [List.append_nil]
  cases hd : mf ds with
  | bad => rw [hd] at o1; exact (hO o1).elim
  | exc e => rw [hd] at o1; exact (hX F1 ρ1 e o1).elim
  | ret d =>
    rw [hd] at o1
    refine ⟨_, F1, ds, d, hl.trans hn, call_preD S1 r1, hd, fun v F2 H2 s2 S2 r2 => ?_⟩
    obtain ⟨S3, t3⟩ := call_postD (avs' := ds.map AV.fz) S1 s2 S2
    exact k2 d v F2 H2 ρ1 (s1.trans s2) S3 r2 o1
theorem ael_fn (C : CF X.prog X.w X.K X.mg X.base x k (spL X.K n ml)) (hr : Room k X.A) (hg : Gl X x) (ha : AEa X (e :: es) ms) (hn : (e :: es).length = n)
    (hdb : (x == ("__debug__" : Str)) = false) (he : starEach (e :: es) X.env = (false, eval e X.env) :: starEach es X.env) (hpl : (backTo pos (starEach es X.env)).any (·.1) = false) : AEl X (.Call (.Name x p) (e :: es) [] pos) (eFnL ml ms) := by
  obtain ⟨f, fd, pl, Fn, h1, h2, h3⟩ := C.ex
  intro OK y kk G F σ H ρ Q hO hX St ok k2
  refine sem (pe_call Fn hr hg h1 h2 h3 .nil pass0 pa_sem hdb he hpl) ?_
  refine ha OK y _ G F σ H ρ _ hO hX St ok fun ds vs F1 H1 ρ1 s1 S1 hl r1 o1 => ?_
  show spL X.K n ml (vs ++ []) H1 Q E0
  rw [List.append_nil]
  cases hd : ml ds with
  | bad => rw [hd] at o1; exact (hO o1).elim
  | exc e => rw [hd] at o1; exact (hX F1 ρ1 e o1).elim
  | ret d =>
    rw [hd] at o1
    refine ⟨_, F1, ds, d, hl.trans hn, call_preD S1 r1, hd, fun v F2 H2 s2 S2 r2 => ?_⟩
    obtain ⟨S3, t3⟩ := call_postD (avs' := ds.map AV.fz) S1 s2 S2
    exact k2 d v F2 H2 ρ1 (s1.trans s2) S3 (t3 v _ r2) o1
/-- f(xs, ..), xs an own list of slot i -/
theorem call1_args {i : Nat} {y : Str} {OK : M S → Prop} {z : Ex → En → M S} {kk : List D → En → M S} {G : Gh} {F H : Hp} {σ : L2.St} {ρ : En} {Q : List V → Hp → Prop} (hN : X.N[i]? = some y) (hv : Vis X.env.scope y) (hd : (y == ("__debug__" : Str)) = false) (hcd : (y == ("__classdict__" : Str)) = false)
    (ha : AEa X es ms) (he : starEach (.Name y pn :: es) X.env = (false, eval (.Name y pn) X.env) :: starEach es X.env) (hO : KOk OK) (hX : XL X OK z G) (St : StOk X.K G F σ H ρ) (ok : OK (ms z (fun ds ρ1 => match ownL ρ1 i with | some f => kk (.list f :: ds) ρ1 | none => .bad) ρ))
    (h0 : (ownL ρ i).isSome = true)
    (k2 : ∀ a f ds vs F' H' ρ', Same F F' → StOk X.K G F' σ H' ρ' → ownL ρ' i = some f → σ[i]? = some (some (V.ref a)) → vs.length = es.length → RepL X.K F' vs ds → OK (kk (.list f :: ds) ρ') → Q (.ref a :: vs) H') : tSemA X (.Name y pn :: es) σ H Q := by
  obtain ⟨f0, hf0⟩ := Option.isSome_iff_exists.mp h0
  obtain ⟨a, _, ea, _, _⟩ := own_ref St hf0
  refine semA (pa_cons (pe_var hN hv hd hcd) pa_sem he) ⟨_, ea, ?_⟩
  refine ha OK z _ G F σ H ρ _ hO hX St ok fun ds vs F1 H1 ρ1 s1 S1 hl r1 o1 => ?_
  split at o1
  · rename_i f hf
    exact k2 a f ds vs F1 H1 ρ1 s1 S1 hf ea hl r1 o1
  · exact (hO o1).elim
def ck {S α : Type} (i : Nat) (m : Ev S α) : Ev S α := fun x k ρ => match (ownL ρ i).isSome with
  | true => m x k ρ
  | false => .bad
theorem call_pre1' {K : Fg} {G : Gh} {F H : Hp} {σ : L2.St} {ρ : En} {vs : List V} {ds f : List D} {j : Nat} {a : Addr} (S : StOk K G F σ H ρ) (hj : ownL ρ j = some f) (ha : σ[j]? = some (some (V.ref a))) (r : RepL K F vs ds) :
    StOk K ⟨P1 a, calleeO G σ ρ H (some a)⟩ F ((V.ref a :: vs).map some) H (some (.op (.l f)) :: fzs ds) := call_pre1 S (ownL_own hj) ha r
theorem ae_fn1 {i : Nat} {y : Str} (C : CF X.prog X.w X.K X.mg X.base x k (sp1 X.K n m1)) (hr : Room k X.A) (hg : Gl X x) (hN : X.N[i]? = some y) (hv : Vis X.env.scope y) (ha : AEa X es ms) (hn : es.length + 1 = n)
    (hdb : (x == ("__debug__" : Str)) = false) (he : starEach (.Name y pn :: es) X.env = (false, eval (.Name y pn) X.env) :: starEach es X.env) (hpl : (backTo pos (starEach es X.env)).any (·.1) = false)
    (hd : (y == ("__debug__" : Str)) = false := by decide) (hcd : (y == ("__classdict__" : Str)) = false := by decide) : AE X (.Call (.Name x p) (.Name y pn :: es) [] pos) (ck i (eFn1 m1 i ms)) := by
  obtain ⟨f, fd, pl, Fn, h1, h2, h3⟩ := C.ex
  intro OK z kk G F σ H ρ Q hO hX St ok k2
  unfold ck at ok
  split at ok
  case h_2 => exact (hO ok).elim
  rename_i h0
  refine sem (pe_call Fn hr hg h1 h2 h3 .nil pass0 pa_sem hdb he hpl) ?_
  refine call1_args (OK := OK) (z := z) (kk := fun l ρ1 => match l with | .list f :: ds => (m1 f ds).on (fun e => z e ρ1) (fun r => kk r.1 (setO ρ1 i r.2)) | _ => .bad) hN hv hd hcd ha he hO hX St ok h0 fun a f ds vs F1 H1 ρ1 s1 S1 hf ea hl r1 o1 => ?_
  have o1' : OK ((m1 f ds).on (fun e => z e ρ1) (fun r => kk r.1 (setO ρ1 i r.2))) := o1
  show sp1 X.K n m1 ((V.ref a :: vs) ++ []) H1 Q E0
  rw [List.append_nil]
  cases hd : m1 f ds with
  | bad => rw [hd] at o1'; exact (hO o1').elim
  | exc e => rw [hd] at o1'; exact (hX F1 ρ1 e o1').elim
  | ret r =>
    rw [hd] at o1'
    refine ⟨_, F1, f, ds, r, by simp [hl]; exact hn, call_pre1' S1 hf ea r1, hd, fun v F2 H2 s2 S2 r2 => ?_⟩
    obtain ⟨S3, t3⟩ := call_post1 (c' := .l r.2) (l := ds.map AV.fz) S1 (ownL_own hf) ea s2 S2
    rw [← setO_setC hf] at S3
    exact k2 r.1 v F2 H2 _ (s1.trans s2) S3 r2 o1'
theorem ael_fn1 {i : Nat} {y : Str} (C : CF X.prog X.w X.K X.mg X.base x k (sp1L X.K n m1L)) (hr : Room k X.A) (hg : Gl X x) (hN : X.N[i]? = some y) (hv : Vis X.env.scope y) (ha : AEa X es ms) (hn : es.length + 1 = n)
    (hdb : (x == ("__debug__" : Str)) = false) (he : starEach (.Name y pn :: es) X.env = (false, eval (.Name y pn) X.env) :: starEach es X.env) (hpl : (backTo pos (starEach es X.env)).any (·.1) = false)
    (hd : (y == ("__debug__" : Str)) = false := by decide) (hcd : (y == ("__classdict__" : Str)) = false := by decide) : AEl X (.Call (.Name x p) (.Name y pn :: es) [] pos) (ck i (eFn1L m1L i ms)) := by
  obtain ⟨f, fd, pl, Fn, h1, h2, h3⟩ := C.ex
  intro OK z kk G F σ H ρ Q hO hX St ok k2
  unfold ck at ok
  split at ok
  case h_2 => exact (hO ok).elim
  rename_i h0
  refine sem (pe_call Fn hr hg h1 h2 h3 .nil pass0 pa_sem hdb he hpl) ?_
  refine call1_args (OK := OK) (z := z) (kk := fun l ρ1 => match l with | .list f :: ds => (m1L f ds).on (fun e => z e ρ1) (fun r => kk r.1 (setO ρ1 i r.2)) | _ => .bad) hN hv hd hcd ha he hO hX St ok h0 fun a f ds vs F1 H1 ρ1 s1 S1 hf ea hl r1 o1 => ?_
  have o1' : OK ((m1L f ds).on (fun e => z e ρ1) (fun r => kk r.1 (setO ρ1 i r.2))) := o1
  show sp1L X.K n m1L ((V.ref a :: vs) ++ []) H1 Q E0
  rw [List.append_nil]
  cases hd : m1L f ds with
  | bad => rw [hd] at o1'; exact (hO o1').elim
  | exc e => rw [hd] at o1'; exact (hX F1 ρ1 e o1').elim
  | ret r =>
    rw [hd] at o1'
    refine ⟨_, F1, f, ds, r, by simp [hl]; exact hn, call_pre1' S1 hf ea r1, hd, fun v F2 H2 s2 S2 r2 => ?_⟩
    obtain ⟨S3, t3⟩ := call_post1 (c' := .l r.2) (l := ds.map AV.fz) S1 (ownL_own hf) ea s2 S2
    rw [← setO_setC hf] at S3 t3
    exact k2 r.1 v F2 H2 _ (s1.trans s2) S3 (t3 v _ r2) o1'
end
/-- nothing is promised of a def at no depth -/
theorem CF.zero {P : Program} {w : World} {K : Fg} {mg : Str → Option Value} {base : Heap} {x : Str} {f : Addr} {fd : FuncData} {ps : List Str} (k n : Nat) (h1 : mg x = some (.ref f)) (h2 : PySem.W.keepIn K (.ref f) = true) (h3 : L2.Binds K fd ps []) :
    CF P w K mg base x k (spD K n fun _ => .bad) := ⟨f, fd, ps, ⟨fun vs H Q E h => (by obtain ⟨_, _, _, _, _, _, z, _⟩ := h; cases z), fun A outer s H args us vs Q E hr e0 hb hv h => (by obtain ⟨_, _, _, _, _, _, z, _⟩ := h; cases z)⟩, h1, h2, h3⟩
theorem CF.zero1 {P : Program} {w : World} {K : Fg} {mg : Str → Option Value} {base : Heap} {x : Str} {f : Addr} {fd : FuncData} {ps : List Str} (k n : Nat) (h1 : mg x = some (.ref f)) (h2 : PySem.W.keepIn K (.ref f) = true) (h3 : L2.Binds K fd ps []) :
    CF P w K mg base x k (sp1 K n fun _ _ => .bad) := ⟨f, fd, ps, ⟨fun vs H Q E h => (by obtain ⟨_, _, _, _, _, _, _, z, _⟩ := h; cases z), fun A outer s H args us vs Q E hr e0 hb hv h => (by obtain ⟨_, _, _, _, _, _, _, z, _⟩ := h; cases z)⟩, h1, h2, h3⟩
theorem room_u {k : Nat} {A : Around} (r : Room k A) : A.units + 1100 < cLine := by have := r.un; omega
end L4

set_option Elab.async false
set_option linter.all false
set_option maxRecDepth 100000
namespace L4
open PySem PySem.Spec PyProof.Rows L2 L3

/-! ### comprehensions -/
/-- its turns, where nothing of the slots changes -/
def compC (step : D → M (Option D)) : List D → M (List D)
  | [] => .ret []
  | d :: r => bd (step d) fun o => bd (compC step r) fun xs => .ret (o.toList ++ xs)
def pComp (k : Nat) (it : Pu (List D)) (t : Tg (Option D)) (pt : Pu Bool) (pe : Pu D) : Pu (List D) := fun ρ => bd (it ρ) fun ds =>
  bd (compC (fun d => t d (fun ρ1 => bd (pt ρ1) fun b => if b then bd (pe ρ1) fun v => .ret (some v) else .ret none) (ρ ++ List.replicate k none)) ds) fitM
/-- .. and where own lists do -/
def compE {T : Type} (step : T → D → M (Option D × T)) : List D → T → M (List D × T)
  | [], s => .ret ([], s)
  | d :: r, s => bd (step s d) fun p => bd (compE step r p.2) fun q => .ret (p.1.toList ++ q.1, q.2)
def eComp {S : Type} (sh : List Kd) (k : Nat) (it : Ev S (List D)) (t : Tg (Option D × SOf sh)) (et : Ev (Option D × SOf sh) Bool) (ee : Ev (Option D × SOf sh) D) : Ev S (List D) := fun x kk ρ => it x (fun ds ρ1 => rdk sh (fun s =>
  (compE (fun s d => t d (fun ρ2 => et (fun e _ => .exc e) (fun b ρ3 => if b then ee (fun e _ => .exc e) (fun v ρ4 => rdk sh (fun s' => .ret (some v, s')) (ρ4.take sh.length)) ρ3 else rdk sh (fun s' => .ret (none, s')) (ρ3.take sh.length)) ρ2) (wr sh s ++ List.replicate k none)) ds s).on
    (fun e => x e ρ1) (fun q => (fitM q.1).on (fun e => x e ρ1) (fun out => kk out (wr sh q.2)))) ρ1) ρ
def pTrue : Pu Bool := fun _ => .ret true
def ATs (X : Cx) (ifs : List Expr) (p : Pu Bool) : Prop :=
  ∀ (G : Gh) (F : Hp) (σ : L2.St) (H : Hp) (ρ : En) (Q : Bool → Hp → Prop), StOk X.K G F σ H ρ → W X G F σ ρ (p ρ) (fun d F' H' => Q d H') → ∀ (pins : List (Addr × Obj)) (s : Shared), Inv X pins σ H s →
    wpAny (model X.prog X.w) X.A (forIn ifs true fun c r => if r = true then do let ok ← isTrue c X.env (eval c X.env); pure (ForInStep.yield ok) else pure (ForInStep.yield r)) (TP X pins σ Q) X.xe s
theorem ats_nil {X : Cx} : ATs X [] pTrue := fun G F σ H ρ Q S w pins s I => pts_nil pins s σ H Q I (w F H (Same.refl _) S)
theorem ats_one {X : Cx} {c : Expr} {p : Pu Bool} (h : AT X c p) : ATs X [c] p := fun G F σ H ρ Q S w pins s I => pts_one pt_sem pins s σ H Q I (h G F σ H ρ Q S w)
def AEts {S : Type} (X : Cx) (ifs : List Expr) (m : Ev S Bool) : Prop :=
  ∀ (OK : M S → Prop) (x : Ex → En → M S) (k : Bool → En → M S) (G : Gh) (F : Hp) (σ : L2.St) (H : Hp) (ρ : En) (Q : Bool → Hp → Prop), KOk OK → XL X OK x G → StOk X.K G F σ H ρ → OK (m x k ρ) →
    (∀ d F' H' ρ', Same F F' → StOk X.K G F' σ H' ρ' → OK (k d ρ') → Q d H') → ∀ (pins : List (Addr × Obj)) (s : Shared), Inv X pins σ H s →
    wpAny (model X.prog X.w) X.A (forIn ifs true fun c r => if r = true then do let ok ← isTrue c X.env (eval c X.env); pure (ForInStep.yield ok) else pure (ForInStep.yield r)) (TP X pins σ Q) X.xe s
theorem aets_pu {S : Type} {X : Cx} {ifs : List Expr} {p : Pu Bool} (h : ATs X ifs p) : AEts (S := S) X ifs (ePu p) := fun OK x k G F σ H ρ Q hO hX St ok kk => h G F σ H ρ Q St (W.of hO hX ok fun d F' H' s S' o => kk d F' H' ρ s S' o)
theorem aets_one {S : Type} {X : Cx} {c : Expr} {m : Ev S Bool} (h : AEt X c m) : AEts X [c] m := fun OK x k G F σ H ρ Q hO hX St ok kk pins s I => pts_one pt_sem pins s σ H Q I (h OK x k G F σ H ρ Q hO hX St ok kk)
theorem W.rets {X : Cx} {G : Gh} {F : Hp} {σ : L2.St} {ρ : En} {α : Type} {m : M α} {a : α} {C : α → Hp → Hp → Prop} (e : m = .ret a) (h : ∀ F' H', Same F F' → StOk X.K G F' σ H' ρ → C a F' H') : W X G F σ ρ m C := by subst e; exact h
section
variable {X : Cx}
def tAllG (X : Cx) (N' : List Str) (scope : Scope) (tg : Expr) : TG := fun v σ H Q => ∀ cl s H0 fp C, tSemG (compCx X N' scope cl s H0 fp C) tg v σ H Q
def tAllT (X : Cx) (N' : List Str) (scope : Scope) (ifs : List Expr) : TT := fun σ H Q => ∀ cl s0 H0 fp C, ∀ (pins : List (Addr × Obj)) (s : Shared), Inv (compCx X N' scope cl s0 H0 fp C) pins σ H s →
    wpAny (model X.prog X.w) (compCx X N' scope cl s0 H0 fp C).A (forIn ifs true fun c r => if r = true then do let ok ← isTrue c (compCx X N' scope cl s0 H0 fp C).env (eval c (compCx X N' scope cl s0 H0 fp C).env); pure (ForInStep.yield ok) else pure (ForInStep.yield r)) (TP (compCx X N' scope cl s0 H0 fp C) pins σ Q) (compCx X N' scope cl s0 H0 fp C).xe s
def tAllE (X : Cx) (N' : List Str) (scope : Scope) (e : Expr) : TE := fun σ H Q => ∀ cl s H0 fp C, tSem (compCx X N' scope cl s H0 fp C) e σ H Q
variable {elt tg iter : Expr} {ifs : List Expr} {scope : Scope} {pos : Pos} {N' : List Str} {k : Nat}
theorem comp_rd {it : Pu (List D)} {t : Tg (Option D)} {pt : Pu Bool} {pe : Pu D} {G : Gh} {F : Hp} {σ : L2.St} {H : Hp} {ρ : En} {Q : VK} (hi : AI X tg iter it)
    (hg : ∀ cl s H fp C, AG (compCx X N' scope cl s H fp C) X.N.length tg t) (ht : ∀ cl s H fp C, ATs (compCx X N' scope cl s H fp C) ifs pt) (he : ∀ cl s H fp C, AP (compCx X N' scope cl s H fp C) elt pe)
    (hσ : σ.length = X.N.length) (St : StOk X.K G F σ H ρ) (w : W X G F σ ρ (pComp k it t pt pe ρ) fun ds F' H' => ∀ v, Frs X.K G F' σ H' ρ v (.l ds) → Q v H') :
    tComp (tSemI X tg iter) k (tAllG X N' scope tg) (tAllT X N' scope ifs) (tAllE X N' scope elt) σ H Q := by
  refine hi G F σ H ρ _ St (w.bind.imp fun ds F1 H1 s1 S1 w1 J wk => ?_)
  have hP : ∀ i a, G.P i = some a → i < σ.length := fun i a h => (List.getElem?_eq_some_iff.mp (S1.pp i a h).1).1
  have hln : σ.length = ρ.length := S1.ln
  have wc := w1.bind
  revert wc
  generalize hstep : (fun d => t d (fun ρ1 => bd (pt ρ1) fun b => if b then bd (pe ρ1) fun v => .ret (some v) else .ret none) (ρ ++ List.replicate k none)) = step
  intro wc
  cases hcc : compC step ds with
  | bad => rw [hcc] at wc; exact wc.elim
  | exc e => rw [hcc] at wc; exact wc.elim
  | ret out =>
    rw [hcc] at wc
    have wf : ∀ F' H', Same F1 F' → StOk X.K G F' σ H' ρ → W X G F' σ ρ (fitM out) fun ds F' H' => ∀ v, Frs X.K G F' σ H' ρ v (.l ds) → Q v H' := wc
    have hfit : out.length ≤ sizeLine := (wf F1 H1 (Same.refl _) S1).fit.1
    have fin : ∀ F' H', Same F1 F' → StOk X.K G F' σ H' ρ → ∀ v, Frs X.K G F' σ H' ρ v (.l out) → Q v H' := fun F' H' s' S' => (wf F' H' s' S').fit.2 F' H' (Same.refl _) S'
    have grown : ∀ {F' H' σ' ρ'}, StOk X.K G F' σ' H' ρ' → (∀ j, j < σ.length → σ'[j]? = σ[j]? ∧ ρ'[j]? = ρ[j]?) → σ'.length = σ.length + k → StOk X.K G F' σ' H' (ρ ++ List.replicate k none) := fun {F' H' σ' ρ'} S' kp hl => by
      refine S'.weak (by have := S'.ln; simp; omega) (fun i av q => ?_) (fun i c q => ?_)
      · have q' := app_none q
        have hi : i < σ.length := by rw [hln]; exact (List.getElem?_eq_some_iff.mp q').1
        rw [(kp i hi).2]; exact q'
      · obtain ⟨a, ha⟩ := S'.pq i c q
        have hi := hP i a ha
        rw [List.getElem?_append_left (by omega), ← (kp i hi).2]
        exact q
    refine ⟨fun i m vs σ' H' => ∃ F' acc rest, m = ds.length - i ∧ i ≤ ds.length ∧ Same F1 F' ∧ StOk X.K G F' σ' H' (ρ ++ List.replicate k none) ∧ (∀ j, j < σ.length → σ'[j]? = σ[j]?) ∧ σ'.length = σ.length + k ∧ RepL X.K F' vs acc ∧ compC step (ds.drop i) = .ret rest ∧ out = acc ++ rest,
      ⟨ds.length, F1, [], out, rfl, Nat.zero_le _, Same.refl _, S1.grow k, fun j hj => by rw [List.getElem?_append_left hj], by simp, .nil, hcc, rfl⟩, ?_⟩
    rintro i m vs σ' H' ⟨F', acc, rest, rfl, hi, s2, S2, kp, hlen, rp, go, eo⟩
    refine ⟨by rw [rp.length]; rw [eo, List.length_append] at hfit; omega, ?_⟩
    by_cases hlt : i < ds.length
    · refine .inr ⟨wk.go i G F' σ' H' _ s2 S2 hlt, fun x H2 y cl s0 H0 fp C => ?_⟩
      have hd : ds[i]? = some ds[i] := by simp [hlt]
      obtain ⟨F3, s3, S3, r3⟩ := wk.yld i G F' σ' H' _ x H2 ds[i] s2 S2 hd y
      have ed : ds.drop i = ds[i] :: ds.drop (i + 1) := List.drop_eq_getElem_cons hlt
      rw [ed] at go
      cases hst : step ds[i] with
      | bad => dsimp only [compC] at go; rw [hst] at go; cases go
      | exc e => dsimp only [compC] at go; rw [hst] at go; cases go
      | ret o =>
        dsimp only [compC] at go
        rw [hst, bd_ret] at go
        cases hr : compC step (ds.drop (i + 1)) with
        | bad => rw [hr] at go; cases go
        | exc e => rw [hr] at go; cases go
        | ret rest' =>
          rw [hr, bd_ret] at go
          cases go
          rw [← hstep] at hst
          refine hg cl s0 H0 fp C (fun m => m = .ret o) _ G F3 σ' H2 _ x ds[i] _ (fun z => nomatch z) S3 r3 hst fun σ3 ρ3 S4 kp3 hl3 ml3 o4 => ?_
          have kp' : ∀ j, j < σ.length → σ3[j]? = σ[j]? ∧ ρ3[j]? = ρ[j]? := fun j hj => ⟨((kp3 j (by omega)).1).trans (kp j hj), by rw [(kp3 j (by omega)).2, List.getElem?_append_left (by omega)]⟩
          cases hpt : pt ρ3 with
          | bad => rw [hpt] at o4; cases o4
          | exc e => rw [hpt] at o4; cases o4
          | ret b =>
            rw [hpt, bd_ret] at o4
            intro cl s0 H0 fp C
            refine ht cl s0 H0 fp C G F3 σ3 H2 ρ3 _ S4 (W.rets hpt fun F5 H5 s5 S5 => ?_)
            cases b with
            | true =>
              refine iteT ?_
              have o4' : bd (pe ρ3) (fun v => .ret (some v)) = M.ret o := o4
              cases hpe : pe ρ3 with
              | bad => rw [hpe] at o4'; cases o4'
              | exc e => rw [hpe] at o4'; cases o4'
              | ret v =>
                rw [hpe, bd_ret] at o4'
                cases o4'
                intro cl s0 H0 fp C
                refine he cl s0 H0 fp C G F5 σ3 H5 ρ3 _ S5 (W.rets hpe fun F6 H6 s6 S6 u ru => ?_)
                exact ⟨ds.length - (i + 1), by omega, F6, acc ++ [v], rest', rfl, hlt, ((s2.trans s3).trans s5).trans s6, grown S6 kp' (by omega), fun j hj => (kp' j hj).1, by omega, (rp.mono ((s3.trans s5).trans s6)).append (.cons ru .nil), hr, by rw [eo]; simp⟩
            | false =>
              refine iteF ?_
              have o4' : (M.ret none : M (Option D)) = M.ret o := o4
              cases o4'
              exact ⟨ds.length - (i + 1), by omega, F5, acc, rest', rfl, hlt, (s2.trans s3).trans s5, grown S5 kp' (by omega), fun j hj => (kp' j hj).1, by omega, rp.mono (s3.trans s5), hr, by rw [eo]; simp⟩
    · have ei : i = ds.length := by omega
      subst ei
      rw [List.drop_length] at go
      cases go
      rw [List.append_nil] at eo
      subst eo
      refine .inl ⟨wk.stop G F' σ' H' _ s2 S2, fun p hp => ?_⟩
      have Ssh := S2.shrink (n := σ.length) (by simp; omega) hP
      have e1 : σ'.take σ.length = σ := take_eq_of kp rfl
      have e2 : (ρ ++ List.replicate k none).take σ.length = ρ := by rw [hln, List.take_left]
      rw [e1, e2] at Ssh
      obtain ⟨S5, r5⟩ := Ssh.newLst hp rp
      exact fin F' _ s2 S5 _ r5
theorem al_comp {it : Pu (List D)} {t : Tg (Option D)} {pt : Pu Bool} {pe : Pu D} (hc : X.calm = true) (Sc : CompOk X N' k scope) (hi : AI X tg iter it)
    (hg : ∀ cl s H fp C, AG (compCx X N' scope cl s H fp C) X.N.length tg t) (ht : ∀ cl s H fp C, ATs (compCx X N' scope cl s H fp C) ifs pt) (he : ∀ cl s H fp C, AP (compCx X N' scope cl s H fp C) elt pe)
    (hs : ∀ x, foldedSetIterable iter X.env x = pure x) : AL X (.ListComp elt [⟨tg, iter, ifs, 0⟩] scope pos) (pComp k it t pt pe) := by
  intro G F σ H ρ Q St w; unfold tSem; intro pins s I
  refine pe_comp (wi := tSemI X tg iter) (g := tAllG X N' scope tg) (tc := tAllT X N' scope ifs) (te := tAllE X N' scope elt) hc Sc (fun x hx hf => I.ok.has x.1 (Sc.free x hx hf)) pi_sem
    (fun cl s H fp C pins s' σ H v u Q I r h => pg_sem pins s' σ H v u Q I r (h cl _ _ fp C)) (fun cl s H fp C pins s' σ H Q I h => h cl _ _ fp C pins s' I) (fun cl s H fp C pins s' σ H Q I h => pe_sem pins s' σ H Q I (h cl _ _ fp C)) hs pins s σ H Q I (comp_rd hi hg ht he I.len St w)
theorem ecomp_rd {S : Type} {sh : List Kd} {it : Ev S (List D)} {t : Tg (Option D × SOf sh)} {et : Ev (Option D × SOf sh) Bool} {ee : Ev (Option D × SOf sh) D} {OK : M S → Prop} {x : Ex → En → M S} {kk : List D → En → M S} {G : Gh} {F : Hp} {σ : L2.St} {H : Hp} {ρ : En} {Q : VK} (hi : AEi X tg iter it)
    (hg : ∀ cl s H fp C, AG (compCx X N' scope cl s H fp C) X.N.length tg t) (ht : ∀ cl s H fp C, AEts (compCx X N' scope cl s H fp C) ifs et) (he : ∀ cl s H fp C, AE (compCx X N' scope cl s H fp C) elt ee)
    (hσ : σ.length = X.N.length) (hO : KOk OK) (hX : XL X OK x G) (St : StOk X.K G F σ H ρ) (ok : OK (eComp sh k it t et ee x kk ρ)) (k2 : ∀ ds v F' H' ρ', Same F F' → StOk X.K G F' σ H' ρ' → Frs X.K G F' σ H' ρ' v (.l ds) → OK (kk ds ρ') → Q v H') :
    tComp (tSemI X tg iter) k (tAllG X N' scope tg) (tAllT X N' scope ifs) (tAllE X N' scope elt) σ H Q := by
  refine hi OK x _ G F σ H ρ _ hO hX St ok fun ds J F1 H1 ρ1 s1 S1 wk o1 => ?_
  obtain ⟨s0, e0, o0⟩ := rdk_ok hO o1
  clear o1
  have S0 := S1.rd e0
  have hlen0 : ∀ s : SOf sh, (wr sh s).length = σ.length := fun s => by
    have h1 : ∀ (sh : List Kd) (s : SOf sh), (wr sh s).length = sh.length := by
      intro sh
      induction sh with
      | nil => intro s; rfl
      | cons a r ih => intro s; cases a <;> simp [wr, ih]
    have h2 := S0.ln
    rw [h1] at h2 ⊢
    exact h2.symm
  have hshl : sh.length = σ.length := by
    have h1 : ∀ (sh : List Kd) (s : SOf sh), (wr sh s).length = sh.length := by
      intro sh
      induction sh with
      | nil => intro s; rfl
      | cons a r ih => intro s; cases a <;> simp [wr, ih]
    rw [← h1 sh s0]; exact hlen0 s0
  have hP : ∀ i a, G.P i = some a → i < σ.length := fun i a h => (List.getElem?_eq_some_iff.mp (S1.pp i a h).1).1
  revert o0
  generalize hstep : (fun (s : SOf sh) d => t d (fun ρ2 => et (fun e _ => .exc e) (fun b ρ3 => if b then ee (fun e _ => .exc e) (fun v ρ4 => rdk sh (fun s' => .ret (some v, s')) (ρ4.take sh.length)) ρ3 else rdk sh (fun s' => .ret (none, s')) (ρ3.take sh.length)) ρ2) (wr sh s ++ List.replicate k none)) = step
  intro o0
  cases hcc : compE step ds s0 with
  | bad => rw [hcc] at o0; exact (hO o0).elim
  | exc e => rw [hcc] at o0; exact (hX F1 ρ1 e o0).elim
  | ret q =>
    obtain ⟨out, sf⟩ := q
    rw [hcc, on_ret] at o0
    obtain ⟨hfit, o0⟩ := fit_ok hO o0
    have again : ∀ {F' H' σ' ρ'} {s' : SOf sh}, StOk X.K G F' σ' H' ρ' → (∀ j, j < σ.length → σ'[j]? = σ[j]?) → σ'.length = σ.length + k → rd sh (ρ'.take sh.length) = some s' → StOk X.K G F' σ' H' (wr sh s' ++ List.replicate k none) := fun {F' H' σ' ρ' s'} S' kp hl e' => by
      obtain ⟨h1, h2, h3⟩ := rd_wr sh _ s' e'
      have hρ' : ρ'.length = σ.length + k := by rw [← S'.ln]; exact hl
      refine S'.weak (by simp [hlen0]; omega) (fun i av q => ?_) (fun i c q => ?_)
      · have q' := app_none q
        have := h2 i av q'
        have hi : i < sh.length := by
          have := (List.getElem?_eq_some_iff.mp this).1
          rw [List.length_take] at this; omega
        rw [List.getElem?_take_of_lt hi] at this
        exact this
      · obtain ⟨a, ha⟩ := S'.pq i c q
        have hi := hP i a ha
        rw [List.getElem?_append_left (by rw [hlen0]; exact hi)]
        exact h3 i c (by rw [List.getElem?_take_of_lt (by omega)]; exact q)
    refine ⟨fun i m vs σ' H' => ∃ F' acc rest s, m = ds.length - i ∧ i ≤ ds.length ∧ Same F1 F' ∧ StOk X.K G F' σ' H' (wr sh s ++ List.replicate k none) ∧ (∀ j, j < σ.length → σ'[j]? = σ[j]?) ∧ σ'.length = σ.length + k ∧ RepL X.K F' vs acc ∧ compE step (ds.drop i) s = .ret (rest, sf) ∧ out = acc ++ rest,
      ⟨ds.length, F1, [], out, s0, rfl, Nat.zero_le _, Same.refl _, S0.grow k, fun j hj => by rw [List.getElem?_append_left hj], by simp, .nil, hcc, rfl⟩, ?_⟩
    rintro i m vs σ' H' ⟨F', acc, rest, sc, rfl, hi, s2, S2, kp, hlen, rp, go, eo⟩
    refine ⟨by rw [rp.length]; rw [eo, List.length_append] at hfit; omega, ?_⟩
    by_cases hlt : i < ds.length
    · refine .inr ⟨wk.go i G F' σ' H' _ s2 S2 hlt, fun x H2 y cl sx H0 fp C => ?_⟩
      have hd : ds[i]? = some ds[i] := by simp [hlt]
      obtain ⟨F3, s3, S3, r3⟩ := wk.yld i G F' σ' H' _ x H2 ds[i] s2 S2 hd y
      have ed : ds.drop i = ds[i] :: ds.drop (i + 1) := List.drop_eq_getElem_cons hlt
      rw [ed] at go
      cases hst : step sc ds[i] with
      | bad => dsimp only [compE] at go; rw [hst] at go; cases go
      | exc e => dsimp only [compE] at go; rw [hst] at go; cases go
      | ret o =>
        obtain ⟨o, sn⟩ := o
        dsimp only [compE] at go
        rw [hst, bd_ret] at go
        cases hr : compE step (ds.drop (i + 1)) sn with
        | bad => rw [hr] at go; cases go
        | exc e => rw [hr] at go; cases go
        | ret q' =>
          obtain ⟨rest', sf'⟩ := q'
          rw [hr, bd_ret] at go
          cases go
          rw [← hstep] at hst
          refine hg cl sx H0 fp C (fun m => m = .ret (o, sn)) _ G F3 σ' H2 _ x ds[i] _ (fun z => nomatch z) S3 r3 hst fun σ3 ρ3 S4 kp3 hl3 ml3 o4 => ?_
          have kp' : ∀ j, j < σ.length → σ3[j]? = σ[j]? := fun j hj => ((kp3 j (by omega)).1).trans (kp j hj)
          intro cl sx H0 fp C
          refine ht cl sx H0 fp C (fun m => m = .ret (o, sn)) (fun e _ => .exc e) _ G F3 σ3 H2 ρ3 _ (fun z => nomatch z) (fun F ρ e z => nomatch z) S4 o4 fun b F5 H5 ρ5 s5 S5 o5 => ?_
          cases b with
          | true =>
            refine iteT ?_
            intro cl sx H0 fp C
            refine he cl sx H0 fp C (fun m => m = .ret (o, sn)) (fun e _ => .exc e) _ G F5 σ3 H5 ρ5 _ (fun z => nomatch z) (fun F ρ e z => nomatch z) S5 o5 fun v u F6 H6 ρ6 s6 S6 ru o6 => ?_
            obtain ⟨s', e', o'⟩ := rdk_ok (OK := fun m => m = .ret (o, sn)) (fun z => nomatch z) o6
            cases o'
            exact ⟨ds.length - (i + 1), by omega, F6, acc ++ [v], rest', sn, rfl, hlt, ((s2.trans s3).trans s5).trans s6, again S6 kp' (by omega) e', kp', by omega, (rp.mono ((s3.trans s5).trans s6)).append (.cons ru .nil), hr, by rw [eo]; simp⟩
          | false =>
            refine iteF ?_
            obtain ⟨s', e', o'⟩ := rdk_ok (OK := fun m => m = .ret (o, sn)) (fun z => nomatch z) o5
            cases o'
            exact ⟨ds.length - (i + 1), by omega, F5, acc, rest', sn, rfl, hlt, (s2.trans s3).trans s5, again S5 kp' (by omega) e', kp', by omega, rp.mono (s3.trans s5), hr, by rw [eo]; simp⟩
    · have ei : i = ds.length := by omega
      subst ei
      rw [List.drop_length] at go
      cases go
      rw [List.append_nil] at eo
      subst eo
      refine .inl ⟨wk.stop G F' σ' H' _ s2 S2, fun p hp => ?_⟩
      have Ssh := S2.shrink (n := σ.length) (by simp [hlen0]) hP
      have e1 : σ'.take σ.length = σ := take_eq_of kp rfl
      have e2 : (wr sh sf ++ List.replicate k none).take σ.length = wr sh sf := by rw [← hlen0 sf, List.take_left]
      rw [e1, e2] at Ssh
      obtain ⟨S5, r5⟩ := Ssh.newLst hp rp
      exact k2 _ _ F' _ _ (s1.trans s2) S5 r5 o0
theorem ael_comp {S : Type} {sh : List Kd} {it : Ev S (List D)} {t : Tg (Option D × SOf sh)} {et : Ev (Option D × SOf sh) Bool} {ee : Ev (Option D × SOf sh) D} (hc : X.calm = true) (Sc : CompOk X N' k scope) (hi : AEi X tg iter it)
    (hg : ∀ cl s H fp C, AG (compCx X N' scope cl s H fp C) X.N.length tg t) (ht : ∀ cl s H fp C, AEts (compCx X N' scope cl s H fp C) ifs et) (he : ∀ cl s H fp C, AE (compCx X N' scope cl s H fp C) elt ee)
    (hs : ∀ x, foldedSetIterable iter X.env x = pure x) : AEl X (.ListComp elt [⟨tg, iter, ifs, 0⟩] scope pos) (eComp sh k it t et ee) := by
  intro OK x kk G F σ H ρ Q hO hX St ok k2; unfold tSem; intro pins s I
  refine pe_comp (wi := tSemI X tg iter) (g := tAllG X N' scope tg) (tc := tAllT X N' scope ifs) (te := tAllE X N' scope elt) hc Sc (fun x hx hf => I.ok.has x.1 (Sc.free x hx hf)) pi_sem
    (fun cl s H fp C pins s' σ H v u Q I r h => pg_sem pins s' σ H v u Q I r (h cl _ _ fp C)) (fun cl s H fp C pins s' σ H Q I h => h cl _ _ fp C pins s' I) (fun cl s H fp C pins s' σ H Q I h => pe_sem pins s' σ H Q I (h cl _ _ fp C)) hs pins s σ H Q I (ecomp_rd hi hg ht he I.len hO hX St ok k2)
/-- y = [..], where the store comes ahead of the letting go -/
theorem as_setCompL {S : Type} {pos' spos : Pos} {i : Nat} {y : Str} {it : Pu (List D)} {t : Tg (Option D)} {pt : Pu Bool} {pe : Pu D}
    (hN : X.N.Nodup) (hy : X.N[i]? = some y) (hly : Loc X.env.scope y) (hfn : X.fn y = true ∨ X.env.scope.names.lookup y = some .local) (hc : X.calm = true) (Sc : CompOk X N' k scope) (hi : AI X tg iter it)
    (hg : ∀ cl s H fp C, AG (compCx X N' scope cl s H fp C) X.N.length tg t) (ht : ∀ cl s H fp C, ATs (compCx X N' scope cl s H fp C) ifs pt) (he : ∀ cl s H fp C, AP (compCx X N' scope cl s H fp C) elt pe)
    (hsw : swapsWith (.ListComp elt [⟨tg, iter, ifs, 0⟩] scope pos) (some (.Name y pos')) spos.line X.env = pure true) (hs : ∀ x, foldedSetIterable iter X.env x = pure x) :
    AS (S := S) X (.Assign [.Name y pos'] (.ListComp elt [⟨tg, iter, ifs, 0⟩] scope pos) spos) (sSetL i (ePu (pComp k it t pt pe))) := by
  intro OK K G F σ H ρ E hO hX St ok eo; unfold tSemS; intro pins s I
  refine ps_setComp (wi := tSemI X tg iter) (g := tAllG X N' scope tg) (tc := tAllT X N' scope ifs) (te := tAllE X N' scope elt) hN hy hly hfn hc Sc (fun x hx hf => I.ok.has x.1 (Sc.free x hx hf)) pi_sem
    (fun cl s H fp C pins s' σ H v u Q I r h => pg_sem pins s' σ H v u Q I r (h cl _ _ fp C)) (fun cl s H fp C pins s' σ H Q I h => h cl _ _ fp C pins s' I) (fun cl s H fp C pins s' σ H Q I h => pe_sem pins s' σ H Q I (h cl _ _ fp C)) hsw hs pins s σ H E I ?_
  refine comp_rd hi hg ht he I.len St ?_
  refine W.of hO hX ok fun d F' H' s S' o v r => ?_
  have o' : OK (match okSet ρ i with | true => K.nx (ρ.set i (some (.ol (.l d)))) | false => .bad) := o
  split at o'
  · rename_i ho
    obtain ⟨hl, hop⟩ := okSet_of ho
    exact eo.nx F' _ H' _ s (S'.store hop hl (.inr ⟨.l d, rfl, r⟩)) o'
  · exact (hO o').elim
theorem as_setComp {S : Type} {pos' spos : Pos} {i : Nat} {y : Str} {it : Pu (List D)} {t : Tg (Option D)} {pt : Pu Bool} {pe : Pu D}
    (hN : X.N.Nodup) (hy : X.N[i]? = some y) (hly : Loc X.env.scope y) (hfn : X.fn y = true ∨ X.env.scope.names.lookup y = some .local) (hc : X.calm = true) (Sc : CompOk X N' k scope) (hi : AI X tg iter it)
    (hg : ∀ cl s H fp C, AG (compCx X N' scope cl s H fp C) X.N.length tg t) (ht : ∀ cl s H fp C, ATs (compCx X N' scope cl s H fp C) ifs pt) (he : ∀ cl s H fp C, AP (compCx X N' scope cl s H fp C) elt pe)
    (hsw : swapsWith (.ListComp elt [⟨tg, iter, ifs, 0⟩] scope pos) (some (.Name y pos')) spos.line X.env = pure true) (hs : ∀ x, foldedSetIterable iter X.env x = pure x) :
    AS (S := S) X (.Assign [.Name y pos'] (.ListComp elt [⟨tg, iter, ifs, 0⟩] scope pos) spos) (sSet i (ePu (pZ (pComp k it t pt pe)))) := by
  intro OK K G F σ H ρ E hO hX St ok eo; unfold tSemS; intro pins s I
  refine ps_setComp (wi := tSemI X tg iter) (g := tAllG X N' scope tg) (tc := tAllT X N' scope ifs) (te := tAllE X N' scope elt) hN hy hly hfn hc Sc (fun x hx hf => I.ok.has x.1 (Sc.free x hx hf)) pi_sem
    (fun cl s H fp C pins s' σ H v u Q I r h => pg_sem pins s' σ H v u Q I r (h cl _ _ fp C)) (fun cl s H fp C pins s' σ H Q I h => h cl _ _ fp C pins s' I) (fun cl s H fp C pins s' σ H Q I h => pe_sem pins s' σ H Q I (h cl _ _ fp C)) hsw hs pins s σ H E I ?_
  refine comp_rd hi hg ht he I.len St ?_
  have w : W X G F σ ρ (pZ (pComp k it t pt pe) ρ) (fun d F' H' => ∀ v, Rep X.K F' v d → gName i v σ H' E.nx) := W.of hO hX ok fun d F' H' s S' o v r => by
    have o' : OK (match okSet ρ i with | true => K.nx (ρ.set i (some (.fz d))) | false => .bad) := o
    split at o'
    · rename_i ho
      obtain ⟨hl, hop⟩ := okSet_of ho
      exact eo.nx F' _ H' _ s (S'.store hop hl (.inl ⟨d, rfl, r⟩)) o'
    · exact (hO o').elim
  refine w.bind.imp fun ds F' H' s1 S1 w1 v fr => ?_
  obtain ⟨F2, s2, S2, r2⟩ := S1.settle (v := v) (ds := ds) fr
  exact w1 F2 H' s2 S2 v r2
theorem as_setECompL {S : Type} {pos' spos : Pos} {i : Nat} {y : Str} {sh : List Kd} {it : Ev S (List D)} {t : Tg (Option D × SOf sh)} {et : Ev (Option D × SOf sh) Bool} {ee : Ev (Option D × SOf sh) D}
    (hN : X.N.Nodup) (hy : X.N[i]? = some y) (hly : Loc X.env.scope y) (hfn : X.fn y = true ∨ X.env.scope.names.lookup y = some .local) (hc : X.calm = true) (Sc : CompOk X N' k scope) (hi : AEi X tg iter it)
    (hg : ∀ cl s H fp C, AG (compCx X N' scope cl s H fp C) X.N.length tg t) (ht : ∀ cl s H fp C, AEts (compCx X N' scope cl s H fp C) ifs et) (he : ∀ cl s H fp C, AE (compCx X N' scope cl s H fp C) elt ee)
    (hsw : swapsWith (.ListComp elt [⟨tg, iter, ifs, 0⟩] scope pos) (some (.Name y pos')) spos.line X.env = pure true) (hs : ∀ x, foldedSetIterable iter X.env x = pure x) :
    AS X (.Assign [.Name y pos'] (.ListComp elt [⟨tg, iter, ifs, 0⟩] scope pos) spos) (sSetL i (eComp sh k it t et ee)) := by
  intro OK K G F σ H ρ E hO hX St ok eo; unfold tSemS; intro pins s I
  refine ps_setComp (wi := tSemI X tg iter) (g := tAllG X N' scope tg) (tc := tAllT X N' scope ifs) (te := tAllE X N' scope elt) hN hy hly hfn hc Sc (fun x hx hf => I.ok.has x.1 (Sc.free x hx hf)) pi_sem
    (fun cl s H fp C pins s' σ H v u Q I r h => pg_sem pins s' σ H v u Q I r (h cl _ _ fp C)) (fun cl s H fp C pins s' σ H Q I h => h cl _ _ fp C pins s' I) (fun cl s H fp C pins s' σ H Q I h => pe_sem pins s' σ H Q I (h cl _ _ fp C)) hsw hs pins s σ H E I ?_
  refine ecomp_rd hi hg ht he I.len hO hX St ok fun ds v F' H' ρ' s S' r o => ?_
  split at o
  · rename_i ho
    obtain ⟨hl, hop⟩ := okSet_of ho
    exact eo.nx F' _ H' _ s (S'.store hop hl (.inr ⟨.l ds, rfl, r⟩)) o
  · exact (hO o).elim
theorem as_setEComp {S : Type} {pos' spos : Pos} {i : Nat} {y : Str} {sh : List Kd} {it : Ev S (List D)} {t : Tg (Option D × SOf sh)} {et : Ev (Option D × SOf sh) Bool} {ee : Ev (Option D × SOf sh) D}
    (hN : X.N.Nodup) (hy : X.N[i]? = some y) (hly : Loc X.env.scope y) (hfn : X.fn y = true ∨ X.env.scope.names.lookup y = some .local) (hc : X.calm = true) (Sc : CompOk X N' k scope) (hi : AEi X tg iter it)
    (hg : ∀ cl s H fp C, AG (compCx X N' scope cl s H fp C) X.N.length tg t) (ht : ∀ cl s H fp C, AEts (compCx X N' scope cl s H fp C) ifs et) (he : ∀ cl s H fp C, AE (compCx X N' scope cl s H fp C) elt ee)
    (hsw : swapsWith (.ListComp elt [⟨tg, iter, ifs, 0⟩] scope pos) (some (.Name y pos')) spos.line X.env = pure true) (hs : ∀ x, foldedSetIterable iter X.env x = pure x) :
    AS X (.Assign [.Name y pos'] (.ListComp elt [⟨tg, iter, ifs, 0⟩] scope pos) spos) (sSet i (eZ (eComp sh k it t et ee))) := by
  intro OK K G F σ H ρ E hO hX St ok eo; unfold tSemS; intro pins s I
  refine ps_setComp (wi := tSemI X tg iter) (g := tAllG X N' scope tg) (tc := tAllT X N' scope ifs) (te := tAllE X N' scope elt) hN hy hly hfn hc Sc (fun x hx hf => I.ok.has x.1 (Sc.free x hx hf)) pi_sem
    (fun cl s H fp C pins s' σ H v u Q I r h => pg_sem pins s' σ H v u Q I r (h cl _ _ fp C)) (fun cl s H fp C pins s' σ H Q I h => h cl _ _ fp C pins s' I) (fun cl s H fp C pins s' σ H Q I h => pe_sem pins s' σ H Q I (h cl _ _ fp C)) hsw hs pins s σ H E I ?_
  refine ecomp_rd hi hg ht he I.len hO hX St ok fun ds v F' H' ρ' s S' r o => ?_
  have o' : OK (match okSet ρ' i with | true => K.nx (ρ'.set i (some (.fz (.list ds)))) | false => .bad) := o
  split at o'
  · rename_i ho
    obtain ⟨hl, hop⟩ := okSet_of ho
    obtain ⟨F2, s2, S2, r2⟩ := S'.settle (v := v) (ds := ds) r
    exact eo.nx F2 _ H' _ (s.trans s2) (S2.store hop hl (.inl ⟨_, rfl, r2⟩)) o'
  · exact (hO o').elim
end
end L4

set_option Elab.async false
set_option linter.all false
set_option maxRecDepth 100000
namespace HT
open PySem PySem.Spec PyProof.Rows
section
variable {prog : Program} {w : World} {A : Around} {E : Value → Shared → Prop} {s : Shared}
theorem getItem_tuple_all {t sl : Addr} {items : Array Value} {vl vu : Value} {lo hi : Option Int} {Q : Value → Shared → Prop} (ht : IsTup s.heap t items) (hs : s.heap.IsSliceOf sl vl vu .none) (pl : IsPart vl lo) (pu : IsPart vu hi)
    (hw : sIx items.size 0 lo = 0 ∧ sIx items.size items.size hi = items.size) (h : Q (.ref t) s) : wpAny (model prog w) A (getItem (.ref t) (.ref sl)) Q E s := by
  obtain ⟨os, hos, hcs, hds⟩ := id hs
  have hTs : s.TypeIs (.ref sl) "slice" := ⟨os, hos, hcs⟩
  unfold getItem
  try with_reducible refine wpAny_holding ?_
  first | refine wpAny_bind (wpAny_pure ?_) | skip
  refine wpAny_bind (wpAny_sequenceKey ht.typeIs (by decide) ?_)
  refine wpAny_bind (wpAny_callSpecial?_slot (name := Str.ofString "__getitem__") ht.typeIs PyProof.Rows.slot_tuple_getitem
    (wpAny_call_entry PyProof.Rows.slot_tuple_getitem ht.typeIs entry_tuple_getitem ?_ (args_tuple_getitem _ _)))
  show wpAny _ _ (Builtin.Tuple.tupleItemsOf (.ref t) >>= _) _ _ s
  refine wpAny_bind (tupleItemsOf_ ht ?_)
  refine wpAny_bind (wpAny_typeOf hTs ?_)
  rw [if_pos (by decide)]
  refine wpAny_bind (sliceApplied_gen hs pl pu ?_)
  have hyes : ((((sIx items.size 0 lo : Nat) : Int) == 0 && (1 : Int) == 1 && (sIx items.size items.size hi - sIx items.size 0 lo) == items.size) = true) := by
    rw [hw.1, hw.2]
    simp
  show wpAny _ _ (if (((sIx items.size 0 lo : Nat) : Int) == 0 && (1 : Int) == 1 && (sIx items.size items.size hi - sIx items.size 0 lo) == items.size) = true then _ else _) _ _ s
  rw [if_pos hyes]
  obtain ⟨o, ho, hc, n, hd⟩ := id ht
  have hex : ∀ {Q' : Bool → Shared → Prop}, Q' true s → wpAny (model prog w) A.in1 (Builtin.Tuple.tupleIsExact (.ref t)) Q' E s := fun {Q'} q => by
    unfold Builtin.Tuple.tupleIsExact
    refine wpAny_bind (wpAny_typeOf ht.typeIs (wpAny_pure ?_))
    exact q
  first
    | exact wpAny_bind (hex (wpAny_bind (wpAny_rule (wpAny_pure ⟨_, rfl, wpAny_pure h⟩))))
    | exact wpAny_bind (wpAny_bind (hex (wpAny_bind (wpAny_rule (wpAny_pure (wpAny_pure ⟨_, rfl, wpAny_pure h⟩))))))
end
end HT

namespace L4
open PySem PySem.Spec PyProof.Rows L2 L3
/-! ### slices -/
def cutD (ds : List D) (lo hi : Option Int) : List D := (ds.drop (HT.sIx ds.length 0 lo)).take (HT.sIx ds.length ds.length hi - HT.sIx ds.length 0 lo)
theorem cut_rep {K : Fg} {F : Hp} {vs : List V} {ds : List D} (r : RepL K F vs ds) (lo hi : Option Int) : RepL K F (cutV vs lo hi) (cutD ds lo hi) := by
  unfold cutV cutD
  rw [r.length]
  exact (r.drop _).take _
def rSlA (K : Fg) : V → Option Int → Option Int → Hp → VK → Prop := fun x lo hi H Q => ∃ a xs, x = .ref a ∧ SqT K H a xs ∧ (HT.sIx xs.length 0 lo = 0 ∧ HT.sIx xs.length xs.length hi = xs.length) ∧ Q x H
theorem sl_tupA {X : Cx} : SlR X (rSlA X.K) := by
  intro pins s σ H x v vl vu lo hi sl Q I rx hs pl pu h
  obtain ⟨a, xs, rfl, hx, hw, q⟩ := h
  cases rx
  obtain ⟨its, r, ht, hz⟩ := I.tuple hx
  have hlen : its.toArray.size = xs.length := by rw [List.size_toArray]; exact r.length.symm
  refine ⟨"tuple", _, PyProof.Rows.slot_tuple_getitem.lookup, ht.typeIs, ?_⟩
  exact HT.getItem_tuple_all ht hs pl pu (by rw [hlen]; exact hw) ⟨.ref a, H, I, rfl, q⟩
def pNoI : Pu (Option Int) := fun _ => .ret none
def asI (d : D) : M (Option Int) := match d with
  | .int i => .ret (some i)
  | _ => .bad
def pInt (p : Pu D) : Pu (Option Int) := fun ρ => bd (p ρ) asI
/-- a[lo:hi] -/
def fCut (d : D) (lo hi : Option Int) : Option D := match d with
  | .tuple ds => some (.tuple (cutD ds lo hi))
  | .list ds => some (.list (cutD ds lo hi))
  | _ => none
def fCutL (d : D) (lo hi : Option Int) : Option (List D) := match d with
  | .list ds => some (cutD ds lo hi)
  | _ => none
def pSlice (p : Pu D) (l h : Pu (Option Int)) : Pu D := fun ρ => bd (p ρ) fun d => bd (l ρ) fun lo => bd (h ρ) fun hi => oM (fCut d lo hi)
def pSliceL (p : Pu D) (l h : Pu (Option Int)) : Pu (List D) := fun ρ => bd (p ρ) fun d => bd (l ρ) fun lo => bd (h ρ) fun hi => oM (fCutL d lo hi)
def APo (X : Cx) (e : Option Expr) (p : Pu (Option Int)) : Prop :=
  ∀ (G : Gh) (F : Hp) (σ : L2.St) (H : Hp) (ρ : En) (Q : Option Int → Hp → Prop), StOk X.K G F σ H ρ → W X G F σ ρ (p ρ) (fun d F' H' => Q d H') → ∀ (pins : List (Addr × Obj)) (s : Shared), Inv X pins σ H s →
    wpAny (model X.prog X.w) X.A (evalPart e X.env) (fun u s' => ∃ o H', Inv X pins σ H' s' ∧ IsPart u o ∧ Q o H') X.xe s
def tSemO (X : Cx) (e : Option Expr) : TO := fun σ H Q => ∀ (pins : List (Addr × Obj)) (s : Shared), Inv X pins σ H s → wpAny (model X.prog X.w) X.A (evalPart e X.env) (fun u s' => ∃ o H', Inv X pins σ H' s' ∧ IsPart u o ∧ Q o H') X.xe s
theorem po_sem {X : Cx} {e : Option Expr} : PO X e (tSemO X e) := fun pins s σ H Q I h => h pins s I
section
variable {X : Cx} {e : Expr} {lo hi : Option Expr} {p : Pu D} {pl ph : Pu (Option Int)} {pos p2 : Pos}
theorem apo_none : APo X none pNoI := fun G F σ H ρ Q S w pins s I => po_none pins s σ H Q I (w F H (Same.refl _) S)
theorem apo_some (h : AP X e p) : APo X (some e) (pInt p) := fun G F σ H ρ Q S w pins s I => po_some pe_sem pins s σ H Q I (h G F σ H ρ _ S (w.bind.imp fun d F1 H1 s1 S1 w1 v r => by
  cases r with
  | int i => exact ⟨i, rfl, w1 F1 H1 (Same.refl _) S1⟩
  | bl b => exact w1.elim
  | non => exact w1.elim
  | str i => exact w1.elim
  | tup _ _ => exact w1.elim
  | lst _ _ => exact w1.elim))
theorem ap_slice (he : AO X e p) (hl : APo X lo pl) (hh : APo X hi ph) : AP X (.Subscript e (.Slice lo hi none p2) pos) (pSlice p pl ph) :=
  fun G F σ H ρ Q S w => sem (pe_slice (sl_tup.or (sl_tupA.or sl_list)) pe_sem po_sem po_sem) (he G F σ H ρ _ S (w.bind.imp fun d F1 H1 s1 S1 w1 x hx =>
    hl G F1 σ H1 ρ _ S1 (w1.bind.imp fun lo F2 H2 s2 S2 w2 => hh G F2 σ H2 ρ _ S2 (w2.bind.imp fun hi F3 H3 s3 S3 w3 => by
      obtain ⟨res, hr, k⟩ := w3.opt
      have ox := (hx.mono (s2.trans s3)).or S3
      cases d <;> try (cases hr)
      · obtain ⟨a, vs, rfl, h1, h2⟩ := ox.list S3.fh
        refine .inr (.inr ⟨a, vs, rfl, h1, fun q hq => ?_⟩)
        obtain ⟨S4, r4⟩ := S3.newLst hq (cut_rep h2 lo hi)
        obtain ⟨F5, s5, S5, r5⟩ := S4.settle r4
        exact k F5 _ s5 S5 _ r5
      · rename_i ds
        obtain ⟨a, vs, rfl, h1, h2⟩ := ox.tuple S3.fh
        by_cases hw : HT.sIx vs.length 0 lo = 0 ∧ HT.sIx vs.length vs.length hi = vs.length
        · refine .inr (.inl ⟨a, vs, rfl, h1, hw, k F3 H3 (Same.refl _) S3 _ ?_⟩)
          have : cutD ds lo hi = ds := by
            unfold cutD
            rw [← h2.length, hw.1, hw.2]
            simp [h2.length]
          rw [this]
          exact ox.tup'
        · refine .inl ⟨a, vs, rfl, h1, hw, fun q hq => ?_⟩
          obtain ⟨s4, S4, r4⟩ := S3.newTup hq (cut_rep h2 lo hi)
          exact k _ _ s4 S4 _ r4))))
theorem al_slice (he : AO X e p) (hl : APo X lo pl) (hh : APo X hi ph) : AL X (.Subscript e (.Slice lo hi none p2) pos) (pSliceL p pl ph) :=
  fun G F σ H ρ Q S w => sem (pe_slice sl_list pe_sem po_sem po_sem) (he G F σ H ρ _ S (w.bind.imp fun d F1 H1 s1 S1 w1 x hx =>
    hl G F1 σ H1 ρ _ S1 (w1.bind.imp fun lo F2 H2 s2 S2 w2 => hh G F2 σ H2 ρ _ S2 (w2.bind.imp fun hi F3 H3 s3 S3 w3 => by
      obtain ⟨res, hr, k⟩ := w3.opt
      have ox := (hx.mono (s2.trans s3)).or S3
      cases d <;> try (cases hr)
      obtain ⟨a, vs, rfl, h1, h2⟩ := ox.list S3.fh
      refine ⟨a, vs, rfl, h1, fun q hq => ?_⟩
      obtain ⟨S4, r4⟩ := S3.newLst hq (cut_rep h2 lo hi)
      exact k F3 _ (Same.refl _) S4 _ r4))))
end

/-! ### comparisons in a chain -/
def pChain (f g : D → D → Option Bool) (a b c : Pu D) : Pu Bool := fun ρ => bd (a ρ) fun x => bd (b ρ) fun y => bd (oM (f x y)) fun t => if t then bd (c ρ) fun z => oM (g y z) else .ret false
section
variable {X : Cx} {a b c : Expr} {pa pb pc : Pu D} {op op' : CmpOp} {r r' : R2} {f g : D → D → Option Bool} {pos : Pos}
theorem chain_go {G : Gh} {F H : Hp} {σ : L2.St} {ρ : En} {Q : VK} (hf : OpB X.K r f) (hg : OpB X.K r' g) (ha : AO X a pa) (hb : AO X b pb) (hc : AO X c pc) (S : StOk X.K G F σ H ρ) (w : W X G F σ ρ (pChain f g pa pb pc ρ) fun t F' H' => Q (.bl t) H') :
    tChain r r' (tSem X a) (tSem X b) (tSem X c) σ H Q :=
  ha G F σ H ρ _ S (w.bind.imp fun dx F1 H1 s1 S1 w1 x hx => hb G F1 σ H1 ρ _ S1 (w1.bind.imp fun dy F2 H2 s2 S2 w2 y hy => by
    have w3 := w2.bind
    obtain ⟨t, e, k⟩ := w3.opt
    refine hf G F2 σ H2 ρ x y dx dy t _ S2 ((hx.mono s2).or S2) (hy.or S2) e ⟨t, rfl, ?_⟩
    have w4 := k F2 H2 (Same.refl _) S2
    cases t with
    | true =>
      refine iteT ?_
      exact hc G F2 σ H2 ρ _ S2 ((show W X G F2 σ ρ (bd (pc ρ) fun z => oM (g dy z)) _ from w4).bind.imp fun dz F3 H3 s3 S3 w5 z hz => by
        obtain ⟨t', e', k'⟩ := w5.opt
        exact hg G F3 σ H3 ρ y z dy dz t' _ S3 ((hy.mono s3).or S3) (hz.or S3) e' (k' F3 H3 (Same.refl _) S3))
    | false =>
      refine iteF ?_
      exact (show W X G F2 σ ρ (.ret false) _ from w4) F2 H2 (Same.refl _) S2))
theorem ab_chain (ho : OpR X (compareOp op) r) (ho' : OpR X (compareOp op') r') (hf : OpB X.K r f) (hg : OpB X.K r' g) (ha : AO X a pa) (hb : AO X b pb) (hc : AO X c pc) (hm : lastMarks [op, op'] [b, c] = false) : AB X (.Compare a [op, op'] [b, c] pos) (pChain f g pa pb pc) :=
  fun G F σ H ρ Q S w => sem (pe_chain ho ho' pe_sem pe_sem pe_sem hm) (chain_go hf hg ha hb hc S w)
theorem at_chain (ho : OpR X (compareOp op) r) (ho' : OpR X (compareOp op') r') (hf : OpB X.K r f) (hg : OpB X.K r' g) (ha : AO X a pa) (hb : AO X b pb) (hc : AO X c pc) (hm : lastMarks [op, op'] [b, c] = false) : AT X (.Compare a [op, op'] [b, c] pos) (pChain f g pa pb pc) :=
  fun G F σ H ρ Q S w => semT (pt_chain ho ho' pe_sem pe_sem pe_sem hm) (chain_go (Q := fun x H' => ∃ k, x = .bl k ∧ Q k H') hf hg ha hb hc S (w.imp fun t F' H' _ _ q => ⟨t, rfl, q⟩))
end

/-! ### is True, is not True -/
def opIsB (d e : D) : Option Bool := match d, e with
  | .bool a, .bool b => some (a == b)
  | _, .none => some (isNone d)
  | _, _ => none
def opNotB (d e : D) : Option Bool := match d, e with
  | .bool a, .bool b => some (a != b)
  | _, .none => some (!isNone d)
  | _, _ => none
section
variable {X : Cx}
theorem opr_isB : OpR X (compareOp .Is) (rD2 X.K opIsB) := by
  intro pins s σ H x y v u Q I rx ry ⟨d, e, b, r1, r2, ho, q⟩
  unfold opIsB at ho
  split at ho
  · cases ho
    cases r1
    cases r2
    cases rx
    cases ry
    exact PyProof.Rows.is_bool ⟨.bl _, H, I, rfl, q⟩
  · exact opr_isN pins s σ H x y v u Q I rx ry ⟨d, .none, b, r1, r2, by rw [← ho]; rfl, q⟩
  · cases ho
theorem opr_notB : OpR X (compareOp .IsNot) (rD2 X.K opNotB) := by
  intro pins s σ H x y v u Q I rx ry ⟨d, e, b, r1, r2, ho, q⟩
  unfold opNotB at ho
  split at ho
  · cases ho
    cases r1
    cases r2
    cases rx
    cases ry
    exact PyProof.Rows.isnot_bool ⟨.bl _, H, I, rfl, q⟩
  · exact opr_notN pins s σ H x y v u Q I rx ry ⟨d, .none, b, r1, r2, by rw [← ho]; rfl, q⟩
  · cases ho
end

/-! ### isinstance -/
def pIs (T : String) (p : Pu D) : Pu Bool := fun ρ => bd (p ρ) fun d => .ret (isT T d)
def rIs2 (K : Fg) (T : String) : List V → Hp → VK → Prop := fun xs H Q => ∃ v d, xs = [v, .ty T] ∧ Rep K H v d ∧ Q (.bl (isT T d)) H
theorem call_is {X : Cx} {T : String} (hT : tyOk T = true) : CallR X (.builtin "isinstance") (rIs2 X.K T) := by
  intro pins s σ H xs us Q I r h
  obtain ⟨v, d, rfl, rp, q⟩ := h
  obtain ⟨u, w, rfl, ru, rw'⟩ := vals2 r
  cases rw'
  exact isinst_rep hT I rp ru fun tk => ⟨.bl _, H, I.tok tk, rfl, q⟩
section
variable {X : Cx} {e : Expr} {p : Pu D} {pos p1 p2 : Pos} {T : String} {x : Str}
theorem ab_is (hT : tyOk T = true) (hg : Gl X "isinstance") (hm : X.mg "isinstance" = none) (hgT : Gl X x) (hmT : X.mg x = none) (hv : bootBuiltins x = some (.type T)) (ha : AO X e p) (hs : starEach [e, .Name x p2] X.env = (false, eval e X.env) :: starEach [.Name x p2] X.env) (hs2 : starEach [.Name x p2] X.env = (false, eval (.Name x p2) X.env) :: starEach [] X.env)
    (hpl : (backTo pos (starEach [.Name x p2] X.env)).any (·.1) = false) (hn : x ≠ "__name__" := by decide) (hd : (x == ("__debug__" : Str)) = false := by decide) : AB X (.Call (.Name "isinstance" p1) [e, .Name x p2] [] pos) (pIs T p) :=
  fun G F σ H ρ Q S w => sem (pe_callB (call_is hT) hg hm (by decide +kernel) (pa_cons pe_sem (pa_cons (pe_bltn hgT hmT hv (v := .ty T) rfl hn hd) pa_nil hs2) hs) (by decide) (by decide) hs hpl) (ha G F σ H ρ _ S (w.bind.imp fun d F1 H1 s1 S1 w1 v hv => by
    exact ⟨v, d, rfl, (hv.or S1).rep S1.fh, w1 F1 H1 (Same.refl _) S1⟩))
end

/-! ### all, any of a list of bools -/
def boolsOf : List D → Option (List Bool)
  | [] => some []
  | .bool b :: r => match boolsOf r with
    | some l => some (b :: l)
    | none => none
  | _ => none
theorem boolsOf_eq : ∀ {ds : List D} {bs : List Bool}, boolsOf ds = some bs → ds = bs.map PyData.bool
  | [], _, h => by cases h; rfl
  | .bool i :: r, ns, h => by
    dsimp only [boolsOf] at h
    split at h
    · rename_i l e; cases h; rw [boolsOf_eq e]; rfl
    · cases h
  | .none :: _, _, h => by cases h
  | .int _ :: _, _, h => by cases h
  | .str _ :: _, _, h => by cases h
  | .list _ :: _, _, h => by cases h
  | .tuple _ :: _, _, h => by cases h
  | .dict _ :: _, _, h => by cases h
theorem boolsOf_map (bs : List Bool) : boolsOf (bs.map PyData.bool) = some bs := by
  induction bs with
  | nil => rfl
  | cons b r ih => simp [boolsOf, ih]
theorem repL_bools {K : Fg} {F : Hp} : ∀ {vs : List V} {bs : List Bool}, RepL K F vs (bs.map PyData.bool) → vs = bs.map V.bl
  | _, [], h => by cases h; rfl
  | _, n :: r, h => by
    cases h with
    | cons a b => cases a; rw [repL_bools b]; rfl
theorem vals_bools : ∀ {bs : List Bool} {us : List Value}, Vals (bs.map V.bl) us → us = bs.map Value.bool
  | [], _, h => by cases h; rfl
  | n :: r, _, h => by
    cases h with
    | cons a b => cases a; rw [vals_bools b]; rfl
def fAll : List D → Option Bool
  | [.list ds] => (boolsOf ds).map fun bs => bs.all id
  | _ => none
def fAny : List D → Option Bool
  | [.list ds] => (boolsOf ds).map fun bs => bs.any id
  | _ => none
def rBools (K : Fg) (f : List Bool → Bool) : List V → Hp → VK → Prop := fun xs H Q => ∃ a bs, xs = [.ref a] ∧ SqL K H a (bs.map V.bl) ∧ Q (.bl (f bs)) H
theorem ok_bools {K : Fg} {f : List Bool → Bool} {g : List D → Option Bool} (hg : ∀ l b, g l = some b → ∃ bs, l = [.list (bs.map PyData.bool)] ∧ b = f bs) : CallBo K (rBools K f) g := by
  intro G F σ H ρ xs ds res Q S o e k
  obtain ⟨bs, rfl, rfl⟩ := hg _ _ e
  obtain ⟨v, r, rfl, ho, hr⟩ := ors_cons o
  obtain rfl := ors_nil hr
  obtain ⟨a, vs, rfl, h1, h2⟩ := ho.list S.fh
  rw [repL_bools h2] at h1
  exact ⟨a, bs, rfl, h1, k⟩
theorem ok_all {K : Fg} : CallBo K (rBools K fun bs => bs.all id) fAll := ok_bools fun l b h => by
  unfold fAll at h
  split at h
  · obtain ⟨bs, e, rfl⟩ := Option.map_eq_some_iff.mp h
    exact ⟨bs, by rw [boolsOf_eq e], rfl⟩
  · cases h
theorem ok_any {K : Fg} : CallBo K (rBools K fun bs => bs.any id) fAny := ok_bools fun l b h => by
  unfold fAny at h
  split at h
  · obtain ⟨bs, e, rfl⟩ := Option.map_eq_some_iff.mp h
    exact ⟨bs, by rw [boolsOf_eq e], rfl⟩
  · cases h
theorem iter_list {prog : Program} {w : World} {A : Around} {E : Value → Shared → Prop} {s : Shared} {l : Addr} {its : Array Value} {Q : Value → Shared → Prop} (hl : s.heap.IsList l its)
    (h : ∀ s₂ : Shared, s₂ = { s with heap := s.heap.push { cls := .type "list_iterator", data := .fields #[.ref l, .int 0 0] } } →
      (s₂.heap.IsListIter s.heap.objs.size l 0 ∧ s₂.heap.IsList l its) → l ≠ s.heap.objs.size → Q (.ref s.heap.objs.size) s₂) :
    wpAny (model prog w) A (pyIter (.ref l)) Q E s := by
  have hlt : l < s.heap.objs.size := by obtain ⟨_, e, _⟩ := hl; exact Heap.lt_size e
  exact wpAny_pyIter_list hl (h _ rfl ⟨⟨_, Heap.get?_push_size _ rfl, rfl, rfl⟩, hl.push _⟩ (Nat.ne_of_lt hlt))
theorem truth_bools {prog : Program} {w : World} {A : Around} (bs : List Bool) : TruthOf prog w A (fun i v => (bs.map Value.bool).toArray[i]? = some v) (fun i => bs.getD i false) := fun i v s Q E hP hQ => by
  dsimp only at hP hQ
  rw [List.getElem?_toArray, List.getElem?_map] at hP
  obtain ⟨b, e, rfl⟩ := Option.map_eq_some_iff.mp hP
  rw [List.getD_eq_getElem?_getD, e] at hQ
  exact wpAny_truthy_bool hQ
theorem all_range (bs : List Bool) : (List.range bs.length).all (fun i => bs.getD i false) = bs.all id := by
  induction bs with
  | nil => rfl
  | cons b r ih =>
    rw [List.length_cons, List.range_succ_eq_map, List.all_cons, List.all_map, List.all_cons]
    simp only [List.getD_cons_zero, id_eq]
    congr 1
theorem any_range (bs : List Bool) : (List.range bs.length).any (fun i => bs.getD i false) = bs.any id := by
  induction bs with
  | nil => rfl
  | cons b r ih =>
    rw [List.length_cons, List.range_succ_eq_map, List.any_cons, List.any_map, List.any_cons]
    simp only [List.getD_cons_zero, id_eq]
    congr 1
theorem call_all {X : Cx} (hc : X.calm = true) : CallR X (.builtin "all") (rBools X.K fun bs => bs.all id) := by
  intro pins s σ H xs us Q I r h
  obtain ⟨a, bs, rfl, hq, q⟩ := h
  obtain ⟨u, rfl, ru⟩ := Vals.one r
  cases ru
  obtain ⟨its, rv, pl, hz⟩ := I.list hq
  rw [vals_bools rv] at pl
  refine call_all_walk (iter_list pl.isList fun s₂ e st hlI => ?_)
  subst e
  refine ⟨_, _, _, _, _, _, _, rfl, Walks.list (A := X.A.in1) (I.ok.hd hc) _ a hlI (bs.map Value.bool).toArray, st, truth_bools bs, fun h' tk hk => ?_⟩
  refine ⟨.bl (bs.all id), H, I.kept (old_kept hk), ?_, q⟩
  show _ = _
  rw [← all_range bs]
  simp
theorem call_any {X : Cx} (hc : X.calm = true) : CallR X (.builtin "any") (rBools X.K fun bs => bs.any id) := by
  intro pins s σ H xs us Q I r h
  obtain ⟨a, bs, rfl, hq, q⟩ := h
  obtain ⟨u, rfl, ru⟩ := Vals.one r
  cases ru
  obtain ⟨its, rv, pl, hz⟩ := I.list hq
  rw [vals_bools rv] at pl
  refine call_any_walk (iter_list pl.isList fun s₂ e st hlI => ?_)
  subst e
  refine ⟨_, _, _, _, _, _, _, rfl, Walks.list (A := X.A.in1) (I.ok.hd hc) _ a hlI (bs.map Value.bool).toArray, st, truth_bools bs, fun h' tk hk => ?_⟩
  refine ⟨.bl (bs.any id), H, I.kept (old_kept hk), ?_, q⟩
  show _ = _
  rw [← any_range bs]
  simp
/-! ### list(..), int(..), str(..) -/
def fList : List D → Option (List D)
  | [.list ds] => some ds
  | [.tuple ds] => some ds
  | _ => none
def rList (K : Fg) : List V → Hp → VK → Prop := fun xs H Q => ∃ p ys, xs = [.ref p] ∧ (SqL K H p ys ∨ SqT K H p ys) ∧ ∀ l, H l = none → Q (.ref l) (upd H l (.lst ys))
theorem ok_list {K : Fg} : CallL K (rList K) fList := by
  intro G F σ H ρ xs ds res Q S o e k
  unfold fList at e
  split at e
  · cases e
    obtain ⟨v, r, rfl, ho, hr⟩ := ors_cons o
    obtain rfl := ors_nil hr
    obtain ⟨a, vs, rfl, h1, h2⟩ := ho.list S.fh
    refine ⟨a, vs, rfl, .inl h1, fun l hl => ?_⟩
    obtain ⟨S2, r2⟩ := S.newLst hl h2
    exact k _ F _ (Same.refl _) S2 r2
  · cases e
    obtain ⟨v, r, rfl, ho, hr⟩ := ors_cons o
    obtain rfl := ors_nil hr
    obtain ⟨a, vs, rfl, h1, h2⟩ := ho.tuple S.fh
    refine ⟨a, vs, rfl, .inr h1, fun l hl => ?_⟩
    obtain ⟨S2, r2⟩ := S.newLst hl h2
    exact k _ F _ (Same.refl _) S2 r2
  · cases e
def fInt : List D → Option D
  | [.int i] => some (.int i)
  | [.bool b] => some (.int (if b then 1 else 0))
  | _ => none
theorem ok_int {K : Fg} : CallD K (fun xs H Q => (∃ i, xs = [.int i] ∧ Q (.int i) H) ∨ ∃ k, xs = [.bl k] ∧ Q (.int (if k then 1 else 0)) H) fInt := by
  intro G F σ H ρ xs ds res Q S o e k
  unfold fInt at e
  split at e
  · cases e
    obtain ⟨v, r, rfl, ho, hr⟩ := ors_cons o
    obtain rfl := ors_nil hr
    exact .inl ⟨_, by rw [ho.int], k _ F H (Same.refl _) S (.int _)⟩
  · cases e
    obtain ⟨v, r, rfl, ho, hr⟩ := ors_cons o
    obtain rfl := ors_nil hr
    exact .inr ⟨_, by rw [ho.bool], k _ F H (Same.refl _) S (.int _)⟩
  · cases e
def fStr : List D → Option D
  | [.int i] => if i.natAbs.log2 < 1920 then some (.str (toString i)) else none
  | _ => none
theorem ok_str {K : Fg} : CallD K (fun xs H Q => ∃ i, xs = [.int i] ∧ i.natAbs.log2 < 1920 ∧ Q (.str (toString i)) H) fStr := by
  intro G F σ H ρ xs ds res Q S o e k
  unfold fStr at e
  split at e
  · split at e
    · rename_i hz
      cases e
      obtain ⟨v, r, rfl, ho, hr⟩ := ors_cons o
      obtain rfl := ors_nil hr
      exact ⟨_, by rw [ho.int], hz, k _ F H (Same.refl _) S (.str _)⟩
    · cases e
  · cases e

/-! ### names of the module -/
theorem ap_glob {X : Cx} {x : Str} {v : V} {u : Value} {d : D} {pos : Pos} (hg : Gl X x) (hm : X.mg x = some u) (r : RelV v u) (rp : ∀ F, Rep X.K F v d) (hd : (x == ("__debug__" : Str)) = false) : AP X (.Name x pos) (pCon d) :=
  ap_con (pe_glob hg hm r hd) rp
end L4

set_option Elab.async false
set_option linter.all false
set_option maxRecDepth 100000
namespace L4
open PySem PySem.Spec PyProof.Rows L2 L3
section
variable {S : Type}
def putD (ds : List D) (j d : D) : Option (List D) := match j with
  | .int k => (ixN ds.length k).map fun q => ds.set q d
  | _ => none
def sPut (i : Nat) (mi me : Ev S D) : SM S := fun K ρ => me K.x (fun d ρ1 => match ownL ρ1 i with
  | some _ => mi K.x (fun j ρ2 => match ownL ρ2 i with
    | some ds => (oM (putD ds j d)).on (fun e => K.x e ρ2) (fun ds' => K.nx (setO ρ2 i ds'))
    | none => .bad) ρ1
  | none => .bad) ρ
/-- x op= e, ints -/
def sAug (i : Nat) (f : D → D → Option D) (me : Ev S D) : SM S := fun K ρ => match ρ[i]? with
  | some (some (.fz x)) => me K.x (fun d ρ1 => (oM (f x d)).on (fun e => K.x e ρ1) (fun r => match okSet ρ1 i with
    | true => K.nx (ρ1.set i (some (.fz r)))
    | false => .bad)) ρ
  | _ => .bad
/-- xs[j] op= e -/
def sAugS (i : Nat) (f : D → D → Option D) (mj me : Ev S D) : SM S := fun K ρ => match ownL ρ i with
  | some _ => mj K.x (fun j ρ1 => match ownL ρ1 i with
    | some ds => (oM (opIx (.list ds) j)).on (fun e => K.x e ρ1) (fun x => me K.x (fun d ρ2 => (oM (f x d)).on (fun e => K.x e ρ2) (fun r => match ownL ρ2 i with
      | some ds2 => (oM (putD ds2 j r)).on (fun e => K.x e ρ2) (fun ds' => K.nx (setO ρ2 i ds'))
      | none => .bad)) ρ1)
    | none => .bad) ρ
  | none => .bad
def ipD (f : D → D → Option D) (K : Fg) (t : TIp) : Prop := ∀ (x y : V) (dx dy r : D) (F H : Hp) (Q : VK), Rep K F x dx → Rep K F y dy → f dx dy = some r → (∀ v, Rep K F v r → Q v H) → t x y H Q
def opAddI : D → D → Option D
  | .int i, .int j => some (.int (i + j))
  | _, _ => none
theorem ipd_add {K : Fg} : ipD opAddI K (ipI fun i j => i + j) := fun x y dx dy r F H Q r1 r2 e k => by
  cases dx <;> cases dy <;> cases e
  cases r1; cases r2
  exact ⟨_, _, rfl, rfl, k _ (.int _)⟩
theorem ipd_sub {K : Fg} : ipD opSub K (ipI fun i j => i - j) := fun x y dx dy r F H Q r1 r2 e k => by
  cases dx <;> cases dy <;> cases e
  cases r1; cases r2
  exact ⟨_, _, rfl, rfl, k _ (.int _)⟩
variable {X : Cx} {a b e : Expr} {mi me : Ev S D} {pos pos' tpos apos cpos : Pos} {ml : Ev S (List D)}
theorem as_put {i : Nat} {x : Str} (hN : X.N[i]? = some x) (hv : Vis X.env.scope x) (hi : AE X b mi) (he : AE X e me) (ha : ∀ v, assign (.Subscript (.Name x pos') b tpos) X.env v = (do
      let ov ← holding [v] (eval (.Name x pos') X.env)
      let iv ← holding [v, ov] (eval b X.env)
      standAt tpos
      holding [v, ov, iv] (setItem ov iv v)
      release [v, ov, iv] []))
    (hs : swapsWithSole [.Subscript (.Name x pos') b tpos] e pos.line X.env = pure false) (hw : swappedStores [.Subscript (.Name x pos') b tpos] e X.env = pure none)
    (h1 : (assignEach [.Subscript (.Name x pos') b tpos] X.env).map (·.2) = [assign (.Subscript (.Name x pos') b tpos) X.env])
    (hd : (x == ("__debug__" : Str)) = false := by decide) (hcd : (x == ("__classdict__" : Str)) = false := by decide) : AS X (.Assign [.Subscript (.Name x pos') b tpos] e pos) (sPut i mi me) := fun OK K G F σ H ρ E hO hX St ok eo =>
  semS (ps_asg pe_sem (pg_sub (pe_var hN hv hd hcd) pe_sem set_list ha) hs hw h1) (he OK K.x _ G F σ H ρ _ hO hX St ok fun d v F1 H1 ρ1 s1 S1 r1 o1 => by
    split at o1
    case h_2 => exact (hO o1).elim
    rename_i ds0 hd0
    obtain ⟨a, vs0, ea, _, _⟩ := own_ref S1 hd0
    refine ⟨_, ea, hi OK K.x _ G F1 σ H1 ρ1 _ hO hX S1 o1 fun j u F2 H2 ρ2 s2 S2 r2 o2 => ?_⟩
    split at o2
    case h_2 => exact (hO o2).elim
    rename_i ds hds
    obtain ⟨ds', hp, o3⟩ := opt_ok hO o2
    obtain ⟨a', vs, ea', hh, rv⟩ := own_ref S2 hds
    rw [ea] at ea'
    injection ea' with ea'; injection ea' with ea'; injection ea' with ea'
    subst ea'
    unfold putD at hp
    split at hp
    · rename_i k
      obtain ⟨q, hq, rfl⟩ := Option.map_eq_some_iff.mp hp
      cases r2
      refine ⟨a, vs, k, q, rfl, rfl, hh, by rw [rv.length]; exact hq, ?_⟩
      exact eo.nx F2 σ _ _ (s1.trans s2) (own_set S2 hds ea (RepL.set (r1.mono s2) q rv)) o3
    · cases hp)
theorem as_aug {i : Nat} {x : Str} {op : Operator} {t : TIp} {f : D → D → Option D} (hN : X.N.Nodup) (hi : X.N[i]? = some x) (hx : Loc X.env.scope x) (ho : PIp X op t) (hf : ipD f X.K t) (he : AE X e me) (hfn : X.fn x = true ∨ X.env.scope.names.lookup x = some .local) :
    AS X (.AugAssign (.Name x pos') op e pos) (sAug i f me) := fun OK K G F σ H ρ E hO hX St ok eo =>
  semS (ps_aug hN hi hx pe_sem ho hfn) (by
    unfold sAug at ok
    split at ok
    case h_2 => exact (hO ok).elim
    rename_i dx hdx
    obtain ⟨v, ev, rv⟩ := St.fz i dx hdx
    refine ⟨v, ev, he OK K.x _ G F σ H ρ _ hO hX St ok fun d u F1 H1 ρ1 s1 S1 r1 o1 => ?_⟩
    obtain ⟨r, er, o2⟩ := opt_ok hO o1
    refine hf v u dx d r F1 H1 _ (rv.mono s1) r1 er fun z rz => ?_
    split at o2
    · rename_i hok
      obtain ⟨hl, hop⟩ := okSet_of hok
      exact eo.nx F1 _ H1 _ s1 (S1.store hop hl (.inl ⟨r, rfl, rz⟩)) o2
    · exact (hO o2).elim)
def gIxL : V → V → Hp → VK → Prop := fun x y H Q => ∃ p xs i v, x = .ref p ∧ y = .int i ∧ H p = some (.lst xs) ∧ atI xs i = some v ∧ Q v H
end
end L4

set_option Elab.async false
set_option linter.all false
set_option maxRecDepth 100000
namespace L4
open PySem PySem.Spec PyProof.Rows L2 L3
def kindB (k : NameKind) : Option NameKind → Bool
  | some k' => k == k'
  | none => false
def compChk (N N' : List Str) (k : Nat) (scope sc : Scope) : Bool :=
  (scope.kind == .function) && (N'.length == N.length + k) && scope.names.all (fun y => y.2 != .cell) && scope.names.all (fun y => y.2 != .local || kindB .local (scope.names.lookup y.1))
    && ((List.range N.length).all fun i => match N'[i]? with
      | some x => !(kindB .free (scope.names.lookup x) || kindB .local (scope.names.lookup x) || kindB .cell (scope.names.lookup x)) || (N[i]? == some x && kindB .free (scope.names.lookup x))
      | none => true)
    && scope.names.all (fun y => y.2 != .free || kindB .cell (sc.names.lookup y.1) || kindB .free (sc.names.lookup y.1))
theorem kindB_of {k : NameKind} {o : Option NameKind} (h : kindB k o = true) : o = some k := by
  cases o with
  | none => cases h
  | some k' => simp [kindB] at h; rw [h]
theorem kindB_to {k : NameKind} {o : Option NameKind} (h : o = some k) : kindB k o = true := by subst h; simp [kindB]
theorem compOk_of {X : Cx} {N N' : List Str} {k : Nat} {scope sc : Scope} (h : compChk N N' k scope sc = true) (hN : X.N = N) (hs : X.env.scope = sc) : CompOk X N' k scope := by
  subst hN hs
  simp only [compChk, Bool.and_eq_true, List.all_eq_true, beq_iff_eq, Bool.or_eq_true, bne_iff_ne, ne_eq] at h
  obtain ⟨⟨⟨⟨⟨h1, h2⟩, h3⟩, h4⟩, h5⟩, h6⟩ := h
  refine ⟨h1, h2, fun y hy => h3 y hy, fun y hy hl => ?_, fun i x hi hx _ hk => ?_, fun y hy hf => ?_⟩
  · rcases h4 y hy with z | z
    · exact absurd hl z
    · exact kindB_of z
  · have := h5 i (List.mem_range.mpr hi)
    rw [hx] at this
    simp only [Bool.or_eq_true, Bool.not_eq_true', Bool.and_eq_true, beq_iff_eq] at this
    rcases this with z | ⟨z1, z2⟩
    · exfalso
      rcases hk with hk | hk | hk <;> simp [kindB_to hk] at z
    · exact ⟨z1, kindB_of z2⟩
  · rcases h6 y hy with (z | z) | z
    · exact absurd hf z
    · exact .inl (kindB_of z)
    · exact .inr (kindB_of z)
section
variable {S : Type} {X : Cx} {a b e : Expr} {ms : Ev S (List D)} {pos : Pos}
def sNever : SM S := fun _ _ => .bad
theorem ass_never {sts : List Stmt} : ASs (S := S) X sts sNever := fun OK K G F σ H ρ E hO hX St ok eo => (hO ok).elim
/-- x, y = (a, b), both plain locals -/
def sPar (i j : Nat) (ms : Ev S (List D)) : SM S := fun K ρ => ms K.x (fun ds ρ1 => match ds with
  | [u, v] => (match okSet ρ1 i && okSet (ρ1.set i (some (.fz u))) j with
    | true => K.nx ((ρ1.set i (some (.fz u))).set j (some (.fz v)))
    | false => .bad)
  | _ => .bad) ρ
theorem as_par {i j : Nat} {x y : Str} {px py pt : Pos} {kt k2 pt2} (hc : X.calm = true) (hN : X.N.Nodup) (hi : X.N[i]? = some x) (hj : X.N[j]? = some y) (hij : i ≠ j)
    (hx : X.env.scope.names.lookup x = some .local) (hy : X.env.scope.names.lookup y = some .local) (ha : AEa X [a, b] ms)
    (hw : swappedStores [.Tuple [.Name x px, .Name y py] kt pt] (.Tuple [a, b] k2 pt2) X.env = pure (some [x, y]))
    (hs : swapsWithSole [.Tuple [.Name x px, .Name y py] kt pt] (.Tuple [a, b] k2 pt2) pos.line X.env = pure false) :
    AS X (.Assign [.Tuple [.Name x px, .Name y py] kt pt] (.Tuple [a, b] k2 pt2) pos) (sPar i j ms) := fun OK K G F σ H ρ E hO hX St ok eo =>
  semS (ps_par hc hN hi hj hij hx hy pa_sem hw hs) (ha OK K.x _ G F σ H ρ _ hO hX St ok fun ds vs F1 H1 ρ1 s1 S1 hl r1 o1 => by
    split at o1
    · split at o1
      · rename_i _ u v _ hok
        rw [Bool.and_eq_true] at hok
        obtain ⟨h1, h2⟩ := okSet_of hok.1
        obtain ⟨h3, h4⟩ := okSet_of hok.2
        cases r1 with
        | cons ra rb =>
          cases rb with
          | cons rb rc =>
            cases rc
            refine ⟨_, _, rfl, eo.nx F1 _ H1 _ s1 ?_ o1⟩
            exact (S1.store h2 h1 (.inl ⟨u, rfl, ra⟩)).store h4 h3 (.inl ⟨v, rfl, rb⟩)
      · exact (hO o1).elim
    · exact (hO o1).elim)
end
/-- the law's own start -/
theorem law_start {K : Fg} {H : Hp} {a : Addr} {ns : List Int} {mf : List D → M D} (hS : SqL K H a (ns.map V.int)) (h : mf [.list (ns.map PyData.int)] = .ret (.bool true)) : spD K 1 mf [.ref a] H (fun v _ => v = .bl true) fun _ _ _ => False := by
  refine ⟨⟨fun _ => none, fun _ => none⟩, H, [.list (ns.map PyData.int)], .bool true, rfl, ⟨Same.refl _, fun b o z => (nomatch z), fun b o z => (nomatch z), rfl, fun i d z => ?_, fun i c z => (no_own (ds := [.list (ns.map PyData.int)]) z).elim, fun i j c e a z => (no_own (ds := [.list (ns.map PyData.int)]) z).elim, fun i a z => (nomatch z), fun i c z => ?_⟩, h, fun v F' H' s S' r => ?_⟩
  · obtain ⟨d', e, q⟩ := fz_get (ds := [.list (ns.map PyData.int)]) z
    cases e
    cases i with
    | zero => simp at q; subst q; exact ⟨_, rfl, .lst hS (RepL.ints ns)⟩
    | succ i => simp at q
  · obtain ⟨d', e, q⟩ := fz_get (ds := [.list (ns.map PyData.int)]) z
    cases e
  · cases r
    rfl
end L4

set_option Elab.async false
set_option linter.all false
set_option maxRecDepth 100000
namespace HT
open PySem PySem.Spec PyProof.Rows
section
variable {prog : Program} {w : World} {A : Around} {E : Value → Shared → Prop} {s : Shared}
theorem adjust_rev (n : Nat) : Builtin.Slice.sliceAdjust none none (-1) (n : Int) = ((n : Int) - 1, -1) := by
  unfold Builtin.Slice.sliceAdjust
  simp
theorem places_rev (n : Nat) : Builtin.Slice.slicePlaces ((n : Int) - 1) (-1) (-1) = n := by
  unfold Builtin.Slice.slicePlaces
  simp only [show ¬ ((-1 : Int) > 0) by decide, if_false, Int.neg_neg, Int.ediv_one]
  split <;> omega
theorem pick_rev (xs : Array Value) : ((List.range xs.size).filterMap fun (m : Nat) => xs[(((xs.size : Nat) : Int) - 1 + (m : Int) * (-1)).toNat]?).toArray = xs.toList.reverse.toArray := by
  congr 1
  apply List.ext_getElem?
  intro i
  have h : ∀ m, m < xs.size → xs[(((xs.size : Nat) : Int) - 1 + (m : Int) * (-1)).toNat]? = some (xs.toList.reverse.getD m .none) := fun m hm => by
    have e : (((xs.size : Nat) : Int) - 1 + (m : Int) * (-1)).toNat = xs.size - 1 - m := by omega
    rw [e, Array.getElem?_eq_getElem (by omega), List.getD_eq_getElem?_getD, List.getElem?_reverse (by simpa using hm)]
    simp [show xs.size - 1 - m < xs.size by omega]
  have e2 : (List.range xs.size).filterMap (fun (m : Nat) => xs[(((xs.size : Nat) : Int) - 1 + (m : Int) * (-1)).toNat]?) = (List.range xs.size).map fun m => xs.toList.reverse.getD m .none := by
    have : ∀ l : List Nat, (∀ m ∈ l, m < xs.size) → l.filterMap (fun (m : Nat) => xs[(((xs.size : Nat) : Int) - 1 + (m : Int) * (-1)).toNat]?) = l.map fun m => xs.toList.reverse.getD m .none := by
      intro l
      induction l with
      | nil => intro _; rfl
      | cons a r ih =>
        intro hl
        rw [List.filterMap_cons, h a (hl a List.mem_cons_self), List.map_cons]
        simp only
        rw [ih fun m hm => hl m (List.mem_cons_of_mem _ hm)]
    exact this _ fun m hm => List.mem_range.mp hm
  rw [e2, List.getElem?_map]
  by_cases hi : i < xs.size
  · rw [List.getElem?_range hi]
    simp only [Option.map_some, List.getD_eq_getElem?_getD]
    rw [List.getElem?_eq_getElem (by simpa using hi)]
    rfl
  · rw [List.getElem?_eq_none_iff.mpr (by simp; omega), List.getElem?_eq_none_iff.mpr (by simp; omega)]
    rfl
theorem getItem_tuple_rev {t sl : Addr} {items : Array Value} {tk : Tok} {Q : Value → Shared → Prop} (ht : IsTup s.heap t items) (hs : s.heap.IsSliceOf sl .none .none (.int (-1) tk))
    (h : Q (.ref s.heap.objs.size) { s with heap := s.heap.push { cls := .type "tuple", data := .seq items.toList.reverse.toArray } })
    (hsz : items.size ≤ sizeLine) : wpAny (model prog w) A (getItem (.ref t) (.ref sl)) Q E s := by
  have htake : sizeOk (.seq items.toList.reverse.toArray) := by
    show items.toList.reverse.toArray.size ≤ sizeLine
    simpa using hsz
  obtain ⟨os, hos, hcs, hds⟩ := id hs
  have hTs : s.TypeIs (.ref sl) "slice" := ⟨os, hos, hcs⟩
  unfold getItem
  try with_reducible refine wpAny_holding ?_
  first | refine wpAny_bind (wpAny_pure ?_) | skip
  refine wpAny_bind (wpAny_sequenceKey ht.typeIs (by decide) ?_)
  refine wpAny_bind (wpAny_callSpecial?_slot (name := Str.ofString "__getitem__") ht.typeIs PyProof.Rows.slot_tuple_getitem
    (wpAny_call_entry PyProof.Rows.slot_tuple_getitem ht.typeIs entry_tuple_getitem ?_ (args_tuple_getitem _ _)))
  show wpAny _ _ (Builtin.Tuple.tupleItemsOf (.ref t) >>= _) _ _ s
  refine wpAny_bind (tupleItemsOf_ ht ?_)
  refine wpAny_bind (wpAny_typeOf hTs ?_)
  rw [if_pos (by decide)]
  have happ : ∀ {Q' : Int × Int × Nat → Shared → Prop}, Q' ((items.size : Int) - 1, -1, items.size) s → wpAny (model prog w) A.in1 (Builtin.Slice.sliceApplied (.ref sl) (pure (items.size : Int))) Q' E s := fun {Q'} q => by
    unfold Builtin.Slice.sliceApplied Builtin.Slice.sliceFields
    refine wpAny_bind (wpAny_bind (wpAny_field hos hds (x := .none) rfl (wpAny_bind (wpAny_field hos hds (x := .none) rfl (wpAny_bind (wpAny_field hos hds (x := .int (-1) tk) rfl (wpAny_pure ?_)))))))
    refine wpAny_bind (slicePart_int ?_)
    show wpAny _ _ (if ((-1 : Int) == 0) = true then _ else _) _ _ s
    rw [if_neg (by decide)]
    refine wpAny_bind (slicePart_none (wpAny_bind (slicePart_none (wpAny_bind (wpAny_pure ?_)))))
    show wpAny _ _ (match Builtin.Slice.sliceAdjust none none (-1) (items.size : Int) with | (lo, hi) => pure (lo, (-1 : Int), Builtin.Slice.slicePlaces lo hi (-1))) _ _ s
    rw [adjust_rev]
    show wpAny _ _ (pure ((items.size : Int) - 1, (-1 : Int), Builtin.Slice.slicePlaces ((items.size : Int) - 1) (-1) (-1))) _ _ s
    rw [places_rev]
    exact wpAny_pure q
  refine wpAny_bind (happ ?_)
  have hno : ¬ (((items.size : Int) - 1 == 0 && (-1 : Int) == 1 && items.size == items.size) = true) := by
    simp
  show wpAny _ _ (if ((items.size : Int) - 1 == 0 && (-1 : Int) == 1 && items.size == items.size) = true then _ else _) _ _ s
  rw [if_neg hno, pick_rev]
  first
    | exact wpAny_bind (m := Builtin.Tuple.tupleExact _) (wpAny_newObj_type (wpAny_pure ⟨_, rfl, wpAny_pure h⟩) htake)
    | exact wpAny_bind (m := Builtin.Tuple.tupleExact _) (wpAny_newObj_type (wpAny_bind (wpAny_pure (wpAny_pure ⟨_, rfl, wpAny_pure h⟩))) htake)
    | exact wpAny_bind (wpAny_bind (m := Builtin.Tuple.tupleExact _) (wpAny_newObj_type (wpAny_pure (wpAny_pure ⟨_, rfl, wpAny_pure h⟩)) htake))
    | exact wpAny_bind (wpAny_bind (m := Builtin.Tuple.tupleExact _) (wpAny_newObj_type (wpAny_pure ⟨_, rfl, wpAny_pure h⟩) htake))
end
end HT
namespace L4
open PySem PySem.Spec PyProof.Rows L2 L3
def fRev : D → Option D
  | .tuple ds => some (.tuple ds.reverse)
  | _ => none
def pRev (p : Pu D) : Pu D := fun ρ => bd (p ρ) fun d => oM (fRev d)
section
variable {X : Cx} {e st : Expr} {p : Pu D} {pos p2 : Pos}
/-- t[::-1] -/
theorem ap_rev (he : AO X e p) (hst : PE X st (tUn (rU fun i => .int (-i)) (tC (.int 1)))) : AP X (.Subscript e (.Slice none none (some st) p2) pos) (pRev p) := fun G F σ H ρ Q S w => by
  unfold tSem
  intro pins s I
  refine Subscript_ (thn (pe_sem pins s σ H _ I (he G F σ H ρ _ S (w.bind.imp fun d F1 H1 s1 S1 w1 v hv => (show (fun v H' => ∃ F1 d, StOk X.K G F1 σ H' ρ ∧ VO X.K F1 σ ρ v d ∧ W X G F1 σ ρ (oM (fRev d)) fun d F' H' => ∀ v, Rep X.K F' v d → Q v H') v H1 from ⟨F1, d, S1, hv, w1⟩)))) fun v s1 ⟨x, H1, I1, r1, F1, d, S1, hv, w1⟩ => ?_)
  obtain ⟨res, hr, k⟩ := w1.opt
  cases d <;> try (cases hr)
  rename_i ds
  obtain ⟨a, vs, rfl, h1, h2⟩ := (hv.or S1).tuple S1.fh
  cases r1
  refine wpAny_Slice ?_
  rw [evalPart_none]
  refine wpAny_pure ?_
  refine wpAny_pure ?_
  rw [evalPart_some]
  refine thn (hst pins s1 σ H1 (fun x H' => x = .int (-1) ∧ H' = H1) I1 ⟨1, rfl, rfl, rfl⟩) fun u s2 ⟨y, H2, I2, r2, e2, e3⟩ => ?_
  subst e2 e3
  obtain ⟨tk, rfl⟩ := r2
  obtain ⟨its, rv, ht, hz⟩ := I2.tuple h1
  have I4 : Inv X pins σ H2 { s2 with heap := s2.heap.push { cls := .type "slice", data := .fields #[.none, .none, .int (-1) tk] } } := I2.kept (t' := s2.toks) fun b ob q => Heap.get?_push_of_some _ q
  obtain ⟨its4, rv4, ht4, hz4⟩ := I4.tuple h1
  have hsl : ({ s2 with heap := s2.heap.push { cls := .type "slice", data := .fields #[.none, .none, .int (-1) tk] } } : Shared).heap.IsSliceOf s2.heap.objs.size .none .none (.int (-1) tk) := ⟨_, Heap.get?_push_size _ rfl, rfl, rfl⟩
  have hg : wpAny (model X.prog X.w) X.A (getItem (.ref a) (.ref s2.heap.objs.size)) (EP X pins σ Q) X.xe { s2 with heap := s2.heap.push { cls := .type "slice", data := .fields #[.none, .none, .int (-1) tk] } } := by
    refine HT.getItem_tuple_rev ht4 hsl ?_ (by rw [List.size_toArray, ← rv4.length]; exact hz4)
    have hp : H2 (s2.heap.push { cls := .type "slice", data := .fields #[.none, .none, .int (-1) tk] }).objs.size = none := I4.hok.fresh (Nat.le_refl _)
    obtain ⟨s4, S4, r4⟩ := S1.newTup hp h2.reverse
    refine ⟨.ref _, _, I4.laid (t' := s2.toks) (o := .tup vs.reverse) (fun b ob q => Heap.get?_push_of_some _ q) (Nat.le_refl _) ?_, rfl, k _ _ s4 S4 _ r4⟩
    refine ⟨by rw [List.length_reverse]; exact hz4, its4.reverse, ?_, ?_⟩
    · have : ∀ {xs : List V} {us : List Value}, Vals xs us → Vals xs.reverse us.reverse := fun {xs us} r => by
        induction r with
        | nil => exact .nil
        | cons a b ih => rw [List.reverse_cons, List.reverse_cons]; exact ih.append (.cons a .nil)
      exact this rv4
    · exact IsTup.new _ _
  show wpAny (model X.prog X.w) X.A (subscriptTail e (.Slice none none (some st) p2) (.ref a) (.ref s2.heap.objs.size)) (EP X pins σ Q) X.xe { s2 with heap := s2.heap.push { cls := .type "slice", data := .fields #[.none, .none, .int (-1) tk] } }
  exact tail_any (ops := [.ref a, .ref s2.heap.objs.size]) ht4.typeIs PyProof.Rows.slot_tuple_getitem.lookup hg (by with_unfolding_all rfl)
end
end L4

set_option Elab.async false
set_option linter.all false
set_option maxRecDepth 100000
namespace L4
open PySem PySem.Spec PyProof.Rows L2 L3

/-! ### not x, of any thing -/
section
variable {X : Cx} {a : Expr} {pa : Pu D} {pos : Pos} {ta : TE}
theorem pe_notT (ha : PE X a ta) : PE X (.UnaryOp .Not a pos) (fun σ H Q => ta σ H fun x H' => ∃ k, TruV X.K x H' k ∧ Q (.bl (!k)) H') := by
  intro pins s σ H Q I h
  refine UnaryOp_ (thn (ha pins s σ H _ I h) fun v s1 ⟨x, H1, I1, r1, q1⟩ => ?_)
  obtain ⟨k, q1, q2⟩ := q1
  exact not_of (thn (tru_ok pins s1 σ H1 x v (fun c H' => Q (.bl (!c)) H') I1 r1 ⟨k, q1, q2⟩) fun c s2 ⟨H2, I2, q⟩ => ⟨.bl (!c), H2, I2, rfl, q⟩)
theorem ab_notO (ha : AO X a pa) : AB X (.UnaryOp .Not a pos) (pNot (pTru pa)) :=
  fun G F σ H ρ Q S w => sem (pe_notT pe_sem) (ha G F σ H ρ _ S (w.bind.bind.imp fun x F1 H1 s1 S1 w1 v hv => by
    obtain ⟨bb, hb, k⟩ := w1.opt
    refine ⟨bb, ?_, k F1 H1 (Same.refl _) S1 F1 H1 (Same.refl _) S1⟩
    have o := hv.or S1
    cases x with
    | none => rw [o.none]; cases hb; exact rfl
    | bool i => rw [o.bool]; cases hb; exact rfl
    | int i => rw [o.int]; cases hb; exact rfl
    | str i =>
      rw [o.str]
      unfold truD at hb
      dsimp only at hb
      split at hb
      · rename_i hl; cases hb; exact ⟨hl, rfl⟩
      · cases hb
    | list ds => obtain ⟨a, vs, rfl, h1, h2⟩ := o.list S1.fh; cases hb; exact .inl ⟨vs, h1, (isEmpty_repL h2).symm⟩
    | tuple ds => obtain ⟨a, vs, rfl, h1, h2⟩ := o.tuple S1.fh; cases hb; exact .inr (.inl ⟨vs, h1, (isEmpty_repL h2).symm⟩)
    | dict ds => cases hb))
end
def isStar : Expr → Bool
  | .Starred _ _ => true
  | _ => false
theorem star_ok {env : Env} : ∀ {e : Expr} {es : List Expr}, isStar e = false → starEach (e :: es) env = (false, eval e env) :: starEach es env := by
  intro e es h
  cases e <;> first | rfl | cases h
end L4

set_option Elab.async false
set_option linter.all false
set_option maxRecDepth 100000
namespace L4
open PySem PySem.Spec PyProof.Rows L2 L3

/-! ### loops whose turns a check by unfolding doesn't take -/
noncomputable def forS {S T : Type} : (T → D → (T → M S) → M S) → List D → T → (T → M S) → M S := Classical.choose (⟨@forC S T, rfl⟩ : ∃ f, f = @forC S T)
theorem forS_is {S T : Type} : @forS S T = @forC S T := Classical.choose_spec (⟨@forC S T, rfl⟩ : ∃ f, f = @forC S T)
noncomputable def whileS {S T : Type} : (T → (T → M S) → M S) → Nat → T → M S := Classical.choose (⟨@whileC S T, rfl⟩ : ∃ f, f = @whileC S T)
theorem whileS_is {S T : Type} : @whileS S T = @whileC S T := Classical.choose_spec (⟨@whileC S T, rfl⟩ : ∃ f, f = @whileC S T)
section
variable {S : Type}
noncomputable def sForS (sh : List Kd) (it : Ev S (List D)) (t : Tg S) (mb : SM S) : SM S := fun K ρ => it K.x (fun ds ρ1 => rdk sh (fun s => forS (fun s d kn => t d (fun ρ2 => mb (loopK sh K kn) ρ2) (wr sh s)) ds s (fun s' => K.nx (wr sh s'))) ρ1) ρ
noncomputable def sWhileS (sh : List Kd) (fuel : Nat) (c : Ev S Bool) (mb : SM S) : SM S := fun K ρ => rdk sh (fun s => whileS (fun s kn => c K.x (fun b ρ2 => if b then mb (loopK sh K kn) ρ2 else rdk sh (fun s' => K.nx (wr sh s')) ρ2) (wr sh s)) fuel s) ρ
theorem sForS_is (sh : List Kd) (it : Ev S (List D)) (t : Tg S) (mb : SM S) : sForS sh it t mb = sFor sh it t mb := by
  unfold sForS sFor
  rw [forS_is]
theorem sWhileS_is (sh : List Kd) (fuel : Nat) (c : Ev S Bool) (mb : SM S) : sWhileS sh fuel c mb = sWhile sh fuel c mb := by
  unfold sWhileS sWhile
  rw [whileS_is]
variable {X : Cx} {mb : SM S} {c : Expr} {mt : Ev S Bool} {ml : Ev S (List D)} {pos : Pos}
theorem as_forS {tg iter : Expr} {body : List Stmt} {sh : List Kd} {t : Tg S} (hp : PassesOwn (model X.prog X.w) X.A X.env X.xe) (hc : X.calm = true) (hi : AEi X tg iter ml) (hg : AG X 0 tg t) (hb : ASs X body mb)
    (hs : ∀ x, foldedSetIterable iter X.env x = pure x) : AS X (.For tg iter body [] pos) (sForS sh ml t mb) := by
  rw [sForS_is]
  exact as_for hp hc hi hg hb hs
theorem as_whileS {body : List Stmt} {sh : List Kd} {fuel : Nat} (hp : PassesOwn (model X.prog X.w) X.A X.env X.xe) (hc : AEt X c mt) (hb : ASs X body mb) : AS X (.While c body [] pos) (sWhileS sh fuel mt mb) := by
  rw [sWhileS_is]
  exact as_while hp hc hb
end
end L4

set_option Elab.async false
set_option linter.all false
set_option maxRecDepth 100000
set_option maxHeartbeats 8000000
namespace K60
open PySem PySem.Spec PyProof.Rows L2 L3 L4
noncomputable section
def top (i : Nat) : Stmt := PySem.Challenge.pw_passersby_k60_forms_and_facts_of_any_thi.main.body.getD i (.Pass ⟨0, 0, 0, 0⟩)
structure BN (mg : Str → Option Value) : Prop where
  range : mg "range" = none
  len : mg "len" = none
  tuple : mg "tuple" = none
  list : mg "list" = none
  max : mg "max" = none
  min : mg "min" = none
  sum : mg "sum" = none
  abs : mg "abs" = none
  repr : mg "repr" = none
  enumerate : mg "enumerate" = none
  isinstance : mg "isinstance" = none
  all : mg "all" = none
  any : mg "any" = none
  int : mg "int" = none
  str : mg "str" = none
  bool : mg "bool" = none
  zip : mg "zip" = none
  sorted : mg "sorted" = none
  set : mg "set" = none
  dict : mg "dict" = none
  reversed : mg "reversed" = none
structure KN (mg : Str → Option Value) : Prop where
  GREATEST : ∃ u, mg "GREATEST" = some u ∧ RelV (.int 1000000000000000) u
  MOST_DIVIDES : ∃ u, mg "MOST_DIVIDES" = some u ∧ RelV (.int 99) u
section
variable {P : Program} {w : World} {K : Fg} {mg : Str → Option Value} {base : Heap}
abbrev s_is_whole : Stmt := top 1
abbrev N_is_whole : List Str := ["thing"]
theorem sc_is_whole : FnScope N_is_whole ["thing"] (defScope s_is_whole) := ⟨rfl, rfl, rfl, by decide +kernel, rfl, by decide +kernel, by decide +kernel⟩
def c_is_whole (p_thing : D) : M D :=
  bd (bd (if (isT "int" p_thing) then .ret (!(isT "bool" p_thing)) else .ret false) fun b1 => .ret (.bool b1)) fun x2 => .ret x2
def mf_is_whole : List D → M D := fun l => match l with
  | [p_thing] => c_is_whole p_thing
  | _ => .bad
set_option maxHeartbeats 4000000 in
theorem fn_is_whole {f : Addr} {fd : FuncData} (Fn : Fun K "is_whole" "is_whole" s_is_whole f fd) (B : BN mg) (Kn : KN mg) : FnOk P w K mg base CX0 1 f fd ["thing"] (spD K 1 mf_is_whole) :=
  fn_okD (k := 0) Fn sc_is_whole (fun cdv A outer s H E hr =>
  (ass_one (as_ret (ae_pu (ap_b (ab_and (ab_is (T := "int") (by decide) rfl B.isinstance rfl B.int (by decide +kernel) (ao (ap_var (i := 0) rfl (by first | exact Or.inl rfl | exact Or.inr (Or.inl rfl) | exact Or.inr (Or.inr rfl)))) rfl rfl rfl) (ab_one (ab_not (ab_is (T := "bool") (by decide) rfl B.isinstance rfl B.bool (by decide +kernel) (ao (ap_var (i := 0) rfl (by first | exact Or.inl rfl | exact Or.inr (Or.inl rfl) | exact Or.inr (Or.inr rfl)))) rfl rfl rfl)))))))))
  (fun ds hl => match ds, hl with | [p_thing], _ => by kernel_rfl)
theorem ok_is_whole {f : Addr} {fd : FuncData} (Fn : Fun K "is_whole" "is_whole" s_is_whole f fd) (hmg : mg "is_whole" = some (.ref f)) (B : BN mg) (Kn : KN mg) : CF P w K mg base "is_whole" 1 (spD K 1 mf_is_whole) :=
  ⟨f, fd, ["thing"], fn_is_whole Fn B Kn, hmg, Fn.kp, (Fn.binds fun _ _ _ _ _ _ us hl => match us, hl with | [_], _ => rfl)⟩
abbrev s_is_within : Stmt := top 2
abbrev N_is_within : List Str := ["thing", "least", "most"]
theorem sc_is_within : FnScope N_is_within ["thing", "least", "most"] (defScope s_is_within) := ⟨rfl, rfl, rfl, by decide +kernel, rfl, by decide +kernel, by decide +kernel⟩
def c_is_within (p_thing : D) (p_least : D) (p_most : D) : M D :=
  bd (bd (bd (bd (c_is_whole p_thing) fun x1 => asB x1) fun b3 => if b3 then bd (oM (opLe p_least p_thing)) fun b2 => if b2 then oM (opLe p_thing p_most) else .ret false else .ret false) fun b4 => .ret (.bool b4)) fun x5 => .ret x5
def mf_is_within : List D → M D := fun l => match l with
  | [p_thing, p_least, p_most] => c_is_within p_thing p_least p_most
  | _ => .bad
set_option maxHeartbeats 4000000 in
theorem fn_is_within {f : Addr} {fd : FuncData} (Fn : Fun K "is_within" "is_within" s_is_within f fd) (B : BN mg) (Kn : KN mg) (C_is_whole : CF P w K mg base "is_whole" 1 (spD K 1 mf_is_whole)) : FnOk P w K mg base CX0 2 f fd ["thing", "least", "most"] (spD K 3 mf_is_within) :=
  fn_okD (k := 1) Fn sc_is_within (fun cdv A outer s H E hr =>
  (ass_one (as_ret (ae_pu (ap_b (ab_and (ab_as (ap_fn C_is_whole (hr.mono (by decide)) rfl (aa_cons (ap_var (i := 0) rfl (by first | exact Or.inl rfl | exact Or.inr (Or.inl rfl) | exact Or.inr (Or.inr rfl))) aa_nil (star_ok rfl)) rfl (by decide) rfl rfl)) (ab_one (ab_chain op_le op_le ok_le ok_le (ao (ap_var (i := 1) rfl (by first | exact Or.inl rfl | exact Or.inr (Or.inl rfl) | exact Or.inr (Or.inr rfl)))) (ao (ap_var (i := 0) rfl (by first | exact Or.inl rfl | exact Or.inr (Or.inl rfl) | exact Or.inr (Or.inr rfl)))) (ao (ap_var (i := 2) rfl (by first | exact Or.inl rfl | exact Or.inr (Or.inl rfl) | exact Or.inr (Or.inr rfl)))) (by with_unfolding_all rfl)))))))))
  (fun ds hl => match ds, hl with | [p_thing, p_least, p_most], _ => by kernel_rfl)
theorem ok_is_within {f : Addr} {fd : FuncData} (Fn : Fun K "is_within" "is_within" s_is_within f fd) (hmg : mg "is_within" = some (.ref f)) (B : BN mg) (Kn : KN mg) (C_is_whole : CF P w K mg base "is_whole" 1 (spD K 1 mf_is_whole)) : CF P w K mg base "is_within" 2 (spD K 3 mf_is_within) :=
  ⟨f, fd, ["thing", "least", "most"], fn_is_within Fn B Kn C_is_whole, hmg, Fn.kp, (Fn.binds fun _ _ _ _ _ _ us hl => match us, hl with | [_, _, _], _ => rfl)⟩
abbrev s_is_tuple_of : Stmt := top 3
abbrev N_is_tuple_of : List Str := ["thing", "many"]
theorem sc_is_tuple_of : FnScope N_is_tuple_of ["thing", "many"] (defScope s_is_tuple_of) := ⟨rfl, rfl, rfl, by decide +kernel, rfl, by decide +kernel, by decide +kernel⟩
def c_is_tuple_of (p_thing : D) (p_many : D) : M D :=
  bd (bd (if (isT "tuple" p_thing) then bd (oM (fLen [p_thing])) fun x1 => oM (opEq x1 p_many) else .ret false) fun b2 => .ret (.bool b2)) fun x3 => .ret x3
def mf_is_tuple_of : List D → M D := fun l => match l with
  | [p_thing, p_many] => c_is_tuple_of p_thing p_many
  | _ => .bad
set_option maxHeartbeats 4000000 in
theorem fn_is_tuple_of {f : Addr} {fd : FuncData} (Fn : Fun K "is_tuple_of" "is_tuple_of" s_is_tuple_of f fd) (B : BN mg) (Kn : KN mg) : FnOk P w K mg base CX0 1 f fd ["thing", "many"] (spD K 2 mf_is_tuple_of) :=
  fn_okD (k := 0) Fn sc_is_tuple_of (fun cdv A outer s H E hr =>
  (ass_one (as_ret (ae_pu (ap_b (ab_and (ab_is (T := "tuple") (by decide) rfl B.isinstance rfl B.tuple (by decide +kernel) (ao (ap_var (i := 0) rfl (by first | exact Or.inl rfl | exact Or.inr (Or.inl rfl) | exact Or.inr (Or.inr rfl)))) rfl rfl rfl) (ab_one (ab_cmp (opr_eq (room_u hr)) ok_D2 (ao (ap_callB call_lenA ok_len rfl B.len PySem.boot_len (aao_cons (ao (ap_var (i := 0) rfl (by first | exact Or.inl rfl | exact Or.inr (Or.inl rfl) | exact Or.inr (Or.inr rfl)))) aao_nil (star_ok rfl)) (by decide) (by decide) rfl rfl)) (ao (ap_var (i := 1) rfl (by first | exact Or.inl rfl | exact Or.inr (Or.inl rfl) | exact Or.inr (Or.inr rfl)))) rfl))))))))
  (fun ds hl => match ds, hl with | [p_thing, p_many], _ => by kernel_rfl)
theorem ok_is_tuple_of {f : Addr} {fd : FuncData} (Fn : Fun K "is_tuple_of" "is_tuple_of" s_is_tuple_of f fd) (hmg : mg "is_tuple_of" = some (.ref f)) (B : BN mg) (Kn : KN mg) : CF P w K mg base "is_tuple_of" 1 (spD K 2 mf_is_tuple_of) :=
  ⟨f, fd, ["thing", "many"], fn_is_tuple_of Fn B Kn, hmg, Fn.kp, (Fn.binds fun _ _ _ _ _ _ us hl => match us, hl with | [_, _], _ => rfl)⟩
abbrev s_is_bounded : Stmt := top 7
abbrev N_is_bounded : List Str := ["thing"]
theorem sc_is_bounded : FnScope N_is_bounded ["thing"] (defScope s_is_bounded) := ⟨rfl, rfl, rfl, by decide +kernel, rfl, by decide +kernel, by decide +kernel⟩
def c_is_bounded (p_thing : D) : M D :=
  bd (bd (oM (opNeg (.int 1000000000000000))) fun x1 => c_is_within p_thing x1 (.int 1000000000000000)) fun x2 => .ret x2
def mf_is_bounded : List D → M D := fun l => match l with
  | [p_thing] => c_is_bounded p_thing
  | _ => .bad
set_option maxHeartbeats 4000000 in
theorem fn_is_bounded {f : Addr} {fd : FuncData} (Fn : Fun K "is_bounded" "is_bounded" s_is_bounded f fd) (B : BN mg) (Kn : KN mg) (C_is_within : CF P w K mg base "is_within" 2 (spD K 3 mf_is_within)) : FnOk P w K mg base CX0 3 f fd ["thing"] (spD K 1 mf_is_bounded) :=
  fn_okD (k := 2) Fn sc_is_bounded (fun cdv A outer s H E hr =>
  (ass_one (as_ret (ae_pu (ap_fn C_is_within (hr.mono (by decide)) rfl (aa_cons (ap_var (i := 0) rfl (by first | exact Or.inl rfl | exact Or.inr (Or.inl rfl) | exact Or.inr (Or.inr rfl))) (aa_cons (ap_un un_neg ok_neg (ao (ap_glob rfl Kn.GREATEST.choose_spec.1 Kn.GREATEST.choose_spec.2 (fun _ => .int _) (by decide)))) (aa_cons (ap_glob rfl Kn.GREATEST.choose_spec.1 Kn.GREATEST.choose_spec.2 (fun _ => .int _) (by decide)) aa_nil (star_ok rfl)) (star_ok rfl)) (star_ok rfl)) rfl (by decide) rfl rfl)))))
  (fun ds hl => match ds, hl with | [p_thing], _ => by kernel_rfl)
theorem ok_is_bounded {f : Addr} {fd : FuncData} (Fn : Fun K "is_bounded" "is_bounded" s_is_bounded f fd) (hmg : mg "is_bounded" = some (.ref f)) (B : BN mg) (Kn : KN mg) (C_is_within : CF P w K mg base "is_within" 2 (spD K 3 mf_is_within)) : CF P w K mg base "is_bounded" 3 (spD K 1 mf_is_bounded) :=
  ⟨f, fd, ["thing"], fn_is_bounded Fn B Kn C_is_within, hmg, Fn.kp, (Fn.binds fun _ _ _ _ _ _ us hl => match us, hl with | [_], _ => rfl)⟩
abbrev s_are_bounded : Stmt := top 8
abbrev N_are_bounded : List Str := ["many", "thing"]
theorem sc_are_bounded : FnScope N_are_bounded ["many", "thing"] (defScope s_are_bounded) := ⟨rfl, rfl, rfl, by decide +kernel, rfl, by decide +kernel, by decide +kernel⟩
abbrev N_are_bounded_0 : List Str := ["many", "thing", "number"]
theorem nd_N_are_bounded_0 : N_are_bounded_0.Nodup := by decide +kernel
def c_are_bounded (p_many : D) (p_thing : D) : M D :=
  bd (bd (bd (bd (c_is_tuple_of p_thing p_many) fun x1 => asB x1) fun b7 => if b7 then bd (bd (bd (oM (seqD p_thing)) fun l4 => bd (compC (fun d2 => bd (c_is_bounded d2) fun x3 => .ret (some x3)) l4) fitM) fun l5 => .ret (.list l5)) fun x6 => oM (fAll [x6]) else .ret false) fun b8 => .ret (.bool b8)) fun x9 => .ret x9
def mf_are_bounded : List D → M D := fun l => match l with
  | [p_many, p_thing] => c_are_bounded p_many p_thing
  | _ => .bad
set_option maxHeartbeats 4000000 in
theorem fn_are_bounded {f : Addr} {fd : FuncData} (Fn : Fun K "are_bounded" "are_bounded" s_are_bounded f fd) (B : BN mg) (Kn : KN mg) (C_is_tuple_of : CF P w K mg base "is_tuple_of" 1 (spD K 2 mf_is_tuple_of)) (C_is_bounded : CF P w K mg base "is_bounded" 3 (spD K 1 mf_is_bounded)) : FnOk P w K mg base CX0 4 f fd ["many", "thing"] (spD K 2 mf_are_bounded) :=
  fn_okD (k := 3) Fn sc_are_bounded (fun cdv A outer s H E hr =>
  (ass_one (as_ret (ae_pu (ap_b (ab_and (ab_as (ap_fn C_is_tuple_of (hr.mono (by decide)) rfl (aa_cons (ap_var (i := 1) rfl (by first | exact Or.inl rfl | exact Or.inr (Or.inl rfl) | exact Or.inr (Or.inr rfl))) (aa_cons (ap_var (i := 0) rfl (by first | exact Or.inl rfl | exact Or.inr (Or.inl rfl) | exact Or.inr (Or.inr rfl))) aa_nil (star_ok rfl)) (star_ok rfl)) rfl (by decide) rfl rfl)) (ab_one (ab_callB (call_all rfl) ok_all rfl B.all (by decide +kernel) (aao_cons (ao (ap_z (al_comp (N' := N_are_bounded_0) (k := 1) rfl (compOk_of (N := N_are_bounded) (sc := (defScope s_are_bounded)) (by decide +kernel) rfl rfl) (ai_seq (ap_var (i := 1) rfl (by first | exact Or.inl rfl | exact Or.inr (Or.inl rfl) | exact Or.inr (Or.inr rfl)))) (fun cl s' H' fp C' => (ag_name (i := 2) (show 2 ≤ 2 by decide) nd_N_are_bounded_0 rfl (by first | exact Or.inl rfl | exact Or.inr rfl) (.inr rfl))) (fun cl s' H' fp C' => ats_nil) (fun cl s' H' fp C' => (ap_fn C_is_bounded (hr.mono (by decide)) rfl (aa_cons (ap_var (i := 2) rfl (by first | exact Or.inl rfl | exact Or.inr (Or.inl rfl) | exact Or.inr (Or.inr rfl))) aa_nil (star_ok rfl)) rfl (by decide) rfl rfl)) (fun _ => rfl)))) aao_nil (star_ok rfl)) (by decide) (by decide) rfl rfl))))))))
  (fun ds hl => match ds, hl with | [p_many, p_thing], _ => by kernel_rfl)
theorem ok_are_bounded {f : Addr} {fd : FuncData} (Fn : Fun K "are_bounded" "are_bounded" s_are_bounded f fd) (hmg : mg "are_bounded" = some (.ref f)) (B : BN mg) (Kn : KN mg) (C_is_tuple_of : CF P w K mg base "is_tuple_of" 1 (spD K 2 mf_is_tuple_of)) (C_is_bounded : CF P w K mg base "is_bounded" 3 (spD K 1 mf_is_bounded)) : CF P w K mg base "are_bounded" 4 (spD K 2 mf_are_bounded) :=
  ⟨f, fd, ["many", "thing"], fn_are_bounded Fn B Kn C_is_tuple_of C_is_bounded, hmg, Fn.kp, (Fn.binds fun _ _ _ _ _ _ us hl => match us, hl with | [_, _], _ => rfl)⟩
abbrev s_is_form : Stmt := top 6
abbrev N_is_form : List Str := ["rooms", "sorts", "thing"]
theorem sc_is_form : FnScope N_is_form ["rooms", "sorts", "thing"] (defScope s_is_form) := ⟨rfl, rfl, rfl, by decide +kernel, rfl, by decide +kernel, by decide +kernel⟩
def c_is_form (p_rooms : D) (p_sorts : D) (p_thing : D) : M D :=
  bd (bd (bd (bd (c_is_tuple_of p_thing (.int 3)) fun x1 => oM (truD x1)) fun b2 => .ret (!b2)) fun b6 => if b6 then .ret true else bd (bd (bd (oM (opIx p_thing (.int 0))) fun x3 => c_is_bounded x3) fun x4 => oM (truD x4)) fun b5 => .ret (!b5)) fun b7 => if b7 then
    .ret (.bool false)
   else
    bd (bd (bd (bd (bd (oM (opIx p_thing (.int 1))) fun x8 => c_are_bounded p_rooms x8) fun x9 => asB x9) fun b12 => if b12 then bd (bd (oM (opIx p_thing (.int 2))) fun x10 => c_are_bounded p_sorts x10) fun x11 => asB x11 else .ret false) fun b13 => .ret (.bool b13)) fun x14 => .ret x14
def mf_is_form : List D → M D := fun l => match l with
  | [p_rooms, p_sorts, p_thing] => c_is_form p_rooms p_sorts p_thing
  | _ => .bad
set_option maxHeartbeats 4000000 in
theorem fn_is_form {f : Addr} {fd : FuncData} (Fn : Fun K "is_form" "is_form" s_is_form f fd) (B : BN mg) (Kn : KN mg) (C_are_bounded : CF P w K mg base "are_bounded" 4 (spD K 2 mf_are_bounded)) (C_is_tuple_of : CF P w K mg base "is_tuple_of" 1 (spD K 2 mf_is_tuple_of)) (C_is_bounded : CF P w K mg base "is_bounded" 3 (spD K 1 mf_is_bounded)) : FnOk P w K mg base CX0 5 f fd ["rooms", "sorts", "thing"] (spD K 3 mf_is_form) :=
  fn_okD (k := 4) Fn sc_is_form (fun cdv A outer s H E hr =>
  (ass_cons (as_if (aet_pu (at_aw (aw_or (at_not (at_tru (ao (ap_fn C_is_tuple_of (hr.mono (by decide)) rfl (aa_cons (ap_var (i := 2) rfl (by first | exact Or.inl rfl | exact Or.inr (Or.inl rfl) | exact Or.inr (Or.inr rfl))) (aa_cons ap_int aa_nil (star_ok rfl)) (star_ok rfl)) rfl (by decide) rfl rfl)) (fun _ => rfl))) (aw_or1 (at_not (at_tru (ao (ap_fn C_is_bounded (hr.mono (by decide)) rfl (aa_cons (ap_ix ix_seq ok_ix (ao (ap_var (i := 2) rfl (by first | exact Or.inl rfl | exact Or.inr (Or.inl rfl) | exact Or.inr (Or.inr rfl)))) (ao ap_int) (fun _ _ => rfl)) aa_nil (star_ok rfl)) rfl (by decide) rfl rfl)) (fun _ => rfl)))))))
    (ass_one (as_ret (ae_pu ap_bl)))
    ass_nil)
   (ass_one (as_ret (ae_pu (ap_b (ab_and (ab_as (ap_fn C_are_bounded (hr.mono (by decide)) rfl (aa_cons (ap_var (i := 0) rfl (by first | exact Or.inl rfl | exact Or.inr (Or.inl rfl) | exact Or.inr (Or.inr rfl))) (aa_cons (ap_ix ix_seq ok_ix (ao (ap_var (i := 2) rfl (by first | exact Or.inl rfl | exact Or.inr (Or.inl rfl) | exact Or.inr (Or.inr rfl)))) (ao ap_int) (fun _ _ => rfl)) aa_nil (star_ok rfl)) (star_ok rfl)) rfl (by decide) rfl rfl)) (ab_one (ab_as (ap_fn C_are_bounded (hr.mono (by decide)) rfl (aa_cons (ap_var (i := 1) rfl (by first | exact Or.inl rfl | exact Or.inr (Or.inl rfl) | exact Or.inr (Or.inr rfl))) (aa_cons (ap_ix ix_seq ok_ix (ao (ap_var (i := 2) rfl (by first | exact Or.inl rfl | exact Or.inr (Or.inl rfl) | exact Or.inr (Or.inr rfl)))) (ao ap_int) (fun _ _ => rfl)) aa_nil (star_ok rfl)) (star_ok rfl)) rfl (by decide) rfl rfl))))))))))
  (fun ds hl => match ds, hl with | [p_rooms, p_sorts, p_thing], _ => by kernel_rfl)
theorem ok_is_form {f : Addr} {fd : FuncData} (Fn : Fun K "is_form" "is_form" s_is_form f fd) (hmg : mg "is_form" = some (.ref f)) (B : BN mg) (Kn : KN mg) (C_are_bounded : CF P w K mg base "are_bounded" 4 (spD K 2 mf_are_bounded)) (C_is_tuple_of : CF P w K mg base "is_tuple_of" 1 (spD K 2 mf_is_tuple_of)) (C_is_bounded : CF P w K mg base "is_bounded" 3 (spD K 1 mf_is_bounded)) : CF P w K mg base "is_form" 5 (spD K 3 mf_is_form) :=
  ⟨f, fd, ["rooms", "sorts", "thing"], fn_is_form Fn B Kn C_are_bounded C_is_tuple_of C_is_bounded, hmg, Fn.kp, (Fn.binds fun _ _ _ _ _ _ us hl => match us, hl with | [_, _, _], _ => rfl)⟩
abbrev s_is_fact : Stmt := top 11
abbrev N_is_fact : List Str := ["rooms", "sorts", "thing"]
theorem sc_is_fact : FnScope N_is_fact ["rooms", "sorts", "thing"] (defScope s_is_fact) := ⟨rfl, rfl, rfl, by decide +kernel, rfl, by decide +kernel, by decide +kernel⟩
def c_is_fact (p_rooms : D) (p_sorts : D) (p_thing : D) : M D :=
  bd (if (!(isT "tuple" p_thing)) then .ret true else bd (bd (oM (fLen [p_thing])) fun x1 => oM (opLt x1 (.int 2))) fun b5 => if b5 then .ret true else bd (bd (bd (oM (opIx p_thing (.int 1))) fun x2 => c_is_form p_rooms p_sorts x2) fun x3 => oM (truD x3)) fun b4 => .ret (!b4)) fun b6 => if b6 then
    .ret (.bool false)
   else
    bd (bd (oM (opIx p_thing (.int 0))) fun x7 => oM (opIn x7 (.tuple [(.str "least"), (.str "same")]))) fun b8 => if b8 then
    bd (bd (bd (oM (fLen [p_thing])) fun x9 => oM (opEq x9 (.int 2))) fun b10 => .ret (.bool b10)) fun x11 => .ret x11
   else
    bd (bd (bd (bd (oM (opIx p_thing (.int 0))) fun x12 => oM (opEq x12 (.str "rest"))) fun b17 => if b17 then bd (bd (oM (fLen [p_thing])) fun x13 => oM (opEq x13 (.int 3))) fun b16 => if b16 then bd (bd (oM (opIx p_thing (.int 2))) fun x14 => c_is_within x14 (.int 2) (.int 99)) fun x15 => asB x15 else .ret false else .ret false) fun b18 => .ret (.bool b18)) fun x19 => .ret x19
def mf_is_fact : List D → M D := fun l => match l with
  | [p_rooms, p_sorts, p_thing] => c_is_fact p_rooms p_sorts p_thing
  | _ => .bad
set_option maxHeartbeats 4000000 in
theorem fn_is_fact {f : Addr} {fd : FuncData} (Fn : Fun K "is_fact" "is_fact" s_is_fact f fd) (B : BN mg) (Kn : KN mg) (C_is_within : CF P w K mg base "is_within" 2 (spD K 3 mf_is_within)) (C_is_form : CF P w K mg base "is_form" 5 (spD K 3 mf_is_form)) : FnOk P w K mg base CX0 6 f fd ["rooms", "sorts", "thing"] (spD K 3 mf_is_fact) :=
  fn_okD (k := 5) Fn sc_is_fact (fun cdv A outer s H E hr =>
  (ass_cons (as_if (aet_pu (at_aw (aw_or (at_not (at_b (ab_is (T := "tuple") (by decide) rfl B.isinstance rfl B.tuple (by decide +kernel) (ao (ap_var (i := 2) rfl (by first | exact Or.inl rfl | exact Or.inr (Or.inl rfl) | exact Or.inr (Or.inr rfl)))) rfl rfl rfl) (fun _ => rfl))) (aw_or (at_cmp op_lt ok_lt (ao (ap_callB call_lenA ok_len rfl B.len PySem.boot_len (aao_cons (ao (ap_var (i := 2) rfl (by first | exact Or.inl rfl | exact Or.inr (Or.inl rfl) | exact Or.inr (Or.inr rfl)))) aao_nil (star_ok rfl)) (by decide) (by decide) rfl rfl)) (ao ap_int) rfl) (aw_or1 (at_not (at_tru (ao (ap_fn C_is_form (hr.mono (by decide)) rfl (aa_cons (ap_var (i := 0) rfl (by first | exact Or.inl rfl | exact Or.inr (Or.inl rfl) | exact Or.inr (Or.inr rfl))) (aa_cons (ap_var (i := 1) rfl (by first | exact Or.inl rfl | exact Or.inr (Or.inl rfl) | exact Or.inr (Or.inr rfl))) (aa_cons (ap_ix ix_seq ok_ix (ao (ap_var (i := 2) rfl (by first | exact Or.inl rfl | exact Or.inr (Or.inl rfl) | exact Or.inr (Or.inr rfl)))) (ao ap_int) (fun _ _ => rfl)) aa_nil (star_ok rfl)) (star_ok rfl)) (star_ok rfl)) rfl (by decide) rfl rfl)) (fun _ => rfl))))))))
    (ass_one (as_ret (ae_pu ap_bl)))
    ass_nil)
   (ass_cons (as_if (aet_pu (at_cmp (opr_in (room_u hr)) ok_D2 (ao (ap_ix ix_seq ok_ix (ao (ap_var (i := 2) rfl (by first | exact Or.inl rfl | exact Or.inr (Or.inl rfl) | exact Or.inr (Or.inr rfl)))) (ao ap_int) (fun _ _ => rfl))) (ao (ap_tup (aa_cons ap_str (aa_cons ap_str aa_nil (star_ok rfl)) (star_ok rfl)) (by decide +kernel))) rfl))
    (ass_one (as_ret (ae_pu (ap_b (ab_cmp (opr_eq (room_u hr)) ok_D2 (ao (ap_callB call_lenA ok_len rfl B.len PySem.boot_len (aao_cons (ao (ap_var (i := 2) rfl (by first | exact Or.inl rfl | exact Or.inr (Or.inl rfl) | exact Or.inr (Or.inr rfl)))) aao_nil (star_ok rfl)) (by decide) (by decide) rfl rfl)) (ao ap_int) rfl)))))
    ass_nil)
   (ass_one (as_ret (ae_pu (ap_b (ab_and (ab_cmp (opr_eq (room_u hr)) ok_D2 (ao (ap_ix ix_seq ok_ix (ao (ap_var (i := 2) rfl (by first | exact Or.inl rfl | exact Or.inr (Or.inl rfl) | exact Or.inr (Or.inr rfl)))) (ao ap_int) (fun _ _ => rfl))) (ao ap_str) rfl) (ab_and (ab_cmp (opr_eq (room_u hr)) ok_D2 (ao (ap_callB call_lenA ok_len rfl B.len PySem.boot_len (aao_cons (ao (ap_var (i := 2) rfl (by first | exact Or.inl rfl | exact Or.inr (Or.inl rfl) | exact Or.inr (Or.inr rfl)))) aao_nil (star_ok rfl)) (by decide) (by decide) rfl rfl)) (ao ap_int) rfl) (ab_one (ab_as (ap_fn C_is_within (hr.mono (by decide)) rfl (aa_cons (ap_ix ix_seq ok_ix (ao (ap_var (i := 2) rfl (by first | exact Or.inl rfl | exact Or.inr (Or.inl rfl) | exact Or.inr (Or.inr rfl)))) (ao ap_int) (fun _ _ => rfl)) (aa_cons ap_int (aa_cons (ap_glob rfl Kn.MOST_DIVIDES.choose_spec.1 Kn.MOST_DIVIDES.choose_spec.2 (fun _ => .int _) (by decide)) aa_nil (star_ok rfl)) (star_ok rfl)) (star_ok rfl)) rfl (by decide) rfl rfl))))))))))))
  (fun ds hl => match ds, hl with | [p_rooms, p_sorts, p_thing], _ => by kernel_rfl)
theorem ok_is_fact {f : Addr} {fd : FuncData} (Fn : Fun K "is_fact" "is_fact" s_is_fact f fd) (hmg : mg "is_fact" = some (.ref f)) (B : BN mg) (Kn : KN mg) (C_is_within : CF P w K mg base "is_within" 2 (spD K 3 mf_is_within)) (C_is_form : CF P w K mg base "is_form" 5 (spD K 3 mf_is_form)) : CF P w K mg base "is_fact" 6 (spD K 3 mf_is_fact) :=
  ⟨f, fd, ["rooms", "sorts", "thing"], fn_is_fact Fn B Kn C_is_within C_is_form, hmg, Fn.kp, (Fn.binds fun _ _ _ _ _ _ us hl => match us, hl with | [_, _, _], _ => rfl)⟩
abbrev s__law_feed : Stmt := top 13
abbrev N__law_feed : List Str := ["_law_script", "_law_k", "_law_cell"]
theorem sc__law_feed : FnScope N__law_feed ["_law_script", "_law_k"] (defScope s__law_feed) := ⟨rfl, rfl, rfl, by decide +kernel, rfl, by decide +kernel, by decide +kernel⟩
def c__law_feed_j1 (v_law_cell : D) : M (List D) :=
  bd (bd (bd (bd (bd (bd (oM (opPow (.int 10) (.int 18))) fun x10 => oM (opGe v_law_cell x10)) fun b11 => .ret (.bool b11)) fun x12 => oM (fInt [x12])) fun x13 => oM (opMulI v_law_cell x13)) fun x14 => .ret [x14, v_law_cell, (.int 0)]) fun l15 => .ret l15
def c__law_feed (p_law_script : D) (p_law_k : D) : M (List D) :=
  bd (bd (oM (fLen [p_law_script])) fun x1 => oM (opGt x1 (.int 0))) fun b2 => if b2 then
    bd (bd (bd (bd (oM (fLen [p_law_script])) fun x3 => oM (opMod p_law_k x3)) fun x4 => oM (opIx p_law_script x4)) fun x7 => bd (bd (bd (oM (fLen [p_law_script])) fun x5 => oM (opDiv p_law_k x5)) fun x6 => oM (opMulI (.int 1009) x6)) fun x8 => oM (opAdd x7 x8)) fun x9 => c__law_feed_j1 x9
   else
    c__law_feed_j1 (.int 0)
def mf__law_feed : List D → M (List D) := fun l => match l with
  | [p_law_script, p_law_k] => c__law_feed p_law_script p_law_k
  | _ => .bad
set_option maxHeartbeats 4000000 in
theorem fn__law_feed {f : Addr} {fd : FuncData} (Fn : Fun K "_law_feed" "_law_feed" s__law_feed f fd) (B : BN mg) (Kn : KN mg) : FnOk P w K mg base CX0 1 f fd ["_law_script", "_law_k"] (spL K 2 mf__law_feed) :=
  fn_okL (k := 0) Fn sc__law_feed (fun cdv A outer s H E hr =>
  (ass_cons (as_to (sh := [.f, .f, .f]) (as_set (i := 2) sc__law_feed.nd rfl (by first | exact Or.inl rfl | exact Or.inr rfl) (ae_pu ap_int) rfl (.inl rfl)))
   (ass_cons (as_to (sh := [.dead, .dead, .f]) (as_if (aet_pu (at_cmp op_gt ok_gt (ao (ap_callB call_lenA ok_len rfl B.len PySem.boot_len (aao_cons (ao (ap_var (i := 0) rfl (by first | exact Or.inl rfl | exact Or.inr (Or.inl rfl) | exact Or.inr (Or.inr rfl)))) aao_nil (star_ok rfl)) (by decide) (by decide) rfl rfl)) (ao ap_int) rfl))
    (ass_one (as_set (i := 2) sc__law_feed.nd rfl (by first | exact Or.inl rfl | exact Or.inr rfl) (ae_pu (ap_bin op_addA ok_add (ao (ap_ix ix_seq ok_ix (ao (ap_var (i := 0) rfl (by first | exact Or.inl rfl | exact Or.inr (Or.inl rfl) | exact Or.inr (Or.inr rfl)))) (ao (ap_bin op_mod ok_mod (ao (ap_var (i := 1) rfl (by first | exact Or.inl rfl | exact Or.inr (Or.inl rfl) | exact Or.inr (Or.inr rfl)))) (ao (ap_callB call_lenA ok_len rfl B.len PySem.boot_len (aao_cons (ao (ap_var (i := 0) rfl (by first | exact Or.inl rfl | exact Or.inr (Or.inl rfl) | exact Or.inr (Or.inr rfl)))) aao_nil (star_ok rfl)) (by decide) (by decide) rfl rfl)))) (fun _ _ => rfl))) (ao (ap_bin op_mul ok_mul (ao ap_int) (ao (ap_bin op_fdiv ok_div (ao (ap_var (i := 1) rfl (by first | exact Or.inl rfl | exact Or.inr (Or.inl rfl) | exact Or.inr (Or.inr rfl)))) (ao (ap_callB call_lenA ok_len rfl B.len PySem.boot_len (aao_cons (ao (ap_var (i := 0) rfl (by first | exact Or.inl rfl | exact Or.inr (Or.inl rfl) | exact Or.inr (Or.inr rfl)))) aao_nil (star_ok rfl)) (by decide) (by decide) rfl rfl)))))))) rfl (.inl rfl)))
    ass_nil))
   (ass_one (as_retL (ael_pu (al_lst (aa_cons (ap_bin op_mul ok_mul (ao (ap_var (i := 2) rfl (by first | exact Or.inl rfl | exact Or.inr (Or.inl rfl) | exact Or.inr (Or.inr rfl)))) (ao (ap_callTy call_int1 ok_int rfl B.int (by decide +kernel) (aao_cons (ao (ap_b (ab_cmp op_ge ok_ge (ao (ap_var (i := 2) rfl (by first | exact Or.inl rfl | exact Or.inr (Or.inl rfl) | exact Or.inr (Or.inr rfl)))) (ao (ap_bin op_pow ok_pow (ao ap_int) (ao ap_int))) rfl))) aao_nil (star_ok rfl)) (by decide) (by decide) rfl rfl))) (aa_cons (ap_var (i := 2) rfl (by first | exact Or.inl rfl | exact Or.inr (Or.inl rfl) | exact Or.inr (Or.inr rfl))) (aa_cons ap_int aa_nil (star_ok rfl)) (star_ok rfl)) (star_ok rfl)) (by decide +kernel))))))))
  (fun ds hl => match ds, hl with | [p_law_script, p_law_k], _ => by kernel_rfl)
theorem ok__law_feed {f : Addr} {fd : FuncData} (Fn : Fun K "_law_feed" "_law_feed" s__law_feed f fd) (hmg : mg "_law_feed" = some (.ref f)) (B : BN mg) (Kn : KN mg) : CF P w K mg base "_law_feed" 1 (spL K 2 mf__law_feed) :=
  ⟨f, fd, ["_law_script", "_law_k"], fn__law_feed Fn B Kn, hmg, Fn.kp, (Fn.binds fun _ _ _ _ _ _ us hl => match us, hl with | [_, _], _ => rfl)⟩
abbrev s__law_take : Stmt := top 14
abbrev N__law_take : List Str := ["_law_feed_here", "_law_many", "_law_found", "_law_mixed"]
theorem sc__law_take : FnScope N__law_take ["_law_feed_here", "_law_many"] (defScope s__law_take) := ⟨rfl, rfl, rfl, by decide +kernel, rfl, by decide +kernel, by decide +kernel⟩
def c__law_take (p_law_feed_here : List D) (p_law_many : D) : M (D × List D) :=
  bd (bd (oM (opIx (.list p_law_feed_here) (.int 0))) fun x1 => oM (opGt x1 (.int 0))) fun b2 => if b2 then
    bd (bd (oM (opIx (.list p_law_feed_here) (.int 0))) fun x3 => oM (opMod x3 p_law_many)) fun x4 => bd (bd (oM (opIx (.list p_law_feed_here) (.int 0))) fun x5 => oM (opDiv x5 p_law_many)) fun x6 => bd (oM (putD p_law_feed_here (.int 0) x6)) fun l7 => .ret (x4, l7)
   else
    bd (bd (oM (opIx (.list p_law_feed_here) (.int 2))) fun x8 => oM (opAdd x8 (.int 1))) fun x9 => bd (oM (putD p_law_feed_here (.int 2) x9)) fun l10 => bd (bd (bd (bd (bd (oM (opIx (.list l10) (.int 1))) fun x11 => oM (opMod x11 (.int 2147483579))) fun x15 => bd (bd (bd (oM (opIx (.list l10) (.int 2))) fun x12 => oM (opMulI (.int 7717) x12)) fun x13 => bd (oM (opIx (.list l10) (.int 2))) fun x14 => oM (opMulI x13 x14)) fun x16 => oM (opAdd x15 x16)) fun x17 => oM (opMulI x17 (.int 48271))) fun x18 => oM (opMod x18 (.int 2147483647))) fun x19 => bd (bd (bd (bd (oM (opDiv x19 (.int 13))) fun x21 => bd (bd (oM (opIx (.list l10) (.int 2))) fun x20 => oM (opMulI (.int 19) x20)) fun x22 => oM (opAdd x21 x22)) fun x23 => oM (opMulI x23 (.int 69621))) fun x24 => oM (opMod x24 (.int 2147483549))) fun x25 => bd (bd (oM (opDiv x25 (.int 11))) fun x26 => oM (opMod x26 p_law_many)) fun x27 => .ret (x27, l10)
def mf__law_take : List D → List D → M (D × List D) := fun p_law_feed_here l => match l with
  | [p_law_many] => c__law_take p_law_feed_here p_law_many
  | _ => .bad
set_option maxHeartbeats 4000000 in
theorem fn__law_take {f : Addr} {fd : FuncData} (Fn : Fun K "_law_take" "_law_take" s__law_take f fd) (B : BN mg) (Kn : KN mg) : FnOk P w K mg base CX0 1 f fd ["_law_feed_here", "_law_many"] (sp1 K 2 mf__law_take) :=
  fn_ok1 (k := 0) Fn sc__law_take (fun cdv A outer s H E hr =>
  (ass_cons (as_if (aet_pu (at_cmp op_gt ok_gt (ao (ap_ix ix_seq ok_ix (ao_peek (i := 0) rfl (by first | exact Or.inl rfl | exact Or.inr (Or.inl rfl) | exact Or.inr (Or.inr rfl))) (ao ap_int) (fun _ _ => rfl))) (ao ap_int) rfl))
    (ass_cons (as_to (sh := [.p, .f, .f, .dead]) (as_set (i := 2) sc__law_take.nd rfl (by first | exact Or.inl rfl | exact Or.inr rfl) (ae_pu (ap_bin op_mod ok_mod (ao (ap_ix ix_seq ok_ix (ao_peek (i := 0) rfl (by first | exact Or.inl rfl | exact Or.inr (Or.inl rfl) | exact Or.inr (Or.inr rfl))) (ao ap_int) (fun _ _ => rfl))) (ao (ap_var (i := 1) rfl (by first | exact Or.inl rfl | exact Or.inr (Or.inl rfl) | exact Or.inr (Or.inr rfl)))))) rfl (.inl rfl)))
   (ass_cons (as_to (sh := [.p, .dead, .f, .dead]) (as_put (i := 0) rfl (by first | exact Or.inl rfl | exact Or.inr (Or.inl rfl) | exact Or.inr (Or.inr rfl)) (ae_pu ap_int) (ae_pu (ap_bin op_fdiv ok_div (ao (ap_ix ix_seq ok_ix (ao_peek (i := 0) rfl (by first | exact Or.inl rfl | exact Or.inr (Or.inl rfl) | exact Or.inr (Or.inr rfl))) (ao ap_int) (fun _ _ => rfl))) (ao (ap_var (i := 1) rfl (by first | exact Or.inl rfl | exact Or.inr (Or.inl rfl) | exact Or.inr (Or.inr rfl)))))) (fun _ => rfl) rfl rfl rfl))
   (ass_one (as_ret (ae_pu (ap_var (i := 2) rfl (by first | exact Or.inl rfl | exact Or.inr (Or.inl rfl) | exact Or.inr (Or.inr rfl))))))))
    ass_nil)
   (ass_cons (as_to (sh := [.p, .f, .dead, .dead]) (as_put (i := 0) rfl (by first | exact Or.inl rfl | exact Or.inr (Or.inl rfl) | exact Or.inr (Or.inr rfl)) (ae_pu ap_int) (ae_pu (ap_bin op_addA ok_add (ao (ap_ix ix_seq ok_ix (ao_peek (i := 0) rfl (by first | exact Or.inl rfl | exact Or.inr (Or.inl rfl) | exact Or.inr (Or.inr rfl))) (ao ap_int) (fun _ _ => rfl))) (ao ap_int))) (fun _ => rfl) rfl rfl rfl))
   (ass_cons (as_to (sh := [.p, .f, .dead, .f]) (as_set (i := 3) sc__law_take.nd rfl (by first | exact Or.inl rfl | exact Or.inr rfl) (ae_pu (ap_bin op_mod ok_mod (ao (ap_bin op_mul ok_mul (ao (ap_bin op_addA ok_add (ao (ap_bin op_mod ok_mod (ao (ap_ix ix_seq ok_ix (ao_peek (i := 0) rfl (by first | exact Or.inl rfl | exact Or.inr (Or.inl rfl) | exact Or.inr (Or.inr rfl))) (ao ap_int) (fun _ _ => rfl))) (ao ap_int))) (ao (ap_bin op_mul ok_mul (ao (ap_bin op_mul ok_mul (ao ap_int) (ao (ap_ix ix_seq ok_ix (ao_peek (i := 0) rfl (by first | exact Or.inl rfl | exact Or.inr (Or.inl rfl) | exact Or.inr (Or.inr rfl))) (ao ap_int) (fun _ _ => rfl))))) (ao (ap_ix ix_seq ok_ix (ao_peek (i := 0) rfl (by first | exact Or.inl rfl | exact Or.inr (Or.inl rfl) | exact Or.inr (Or.inr rfl))) (ao ap_int) (fun _ _ => rfl))))))) (ao ap_int))) (ao ap_int))) rfl (.inl rfl)))
   (ass_cons (as_to (sh := [.p, .f, .dead, .f]) (as_set (i := 3) sc__law_take.nd rfl (by first | exact Or.inl rfl | exact Or.inr rfl) (ae_pu (ap_bin op_mod ok_mod (ao (ap_bin op_mul ok_mul (ao (ap_bin op_addA ok_add (ao (ap_bin op_fdiv ok_div (ao (ap_var (i := 3) rfl (by first | exact Or.inl rfl | exact Or.inr (Or.inl rfl) | exact Or.inr (Or.inr rfl)))) (ao ap_int))) (ao (ap_bin op_mul ok_mul (ao ap_int) (ao (ap_ix ix_seq ok_ix (ao_peek (i := 0) rfl (by first | exact Or.inl rfl | exact Or.inr (Or.inl rfl) | exact Or.inr (Or.inr rfl))) (ao ap_int) (fun _ _ => rfl))))))) (ao ap_int))) (ao ap_int))) rfl (.inl rfl)))
   (ass_one (as_ret (ae_pu (ap_bin op_mod ok_mod (ao (ap_bin op_fdiv ok_div (ao (ap_var (i := 3) rfl (by first | exact Or.inl rfl | exact Or.inr (Or.inl rfl) | exact Or.inr (Or.inr rfl)))) (ao ap_int))) (ao (ap_var (i := 1) rfl (by first | exact Or.inl rfl | exact Or.inr (Or.inl rfl) | exact Or.inr (Or.inr rfl)))))))))))))
  (fun g ds hl => match ds, hl with | [p_law_many], _ => by kernel_rfl)
theorem ok__law_take {f : Addr} {fd : FuncData} (Fn : Fun K "_law_take" "_law_take" s__law_take f fd) (hmg : mg "_law_take" = some (.ref f)) (B : BN mg) (Kn : KN mg) : CF P w K mg base "_law_take" 1 (sp1 K 2 mf__law_take) :=
  ⟨f, fd, ["_law_feed_here", "_law_many"], fn__law_take Fn B Kn, hmg, Fn.kp, (Fn.binds fun _ _ _ _ _ _ us hl => match us, hl with | [_, _], _ => rfl)⟩
abbrev s__law_form : Stmt := top 15
abbrev N__law_form : List Str := ["_law_feed_here", "_law_sizes", "_law_some", "_law_numbers"]
theorem sc__law_form : FnScope N__law_form ["_law_feed_here", "_law_sizes"] (defScope s__law_form) := ⟨rfl, rfl, rfl, by decide +kernel, rfl, by decide +kernel, by decide +kernel⟩
abbrev N__law_form_0 : List Str := ["_law_feed_here", "_law_sizes", "_law_some", "_law_numbers", "_law_k"]
theorem nd_N__law_form_0 : N__law_form_0.Nodup := by decide +kernel
def c__law_form (p_law_feed_here : List D) (p_law_sizes : D) : M (D × List D) :=
  bd (bd (bd (oM (opNeg (.int 1))) fun x1 => bd (oM (opNeg (.int 3))) fun x2 => bd (oM (opPow (.int 10) (.int 15))) fun x3 => bd (bd (oM (opPow (.int 10) (.int 15))) fun x4 => oM (opNeg x4)) fun x5 => .ret [(.int 0), (.int 1), x1, (.int 0), (.int 2), x2, (.int 1), x3, x5]) fun l6 => .ret (.list l6)) fun x7 => bd (bd (bd (bd (oM (opIx p_law_sizes (.int 0))) fun x8 => oM (opAdd (.int 1) x8)) fun x9 => bd (oM (opIx p_law_sizes (.int 1))) fun x10 => oM (opAdd x9 x10)) fun x11 => oM (fRange1 [x11])) fun l12 => bd (compE (fun s13 d14 => bd (c__law_take s13.1 (.int 9)) fun r15 => bd (oM (opIx s13.2.2.1 r15.1)) fun x16 => .ret (some x16, (r15.2, s13.2.1, s13.2.2.1, ()))) l12 (p_law_feed_here, p_law_sizes, x7, ())) fun r17 => bd (fitM r17.1) fun l18 => bd (bd (oM (opIx (.list l18) (.int 0))) fun x19 => bd (bd (bd (asI (.int 1)) fun lo22 => bd (bd (bd (oM (opIx r17.2.2.1 (.int 0))) fun x20 => oM (opAdd (.int 1) x20)) fun x21 => asI x21) fun hi23 => oM (fCut (.list l18) lo22 hi23)) fun x24 => oM (fTuple [x24])) fun x25 => bd (bd (bd (bd (bd (oM (opIx r17.2.2.1 (.int 0))) fun x26 => oM (opAdd (.int 1) x26)) fun x27 => asI x27) fun lo28 => oM (fCut (.list l18) lo28 none)) fun x29 => oM (fTuple [x29])) fun x30 => .ret (.tuple [x19, x25, x30])) fun x31 => .ret (x31, r17.2.1)
def mf__law_form : List D → List D → M (D × List D) := fun p_law_feed_here l => match l with
  | [p_law_sizes] => c__law_form p_law_feed_here p_law_sizes
  | _ => .bad
set_option maxHeartbeats 4000000 in
theorem fn__law_form {f : Addr} {fd : FuncData} (Fn : Fun K "_law_form" "_law_form" s__law_form f fd) (B : BN mg) (Kn : KN mg) (C__law_take : CF P w K mg base "_law_take" 1 (sp1 K 2 mf__law_take)) : FnOk P w K mg base CX0 2 f fd ["_law_feed_here", "_law_sizes"] (sp1 K 2 mf__law_form) :=
  fn_ok1 (k := 1) Fn sc__law_form (fun cdv A outer s H E hr =>
  (ass_cons (as_to (sh := [.p, .f, .f, .dead]) (as_set (i := 2) sc__law_form.nd rfl (by first | exact Or.inl rfl | exact Or.inr rfl) (ae_pu (ap_z (al_lst (aa_cons ap_int (aa_cons ap_int (aa_cons (ap_un un_neg ok_neg (ao ap_int)) (aa_cons ap_int (aa_cons ap_int (aa_cons (ap_un un_neg ok_neg (ao ap_int)) (aa_cons ap_int (aa_cons (ap_bin op_pow ok_pow (ao ap_int) (ao ap_int)) (aa_cons (ap_un un_neg ok_neg (ao (ap_bin op_pow ok_pow (ao ap_int) (ao ap_int)))) aa_nil (star_ok rfl)) (star_ok rfl)) (star_ok rfl)) (star_ok rfl)) (star_ok rfl)) (star_ok rfl)) (star_ok rfl)) (star_ok rfl)) (star_ok rfl)) (by decide +kernel)))) rfl (.inl rfl)))
   (ass_cons (as_to (sh := [.p, .f, .dead, .f]) (as_setEComp (i := 3) sc__law_form.nd rfl (by first | exact Or.inl rfl | exact Or.inr rfl) (.inl rfl) (sh := [.p, .f, .f, .dead]) (N' := N__law_form_0) (k := 1) rfl (compOk_of (N := N__law_form) (sc := (defScope s__law_form)) (by decide +kernel) rfl rfl) (aei_pu (ai_range1 rfl B.range (aa_cons (ap_bin op_addA ok_add (ao (ap_bin op_addA ok_add (ao ap_int) (ao (ap_ix ix_seq ok_ix (ao (ap_var (i := 1) rfl (by first | exact Or.inl rfl | exact Or.inr (Or.inl rfl) | exact Or.inr (Or.inr rfl)))) (ao ap_int) (fun _ _ => rfl))))) (ao (ap_ix ix_seq ok_ix (ao (ap_var (i := 1) rfl (by first | exact Or.inl rfl | exact Or.inr (Or.inl rfl) | exact Or.inr (Or.inr rfl)))) (ao ap_int) (fun _ _ => rfl)))) aa_nil (star_ok rfl)) rfl)) (fun cl s' H' fp C' => (ag_name (i := 4) (show 4 ≤ 4 by decide) nd_N__law_form_0 rfl (by first | exact Or.inl rfl | exact Or.inr rfl) (.inr rfl))) (fun cl s' H' fp C' => (aets_pu ats_nil)) (fun cl s' H' fp C' => (ae_ix ix_seq ok_ix (ae_pu (ap_var (i := 2) rfl (by first | exact Or.inl rfl | exact Or.inr (Or.inl rfl) | exact Or.inr (Or.inr rfl)))) (ae_fn1 (i := 0) C__law_take (hr.mono (by decide)) rfl rfl (by first | exact Or.inl rfl | exact Or.inr (Or.inl rfl) | exact Or.inr (Or.inr rfl)) (aea_cons (ae_pu ap_int) aea_nil (star_ok rfl)) rfl (by decide) rfl rfl) (fun _ _ => rfl))) rfl (fun _ => rfl)))
   (ass_one (as_ret (ae_pu (ap_tup (aa_cons (ap_ix ix_seq ok_ix (ao (ap_var (i := 3) rfl (by first | exact Or.inl rfl | exact Or.inr (Or.inl rfl) | exact Or.inr (Or.inr rfl)))) (ao ap_int) (fun _ _ => rfl)) (aa_cons (ap_callTy call_tuple_of ok_tuple rfl B.tuple (by decide +kernel) (aao_cons (ao (ap_slice (ao (ap_var (i := 3) rfl (by first | exact Or.inl rfl | exact Or.inr (Or.inl rfl) | exact Or.inr (Or.inr rfl)))) (apo_some ap_int) (apo_some (ap_bin op_addA ok_add (ao ap_int) (ao (ap_ix ix_seq ok_ix (ao (ap_var (i := 1) rfl (by first | exact Or.inl rfl | exact Or.inr (Or.inl rfl) | exact Or.inr (Or.inr rfl)))) (ao ap_int) (fun _ _ => rfl))))))) aao_nil (star_ok rfl)) (by decide) (by decide) rfl rfl) (aa_cons (ap_callTy call_tuple_of ok_tuple rfl B.tuple (by decide +kernel) (aao_cons (ao (ap_slice (ao (ap_var (i := 3) rfl (by first | exact Or.inl rfl | exact Or.inr (Or.inl rfl) | exact Or.inr (Or.inr rfl)))) (apo_some (ap_bin op_addA ok_add (ao ap_int) (ao (ap_ix ix_seq ok_ix (ao (ap_var (i := 1) rfl (by first | exact Or.inl rfl | exact Or.inr (Or.inl rfl) | exact Or.inr (Or.inr rfl)))) (ao ap_int) (fun _ _ => rfl))))) apo_none)) aao_nil (star_ok rfl)) (by decide) (by decide) rfl rfl) aa_nil (star_ok rfl)) (star_ok rfl)) (star_ok rfl)) (by decide +kernel))))))))
  (fun g ds hl => match ds, hl with | [p_law_sizes], _ => by kernel_rfl)
theorem ok__law_form {f : Addr} {fd : FuncData} (Fn : Fun K "_law_form" "_law_form" s__law_form f fd) (hmg : mg "_law_form" = some (.ref f)) (B : BN mg) (Kn : KN mg) (C__law_take : CF P w K mg base "_law_take" 1 (sp1 K 2 mf__law_take)) : CF P w K mg base "_law_form" 2 (sp1 K 2 mf__law_form) :=
  ⟨f, fd, ["_law_feed_here", "_law_sizes"], fn__law_form Fn B Kn C__law_take, hmg, Fn.kp, (Fn.binds fun _ _ _ _ _ _ us hl => match us, hl with | [_, _], _ => rfl)⟩
abbrev s__law_fact : Stmt := top 16
abbrev N__law_fact : List Str := ["_law_feed_here", "_law_sizes", "_law_form_here", "_law_word"]
theorem sc__law_fact : FnScope N__law_fact ["_law_feed_here", "_law_sizes"] (defScope s__law_fact) := ⟨rfl, rfl, rfl, by decide +kernel, rfl, by decide +kernel, by decide +kernel⟩
def c__law_fact (p_law_feed_here : List D) (p_law_sizes : D) : M (D × List D) :=
  bd (c__law_form p_law_feed_here p_law_sizes) fun r1 => bd (c__law_take r1.2 (.int 4)) fun r2 => bd (oM (opIx (.list [(.str "least"), (.str "same"), (.str "rest"), (.str "least")]) r2.1)) fun x3 => bd (oM (opEq x3 (.str "rest"))) fun b4 => if b4 then bd (c__law_take r2.2 (.int 4)) fun r5 => bd (oM (opIx (.list [(.int 2), (.int 3), (.int 99), (.int 4)]) r5.1)) fun x6 => .ret ((.tuple [x3, r1.1, x6]), r5.2) else .ret ((.tuple [x3, r1.1]), r2.2)
def mf__law_fact : List D → List D → M (D × List D) := fun p_law_feed_here l => match l with
  | [p_law_sizes] => c__law_fact p_law_feed_here p_law_sizes
  | _ => .bad
set_option maxHeartbeats 4000000 in
theorem fn__law_fact {f : Addr} {fd : FuncData} (Fn : Fun K "_law_fact" "_law_fact" s__law_fact f fd) (B : BN mg) (Kn : KN mg) (C__law_form : CF P w K mg base "_law_form" 2 (sp1 K 2 mf__law_form)) (C__law_take : CF P w K mg base "_law_take" 1 (sp1 K 2 mf__law_take)) : FnOk P w K mg base CX0 3 f fd ["_law_feed_here", "_law_sizes"] (sp1 K 2 mf__law_fact) :=
  fn_ok1 (k := 2) Fn sc__law_fact (fun cdv A outer s H E hr =>
  (ass_cons (as_to (sh := [.p, .dead, .f, .dead]) (as_set (i := 2) sc__law_fact.nd rfl (by first | exact Or.inl rfl | exact Or.inr rfl) (ae_fn1 (i := 0) C__law_form (hr.mono (by decide)) rfl rfl (by first | exact Or.inl rfl | exact Or.inr (Or.inl rfl) | exact Or.inr (Or.inr rfl)) (aea_cons (ae_pu (ap_var (i := 1) rfl (by first | exact Or.inl rfl | exact Or.inr (Or.inl rfl) | exact Or.inr (Or.inr rfl)))) aea_nil (star_ok rfl)) rfl (by decide) rfl rfl) rfl (.inl rfl)))
   (ass_cons (as_to (sh := [.p, .dead, .f, .f]) (as_set (i := 3) sc__law_fact.nd rfl (by first | exact Or.inl rfl | exact Or.inr rfl) (ae_ix ix_seq ok_ix (ae_pu (ap_z (al_lst (aa_cons ap_str (aa_cons ap_str (aa_cons ap_str (aa_cons ap_str aa_nil (star_ok rfl)) (star_ok rfl)) (star_ok rfl)) (star_ok rfl)) (by decide +kernel)))) (ae_fn1 (i := 0) C__law_take (hr.mono (by decide)) rfl rfl (by first | exact Or.inl rfl | exact Or.inr (Or.inl rfl) | exact Or.inr (Or.inr rfl)) (aea_cons (ae_pu ap_int) aea_nil (star_ok rfl)) rfl (by decide) rfl rfl) (fun _ _ => rfl)) rfl (.inl rfl)))
   (ass_one (as_ret (ae_if (aet_pu (at_cmp (opr_eq (room_u hr)) ok_D2 (ao (ap_var (i := 3) rfl (by first | exact Or.inl rfl | exact Or.inr (Or.inl rfl) | exact Or.inr (Or.inr rfl)))) (ao ap_str) rfl)) (ae_tup (aea_cons (ae_pu (ap_var (i := 3) rfl (by first | exact Or.inl rfl | exact Or.inr (Or.inl rfl) | exact Or.inr (Or.inr rfl)))) (aea_cons (ae_pu (ap_var (i := 2) rfl (by first | exact Or.inl rfl | exact Or.inr (Or.inl rfl) | exact Or.inr (Or.inr rfl)))) (aea_cons (ae_ix ix_seq ok_ix (ae_pu (ap_z (al_lst (aa_cons ap_int (aa_cons ap_int (aa_cons ap_int (aa_cons ap_int aa_nil (star_ok rfl)) (star_ok rfl)) (star_ok rfl)) (star_ok rfl)) (by decide +kernel)))) (ae_fn1 (i := 0) C__law_take (hr.mono (by decide)) rfl rfl (by first | exact Or.inl rfl | exact Or.inr (Or.inl rfl) | exact Or.inr (Or.inr rfl)) (aea_cons (ae_pu ap_int) aea_nil (star_ok rfl)) rfl (by decide) rfl rfl) (fun _ _ => rfl)) aea_nil (star_ok rfl)) (star_ok rfl)) (star_ok rfl)) (by decide +kernel)) (ae_pu (ap_tup (aa_cons (ap_var (i := 3) rfl (by first | exact Or.inl rfl | exact Or.inr (Or.inl rfl) | exact Or.inr (Or.inr rfl))) (aa_cons (ap_var (i := 2) rfl (by first | exact Or.inl rfl | exact Or.inr (Or.inl rfl) | exact Or.inr (Or.inr rfl))) aa_nil (star_ok rfl)) (star_ok rfl)) (by decide +kernel)))))))))
  (fun g ds hl => match ds, hl with | [p_law_sizes], _ => by kernel_rfl)
theorem ok__law_fact {f : Addr} {fd : FuncData} (Fn : Fun K "_law_fact" "_law_fact" s__law_fact f fd) (hmg : mg "_law_fact" = some (.ref f)) (B : BN mg) (Kn : KN mg) (C__law_form : CF P w K mg base "_law_form" 2 (sp1 K 2 mf__law_form)) (C__law_take : CF P w K mg base "_law_take" 1 (sp1 K 2 mf__law_take)) : CF P w K mg base "_law_fact" 3 (sp1 K 2 mf__law_fact) :=
  ⟨f, fd, ["_law_feed_here", "_law_sizes"], fn__law_fact Fn B Kn C__law_form C__law_take, hmg, Fn.kp, (Fn.binds fun _ _ _ _ _ _ us hl => match us, hl with | [_, _], _ => rfl)⟩
abbrev s__law_is_whole : Stmt := top 17
abbrev N__law_is_whole : List Str := ["_law_thing", "_law_low", "_law_high"]
theorem sc__law_is_whole : FnScope N__law_is_whole ["_law_thing", "_law_low", "_law_high"] (defScope s__law_is_whole) := ⟨rfl, rfl, rfl, by decide +kernel, rfl, by decide +kernel, by decide +kernel⟩
def c__law_is_whole (p_law_thing : D) (p_law_low : D) (p_law_high : D) : M D :=
  bd (bd (if (isT "int" p_law_thing) then if (!(isT "bool" p_law_thing)) then bd (oM (opLe p_law_low p_law_thing)) fun b1 => if b1 then oM (opLe p_law_thing p_law_high) else .ret false else .ret false else .ret false) fun b2 => .ret (.bool b2)) fun x3 => .ret x3
def mf__law_is_whole : List D → M D := fun l => match l with
  | [p_law_thing, p_law_low, p_law_high] => c__law_is_whole p_law_thing p_law_low p_law_high
  | _ => .bad
set_option maxHeartbeats 4000000 in
theorem fn__law_is_whole {f : Addr} {fd : FuncData} (Fn : Fun K "_law_is_whole" "_law_is_whole" s__law_is_whole f fd) (B : BN mg) (Kn : KN mg) : FnOk P w K mg base CX0 1 f fd ["_law_thing", "_law_low", "_law_high"] (spD K 3 mf__law_is_whole) :=
  fn_okD (k := 0) Fn sc__law_is_whole (fun cdv A outer s H E hr =>
  (ass_one (as_ret (ae_pu (ap_b (ab_and (ab_is (T := "int") (by decide) rfl B.isinstance rfl B.int (by decide +kernel) (ao (ap_var (i := 0) rfl (by first | exact Or.inl rfl | exact Or.inr (Or.inl rfl) | exact Or.inr (Or.inr rfl)))) rfl rfl rfl) (ab_and (ab_not (ab_is (T := "bool") (by decide) rfl B.isinstance rfl B.bool (by decide +kernel) (ao (ap_var (i := 0) rfl (by first | exact Or.inl rfl | exact Or.inr (Or.inl rfl) | exact Or.inr (Or.inr rfl)))) rfl rfl rfl)) (ab_one (ab_chain op_le op_le ok_le ok_le (ao (ap_var (i := 1) rfl (by first | exact Or.inl rfl | exact Or.inr (Or.inl rfl) | exact Or.inr (Or.inr rfl)))) (ao (ap_var (i := 0) rfl (by first | exact Or.inl rfl | exact Or.inr (Or.inl rfl) | exact Or.inr (Or.inr rfl)))) (ao (ap_var (i := 2) rfl (by first | exact Or.inl rfl | exact Or.inr (Or.inl rfl) | exact Or.inr (Or.inr rfl)))) (by with_unfolding_all rfl))))))))))
  (fun ds hl => match ds, hl with | [p_law_thing, p_law_low, p_law_high], _ => by kernel_rfl)
theorem ok__law_is_whole {f : Addr} {fd : FuncData} (Fn : Fun K "_law_is_whole" "_law_is_whole" s__law_is_whole f fd) (hmg : mg "_law_is_whole" = some (.ref f)) (B : BN mg) (Kn : KN mg) : CF P w K mg base "_law_is_whole" 1 (spD K 3 mf__law_is_whole) :=
  ⟨f, fd, ["_law_thing", "_law_low", "_law_high"], fn__law_is_whole Fn B Kn, hmg, Fn.kp, (Fn.binds fun _ _ _ _ _ _ us hl => match us, hl with | [_, _, _], _ => rfl)⟩
abbrev s__law_are_whole : Stmt := top 18
abbrev N__law_are_whole : List Str := ["_law_thing", "_law_many"]
theorem sc__law_are_whole : FnScope N__law_are_whole ["_law_thing", "_law_many"] (defScope s__law_are_whole) := ⟨rfl, rfl, rfl, by decide +kernel, rfl, by decide +kernel, by decide +kernel⟩
abbrev N__law_are_whole_0 : List Str := ["_law_thing", "_law_many", "_law_one"]
theorem nd_N__law_are_whole_0 : N__law_are_whole_0.Nodup := by decide +kernel
def c__law_are_whole (p_law_thing : D) (p_law_many : D) : M D :=
  bd (if (!(isT "tuple" p_law_thing)) then .ret true else bd (oM (fLen [p_law_thing])) fun x1 => oM (opNe x1 p_law_many)) fun b2 => if b2 then
    .ret (.bool false)
   else
    bd (bd (bd (bd (bd (oM (seqD p_law_thing)) fun l8 => bd (compC (fun d3 => bd (bd (bd (oM (opPow (.int 10) (.int 15))) fun x4 => oM (opNeg x4)) fun x5 => bd (oM (opPow (.int 10) (.int 15))) fun x6 => c__law_is_whole d3 x5 x6) fun x7 => .ret (some x7)) l8) fitM) fun l9 => .ret (.list l9)) fun x10 => oM (opNotIn (.bool false) x10)) fun b11 => .ret (.bool b11)) fun x12 => .ret x12
def mf__law_are_whole : List D → M D := fun l => match l with
  | [p_law_thing, p_law_many] => c__law_are_whole p_law_thing p_law_many
  | _ => .bad
set_option maxHeartbeats 4000000 in
theorem fn__law_are_whole {f : Addr} {fd : FuncData} (Fn : Fun K "_law_are_whole" "_law_are_whole" s__law_are_whole f fd) (B : BN mg) (Kn : KN mg) (C__law_is_whole : CF P w K mg base "_law_is_whole" 1 (spD K 3 mf__law_is_whole)) : FnOk P w K mg base CX0 2 f fd ["_law_thing", "_law_many"] (spD K 2 mf__law_are_whole) :=
  fn_okD (k := 1) Fn sc__law_are_whole (fun cdv A outer s H E hr =>
  (ass_cons (as_if (aet_pu (at_aw (aw_or (at_not (at_b (ab_is (T := "tuple") (by decide) rfl B.isinstance rfl B.tuple (by decide +kernel) (ao (ap_var (i := 0) rfl (by first | exact Or.inl rfl | exact Or.inr (Or.inl rfl) | exact Or.inr (Or.inr rfl)))) rfl rfl rfl) (fun _ => rfl))) (aw_or1 (at_cmp (opr_ne (room_u hr)) ok_D2 (ao (ap_callB call_lenA ok_len rfl B.len PySem.boot_len (aao_cons (ao (ap_var (i := 0) rfl (by first | exact Or.inl rfl | exact Or.inr (Or.inl rfl) | exact Or.inr (Or.inr rfl)))) aao_nil (star_ok rfl)) (by decide) (by decide) rfl rfl)) (ao (ap_var (i := 1) rfl (by first | exact Or.inl rfl | exact Or.inr (Or.inl rfl) | exact Or.inr (Or.inr rfl)))) rfl)))))
    (ass_one (as_ret (ae_pu ap_bl)))
    ass_nil)
   (ass_one (as_ret (ae_pu (ap_b (ab_cmp (opr_notIn (room_u hr)) ok_D2 (ao ap_bl) (ao (ap_z (al_comp (N' := N__law_are_whole_0) (k := 1) rfl (compOk_of (N := N__law_are_whole) (sc := (defScope s__law_are_whole)) (by decide +kernel) rfl rfl) (ai_seq (ap_var (i := 0) rfl (by first | exact Or.inl rfl | exact Or.inr (Or.inl rfl) | exact Or.inr (Or.inr rfl)))) (fun cl s' H' fp C' => (ag_name (i := 2) (show 2 ≤ 2 by decide) nd_N__law_are_whole_0 rfl (by first | exact Or.inl rfl | exact Or.inr rfl) (.inr rfl))) (fun cl s' H' fp C' => ats_nil) (fun cl s' H' fp C' => (ap_fn C__law_is_whole (hr.mono (by decide)) rfl (aa_cons (ap_var (i := 2) rfl (by first | exact Or.inl rfl | exact Or.inr (Or.inl rfl) | exact Or.inr (Or.inr rfl))) (aa_cons (ap_un un_neg ok_neg (ao (ap_bin op_pow ok_pow (ao ap_int) (ao ap_int)))) (aa_cons (ap_bin op_pow ok_pow (ao ap_int) (ao ap_int)) aa_nil (star_ok rfl)) (star_ok rfl)) (star_ok rfl)) rfl (by decide) rfl rfl)) (fun _ => rfl)))) rfl)))))))
  (fun ds hl => match ds, hl with | [p_law_thing, p_law_many], _ => by kernel_rfl)
theorem ok__law_are_whole {f : Addr} {fd : FuncData} (Fn : Fun K "_law_are_whole" "_law_are_whole" s__law_are_whole f fd) (hmg : mg "_law_are_whole" = some (.ref f)) (B : BN mg) (Kn : KN mg) (C__law_is_whole : CF P w K mg base "_law_is_whole" 1 (spD K 3 mf__law_is_whole)) : CF P w K mg base "_law_are_whole" 2 (spD K 2 mf__law_are_whole) :=
  ⟨f, fd, ["_law_thing", "_law_many"], fn__law_are_whole Fn B Kn C__law_is_whole, hmg, Fn.kp, (Fn.binds fun _ _ _ _ _ _ us hl => match us, hl with | [_, _], _ => rfl)⟩
abbrev s__law_is_form : Stmt := top 19
abbrev N__law_is_form : List Str := ["_law_sizes", "_law_thing", "_law_good"]
theorem sc__law_is_form : FnScope N__law_is_form ["_law_sizes", "_law_thing"] (defScope s__law_is_form) := ⟨rfl, rfl, rfl, by decide +kernel, rfl, by decide +kernel, by decide +kernel⟩
def c__law_is_form (p_law_sizes : D) (p_law_thing : D) : M D :=
  bd (if (!(isT "tuple" p_law_thing)) then .ret true else bd (oM (fLen [p_law_thing])) fun x1 => oM (opNe x1 (.int 3))) fun b2 => if b2 then
    .ret (.bool false)
   else
    bd (bd (bd (bd (bd (bd (oM (opIx p_law_thing (.int 0))) fun x3 => .ret (.tuple [x3])) fun x4 => c__law_are_whole x4 (.int 1)) fun x5 => asB x5) fun b9 => if b9 then bd (bd (oM (opIx p_law_thing (.int 1))) fun x6 => bd (oM (opIx p_law_sizes (.int 0))) fun x7 => c__law_are_whole x6 x7) fun x8 => asB x8 else .ret false) fun b10 => .ret (.bool b10)) fun x11 => bd (bd (bd (asB x11) fun b15 => if b15 then bd (bd (oM (opIx p_law_thing (.int 2))) fun x12 => bd (oM (opIx p_law_sizes (.int 1))) fun x13 => c__law_are_whole x12 x13) fun x14 => asB x14 else .ret false) fun b16 => .ret (.bool b16)) fun x17 => .ret x17
def mf__law_is_form : List D → M D := fun l => match l with
  | [p_law_sizes, p_law_thing] => c__law_is_form p_law_sizes p_law_thing
  | _ => .bad
set_option maxHeartbeats 4000000 in
theorem fn__law_is_form {f : Addr} {fd : FuncData} (Fn : Fun K "_law_is_form" "_law_is_form" s__law_is_form f fd) (B : BN mg) (Kn : KN mg) (C__law_are_whole : CF P w K mg base "_law_are_whole" 2 (spD K 2 mf__law_are_whole)) : FnOk P w K mg base CX0 3 f fd ["_law_sizes", "_law_thing"] (spD K 2 mf__law_is_form) :=
  fn_okD (k := 2) Fn sc__law_is_form (fun cdv A outer s H E hr =>
  (ass_cons (as_if (aet_pu (at_aw (aw_or (at_not (at_b (ab_is (T := "tuple") (by decide) rfl B.isinstance rfl B.tuple (by decide +kernel) (ao (ap_var (i := 1) rfl (by first | exact Or.inl rfl | exact Or.inr (Or.inl rfl) | exact Or.inr (Or.inr rfl)))) rfl rfl rfl) (fun _ => rfl))) (aw_or1 (at_cmp (opr_ne (room_u hr)) ok_D2 (ao (ap_callB call_lenA ok_len rfl B.len PySem.boot_len (aao_cons (ao (ap_var (i := 1) rfl (by first | exact Or.inl rfl | exact Or.inr (Or.inl rfl) | exact Or.inr (Or.inr rfl)))) aao_nil (star_ok rfl)) (by decide) (by decide) rfl rfl)) (ao ap_int) rfl)))))
    (ass_one (as_ret (ae_pu ap_bl)))
    ass_nil)
   (ass_cons (as_to (sh := [.f, .f, .f]) (as_set (i := 2) sc__law_is_form.nd rfl (by first | exact Or.inl rfl | exact Or.inr rfl) (ae_pu (ap_b (ab_and (ab_as (ap_fn C__law_are_whole (hr.mono (by decide)) rfl (aa_cons (ap_tup (aa_cons (ap_ix ix_seq ok_ix (ao (ap_var (i := 1) rfl (by first | exact Or.inl rfl | exact Or.inr (Or.inl rfl) | exact Or.inr (Or.inr rfl)))) (ao ap_int) (fun _ _ => rfl)) aa_nil (star_ok rfl)) (by decide +kernel)) (aa_cons ap_int aa_nil (star_ok rfl)) (star_ok rfl)) rfl (by decide) rfl rfl)) (ab_one (ab_as (ap_fn C__law_are_whole (hr.mono (by decide)) rfl (aa_cons (ap_ix ix_seq ok_ix (ao (ap_var (i := 1) rfl (by first | exact Or.inl rfl | exact Or.inr (Or.inl rfl) | exact Or.inr (Or.inr rfl)))) (ao ap_int) (fun _ _ => rfl)) (aa_cons (ap_ix ix_seq ok_ix (ao (ap_var (i := 0) rfl (by first | exact Or.inl rfl | exact Or.inr (Or.inl rfl) | exact Or.inr (Or.inr rfl)))) (ao ap_int) (fun _ _ => rfl)) aa_nil (star_ok rfl)) (star_ok rfl)) rfl (by decide) rfl rfl)))))) rfl (.inl rfl)))
   (ass_one (as_ret (ae_pu (ap_b (ab_and (ab_as (ap_var (i := 2) rfl (by first | exact Or.inl rfl | exact Or.inr (Or.inl rfl) | exact Or.inr (Or.inr rfl)))) (ab_one (ab_as (ap_fn C__law_are_whole (hr.mono (by decide)) rfl (aa_cons (ap_ix ix_seq ok_ix (ao (ap_var (i := 1) rfl (by first | exact Or.inl rfl | exact Or.inr (Or.inl rfl) | exact Or.inr (Or.inr rfl)))) (ao ap_int) (fun _ _ => rfl)) (aa_cons (ap_ix ix_seq ok_ix (ao (ap_var (i := 0) rfl (by first | exact Or.inl rfl | exact Or.inr (Or.inl rfl) | exact Or.inr (Or.inr rfl)))) (ao ap_int) (fun _ _ => rfl)) aa_nil (star_ok rfl)) (star_ok rfl)) rfl (by decide) rfl rfl)))))))))))
  (fun ds hl => match ds, hl with | [p_law_sizes, p_law_thing], _ => by kernel_rfl)
theorem ok__law_is_form {f : Addr} {fd : FuncData} (Fn : Fun K "_law_is_form" "_law_is_form" s__law_is_form f fd) (hmg : mg "_law_is_form" = some (.ref f)) (B : BN mg) (Kn : KN mg) (C__law_are_whole : CF P w K mg base "_law_are_whole" 2 (spD K 2 mf__law_are_whole)) : CF P w K mg base "_law_is_form" 3 (spD K 2 mf__law_is_form) :=
  ⟨f, fd, ["_law_sizes", "_law_thing"], fn__law_is_form Fn B Kn C__law_are_whole, hmg, Fn.kp, (Fn.binds fun _ _ _ _ _ _ us hl => match us, hl with | [_, _], _ => rfl)⟩
abbrev s__law_is_fact : Stmt := top 20
abbrev N__law_is_fact : List Str := ["_law_sizes", "_law_thing"]
theorem sc__law_is_fact : FnScope N__law_is_fact ["_law_sizes", "_law_thing"] (defScope s__law_is_fact) := ⟨rfl, rfl, rfl, by decide +kernel, rfl, by decide +kernel, by decide +kernel⟩
def c__law_is_fact (p_law_sizes : D) (p_law_thing : D) : M D :=
  bd (if (!(isT "tuple" p_law_thing)) then .ret true else bd (bd (bd (oM (fLen [p_law_thing])) fun x1 => bd (oM (opLe (.int 2) x1)) fun b2 => if b2 then oM (opLe x1 (.int 3)) else .ret false) fun b3 => .ret (!b3)) fun b6 => if b6 then .ret true else bd (bd (oM (opIx p_law_thing (.int 0))) fun x4 => .ret (isT "str" x4)) fun b5 => .ret (!b5)) fun b7 => if b7 then
    .ret (.bool false)
   else
    bd (bd (oM (fLen [p_law_thing])) fun x8 => oM (opEq x8 (.int 3))) fun b9 => if b9 then
    bd (bd (bd (bd (oM (opIx p_law_thing (.int 0))) fun x10 => oM (opEq x10 (.str "rest"))) fun b16 => if b16 then bd (bd (bd (oM (opIx p_law_thing (.int 1))) fun x11 => c__law_is_form p_law_sizes x11) fun x12 => asB x12) fun b15 => if b15 then bd (bd (oM (opIx p_law_thing (.int 2))) fun x13 => c__law_is_whole x13 (.int 2) (.int 99)) fun x14 => asB x14 else .ret false else .ret false) fun b17 => .ret (.bool b17)) fun x18 => .ret x18
   else
    bd (bd (bd (bd (oM (opIx p_law_thing (.int 0))) fun x19 => oM (opIn x19 (.list [(.str "least"), (.str "same")]))) fun b22 => if b22 then bd (bd (oM (opIx p_law_thing (.int 1))) fun x20 => c__law_is_form p_law_sizes x20) fun x21 => asB x21 else .ret false) fun b23 => .ret (.bool b23)) fun x24 => .ret x24
def mf__law_is_fact : List D → M D := fun l => match l with
  | [p_law_sizes, p_law_thing] => c__law_is_fact p_law_sizes p_law_thing
  | _ => .bad
set_option maxHeartbeats 4000000 in
theorem fn__law_is_fact {f : Addr} {fd : FuncData} (Fn : Fun K "_law_is_fact" "_law_is_fact" s__law_is_fact f fd) (B : BN mg) (Kn : KN mg) (C__law_is_form : CF P w K mg base "_law_is_form" 3 (spD K 2 mf__law_is_form)) (C__law_is_whole : CF P w K mg base "_law_is_whole" 1 (spD K 3 mf__law_is_whole)) : FnOk P w K mg base CX0 4 f fd ["_law_sizes", "_law_thing"] (spD K 2 mf__law_is_fact) :=
  fn_okD (k := 3) Fn sc__law_is_fact (fun cdv A outer s H E hr =>
  (ass_cons (as_if (aet_pu (at_aw (aw_or (at_not (at_b (ab_is (T := "tuple") (by decide) rfl B.isinstance rfl B.tuple (by decide +kernel) (ao (ap_var (i := 1) rfl (by first | exact Or.inl rfl | exact Or.inr (Or.inl rfl) | exact Or.inr (Or.inr rfl)))) rfl rfl rfl) (fun _ => rfl))) (aw_or (at_not (at_chain op_le op_le ok_le ok_le (ao ap_int) (ao (ap_callB call_lenA ok_len rfl B.len PySem.boot_len (aao_cons (ao (ap_var (i := 1) rfl (by first | exact Or.inl rfl | exact Or.inr (Or.inl rfl) | exact Or.inr (Or.inr rfl)))) aao_nil (star_ok rfl)) (by decide) (by decide) rfl rfl)) (ao ap_int) (by with_unfolding_all rfl))) (aw_or1 (at_not (at_b (ab_is (T := "str") (by decide) rfl B.isinstance rfl B.str (by decide +kernel) (ao (ap_ix ix_seq ok_ix (ao (ap_var (i := 1) rfl (by first | exact Or.inl rfl | exact Or.inr (Or.inl rfl) | exact Or.inr (Or.inr rfl)))) (ao ap_int) (fun _ _ => rfl))) rfl rfl rfl) (fun _ => rfl))))))))
    (ass_one (as_ret (ae_pu ap_bl)))
    ass_nil)
   (ass_cons (as_if (aet_pu (at_cmp (opr_eq (room_u hr)) ok_D2 (ao (ap_callB call_lenA ok_len rfl B.len PySem.boot_len (aao_cons (ao (ap_var (i := 1) rfl (by first | exact Or.inl rfl | exact Or.inr (Or.inl rfl) | exact Or.inr (Or.inr rfl)))) aao_nil (star_ok rfl)) (by decide) (by decide) rfl rfl)) (ao ap_int) rfl))
    (ass_one (as_ret (ae_pu (ap_b (ab_and (ab_cmp (opr_eq (room_u hr)) ok_D2 (ao (ap_ix ix_seq ok_ix (ao (ap_var (i := 1) rfl (by first | exact Or.inl rfl | exact Or.inr (Or.inl rfl) | exact Or.inr (Or.inr rfl)))) (ao ap_int) (fun _ _ => rfl))) (ao ap_str) rfl) (ab_and (ab_as (ap_fn C__law_is_form (hr.mono (by decide)) rfl (aa_cons (ap_var (i := 0) rfl (by first | exact Or.inl rfl | exact Or.inr (Or.inl rfl) | exact Or.inr (Or.inr rfl))) (aa_cons (ap_ix ix_seq ok_ix (ao (ap_var (i := 1) rfl (by first | exact Or.inl rfl | exact Or.inr (Or.inl rfl) | exact Or.inr (Or.inr rfl)))) (ao ap_int) (fun _ _ => rfl)) aa_nil (star_ok rfl)) (star_ok rfl)) rfl (by decide) rfl rfl)) (ab_one (ab_as (ap_fn C__law_is_whole (hr.mono (by decide)) rfl (aa_cons (ap_ix ix_seq ok_ix (ao (ap_var (i := 1) rfl (by first | exact Or.inl rfl | exact Or.inr (Or.inl rfl) | exact Or.inr (Or.inr rfl)))) (ao ap_int) (fun _ _ => rfl)) (aa_cons ap_int (aa_cons ap_int aa_nil (star_ok rfl)) (star_ok rfl)) (star_ok rfl)) rfl (by decide) rfl rfl)))))))))
    ass_nil)
   (ass_one (as_ret (ae_pu (ap_b (ab_and (ab_cmp (opr_in (room_u hr)) ok_D2 (ao (ap_ix ix_seq ok_ix (ao (ap_var (i := 1) rfl (by first | exact Or.inl rfl | exact Or.inr (Or.inl rfl) | exact Or.inr (Or.inr rfl)))) (ao ap_int) (fun _ _ => rfl))) (ao (ap_z (al_lst (aa_cons ap_str (aa_cons ap_str aa_nil (star_ok rfl)) (star_ok rfl)) (by decide +kernel)))) rfl) (ab_one (ab_as (ap_fn C__law_is_form (hr.mono (by decide)) rfl (aa_cons (ap_var (i := 0) rfl (by first | exact Or.inl rfl | exact Or.inr (Or.inl rfl) | exact Or.inr (Or.inr rfl))) (aa_cons (ap_ix ix_seq ok_ix (ao (ap_var (i := 1) rfl (by first | exact Or.inl rfl | exact Or.inr (Or.inl rfl) | exact Or.inr (Or.inr rfl)))) (ao ap_int) (fun _ _ => rfl)) aa_nil (star_ok rfl)) (star_ok rfl)) rfl (by decide) rfl rfl)))))))))))
  (fun ds hl => match ds, hl with | [p_law_sizes, p_law_thing], _ => by kernel_rfl)
theorem ok__law_is_fact {f : Addr} {fd : FuncData} (Fn : Fun K "_law_is_fact" "_law_is_fact" s__law_is_fact f fd) (hmg : mg "_law_is_fact" = some (.ref f)) (B : BN mg) (Kn : KN mg) (C__law_is_form : CF P w K mg base "_law_is_form" 3 (spD K 2 mf__law_is_form)) (C__law_is_whole : CF P w K mg base "_law_is_whole" 1 (spD K 3 mf__law_is_whole)) : CF P w K mg base "_law_is_fact" 4 (spD K 2 mf__law_is_fact) :=
  ⟨f, fd, ["_law_sizes", "_law_thing"], fn__law_is_fact Fn B Kn C__law_is_form C__law_is_whole, hmg, Fn.kp, (Fn.binds fun _ _ _ _ _ _ us hl => match us, hl with | [_, _], _ => rfl)⟩
abbrev s__law_odd : Stmt := top 21
abbrev N__law_odd : List Str := ["_law_feed_here", "_law_thing", "_law_some", "_law_words", "_law_at"]
theorem sc__law_odd : FnScope N__law_odd ["_law_feed_here", "_law_thing"] (defScope s__law_odd) := ⟨rfl, rfl, rfl, by decide +kernel, rfl, by decide +kernel, by decide +kernel⟩
def c__law_odd (p_law_feed_here : List D) (p_law_thing : D) : M (D × List D) :=
  bd (if (isT "bool" p_law_thing) then .ret true else oM (opIsB p_law_thing .none)) fun b1 => if b1 then
    bd (bd (bd (bd (bd (oM (truD p_law_thing)) fun b2 => .ret (!b2)) fun b3 => .ret (.bool b3)) fun x4 => .ret [x4, (.int 0), (.int 1), .none, (.str ""), (.tuple [])]) fun l5 => .ret (.list l5)) fun x6 => bd (c__law_take p_law_feed_here (.int 6)) fun r7 => bd (oM (opIx x6 r7.1)) fun x8 => .ret (x8, r7.2)
   else
    if (isT "int" p_law_thing) then
    bd (bd (bd (oM (opAdd p_law_thing (.int 1))) fun x9 => bd (oM (opSub p_law_thing (.int 1))) fun x10 => bd (oM (opSub (.int 0) p_law_thing)) fun x11 => bd (oM (opMulI (.int 2) p_law_thing)) fun x12 => bd (bd (oM (opEq p_law_thing (.int 1))) fun b13 => .ret (.bool b13)) fun x14 => bd (bd (oM (opPow (.int 10) (.int 15))) fun x15 => oM (opAdd x15 (.int 1))) fun x16 => .ret [x9, x10, x11, x12, x14, .none, (.str "1"), x16, (.tuple [p_law_thing])]) fun l17 => .ret (.list l17)) fun x18 => bd (c__law_take p_law_feed_here (.int 9)) fun r19 => bd (oM (opIx x18 r19.1)) fun x20 => .ret (x20, r19.2)
   else
    if (isT "str" p_law_thing) then
    bd (oM (opAdd (.list [(.str "sum"), (.str "rest"), (.str "split"), (.str "cases"), (.str "know"), (.str "never"), (.str "in")]) (.list [(.str "stays"), (.str "meet"), (.str "on"), (.str "end"), (.str "least"), (.str "same"), (.str "")]))) fun x21 => bd (c__law_take p_law_feed_here (.int 14)) fun r22 => bd (oM (opIx x21 r22.1)) fun x23 => .ret (x23, r22.2)
   else
    if (isT "list" p_law_thing) then
    bd (oM (fTuple [p_law_thing])) fun x24 => .ret (x24, p_law_feed_here)
   else
    bd (bd (oM (fLen [p_law_thing])) fun x25 => oM (opAdd x25 (.int 1))) fun x26 => bd (c__law_take p_law_feed_here x26) fun r27 => bd (bd (bd (bd (bd (asI r27.1) fun hi28 => oM (fCut p_law_thing none hi28)) fun x31 => bd (bd (bd (oM (opAdd r27.1 (.int 1))) fun x29 => asI x29) fun lo30 => oM (fCut p_law_thing lo30 none)) fun x32 => oM (opAdd x31 x32)) fun x33 => bd (bd (bd (asI r27.1) fun hi34 => oM (fCut p_law_thing none hi34)) fun x38 => bd (bd (bd (bd (oM (opSub r27.1 (.int 1))) fun x35 => oM (fMax [(.int 0), x35])) fun x36 => asI x36) fun lo37 => oM (fCut p_law_thing lo37 none)) fun x39 => oM (opAdd x38 x39)) fun x40 => bd (oM (fRev p_law_thing)) fun x41 => bd (bd (oM (fList [p_law_thing])) fun l42 => .ret (.list l42)) fun x43 => .ret [x33, x40, x41, x43, (.tuple [])]) fun l44 => .ret (.list l44)) fun x45 => bd (bd (bd (bd (bd (bd (asI r27.1) fun lo46 => oM (fCut p_law_thing lo46 none)) fun x48 => bd (bd (asI r27.1) fun hi47 => oM (fCut p_law_thing none hi47)) fun x49 => oM (opAdd x48 x49)) fun x50 => bd (oM (opAdd p_law_thing (.tuple [(.int 0)]))) fun x51 => .ret [x50, x51, (.tuple [p_law_thing])]) fun l52 => .ret (.list l52)) fun x53 => oM (opAdd x45 x53)) fun x54 => bd (c__law_take r27.2 (.int 8)) fun r55 => bd (oM (opIx x54 r55.1)) fun x56 => .ret (x56, r55.2)
def mf__law_odd : List D → List D → M (D × List D) := fun p_law_feed_here l => match l with
  | [p_law_thing] => c__law_odd p_law_feed_here p_law_thing
  | _ => .bad
set_option maxHeartbeats 4000000 in
theorem fn__law_odd {f : Addr} {fd : FuncData} (Fn : Fun K "_law_odd" "_law_odd" s__law_odd f fd) (B : BN mg) (Kn : KN mg) (C__law_take : CF P w K mg base "_law_take" 1 (sp1 K 2 mf__law_take)) : FnOk P w K mg base CX0 2 f fd ["_law_feed_here", "_law_thing"] (sp1 K 2 mf__law_odd) :=
  fn_ok1 (k := 1) Fn sc__law_odd (fun cdv A outer s H E hr =>
  (ass_cons (as_if (aet_pu (at_aw (aw_or (at_b (ab_is (T := "bool") (by decide) rfl B.isinstance rfl B.bool (by decide +kernel) (ao (ap_var (i := 1) rfl (by first | exact Or.inl rfl | exact Or.inr (Or.inl rfl) | exact Or.inr (Or.inr rfl)))) rfl rfl rfl) (fun _ => rfl)) (aw_or1 (at_cmp opr_isB ok_D2 (ao (ap_var (i := 1) rfl (by first | exact Or.inl rfl | exact Or.inr (Or.inl rfl) | exact Or.inr (Or.inr rfl)))) (ao ap_non) rfl)))))
    (ass_one (as_ret (ae_ix ix_seq ok_ix (ae_pu (ap_z (al_lst (aa_cons (ap_b (ab_notO (ao (ap_var (i := 1) rfl (by first | exact Or.inl rfl | exact Or.inr (Or.inl rfl) | exact Or.inr (Or.inr rfl)))))) (aa_cons ap_int (aa_cons ap_int (aa_cons ap_non (aa_cons ap_str (aa_cons (ap_tup aa_nil (by decide +kernel)) aa_nil (star_ok rfl)) (star_ok rfl)) (star_ok rfl)) (star_ok rfl)) (star_ok rfl)) (star_ok rfl)) (by decide +kernel)))) (ae_fn1 (i := 0) C__law_take (hr.mono (by decide)) rfl rfl (by first | exact Or.inl rfl | exact Or.inr (Or.inl rfl) | exact Or.inr (Or.inr rfl)) (aea_cons (ae_pu ap_int) aea_nil (star_ok rfl)) rfl (by decide) rfl rfl) (fun _ _ => rfl))))
    ass_nil)
   (ass_cons (as_if (aet_pu (at_b (ab_is (T := "int") (by decide) rfl B.isinstance rfl B.int (by decide +kernel) (ao (ap_var (i := 1) rfl (by first | exact Or.inl rfl | exact Or.inr (Or.inl rfl) | exact Or.inr (Or.inr rfl)))) rfl rfl rfl) (fun _ => rfl)))
    (ass_cons (as_to (sh := [.p, .dead, .f, .dead, .dead]) (as_set (i := 2) sc__law_odd.nd rfl (by first | exact Or.inl rfl | exact Or.inr rfl) (ae_pu (ap_z (al_lst (aa_cons (ap_bin op_addA ok_add (ao (ap_var (i := 1) rfl (by first | exact Or.inl rfl | exact Or.inr (Or.inl rfl) | exact Or.inr (Or.inr rfl)))) (ao ap_int)) (aa_cons (ap_bin op_sub ok_sub (ao (ap_var (i := 1) rfl (by first | exact Or.inl rfl | exact Or.inr (Or.inl rfl) | exact Or.inr (Or.inr rfl)))) (ao ap_int)) (aa_cons (ap_bin op_sub ok_sub (ao ap_int) (ao (ap_var (i := 1) rfl (by first | exact Or.inl rfl | exact Or.inr (Or.inl rfl) | exact Or.inr (Or.inr rfl))))) (aa_cons (ap_bin op_mul ok_mul (ao ap_int) (ao (ap_var (i := 1) rfl (by first | exact Or.inl rfl | exact Or.inr (Or.inl rfl) | exact Or.inr (Or.inr rfl))))) (aa_cons (ap_b (ab_cmp (opr_eq (room_u hr)) ok_D2 (ao (ap_var (i := 1) rfl (by first | exact Or.inl rfl | exact Or.inr (Or.inl rfl) | exact Or.inr (Or.inr rfl)))) (ao ap_int) rfl)) (aa_cons ap_non (aa_cons ap_str (aa_cons (ap_bin op_addA ok_add (ao (ap_bin op_pow ok_pow (ao ap_int) (ao ap_int))) (ao ap_int)) (aa_cons (ap_tup (aa_cons (ap_var (i := 1) rfl (by first | exact Or.inl rfl | exact Or.inr (Or.inl rfl) | exact Or.inr (Or.inr rfl))) aa_nil (star_ok rfl)) (by decide +kernel)) aa_nil (star_ok rfl)) (star_ok rfl)) (star_ok rfl)) (star_ok rfl)) (star_ok rfl)) (star_ok rfl)) (star_ok rfl)) (star_ok rfl)) (star_ok rfl)) (by decide +kernel)))) rfl (.inl rfl)))
   (ass_one (as_ret (ae_ix ix_seq ok_ix (ae_pu (ap_var (i := 2) rfl (by first | exact Or.inl rfl | exact Or.inr (Or.inl rfl) | exact Or.inr (Or.inr rfl)))) (ae_fn1 (i := 0) C__law_take (hr.mono (by decide)) rfl rfl (by first | exact Or.inl rfl | exact Or.inr (Or.inl rfl) | exact Or.inr (Or.inr rfl)) (aea_cons (ae_pu ap_int) aea_nil (star_ok rfl)) rfl (by decide) rfl rfl) (fun _ _ => rfl)))))
    ass_nil)
   (ass_cons (as_if (aet_pu (at_b (ab_is (T := "str") (by decide) rfl B.isinstance rfl B.str (by decide +kernel) (ao (ap_var (i := 1) rfl (by first | exact Or.inl rfl | exact Or.inr (Or.inl rfl) | exact Or.inr (Or.inr rfl)))) rfl rfl rfl) (fun _ => rfl)))
    (ass_cons (as_to (sh := [.p, .dead, .dead, .f, .dead]) (as_set (i := 3) sc__law_odd.nd rfl (by first | exact Or.inl rfl | exact Or.inr rfl) (ae_pu (ap_z (al_lst (aa_cons ap_str (aa_cons ap_str (aa_cons ap_str (aa_cons ap_str (aa_cons ap_str (aa_cons ap_str (aa_cons ap_str aa_nil (star_ok rfl)) (star_ok rfl)) (star_ok rfl)) (star_ok rfl)) (star_ok rfl)) (star_ok rfl)) (star_ok rfl)) (by decide +kernel)))) rfl (.inl rfl)))
   (ass_one (as_ret (ae_ix ix_seq ok_ix (ae_pu (ap_bin op_addA ok_add (ao (ap_var (i := 3) rfl (by first | exact Or.inl rfl | exact Or.inr (Or.inl rfl) | exact Or.inr (Or.inr rfl)))) (ao (ap_z (al_lst (aa_cons ap_str (aa_cons ap_str (aa_cons ap_str (aa_cons ap_str (aa_cons ap_str (aa_cons ap_str (aa_cons ap_str aa_nil (star_ok rfl)) (star_ok rfl)) (star_ok rfl)) (star_ok rfl)) (star_ok rfl)) (star_ok rfl)) (star_ok rfl)) (by decide +kernel)))))) (ae_fn1 (i := 0) C__law_take (hr.mono (by decide)) rfl rfl (by first | exact Or.inl rfl | exact Or.inr (Or.inl rfl) | exact Or.inr (Or.inr rfl)) (aea_cons (ae_pu ap_int) aea_nil (star_ok rfl)) rfl (by decide) rfl rfl) (fun _ _ => rfl)))))
    ass_nil)
   (ass_cons (as_if (aet_pu (at_b (ab_is (T := "list") (by decide) rfl B.isinstance rfl B.list (by decide +kernel) (ao (ap_var (i := 1) rfl (by first | exact Or.inl rfl | exact Or.inr (Or.inl rfl) | exact Or.inr (Or.inr rfl)))) rfl rfl rfl) (fun _ => rfl)))
    (ass_one (as_ret (ae_pu (ap_callTy call_tuple_of ok_tuple rfl B.tuple (by decide +kernel) (aao_cons (ao (ap_var (i := 1) rfl (by first | exact Or.inl rfl | exact Or.inr (Or.inl rfl) | exact Or.inr (Or.inr rfl)))) aao_nil (star_ok rfl)) (by decide) (by decide) rfl rfl))))
    ass_nil)
   (ass_cons (as_to (sh := [.p, .f, .dead, .dead, .f]) (as_set (i := 4) sc__law_odd.nd rfl (by first | exact Or.inl rfl | exact Or.inr rfl) (ae_fn1 (i := 0) C__law_take (hr.mono (by decide)) rfl rfl (by first | exact Or.inl rfl | exact Or.inr (Or.inl rfl) | exact Or.inr (Or.inr rfl)) (aea_cons (ae_pu (ap_bin op_addA ok_add (ao (ap_callB call_lenA ok_len rfl B.len PySem.boot_len (aao_cons (ao (ap_var (i := 1) rfl (by first | exact Or.inl rfl | exact Or.inr (Or.inl rfl) | exact Or.inr (Or.inr rfl)))) aao_nil (star_ok rfl)) (by decide) (by decide) rfl rfl)) (ao ap_int))) aea_nil (star_ok rfl)) rfl (by decide) rfl rfl) rfl (.inl rfl)))
   (ass_cons (as_to (sh := [.p, .f, .f, .dead, .f]) (as_set (i := 2) sc__law_odd.nd rfl (by first | exact Or.inl rfl | exact Or.inr rfl) (ae_pu (ap_z (al_lst (aa_cons (ap_bin op_addA ok_add (ao (ap_slice (ao (ap_var (i := 1) rfl (by first | exact Or.inl rfl | exact Or.inr (Or.inl rfl) | exact Or.inr (Or.inr rfl)))) apo_none (apo_some (ap_var (i := 4) rfl (by first | exact Or.inl rfl | exact Or.inr (Or.inl rfl) | exact Or.inr (Or.inr rfl)))))) (ao (ap_slice (ao (ap_var (i := 1) rfl (by first | exact Or.inl rfl | exact Or.inr (Or.inl rfl) | exact Or.inr (Or.inr rfl)))) (apo_some (ap_bin op_addA ok_add (ao (ap_var (i := 4) rfl (by first | exact Or.inl rfl | exact Or.inr (Or.inl rfl) | exact Or.inr (Or.inr rfl)))) (ao ap_int))) apo_none))) (aa_cons (ap_bin op_addA ok_add (ao (ap_slice (ao (ap_var (i := 1) rfl (by first | exact Or.inl rfl | exact Or.inr (Or.inl rfl) | exact Or.inr (Or.inr rfl)))) apo_none (apo_some (ap_var (i := 4) rfl (by first | exact Or.inl rfl | exact Or.inr (Or.inl rfl) | exact Or.inr (Or.inr rfl)))))) (ao (ap_slice (ao (ap_var (i := 1) rfl (by first | exact Or.inl rfl | exact Or.inr (Or.inl rfl) | exact Or.inr (Or.inr rfl)))) (apo_some (ap_callB ((call_maxL rfl).or (call_max2 rfl)) ok_max rfl B.max (by decide +kernel) (aao_cons (ao ap_int) (aao_cons (ao (ap_bin op_sub ok_sub (ao (ap_var (i := 4) rfl (by first | exact Or.inl rfl | exact Or.inr (Or.inl rfl) | exact Or.inr (Or.inr rfl)))) (ao ap_int))) aao_nil (star_ok rfl)) (star_ok rfl)) (by decide) (by decide) rfl rfl)) apo_none))) (aa_cons (ap_rev (ao (ap_var (i := 1) rfl (by first | exact Or.inl rfl | exact Or.inr (Or.inl rfl) | exact Or.inr (Or.inr rfl)))) (pe_un un_neg pe_int)) (aa_cons (ap_z (al_callTy call_list_of ok_list rfl B.list (by decide +kernel) (aao_cons (ao (ap_var (i := 1) rfl (by first | exact Or.inl rfl | exact Or.inr (Or.inl rfl) | exact Or.inr (Or.inr rfl)))) aao_nil (star_ok rfl)) (by decide) (by decide) rfl rfl)) (aa_cons (ap_tup aa_nil (by decide +kernel)) aa_nil (star_ok rfl)) (star_ok rfl)) (star_ok rfl)) (star_ok rfl)) (star_ok rfl)) (by decide +kernel)))) rfl (.inl rfl)))
   (ass_one (as_ret (ae_ix ix_seq ok_ix (ae_pu (ap_bin op_addA ok_add (ao (ap_var (i := 2) rfl (by first | exact Or.inl rfl | exact Or.inr (Or.inl rfl) | exact Or.inr (Or.inr rfl)))) (ao (ap_z (al_lst (aa_cons (ap_bin op_addA ok_add (ao (ap_slice (ao (ap_var (i := 1) rfl (by first | exact Or.inl rfl | exact Or.inr (Or.inl rfl) | exact Or.inr (Or.inr rfl)))) (apo_some (ap_var (i := 4) rfl (by first | exact Or.inl rfl | exact Or.inr (Or.inl rfl) | exact Or.inr (Or.inr rfl)))) apo_none)) (ao (ap_slice (ao (ap_var (i := 1) rfl (by first | exact Or.inl rfl | exact Or.inr (Or.inl rfl) | exact Or.inr (Or.inr rfl)))) apo_none (apo_some (ap_var (i := 4) rfl (by first | exact Or.inl rfl | exact Or.inr (Or.inl rfl) | exact Or.inr (Or.inr rfl))))))) (aa_cons (ap_bin op_addA ok_add (ao (ap_var (i := 1) rfl (by first | exact Or.inl rfl | exact Or.inr (Or.inl rfl) | exact Or.inr (Or.inr rfl)))) (ao (ap_tup (aa_cons ap_int aa_nil (star_ok rfl)) (by decide +kernel)))) (aa_cons (ap_tup (aa_cons (ap_var (i := 1) rfl (by first | exact Or.inl rfl | exact Or.inr (Or.inl rfl) | exact Or.inr (Or.inr rfl))) aa_nil (star_ok rfl)) (by decide +kernel)) aa_nil (star_ok rfl)) (star_ok rfl)) (star_ok rfl)) (by decide +kernel)))))) (ae_fn1 (i := 0) C__law_take (hr.mono (by decide)) rfl rfl (by first | exact Or.inl rfl | exact Or.inr (Or.inl rfl) | exact Or.inr (Or.inr rfl)) (aea_cons (ae_pu ap_int) aea_nil (star_ok rfl)) rfl (by decide) rfl rfl) (fun _ _ => rfl)))))))))))
  (fun g ds hl => match ds, hl with | [p_law_thing], _ => by kernel_rfl)
theorem ok__law_odd {f : Addr} {fd : FuncData} (Fn : Fun K "_law_odd" "_law_odd" s__law_odd f fd) (hmg : mg "_law_odd" = some (.ref f)) (B : BN mg) (Kn : KN mg) (C__law_take : CF P w K mg base "_law_take" 1 (sp1 K 2 mf__law_take)) : CF P w K mg base "_law_odd" 2 (sp1 K 2 mf__law_odd) :=
  ⟨f, fd, ["_law_feed_here", "_law_thing"], fn__law_odd Fn B Kn C__law_take, hmg, Fn.kp, (Fn.binds fun _ _ _ _ _ _ us hl => match us, hl with | [_, _], _ => rfl)⟩
abbrev s__law_bent : Stmt := top 22
abbrev N__law_bent : List Str := ["_law_feed_here", "_law_thing", "_law_deep", "_law_at"]
theorem sc__law_bent : FnScope N__law_bent ["_law_feed_here", "_law_thing", "_law_deep"] (defScope s__law_bent) := ⟨rfl, rfl, rfl, by decide +kernel, rfl, by decide +kernel, by decide +kernel⟩
def c__law_bent_b (self : List D → D → D → M (D × List D)) (p_law_feed_here : List D) (p_law_thing : D) (p_law_deep : D) : M (D × List D) :=
  if (!(isT "tuple" p_law_thing)) then bd (c__law_odd p_law_feed_here p_law_thing) fun r20 => .ret (r20.1, r20.2) else bd (oM (opEq p_law_thing (.tuple []))) fun b1 => if b1 then bd (c__law_odd p_law_feed_here p_law_thing) fun r19 => .ret (r19.1, r19.2) else bd (oM (opEq p_law_deep (.int 0))) fun b2 => if b2 then bd (c__law_odd p_law_feed_here p_law_thing) fun r18 => .ret (r18.1, r18.2) else bd (c__law_take p_law_feed_here (.int 7)) fun r3 => bd (oM (opEq r3.1 (.int 0))) fun b4 => if b4 then
    bd (c__law_odd r3.2 p_law_thing) fun r5 => .ret (r5.1, r5.2)
   else
    bd (oM (fLen [p_law_thing])) fun x6 => bd (c__law_take r3.2 x6) fun r7 => bd (bd (asI r7.1) fun hi8 => oM (fCut p_law_thing none hi8)) fun x9 => bd (oM (opIx p_law_thing r7.1)) fun x10 => bd (oM (opSub p_law_deep (.int 1))) fun x11 => bd (self r7.2 x10 x11) fun r12 => bd (oM (opAdd x9 (.tuple [r12.1]))) fun x13 => bd (bd (bd (oM (opAdd r7.1 (.int 1))) fun x14 => asI x14) fun lo15 => oM (fCut p_law_thing lo15 none)) fun x16 => bd (oM (opAdd x13 x16)) fun x17 => .ret (x17, r12.2)
def c__law_bent : Nat → List D → D → D → M (D × List D)
  | 0 => fun _ _ _ => .bad
  | i + 1 => c__law_bent_b (c__law_bent i)
def mf__law_bent (i : Nat) : List D → List D → M (D × List D) := fun p_law_feed_here l => match l with
  | [p_law_thing, p_law_deep] => c__law_bent i p_law_feed_here p_law_thing p_law_deep
  | _ => .bad
set_option maxHeartbeats 4000000 in
theorem fn__law_bent {f : Addr} {fd : FuncData} (Fn : Fun K "_law_bent" "_law_bent" s__law_bent f fd) (B : BN mg) (Kn : KN mg) (C__law_take : CF P w K mg base "_law_take" 1 (sp1 K 2 mf__law_take)) (C__law_odd : CF P w K mg base "_law_odd" 2 (sp1 K 2 mf__law_odd)) (i : Nat) (Cself : CF P w K mg base "_law_bent" (3 + i) (sp1 K 3 (mf__law_bent i))) : FnOk P w K mg base CX0 (3 + i + 1) f fd ["_law_feed_here", "_law_thing", "_law_deep"] (sp1 K 3 (mf__law_bent (i + 1))) :=
  fn_ok1 (k := 3 + i) Fn sc__law_bent (fun cdv A outer s H E hr =>
  (ass_cons (as_if (aet_aw (aew_or (aet_pu (at_not (at_b (ab_is (T := "tuple") (by decide) rfl B.isinstance rfl B.tuple (by decide +kernel) (ao (ap_var (i := 1) rfl (by first | exact Or.inl rfl | exact Or.inr (Or.inl rfl) | exact Or.inr (Or.inr rfl)))) rfl rfl rfl) (fun _ => rfl)))) (aew_or (aet_pu (at_cmp (opr_eq (room_u hr)) ok_D2 (ao (ap_var (i := 1) rfl (by first | exact Or.inl rfl | exact Or.inr (Or.inl rfl) | exact Or.inr (Or.inr rfl)))) (ao (ap_tup aa_nil (by decide +kernel))) rfl)) (aew_or (aet_pu (at_cmp (opr_eq (room_u hr)) ok_D2 (ao (ap_var (i := 2) rfl (by first | exact Or.inl rfl | exact Or.inr (Or.inl rfl) | exact Or.inr (Or.inr rfl)))) (ao ap_int) rfl)) (aew_or1 (aet_cmp (opr_eq (room_u hr)) ok_D2 (ae_fn1 (i := 0) C__law_take (hr.mono (by omega)) rfl rfl (by first | exact Or.inl rfl | exact Or.inr (Or.inl rfl) | exact Or.inr (Or.inr rfl)) (aea_cons (ae_pu ap_int) aea_nil (star_ok rfl)) rfl (by decide) rfl rfl) (ae_pu ap_int) rfl))))))
    (ass_one (as_ret (ae_fn1 (i := 0) C__law_odd (hr.mono (by omega)) rfl rfl (by first | exact Or.inl rfl | exact Or.inr (Or.inl rfl) | exact Or.inr (Or.inr rfl)) (aea_cons (ae_pu (ap_var (i := 1) rfl (by first | exact Or.inl rfl | exact Or.inr (Or.inl rfl) | exact Or.inr (Or.inr rfl)))) aea_nil (star_ok rfl)) rfl (by decide) rfl rfl)))
    ass_nil)
   (ass_cons (as_to (sh := [.p, .f, .f, .f]) (as_set (i := 3) sc__law_bent.nd rfl (by first | exact Or.inl rfl | exact Or.inr rfl) (ae_fn1 (i := 0) C__law_take (hr.mono (by omega)) rfl rfl (by first | exact Or.inl rfl | exact Or.inr (Or.inl rfl) | exact Or.inr (Or.inr rfl)) (aea_cons (ae_pu (ap_callB call_lenA ok_len rfl B.len PySem.boot_len (aao_cons (ao (ap_var (i := 1) rfl (by first | exact Or.inl rfl | exact Or.inr (Or.inl rfl) | exact Or.inr (Or.inr rfl)))) aao_nil (star_ok rfl)) (by decide) (by decide) rfl rfl)) aea_nil (star_ok rfl)) rfl (by decide) rfl rfl) rfl (.inl rfl)))
   (ass_one (as_ret (ae_bin op_addA ok_add (ae_bin op_addA ok_add (ae_pu (ap_slice (ao (ap_var (i := 1) rfl (by first | exact Or.inl rfl | exact Or.inr (Or.inl rfl) | exact Or.inr (Or.inr rfl)))) apo_none (apo_some (ap_var (i := 3) rfl (by first | exact Or.inl rfl | exact Or.inr (Or.inl rfl) | exact Or.inr (Or.inr rfl)))))) (ae_tup (aea_cons (ae_fn1 (i := 0) Cself (hr.mono (by omega)) rfl rfl (by first | exact Or.inl rfl | exact Or.inr (Or.inl rfl) | exact Or.inr (Or.inr rfl)) (aea_cons (ae_pu (ap_ix ix_seq ok_ix (ao (ap_var (i := 1) rfl (by first | exact Or.inl rfl | exact Or.inr (Or.inl rfl) | exact Or.inr (Or.inr rfl)))) (ao (ap_var (i := 3) rfl (by first | exact Or.inl rfl | exact Or.inr (Or.inl rfl) | exact Or.inr (Or.inr rfl)))) (fun _ _ => rfl))) (aea_cons (ae_pu (ap_bin op_sub ok_sub (ao (ap_var (i := 2) rfl (by first | exact Or.inl rfl | exact Or.inr (Or.inl rfl) | exact Or.inr (Or.inr rfl)))) (ao ap_int))) aea_nil (star_ok rfl)) (star_ok rfl)) rfl (by decide) rfl rfl) aea_nil (star_ok rfl)) (by decide +kernel))) (ae_pu (ap_slice (ao (ap_var (i := 1) rfl (by first | exact Or.inl rfl | exact Or.inr (Or.inl rfl) | exact Or.inr (Or.inr rfl)))) (apo_some (ap_bin op_addA ok_add (ao (ap_var (i := 3) rfl (by first | exact Or.inl rfl | exact Or.inr (Or.inl rfl) | exact Or.inr (Or.inr rfl)))) (ao ap_int))) apo_none))))))))
  (fun g ds hl => match ds, hl with | [p_law_thing, p_law_deep], _ => by kernel_rfl)
theorem ok__law_bent {f : Addr} {fd : FuncData} (Fn : Fun K "_law_bent" "_law_bent" s__law_bent f fd) (hmg : mg "_law_bent" = some (.ref f)) (B : BN mg) (Kn : KN mg) (C__law_take : CF P w K mg base "_law_take" 1 (sp1 K 2 mf__law_take)) (C__law_odd : CF P w K mg base "_law_odd" 2 (sp1 K 2 mf__law_odd)) (i : Nat) : CF P w K mg base "_law_bent" (3 + i) (sp1 K 3 (mf__law_bent i)) := by
  induction i with
  | zero =>
    have e : mf__law_bent 0 = fun _ _ => .bad := by
      funext g l; unfold mf__law_bent; split <;> rfl
    rw [e]
    exact CF.zero1 (ps := ["_law_feed_here", "_law_thing", "_law_deep"]) _ _ hmg Fn.kp (Fn.binds fun _ _ _ _ _ _ us hl => match us, hl with | [_, _, _], _ => rfl)
  | succ i ih => exact ⟨f, fd, ["_law_feed_here", "_law_thing", "_law_deep"], fn__law_bent Fn B Kn C__law_take C__law_odd i ih, hmg, Fn.kp, (Fn.binds fun _ _ _ _ _ _ us hl => match us, hl with | [_, _, _], _ => rfl)⟩
abbrev s__law_right : Stmt := top 23
abbrev N__law_right : List Str := ["_law_sizes", "_law_thing", "_law_stood", "_law_told", "_law_due"]
theorem sc__law_right : FnScope N__law_right ["_law_sizes", "_law_thing"] (defScope s__law_right) := ⟨rfl, rfl, rfl, by decide +kernel, rfl, by decide +kernel, by decide +kernel⟩
def c__law_right (p_law_sizes : D) (p_law_thing : D) : M D :=
  bd (oM (fRepr [p_law_thing])) fun x1 => bd (bd (bd (oM (opIx p_law_sizes (.int 0))) fun x2 => bd (oM (opIx p_law_sizes (.int 1))) fun x3 => c_is_form x2 x3 p_law_thing) fun x4 => bd (bd (oM (opIx p_law_sizes (.int 0))) fun x5 => bd (oM (opIx p_law_sizes (.int 1))) fun x6 => c_is_fact x5 x6 p_law_thing) fun x7 => .ret (.tuple [x4, x7])) fun x8 => bd (bd (c__law_is_form p_law_sizes p_law_thing) fun x9 => bd (c__law_is_fact p_law_sizes p_law_thing) fun x10 => .ret (.tuple [x9, x10])) fun x11 => bd (bd (bd (bd (oM (fRepr [x8])) fun x12 => bd (oM (fRepr [x11])) fun x13 => oM (opEq x12 x13)) fun b15 => if b15 then bd (oM (fRepr [p_law_thing])) fun x14 => oM (opEq x14 x1) else .ret false) fun b16 => .ret (.bool b16)) fun x17 => .ret x17
def mf__law_right : List D → M D := fun l => match l with
  | [p_law_sizes, p_law_thing] => c__law_right p_law_sizes p_law_thing
  | _ => .bad
set_option maxHeartbeats 4000000 in
theorem fn__law_right {f : Addr} {fd : FuncData} (Fn : Fun K "_law_right" "_law_right" s__law_right f fd) (B : BN mg) (Kn : KN mg) (C_is_form : CF P w K mg base "is_form" 5 (spD K 3 mf_is_form)) (C_is_fact : CF P w K mg base "is_fact" 6 (spD K 3 mf_is_fact)) (C__law_is_form : CF P w K mg base "_law_is_form" 3 (spD K 2 mf__law_is_form)) (C__law_is_fact : CF P w K mg base "_law_is_fact" 4 (spD K 2 mf__law_is_fact)) : FnOk P w K mg base CX0 7 f fd ["_law_sizes", "_law_thing"] (spD K 2 mf__law_right) :=
  fn_okD (k := 6) Fn sc__law_right (fun cdv A outer s H E hr =>
  (ass_cons (as_to (sh := [.f, .f, .f, .dead, .dead]) (as_set (i := 2) sc__law_right.nd rfl (by first | exact Or.inl rfl | exact Or.inr rfl) (ae_pu (ap_callB (call_repr (room_u hr) hr.gd) ok_repr rfl B.repr (by decide +kernel) (aao_cons (ao (ap_var (i := 1) rfl (by first | exact Or.inl rfl | exact Or.inr (Or.inl rfl) | exact Or.inr (Or.inr rfl)))) aao_nil (star_ok rfl)) (by decide) (by decide) rfl rfl)) rfl (.inl rfl)))
   (ass_cons (as_to (sh := [.f, .f, .f, .f, .dead]) (as_set (i := 3) sc__law_right.nd rfl (by first | exact Or.inl rfl | exact Or.inr rfl) (ae_pu (ap_tup (aa_cons (ap_fn C_is_form (hr.mono (by decide)) rfl (aa_cons (ap_ix ix_seq ok_ix (ao (ap_var (i := 0) rfl (by first | exact Or.inl rfl | exact Or.inr (Or.inl rfl) | exact Or.inr (Or.inr rfl)))) (ao ap_int) (fun _ _ => rfl)) (aa_cons (ap_ix ix_seq ok_ix (ao (ap_var (i := 0) rfl (by first | exact Or.inl rfl | exact Or.inr (Or.inl rfl) | exact Or.inr (Or.inr rfl)))) (ao ap_int) (fun _ _ => rfl)) (aa_cons (ap_var (i := 1) rfl (by first | exact Or.inl rfl | exact Or.inr (Or.inl rfl) | exact Or.inr (Or.inr rfl))) aa_nil (star_ok rfl)) (star_ok rfl)) (star_ok rfl)) rfl (by decide) rfl rfl) (aa_cons (ap_fn C_is_fact (hr.mono (by decide)) rfl (aa_cons (ap_ix ix_seq ok_ix (ao (ap_var (i := 0) rfl (by first | exact Or.inl rfl | exact Or.inr (Or.inl rfl) | exact Or.inr (Or.inr rfl)))) (ao ap_int) (fun _ _ => rfl)) (aa_cons (ap_ix ix_seq ok_ix (ao (ap_var (i := 0) rfl (by first | exact Or.inl rfl | exact Or.inr (Or.inl rfl) | exact Or.inr (Or.inr rfl)))) (ao ap_int) (fun _ _ => rfl)) (aa_cons (ap_var (i := 1) rfl (by first | exact Or.inl rfl | exact Or.inr (Or.inl rfl) | exact Or.inr (Or.inr rfl))) aa_nil (star_ok rfl)) (star_ok rfl)) (star_ok rfl)) rfl (by decide) rfl rfl) aa_nil (star_ok rfl)) (star_ok rfl)) (by decide +kernel))) rfl (.inl rfl)))
   (ass_cons (as_to (sh := [.dead, .f, .f, .f, .f]) (as_set (i := 4) sc__law_right.nd rfl (by first | exact Or.inl rfl | exact Or.inr rfl) (ae_pu (ap_tup (aa_cons (ap_fn C__law_is_form (hr.mono (by decide)) rfl (aa_cons (ap_var (i := 0) rfl (by first | exact Or.inl rfl | exact Or.inr (Or.inl rfl) | exact Or.inr (Or.inr rfl))) (aa_cons (ap_var (i := 1) rfl (by first | exact Or.inl rfl | exact Or.inr (Or.inl rfl) | exact Or.inr (Or.inr rfl))) aa_nil (star_ok rfl)) (star_ok rfl)) rfl (by decide) rfl rfl) (aa_cons (ap_fn C__law_is_fact (hr.mono (by decide)) rfl (aa_cons (ap_var (i := 0) rfl (by first | exact Or.inl rfl | exact Or.inr (Or.inl rfl) | exact Or.inr (Or.inr rfl))) (aa_cons (ap_var (i := 1) rfl (by first | exact Or.inl rfl | exact Or.inr (Or.inl rfl) | exact Or.inr (Or.inr rfl))) aa_nil (star_ok rfl)) (star_ok rfl)) rfl (by decide) rfl rfl) aa_nil (star_ok rfl)) (star_ok rfl)) (by decide +kernel))) rfl (.inl rfl)))
   (ass_one (as_ret (ae_pu (ap_b (ab_and (ab_cmp (opr_eq (room_u hr)) ok_D2 (ao (ap_callB (call_repr (room_u hr) hr.gd) ok_repr rfl B.repr (by decide +kernel) (aao_cons (ao (ap_var (i := 3) rfl (by first | exact Or.inl rfl | exact Or.inr (Or.inl rfl) | exact Or.inr (Or.inr rfl)))) aao_nil (star_ok rfl)) (by decide) (by decide) rfl rfl)) (ao (ap_callB (call_repr (room_u hr) hr.gd) ok_repr rfl B.repr (by decide +kernel) (aao_cons (ao (ap_var (i := 4) rfl (by first | exact Or.inl rfl | exact Or.inr (Or.inl rfl) | exact Or.inr (Or.inr rfl)))) aao_nil (star_ok rfl)) (by decide) (by decide) rfl rfl)) rfl) (ab_one (ab_cmp (opr_eq (room_u hr)) ok_D2 (ao (ap_callB (call_repr (room_u hr) hr.gd) ok_repr rfl B.repr (by decide +kernel) (aao_cons (ao (ap_var (i := 1) rfl (by first | exact Or.inl rfl | exact Or.inr (Or.inl rfl) | exact Or.inr (Or.inr rfl)))) aao_nil (star_ok rfl)) (by decide) (by decide) rfl rfl)) (ao (ap_var (i := 2) rfl (by first | exact Or.inl rfl | exact Or.inr (Or.inl rfl) | exact Or.inr (Or.inr rfl)))) rfl)))))))))))
  (fun ds hl => match ds, hl with | [p_law_sizes, p_law_thing], _ => by kernel_rfl)
theorem ok__law_right {f : Addr} {fd : FuncData} (Fn : Fun K "_law_right" "_law_right" s__law_right f fd) (hmg : mg "_law_right" = some (.ref f)) (B : BN mg) (Kn : KN mg) (C_is_form : CF P w K mg base "is_form" 5 (spD K 3 mf_is_form)) (C_is_fact : CF P w K mg base "is_fact" 6 (spD K 3 mf_is_fact)) (C__law_is_form : CF P w K mg base "_law_is_form" 3 (spD K 2 mf__law_is_form)) (C__law_is_fact : CF P w K mg base "_law_is_fact" 4 (spD K 2 mf__law_is_fact)) : CF P w K mg base "_law_right" 7 (spD K 2 mf__law_right) :=
  ⟨f, fd, ["_law_sizes", "_law_thing"], fn__law_right Fn B Kn C_is_form C_is_fact C__law_is_form C__law_is_fact, hmg, Fn.kp, (Fn.binds fun _ _ _ _ _ _ us hl => match us, hl with | [_, _], _ => rfl)⟩
abbrev s_law : Stmt := top 24
abbrev N_law : List Str := ["_law_script", "_law_k", "_law_feed_here", "_law_sizes", "_law_form_here", "_law_fact_here", "_law_others", "_law_thing", "_law_other", "_law_wide", "_law_some"]
theorem sc_law : FnScope N_law ["_law_script"] (defScope s_law) := ⟨rfl, rfl, rfl, by decide +kernel, rfl, by decide +kernel, by decide +kernel⟩
def c_law_r2 (v_law_script : D) : M D :=
  .ret (.bool true)
def c_law_r6 (kn2 : D × Unit → M D) (v_law_script : D) (v_law_sizes : D) : M D :=
  kn2 (v_law_script, ())
def c_law_s5 (kn2 : D × Unit → M D) (v_law_script : D) (v_law_sizes : D) (d_ : D) (kn45 : D × D × Unit → M D) : M D :=
  bd (bd (bd (c__law_right v_law_sizes d_) fun x46 => oM (truD x46)) fun b47 => .ret (!b47)) fun b48 => if b48 then
    .ret (.bool false)
   else
    kn45 (v_law_script, v_law_sizes, ())
def c_law_r4 (kn2 : D × Unit → M D) (v_law_script : D) (v_law_feed_here : List D) (v_law_sizes : D) (v_law_form_here : D) (v_law_others : D) : M D :=
  bd (bd (bd (oM (opAdd (.list [(.tuple [(.str "rest"), v_law_form_here, (.int 1)]), (.tuple [(.str "rest"), v_law_form_here, (.int 2)]), (.tuple [(.str "rest"), v_law_form_here, (.int 99)]), (.tuple [(.str "rest"), v_law_form_here, (.int 100)]), (.tuple [(.str "rest"), v_law_form_here, (.bool true)])]) (.list [(.tuple [(.str "least"), v_law_form_here, (.int 2)]), (.tuple [(.str "same"), v_law_form_here]), (.tuple [(.str "least")]), (.tuple [(.str "rest"), v_law_form_here]), (.list [(.str "least"), v_law_form_here]), (.tuple [(.str "most"), v_law_form_here])]))) fun x41 => bd (bd (bd (oM (opAdd v_law_form_here (.tuple [(.int 0)]))) fun x37 => bd (bd (oM (fList [v_law_form_here])) fun l38 => .ret (.list l38)) fun x39 => .ret [.none, (.bool true), (.int 0), (.str ""), (.tuple []), (.list []), (.tuple [(.tuple []), (.tuple []), (.tuple [])]), (.tuple [(.int 0), (.tuple []), (.tuple [])]), x37, x39]) fun l40 => .ret (.list l40)) fun x42 => oM (opAdd x41 x42)) fun x43 => oM (seqD x43)) fun l44 => forS (fun s49 d50 kn => c_law_s5 kn2 s49.1 s49.2.1 d50 kn) l44 (v_law_script, v_law_sizes, ()) (fun s49 => c_law_r6 kn2 s49.1 s49.2.1)
def c_law_r8 (kn2 : D × Unit → M D) (kn51 : D × List D × D × D × D × Unit → M D) (v_law_script : D) (v_law_feed_here : List D) (v_law_sizes : D) (v_law_form_here : D) (v_law_others : D) (v_law_thing : D) : M D :=
  bd (c__law_bent 4 v_law_feed_here v_law_thing (.int 3)) fun r54 => bd (c__law_right v_law_sizes r54.1) fun r55 => bd (asB r55) fun b56 => if (!b56) then
    .ret (.bool false)
   else
    kn51 (v_law_script, r54.2, v_law_sizes, v_law_form_here, v_law_others, ())
def c_law_s7 (kn2 : D × Unit → M D) (kn51 : D × List D × D × D × D × Unit → M D) (v_law_script : D) (v_law_feed_here : List D) (v_law_sizes : D) (v_law_form_here : D) (v_law_others : D) (v_law_thing : D) (d_ : D) (kn57 : D × List D × D × D × D × D × Unit → M D) : M D :=
  bd (bd (bd (c__law_right d_ v_law_thing) fun x58 => oM (truD x58)) fun b59 => .ret (!b59)) fun b60 => if b60 then
    .ret (.bool false)
   else
    kn57 (v_law_script, v_law_feed_here, v_law_sizes, v_law_form_here, v_law_others, v_law_thing, ())
def c_law_s3 (kn2 : D × Unit → M D) (v_law_script : D) (v_law_feed_here : List D) (v_law_sizes : D) (v_law_form_here : D) (v_law_others : D) (d_ : D) (kn51 : D × List D × D × D × D × Unit → M D) : M D :=
  bd (bd (oM (opAdd (.list [v_law_sizes]) v_law_others)) fun x52 => oM (seqD x52)) fun l53 => forS (fun s61 d62 kn => c_law_s7 kn2 kn51 s61.1 s61.2.1 s61.2.2.1 s61.2.2.2.1 s61.2.2.2.2.1 s61.2.2.2.2.2.1 d62 kn) l53 (v_law_script, v_law_feed_here, v_law_sizes, v_law_form_here, v_law_others, d_, ()) (fun s61 => c_law_r8 kn2 kn51 s61.1 s61.2.1 s61.2.2.1 s61.2.2.2.1 s61.2.2.2.2.1 s61.2.2.2.2.2.1)
def c_law_s1 (v_law_script : D) (d_ : D) (kn2 : D × Unit → M D) : M D :=
  bd (c__law_feed v_law_script d_) fun l3 => bd (c__law_take l3 (.int 6)) fun r4 => bd (oM (opAdd (.int 1) r4.1)) fun x5 => bd (c__law_take r4.2 (.int 4)) fun r6 => bd (oM (opAdd (.int 1) r6.1)) fun x7 => bd (c__law_form r6.2 (.tuple [x5, x7])) fun r8 => bd (c__law_fact r8.2 (.tuple [x5, x7])) fun r9 => bd (bd (bd (bd (oM (opIx (.tuple [x5, x7]) (.int 0))) fun x10 => bd (oM (opIx (.tuple [x5, x7]) (.int 1))) fun x11 => c_is_form x10 x11 r8.1) fun x12 => oM (opNotB x12 (.bool true))) fun b16 => if b16 then .ret true else bd (bd (oM (opIx (.tuple [x5, x7]) (.int 0))) fun x13 => bd (oM (opIx (.tuple [x5, x7]) (.int 1))) fun x14 => c_is_fact x13 x14 r9.1) fun x15 => oM (opNotB x15 (.bool true))) fun b17 => if b17 then
    .ret (.bool false)
   else
    bd (bd (bd (bd (bd (oM (opIx (.tuple [x5, x7]) (.int 0))) fun x18 => oM (opAdd x18 (.int 1))) fun x19 => bd (oM (opIx (.tuple [x5, x7]) (.int 1))) fun x20 => .ret (.tuple [x19, x20])) fun x21 => bd (bd (oM (opIx (.tuple [x5, x7]) (.int 0))) fun x22 => bd (bd (bd (oM (opIx (.tuple [x5, x7]) (.int 1))) fun x23 => oM (opMod x23 (.int 4))) fun x24 => oM (opAdd x24 (.int 1))) fun x25 => .ret (.tuple [x22, x25])) fun x26 => bd (bd (oM (opIx (.tuple [x5, x7]) (.int 1))) fun x27 => bd (bd (bd (oM (opIx (.tuple [x5, x7]) (.int 0))) fun x28 => oM (opMod x28 (.int 4))) fun x29 => oM (opAdd x29 (.int 1))) fun x30 => .ret (.tuple [x27, x30])) fun x31 => .ret [x21, x26, x31]) fun l32 => .ret (.list l32)) fun x33 => bd (c__law_bent 4 r9.2 r8.1 (.int 3)) fun r34 => bd (c__law_bent 4 r34.2 r9.1 (.int 3)) fun r35 => bd (oM (seqD (.tuple [r8.1, r9.1, r34.1, r35.1]))) fun l36 => forS (fun s63 d64 kn => c_law_s3 kn2 s63.1 s63.2.1 s63.2.2.1 s63.2.2.2.1 s63.2.2.2.2.1 d64 kn) l36 (v_law_script, r35.2, (.tuple [x5, x7]), r8.1, x33, ()) (fun s63 => c_law_r4 kn2 s63.1 s63.2.1 s63.2.2.1 s63.2.2.2.1 s63.2.2.2.2.1)
def c_law (p_law_script : D) : M D :=
  bd (oM (fRange1 [(.int 16)])) fun l1 => forS (fun s65 d66 kn => c_law_s1 s65.1 d66 kn) l1 (p_law_script, ()) (fun s65 => c_law_r2 s65.1)
def mf_law : List D → M D := fun l => match l with
  | [p_law_script] => c_law p_law_script
  | _ => .bad
set_option maxHeartbeats 4000000 in
theorem fn_law {f : Addr} {fd : FuncData} (Fn : Fun K "law" "law" s_law f fd) (B : BN mg) (Kn : KN mg) (C__law_feed : CF P w K mg base "_law_feed" 1 (spL K 2 mf__law_feed)) (C__law_form : CF P w K mg base "_law_form" 2 (sp1 K 2 mf__law_form)) (C__law_fact : CF P w K mg base "_law_fact" 3 (sp1 K 2 mf__law_fact)) (C__law_bent : CF P w K mg base "_law_bent" 7 (sp1 K 3 (mf__law_bent 4))) (C__law_take : CF P w K mg base "_law_take" 1 (sp1 K 2 mf__law_take)) (C_is_form : CF P w K mg base "is_form" 5 (spD K 3 mf_is_form)) (C_is_fact : CF P w K mg base "is_fact" 6 (spD K 3 mf_is_fact)) (C__law_right : CF P w K mg base "_law_right" 7 (spD K 2 mf__law_right)) : FnOk P w K mg base CX0 8 f fd ["_law_script"] (spD K 1 mf_law) :=
  fn_okD (k := 7) Fn sc_law (fun cdv A outer s H E hr =>
  (ass_cons (as_forS (sh := [.f, .dead, .dead, .dead, .dead, .dead, .dead, .dead, .dead, .dead, .dead]) PassesOwn.never rfl (aei_pu (ai_range1 rfl B.range (aa_cons ap_int aa_nil (star_ok rfl)) rfl)) (ag_name (i := 1) (Nat.zero_le _) sc_law.nd rfl (by first | exact Or.inl rfl | exact Or.inr rfl) (.inl rfl))
    (ass_cons (as_to (sh := [.f, .dead, .o, .dead, .dead, .dead, .dead, .dead, .dead, .dead, .dead]) (as_setL (i := 2) sc_law.nd rfl (by first | exact Or.inl rfl | exact Or.inr rfl) (ael_pu (al_fn C__law_feed (hr.mono (by decide)) rfl (aa_cons (ap_var (i := 0) rfl (by first | exact Or.inl rfl | exact Or.inr (Or.inl rfl) | exact Or.inr (Or.inr rfl))) (aa_cons (ap_var (i := 1) rfl (by first | exact Or.inl rfl | exact Or.inr (Or.inl rfl) | exact Or.inr (Or.inr rfl))) aa_nil (star_ok rfl)) (star_ok rfl)) rfl (by decide) rfl rfl)) rfl (.inl rfl)))
   (ass_cons (as_to (sh := [.f, .dead, .o, .f, .dead, .dead, .dead, .dead, .dead, .dead, .dead]) (as_set (i := 3) sc_law.nd rfl (by first | exact Or.inl rfl | exact Or.inr rfl) (ae_tup (aea_cons (ae_bin op_addA ok_add (ae_pu ap_int) (ae_fn1 (i := 2) C__law_take (hr.mono (by decide)) rfl rfl (by first | exact Or.inl rfl | exact Or.inr (Or.inl rfl) | exact Or.inr (Or.inr rfl)) (aea_cons (ae_pu ap_int) aea_nil (star_ok rfl)) rfl (by decide) rfl rfl)) (aea_cons (ae_bin op_addA ok_add (ae_pu ap_int) (ae_fn1 (i := 2) C__law_take (hr.mono (by decide)) rfl rfl (by first | exact Or.inl rfl | exact Or.inr (Or.inl rfl) | exact Or.inr (Or.inr rfl)) (aea_cons (ae_pu ap_int) aea_nil (star_ok rfl)) rfl (by decide) rfl rfl)) aea_nil (star_ok rfl)) (star_ok rfl)) (by decide +kernel)) rfl (.inl rfl)))
   (ass_cons (as_to (sh := [.f, .dead, .o, .f, .f, .dead, .dead, .dead, .dead, .dead, .dead]) (as_set (i := 4) sc_law.nd rfl (by first | exact Or.inl rfl | exact Or.inr rfl) (ae_fn1 (i := 2) C__law_form (hr.mono (by decide)) rfl rfl (by first | exact Or.inl rfl | exact Or.inr (Or.inl rfl) | exact Or.inr (Or.inr rfl)) (aea_cons (ae_pu (ap_var (i := 3) rfl (by first | exact Or.inl rfl | exact Or.inr (Or.inl rfl) | exact Or.inr (Or.inr rfl)))) aea_nil (star_ok rfl)) rfl (by decide) rfl rfl) rfl (.inl rfl)))
   (ass_cons (as_to (sh := [.f, .dead, .o, .f, .f, .f, .dead, .dead, .dead, .dead, .dead]) (as_set (i := 5) sc_law.nd rfl (by first | exact Or.inl rfl | exact Or.inr rfl) (ae_fn1 (i := 2) C__law_fact (hr.mono (by decide)) rfl rfl (by first | exact Or.inl rfl | exact Or.inr (Or.inl rfl) | exact Or.inr (Or.inr rfl)) (aea_cons (ae_pu (ap_var (i := 3) rfl (by first | exact Or.inl rfl | exact Or.inr (Or.inl rfl) | exact Or.inr (Or.inr rfl)))) aea_nil (star_ok rfl)) rfl (by decide) rfl rfl) rfl (.inl rfl)))
   (ass_cons (as_if (aet_pu (at_aw (aw_or (at_cmp opr_notB ok_D2 (ao (ap_fn C_is_form (hr.mono (by decide)) rfl (aa_cons (ap_ix ix_seq ok_ix (ao (ap_var (i := 3) rfl (by first | exact Or.inl rfl | exact Or.inr (Or.inl rfl) | exact Or.inr (Or.inr rfl)))) (ao ap_int) (fun _ _ => rfl)) (aa_cons (ap_ix ix_seq ok_ix (ao (ap_var (i := 3) rfl (by first | exact Or.inl rfl | exact Or.inr (Or.inl rfl) | exact Or.inr (Or.inr rfl)))) (ao ap_int) (fun _ _ => rfl)) (aa_cons (ap_var (i := 4) rfl (by first | exact Or.inl rfl | exact Or.inr (Or.inl rfl) | exact Or.inr (Or.inr rfl))) aa_nil (star_ok rfl)) (star_ok rfl)) (star_ok rfl)) rfl (by decide) rfl rfl)) (ao ap_bl) rfl) (aw_or1 (at_cmp opr_notB ok_D2 (ao (ap_fn C_is_fact (hr.mono (by decide)) rfl (aa_cons (ap_ix ix_seq ok_ix (ao (ap_var (i := 3) rfl (by first | exact Or.inl rfl | exact Or.inr (Or.inl rfl) | exact Or.inr (Or.inr rfl)))) (ao ap_int) (fun _ _ => rfl)) (aa_cons (ap_ix ix_seq ok_ix (ao (ap_var (i := 3) rfl (by first | exact Or.inl rfl | exact Or.inr (Or.inl rfl) | exact Or.inr (Or.inr rfl)))) (ao ap_int) (fun _ _ => rfl)) (aa_cons (ap_var (i := 5) rfl (by first | exact Or.inl rfl | exact Or.inr (Or.inl rfl) | exact Or.inr (Or.inr rfl))) aa_nil (star_ok rfl)) (star_ok rfl)) (star_ok rfl)) rfl (by decide) rfl rfl)) (ao ap_bl) rfl)))))
    (ass_one (as_ret (ae_pu ap_bl)))
    ass_nil)
   (ass_cons (as_to (sh := [.f, .dead, .o, .f, .f, .f, .f, .dead, .dead, .dead, .dead]) (as_set (i := 6) sc_law.nd rfl (by first | exact Or.inl rfl | exact Or.inr rfl) (ae_pu (ap_z (al_lst (aa_cons (ap_tup (aa_cons (ap_bin op_addA ok_add (ao (ap_ix ix_seq ok_ix (ao (ap_var (i := 3) rfl (by first | exact Or.inl rfl | exact Or.inr (Or.inl rfl) | exact Or.inr (Or.inr rfl)))) (ao ap_int) (fun _ _ => rfl))) (ao ap_int)) (aa_cons (ap_ix ix_seq ok_ix (ao (ap_var (i := 3) rfl (by first | exact Or.inl rfl | exact Or.inr (Or.inl rfl) | exact Or.inr (Or.inr rfl)))) (ao ap_int) (fun _ _ => rfl)) aa_nil (star_ok rfl)) (star_ok rfl)) (by decide +kernel)) (aa_cons (ap_tup (aa_cons (ap_ix ix_seq ok_ix (ao (ap_var (i := 3) rfl (by first | exact Or.inl rfl | exact Or.inr (Or.inl rfl) | exact Or.inr (Or.inr rfl)))) (ao ap_int) (fun _ _ => rfl)) (aa_cons (ap_bin op_addA ok_add (ao (ap_bin op_mod ok_mod (ao (ap_ix ix_seq ok_ix (ao (ap_var (i := 3) rfl (by first | exact Or.inl rfl | exact Or.inr (Or.inl rfl) | exact Or.inr (Or.inr rfl)))) (ao ap_int) (fun _ _ => rfl))) (ao ap_int))) (ao ap_int)) aa_nil (star_ok rfl)) (star_ok rfl)) (by decide +kernel)) (aa_cons (ap_tup (aa_cons (ap_ix ix_seq ok_ix (ao (ap_var (i := 3) rfl (by first | exact Or.inl rfl | exact Or.inr (Or.inl rfl) | exact Or.inr (Or.inr rfl)))) (ao ap_int) (fun _ _ => rfl)) (aa_cons (ap_bin op_addA ok_add (ao (ap_bin op_mod ok_mod (ao (ap_ix ix_seq ok_ix (ao (ap_var (i := 3) rfl (by first | exact Or.inl rfl | exact Or.inr (Or.inl rfl) | exact Or.inr (Or.inr rfl)))) (ao ap_int) (fun _ _ => rfl))) (ao ap_int))) (ao ap_int)) aa_nil (star_ok rfl)) (star_ok rfl)) (by decide +kernel)) aa_nil (star_ok rfl)) (star_ok rfl)) (star_ok rfl)) (by decide +kernel)))) rfl (.inl rfl)))
   (ass_cons (as_forS (sh := [.f, .dead, .o, .f, .f, .dead, .f, .dead, .dead, .dead, .dead]) PassesOwn.never rfl (aei_seq (ae_tup (aea_cons (ae_pu (ap_var (i := 4) rfl (by first | exact Or.inl rfl | exact Or.inr (Or.inl rfl) | exact Or.inr (Or.inr rfl)))) (aea_cons (ae_pu (ap_var (i := 5) rfl (by first | exact Or.inl rfl | exact Or.inr (Or.inl rfl) | exact Or.inr (Or.inr rfl)))) (aea_cons (ae_fn1 (i := 2) C__law_bent (hr.mono (by decide)) rfl rfl (by first | exact Or.inl rfl | exact Or.inr (Or.inl rfl) | exact Or.inr (Or.inr rfl)) (aea_cons (ae_pu (ap_var (i := 4) rfl (by first | exact Or.inl rfl | exact Or.inr (Or.inl rfl) | exact Or.inr (Or.inr rfl)))) (aea_cons (ae_pu ap_int) aea_nil (star_ok rfl)) (star_ok rfl)) rfl (by decide) rfl rfl) (aea_cons (ae_fn1 (i := 2) C__law_bent (hr.mono (by decide)) rfl rfl (by first | exact Or.inl rfl | exact Or.inr (Or.inl rfl) | exact Or.inr (Or.inr rfl)) (aea_cons (ae_pu (ap_var (i := 5) rfl (by first | exact Or.inl rfl | exact Or.inr (Or.inl rfl) | exact Or.inr (Or.inr rfl)))) (aea_cons (ae_pu ap_int) aea_nil (star_ok rfl)) (star_ok rfl)) rfl (by decide) rfl rfl) aea_nil (star_ok rfl)) (star_ok rfl)) (star_ok rfl)) (star_ok rfl)) (by decide +kernel))) (ag_name (i := 7) (Nat.zero_le _) sc_law.nd rfl (by first | exact Or.inl rfl | exact Or.inr rfl) (.inl rfl))
    (ass_cons (as_forS (sh := [.f, .dead, .o, .f, .f, .dead, .f, .f, .dead, .dead, .dead]) PassesOwn.never rfl (aei_pu (ai_seq (ap_bin op_addA ok_add (ao (ap_z (al_lst (aa_cons (ap_var (i := 3) rfl (by first | exact Or.inl rfl | exact Or.inr (Or.inl rfl) | exact Or.inr (Or.inr rfl))) aa_nil (star_ok rfl)) (by decide +kernel)))) (ao (ap_var (i := 6) rfl (by first | exact Or.inl rfl | exact Or.inr (Or.inl rfl) | exact Or.inr (Or.inr rfl))))))) (ag_name (i := 8) (Nat.zero_le _) sc_law.nd rfl (by first | exact Or.inl rfl | exact Or.inr rfl) (.inl rfl))
    (ass_one (as_if (aet_pu (at_not (at_tru (ao (ap_fn C__law_right (hr.mono (by decide)) rfl (aa_cons (ap_var (i := 8) rfl (by first | exact Or.inl rfl | exact Or.inr (Or.inl rfl) | exact Or.inr (Or.inr rfl))) (aa_cons (ap_var (i := 7) rfl (by first | exact Or.inl rfl | exact Or.inr (Or.inl rfl) | exact Or.inr (Or.inr rfl))) aa_nil (star_ok rfl)) (star_ok rfl)) rfl (by decide) rfl rfl)) (fun _ => rfl))))
    (ass_one (as_ret (ae_pu ap_bl)))
    ass_nil)) (fun _ => rfl))
   (ass_one (as_if (aet_not (aet_b (aeb_as (ae_fn C__law_right (hr.mono (by decide)) rfl (aea_cons (ae_pu (ap_var (i := 3) rfl (by first | exact Or.inl rfl | exact Or.inr (Or.inl rfl) | exact Or.inr (Or.inr rfl)))) (aea_cons (ae_fn1 (i := 2) C__law_bent (hr.mono (by decide)) rfl rfl (by first | exact Or.inl rfl | exact Or.inr (Or.inl rfl) | exact Or.inr (Or.inr rfl)) (aea_cons (ae_pu (ap_var (i := 7) rfl (by first | exact Or.inl rfl | exact Or.inr (Or.inl rfl) | exact Or.inr (Or.inr rfl)))) (aea_cons (ae_pu ap_int) aea_nil (star_ok rfl)) (star_ok rfl)) rfl (by decide) rfl rfl) aea_nil (star_ok rfl)) (star_ok rfl)) rfl (by decide) rfl rfl)) (fun _ => rfl)))
    (ass_one (as_ret (ae_pu ap_bl)))
    ass_nil))) (fun _ => rfl))
   (ass_cons (as_to (sh := [.f, .dead, .dead, .f, .f, .dead, .dead, .dead, .dead, .f, .dead]) (as_set (i := 9) sc_law.nd rfl (by first | exact Or.inl rfl | exact Or.inr rfl) (ae_pu (ap_z (al_lst (aa_cons (ap_tup (aa_cons ap_str (aa_cons (ap_var (i := 4) rfl (by first | exact Or.inl rfl | exact Or.inr (Or.inl rfl) | exact Or.inr (Or.inr rfl))) (aa_cons ap_int aa_nil (star_ok rfl)) (star_ok rfl)) (star_ok rfl)) (by decide +kernel)) (aa_cons (ap_tup (aa_cons ap_str (aa_cons (ap_var (i := 4) rfl (by first | exact Or.inl rfl | exact Or.inr (Or.inl rfl) | exact Or.inr (Or.inr rfl))) (aa_cons ap_int aa_nil (star_ok rfl)) (star_ok rfl)) (star_ok rfl)) (by decide +kernel)) (aa_cons (ap_tup (aa_cons ap_str (aa_cons (ap_var (i := 4) rfl (by first | exact Or.inl rfl | exact Or.inr (Or.inl rfl) | exact Or.inr (Or.inr rfl))) (aa_cons ap_int aa_nil (star_ok rfl)) (star_ok rfl)) (star_ok rfl)) (by decide +kernel)) (aa_cons (ap_tup (aa_cons ap_str (aa_cons (ap_var (i := 4) rfl (by first | exact Or.inl rfl | exact Or.inr (Or.inl rfl) | exact Or.inr (Or.inr rfl))) (aa_cons ap_int aa_nil (star_ok rfl)) (star_ok rfl)) (star_ok rfl)) (by decide +kernel)) (aa_cons (ap_tup (aa_cons ap_str (aa_cons (ap_var (i := 4) rfl (by first | exact Or.inl rfl | exact Or.inr (Or.inl rfl) | exact Or.inr (Or.inr rfl))) (aa_cons ap_bl aa_nil (star_ok rfl)) (star_ok rfl)) (star_ok rfl)) (by decide +kernel)) aa_nil (star_ok rfl)) (star_ok rfl)) (star_ok rfl)) (star_ok rfl)) (star_ok rfl)) (by decide +kernel)))) rfl (.inl rfl)))
   (ass_cons (as_to (sh := [.f, .dead, .dead, .f, .f, .dead, .dead, .dead, .dead, .f, .f]) (as_set (i := 10) sc_law.nd rfl (by first | exact Or.inl rfl | exact Or.inr rfl) (ae_pu (ap_z (al_lst (aa_cons (ap_tup (aa_cons ap_str (aa_cons (ap_var (i := 4) rfl (by first | exact Or.inl rfl | exact Or.inr (Or.inl rfl) | exact Or.inr (Or.inr rfl))) (aa_cons ap_int aa_nil (star_ok rfl)) (star_ok rfl)) (star_ok rfl)) (by decide +kernel)) (aa_cons (ap_tup (aa_cons ap_str (aa_cons (ap_var (i := 4) rfl (by first | exact Or.inl rfl | exact Or.inr (Or.inl rfl) | exact Or.inr (Or.inr rfl))) aa_nil (star_ok rfl)) (star_ok rfl)) (by decide +kernel)) (aa_cons (ap_tup (aa_cons ap_str aa_nil (star_ok rfl)) (by decide +kernel)) (aa_cons (ap_tup (aa_cons ap_str (aa_cons (ap_var (i := 4) rfl (by first | exact Or.inl rfl | exact Or.inr (Or.inl rfl) | exact Or.inr (Or.inr rfl))) aa_nil (star_ok rfl)) (star_ok rfl)) (by decide +kernel)) (aa_cons (ap_z (al_lst (aa_cons ap_str (aa_cons (ap_var (i := 4) rfl (by first | exact Or.inl rfl | exact Or.inr (Or.inl rfl) | exact Or.inr (Or.inr rfl))) aa_nil (star_ok rfl)) (star_ok rfl)) (by decide +kernel))) (aa_cons (ap_tup (aa_cons ap_str (aa_cons (ap_var (i := 4) rfl (by first | exact Or.inl rfl | exact Or.inr (Or.inl rfl) | exact Or.inr (Or.inr rfl))) aa_nil (star_ok rfl)) (star_ok rfl)) (by decide +kernel)) aa_nil (star_ok rfl)) (star_ok rfl)) (star_ok rfl)) (star_ok rfl)) (star_ok rfl)) (star_ok rfl)) (by decide +kernel)))) rfl (.inl rfl)))
   (ass_one (as_forS (sh := [.f, .dead, .dead, .f, .dead, .dead, .dead, .dead, .dead, .dead, .dead]) PassesOwn.never rfl (aei_pu (ai_seq (ap_bin op_addA ok_add (ao (ap_bin op_addA ok_add (ao (ap_var (i := 9) rfl (by first | exact Or.inl rfl | exact Or.inr (Or.inl rfl) | exact Or.inr (Or.inr rfl)))) (ao (ap_var (i := 10) rfl (by first | exact Or.inl rfl | exact Or.inr (Or.inl rfl) | exact Or.inr (Or.inr rfl)))))) (ao (ap_z (al_lst (aa_cons ap_non (aa_cons ap_bl (aa_cons ap_int (aa_cons ap_str (aa_cons (ap_tup aa_nil (by decide +kernel)) (aa_cons (ap_z (al_lst aa_nil (by decide +kernel))) (aa_cons (ap_tup (aa_cons (ap_tup aa_nil (by decide +kernel)) (aa_cons (ap_tup aa_nil (by decide +kernel)) (aa_cons (ap_tup aa_nil (by decide +kernel)) aa_nil (star_ok rfl)) (star_ok rfl)) (star_ok rfl)) (by decide +kernel)) (aa_cons (ap_tup (aa_cons ap_int (aa_cons (ap_tup aa_nil (by decide +kernel)) (aa_cons (ap_tup aa_nil (by decide +kernel)) aa_nil (star_ok rfl)) (star_ok rfl)) (star_ok rfl)) (by decide +kernel)) (aa_cons (ap_bin op_addA ok_add (ao (ap_var (i := 4) rfl (by first | exact Or.inl rfl | exact Or.inr (Or.inl rfl) | exact Or.inr (Or.inr rfl)))) (ao (ap_tup (aa_cons ap_int aa_nil (star_ok rfl)) (by decide +kernel)))) (aa_cons (ap_z (al_callTy call_list_of ok_list rfl B.list (by decide +kernel) (aao_cons (ao (ap_var (i := 4) rfl (by first | exact Or.inl rfl | exact Or.inr (Or.inl rfl) | exact Or.inr (Or.inr rfl)))) aao_nil (star_ok rfl)) (by decide) (by decide) rfl rfl)) aa_nil (star_ok rfl)) (star_ok rfl)) (star_ok rfl)) (star_ok rfl)) (star_ok rfl)) (star_ok rfl)) (star_ok rfl)) (star_ok rfl)) (star_ok rfl)) (star_ok rfl)) (by decide +kernel))))))) (ag_name (i := 7) (Nat.zero_le _) sc_law.nd rfl (by first | exact Or.inl rfl | exact Or.inr rfl) (.inl rfl))
    (ass_one (as_if (aet_pu (at_not (at_tru (ao (ap_fn C__law_right (hr.mono (by decide)) rfl (aa_cons (ap_var (i := 3) rfl (by first | exact Or.inl rfl | exact Or.inr (Or.inl rfl) | exact Or.inr (Or.inr rfl))) (aa_cons (ap_var (i := 7) rfl (by first | exact Or.inl rfl | exact Or.inr (Or.inl rfl) | exact Or.inr (Or.inr rfl))) aa_nil (star_ok rfl)) (star_ok rfl)) rfl (by decide) rfl rfl)) (fun _ => rfl))))
    (ass_one (as_ret (ae_pu ap_bl)))
    ass_nil)) (fun _ => rfl)))))))))))) (fun _ => rfl))
   (ass_one (as_ret (ae_pu ap_bl)))))
  (fun ds hl => match ds, hl with | [p_law_script], _ => by kernel_rfl)
theorem ok_law {f : Addr} {fd : FuncData} (Fn : Fun K "law" "law" s_law f fd) (hmg : mg "law" = some (.ref f)) (B : BN mg) (Kn : KN mg) (C__law_feed : CF P w K mg base "_law_feed" 1 (spL K 2 mf__law_feed)) (C__law_form : CF P w K mg base "_law_form" 2 (sp1 K 2 mf__law_form)) (C__law_fact : CF P w K mg base "_law_fact" 3 (sp1 K 2 mf__law_fact)) (C__law_bent : CF P w K mg base "_law_bent" 7 (sp1 K 3 (mf__law_bent 4))) (C__law_take : CF P w K mg base "_law_take" 1 (sp1 K 2 mf__law_take)) (C_is_form : CF P w K mg base "is_form" 5 (spD K 3 mf_is_form)) (C_is_fact : CF P w K mg base "is_fact" 6 (spD K 3 mf_is_fact)) (C__law_right : CF P w K mg base "_law_right" 7 (spD K 2 mf__law_right)) : CF P w K mg base "law" 8 (spD K 1 mf_law) :=
  ⟨f, fd, ["_law_script"], fn_law Fn B Kn C__law_feed C__law_form C__law_fact C__law_bent C__law_take C_is_form C_is_fact C__law_right, hmg, Fn.kp, (Fn.binds fun _ _ _ _ _ _ us hl => match us, hl with | [_], _ => rfl)⟩
end
end
end K60

set_option Elab.async false
set_option linter.all false
set_option maxRecDepth 100000
namespace L4
open PySem PySem.Spec PyProof.Rows L2 L3

/-! ### runs -/
theorem bdR {S T : Type} (s : S) (k : S → M T) : bd (.ret s) k = k s := id rfl
theorem oMS {S : Type} (s : S) : oM (some s) = .ret s := id rfl
theorem forC_ok {S T : Type} {step : T → D → (T → M S) → M S} {R : M S} {P : Nat → T → Prop} : ∀ (ds : List D) (i : Nat) (s : T) (k : T → M S),
    (∀ (j : Nat) (s : T) (d : D), d ∈ ds → i ≤ j → j < i + ds.length → P j s → ∀ kn : T → M S, (∀ s', P (j + 1) s' → kn s' = R) → step s d kn = R) →
    P i s → (∀ s', P (i + ds.length) s' → k s' = R) → forC step ds s k = R
  | [], i, s, k, _, hp, hk => hk s hp
  | d :: r, i, s, k, h, hp, hk => by
    show step s d _ = R
    refine h i s d List.mem_cons_self (Nat.le_refl _) (by simp) hp _ fun s' hp' => ?_
    refine forC_ok r (i + 1) s' k (fun j s d hd hj hl => h j s d (List.mem_cons_of_mem _ hd) (by omega) (by simp; omega)) hp' fun s' hs => hk s' ?_
    have : i + (d :: r).length = i + 1 + r.length := by simp; omega
    rw [this]; exact hs
theorem forS_ok {S T : Type} {step : T → D → (T → M S) → M S} {R : M S} {P : Nat → T → Prop} (ds : List D) (i : Nat) (s : T) (k : T → M S)
    (h : ∀ (j : Nat) (s : T) (d : D), d ∈ ds → i ≤ j → j < i + ds.length → P j s → ∀ kn : T → M S, (∀ s', P (j + 1) s' → kn s' = R) → step s d kn = R)
    (hp : P i s) (hk : ∀ s', P (i + ds.length) s' → k s' = R) : forS step ds s k = R := by
  rw [forS_is]
  exact forC_ok ds i s k h hp hk
theorem compC_ok {step : D → M (Option D)} {g : D → D} : ∀ (ds : List D), (∀ d ∈ ds, step d = .ret (some (g d))) → compC step ds = .ret (ds.map g)
  | [], _ => rfl
  | d :: r, h => by
    rw [compC, h d List.mem_cons_self, compC_ok r fun d hd => h d (List.mem_cons_of_mem _ hd)]
    rfl
theorem compE_ok {T : Type} {step : T → D → M (Option D × T)} {P : Nat → T → Prop} {R : D → Prop} : ∀ (ds : List D) (i : Nat) (s : T),
    (∀ (j : Nat) (s : T) (d : D), d ∈ ds → i ≤ j → j < i + ds.length → P j s → ∃ x s', step s d = .ret (some x, s') ∧ P (j + 1) s' ∧ R x) → P i s →
    ∃ xs s', compE step ds s = .ret (xs, s') ∧ P (i + ds.length) s' ∧ xs.length = ds.length ∧ ∀ x ∈ xs, R x
  | [], i, s, _, hp => ⟨[], s, rfl, hp, rfl, fun _ h => by cases h⟩
  | d :: r, i, s, h, hp => by
    obtain ⟨x, s1, e1, p1, r1⟩ := h i s d List.mem_cons_self (Nat.le_refl _) (by simp) hp
    obtain ⟨xs, s2, e2, p2, l2, r2⟩ := compE_ok r (i + 1) s1 (fun j s d hd hj hl => h j s d (List.mem_cons_of_mem _ hd) (by omega) (by simp; omega)) p1
    refine ⟨x :: xs, s2, ?_, ?_, by simp [l2], ?_⟩
    · rw [compE, e1]; simp only [bd_ret]; rw [e2]; rfl
    · have : i + (d :: r).length = i + 1 + r.length := by simp; omega
      rw [this]; exact p2
    · intro y hy
      cases hy with
      | head => exact r1
      | tail _ h => exact r2 y h
theorem fitM_ok {S : Type} {ds : List S} (h : ds.length ≤ 1000) : fitM ds = .ret ds := if_pos (le1000 h)
theorem range_ok (n : Nat) (h : n ≤ 1000) : fRange1 [.int n] = some (rangeD 0 n) := by
  unfold fRange1
  have : small62 (n : Int) = true := by
    unfold small62
    simp only [Bool.and_eq_true, decide_eq_true_eq]
    omega
  simp only [this, if_true]
  rfl
theorem rangeD_len (lo : Int) (n : Nat) : (rangeD lo n).length = n := by simp [rangeD]
theorem atI_nat {α : Type} (xs : List α) (i : Nat) (h : i < xs.length) : atI xs (i : Int) = some (xs[i]'h) := by
  unfold atI ixN
  rw [if_pos (Int.natCast_nonneg _), if_pos (by omega)]
  simp [h]
theorem atI_ok {α : Type} (xs : List α) (i : Int) (h0 : 0 ≤ i) (h : i < xs.length) : ∃ x ∈ xs, atI xs i = some x := by
  obtain ⟨n, rfl⟩ := Int.eq_ofNat_of_zero_le h0
  exact ⟨_, List.getElem_mem _, atI_nat xs n (by omega)⟩

/-! ### small things -/
def wordOk (s : Str) : Bool := PyData.strOk s && decide ((reprText s).length ≤ 24) && PyData.strOk (reprText s)
def Ok (k : Nat) : Nat → D → Prop
  | 0, _ => False
  | _ + 1, .none => True
  | _ + 1, .bool _ => True
  | _ + 1, .int i => i.natAbs < 10 ^ (16 + k)
  | _ + 1, .str s => wordOk s = true
  | n + 1, .list ds => ds.length ≤ 6 + k ∧ ∀ d ∈ ds, Ok k n d
  | n + 1, .tuple ds => ds.length ≤ 6 + k ∧ ∀ d ∈ ds, Ok k n d
  | _ + 1, .dict _ => False
theorem Ok.up {k : Nat} : ∀ {n : Nat} {d : D}, Ok k n d → Ok k (n + 1) d
  | 0, _, h => h.elim
  | n + 1, .none, h => trivial
  | n + 1, .bool _, h => trivial
  | n + 1, .int _, h => h
  | n + 1, .str _, h => h
  | n + 1, .list ds, h => ⟨h.1, fun d hd => Ok.up (h.2 d hd)⟩
  | n + 1, .tuple ds, h => ⟨h.1, fun d hd => Ok.up (h.2 d hd)⟩
  | n + 1, .dict _, h => h.elim
theorem Ok.le {k n m : Nat} {d : D} (h : Ok k n d) (hm : n ≤ m) : Ok k m d := by
  induction hm with
  | refl => exact h
  | step _ ih => exact ih.up
theorem Ok.bent {k : Nat} : ∀ {n : Nat} {d : D}, Ok k n d → Ok (k + 1) n d
  | 0, _, h => h.elim
  | n + 1, .none, h => trivial
  | n + 1, .bool _, h => trivial
  | n + 1, .int i, h => by
    have h' : i.natAbs < 10 ^ (16 + k) := h
    show i.natAbs < 10 ^ (16 + (k + 1))
    rw [← Nat.add_assoc, Nat.pow_succ]
    omega
  | n + 1, .str _, h => h
  | n + 1, .list ds, h => ⟨by have := h.1; omega, fun d hd => Ok.bent (h.2 d hd)⟩
  | n + 1, .tuple ds, h => ⟨by have := h.1; omega, fun d hd => Ok.bent (h.2 d hd)⟩
  | n + 1, .dict _, h => h.elim
theorem lay_all : ∀ {ds : List D}, (∀ d ∈ ds, d.canLay0 = true) → PyData.canLayAll0 ds = true
  | [], _ => by simp [PyData.canLayAll0]
  | d :: r, h => by
    simp only [PyData.canLayAll0, Bool.and_eq_true]
    exact ⟨h d List.mem_cons_self, lay_all fun e he => h e (List.mem_cons_of_mem _ he)⟩
theorem deep_all {n : Nat} : ∀ {ds : List D}, (∀ d ∈ ds, d.depth ≤ n) → PyData.depthAll ds ≤ n
  | [], _ => by simp [PyData.depthAll]
  | d :: r, h => by
    simp only [PyData.depthAll]
    exact Nat.max_le.mpr ⟨h d List.mem_cons_self, deep_all fun e he => h e (List.mem_cons_of_mem _ he)⟩
theorem show_all : ∀ {ds : List D}, (∀ d ∈ ds, d.showable = true) → PyData.showableAll ds = true
  | [], _ => by simp [PyData.showableAll]
  | d :: r, h => by
    simp only [PyData.showableAll, Bool.and_eq_true]
    exact ⟨h d List.mem_cons_self, show_all fun e he => h e (List.mem_cons_of_mem _ he)⟩
theorem Ok.lay {k : Nat} : ∀ {n : Nat} {d : D}, Ok k n d → d.canLay0 = true
  | 0, _, h => h.elim
  | n + 1, .none, h => by simp [PyData.canLay0]
  | n + 1, .bool _, h => by simp [PyData.canLay0]
  | n + 1, .int _, h => by simp [PyData.canLay0]
  | n + 1, .str s, h => by
    have h' : wordOk s = true := h
    unfold wordOk at h'
    simp only [Bool.and_eq_true] at h'
    simp [PyData.canLay0, h'.1.1]
  | n + 1, .list ds, h => by simp only [PyData.canLay0]; exact lay_all fun d hd => Ok.lay (h.2 d hd)
  | n + 1, .tuple ds, h => by simp only [PyData.canLay0]; exact lay_all fun d hd => Ok.lay (h.2 d hd)
  | n + 1, .dict _, h => h.elim
theorem Ok.deep {k : Nat} : ∀ {n : Nat} {d : D}, Ok k n d → d.depth ≤ n
  | 0, _, h => h.elim
  | n + 1, .none, h => by simp [PyData.depth]
  | n + 1, .bool _, h => by simp [PyData.depth]
  | n + 1, .int _, h => by simp [PyData.depth]
  | n + 1, .str s, h => by simp [PyData.depth]
  | n + 1, .list ds, h => by
    have := deep_all (n := n) fun d hd => Ok.deep (h.2 d hd)
    simp only [PyData.depth]; omega
  | n + 1, .tuple ds, h => by
    have := deep_all (n := n) fun d hd => Ok.deep (h.2 d hd)
    simp only [PyData.depth]; omega
  | n + 1, .dict _, h => h.elim
theorem log_lt {m : Nat} (h : m < 10 ^ 36) : m.log2 < 1920 := by
  by_cases h0 : m = 0
  · subst h0; decide
  · exact (Nat.log2_lt h0).mpr (Nat.lt_of_lt_of_le h (by decide +kernel))
theorem Ok.show {k : Nat} (hk : k ≤ 3) : ∀ {n : Nat} {d : D}, Ok k n d → d.showable = true
  | 0, _, h => h.elim
  | n + 1, .none, h => by simp [PyData.showable]
  | n + 1, .bool _, h => by simp [PyData.showable]
  | n + 1, .int i, h => by
    have h' : i.natAbs < 10 ^ (16 + k) := h
    simp only [PyData.showable, decide_eq_true_eq]
    exact log_lt (Nat.lt_of_lt_of_le h' (Nat.pow_le_pow_right (by decide) (by omega)))
  | n + 1, .str s, h => by simp [PyData.showable]
  | n + 1, .list ds, h => by simp only [PyData.showable]; exact show_all fun d hd => Ok.show hk (h.2 d hd)
  | n + 1, .tuple ds, h => by simp only [PyData.showable]; exact show_all fun d hd => Ok.show hk (h.2 d hd)
  | n + 1, .dict _, h => h.elim
/-! ### their texts -/
theorem strOk_iff {s : Str} : PyData.strOk s = true ↔ ∀ c ∈ s.cps.toList, c < 1114112 := by
  unfold PyData.strOk
  rw [← Array.all_toList, List.all_eq_true]
  simp
theorem strOk_lit (s : String) : PyData.strOk (Str.ofString s) = true := by
  rw [strOk_iff, signs_ofString]
  intro c hc
  obtain ⟨ch, _, rfl⟩ := List.mem_map.mp hc
  have := ch.valid
  have e : ch.toNat = ch.val.toNat := rfl
  rw [e]
  rcases this with h | ⟨_, h⟩
  · have h' : ch.val.toNat < 0xd800 := h
    omega
  · have h' : ch.val.toNat < 0x110000 := h
    omega
theorem strOk_app {a b : Str} (ha : PyData.strOk a = true) (hb : PyData.strOk b = true) : PyData.strOk (a ++ b) = true := by
  rw [strOk_iff] at *
  intro c hc
  rcases mem_cps_append.mp hc with h | h
  · exact ha c h
  · exact hb c h
theorem strOk_join {sep : Str} {ts : List Str} (hs : PyData.strOk sep = true) (h : ∀ t ∈ ts, PyData.strOk t = true) : PyData.strOk (Str.join sep ts) = true := by
  rw [strOk_iff] at *
  intro c hc
  rcases (mem_join sep c ts).mp hc with ⟨t, ht, hc⟩ | ⟨_, hc⟩
  · exact strOk_iff.mp (h t ht) c hc
  · exact hs c hc
theorem piled_le {B : Nat} : ∀ {ts : List Str}, (∀ t ∈ ts, t.length ≤ B) → piled ts ≤ ts.length * (B + 2)
  | [], _ => Nat.zero_le _
  | t :: r, h => by
    have h1 := h t List.mem_cons_self
    have h2 := piled_le (ts := r) fun u hu => h u (List.mem_cons_of_mem _ hu)
    rw [piled_cons, List.length_cons, Nat.succ_mul]
    omega
theorem join_le {ts : List Str} : (Str.join ", " ts).length ≤ piled ts := by
  by_cases h : ts = []
  · subst h; exact Nat.zero_le _
  · have := join_length_add ts h; omega
theorem shownAll_mem : ∀ {ds : List D} {t : Str}, t ∈ PyData.shownAll ds → ∃ d ∈ ds, t = d.shown
  | [], t, h => by simp [PyData.shownAll] at h
  | d :: r, t, h => by
    simp only [PyData.shownAll, List.mem_cons] at h
    rcases h with rfl | h
    · exact ⟨d, List.mem_cons_self, rfl⟩
    · obtain ⟨e, he, q⟩ := shownAll_mem h
      exact ⟨e, List.mem_cons_of_mem _ he, q⟩
theorem shownAll_len : ∀ ds : List D, (PyData.shownAll ds).length = ds.length
  | [] => by simp [PyData.shownAll]
  | d :: r => by simp [PyData.shownAll, shownAll_len r]
def lim : Nat → Nat
  | 0 => 24
  | n + 1 => 4 + 9 * (lim n + 2)
theorem lim24 : ∀ n, 24 ≤ lim n
  | 0 => Nat.le_refl _
  | n + 1 => by have := lim24 n; unfold lim; omega
theorem seq_text {B : Nat} {ds : List D} (hl : ds.length ≤ 9) (h : ∀ d ∈ ds, d.shown.length ≤ B ∧ PyData.strOk d.shown = true) :
    ((PyData.list ds).shown.length ≤ 4 + 9 * (B + 2) ∧ PyData.strOk (PyData.list ds).shown = true) ∧ (PyData.tuple ds).shown.length ≤ 4 + 9 * (B + 2) ∧ PyData.strOk (PyData.tuple ds).shown = true := by
  have h1 : ∀ t ∈ PyData.shownAll ds, t.length ≤ B := fun t ht => by obtain ⟨d, hd, rfl⟩ := shownAll_mem ht; exact (h d hd).1
  have h2 : ∀ t ∈ PyData.shownAll ds, PyData.strOk t = true := fun t ht => by obtain ⟨d, hd, rfl⟩ := shownAll_mem ht; exact (h d hd).2
  have h3 := piled_le h1
  rw [shownAll_len] at h3
  have h4 : ds.length * (B + 2) ≤ 9 * (B + 2) := Nat.mul_le_mul_right _ hl
  have h5 : (Str.join ", " (PyData.shownAll ds)).length ≤ piled (PyData.shownAll ds) := join_le
  have h6 : PyData.strOk (Str.join ", " (PyData.shownAll ds)) = true := strOk_join (strOk_lit _) h2
  simp only [PyData.shown, listText_eq_join, tupleText]
  refine ⟨⟨?_, strOk_app (strOk_app (strOk_lit _) h6) (strOk_lit _)⟩, ?_, strOk_app (strOk_app (strOk_lit _) h6) (strOk_lit _)⟩
  · rw [strLen_append, strLen_append]
    have e1 : ((("[" : String) : Str)).length = 1 := rfl
    have e2 : ((("]" : String) : Str)).length = 1 := rfl
    rw [e1, e2]; omega
  · rw [strLen_append, strLen_append]
    have e1 : ((("(" : String) : Str)).length = 1 := rfl
    have e3 : (((if (PyData.shownAll ds).length == 1 then ",)" else ")" : String) : Str)).length ≤ 2 := by split <;> decide
    rw [e1]; omega
theorem Ok.text {k : Nat} (hk : k ≤ 3) : ∀ {n : Nat} {d : D}, Ok k n d → d.shown.length ≤ lim n ∧ PyData.strOk d.shown = true
  | 0, _, h => h.elim
  | n + 1, .none, h => by have := lim24 (n + 1); refine ⟨?_, by simp only [PyData.shown]; exact strOk_lit _⟩; simp only [PyData.shown]; exact Nat.le_trans (by decide) this
  | n + 1, .bool b, h => by
    have := lim24 (n + 1)
    refine ⟨?_, by cases b <;> simp only [PyData.shown] <;> exact strOk_lit _⟩
    cases b <;> simp only [PyData.shown] <;> exact Nat.le_trans (by decide) this
  | n + 1, .int i, h => by
    have h' : i.natAbs < 10 ^ (16 + k) := h
    have := lim24 (n + 1)
    refine ⟨?_, by simp only [PyData.shown]; exact strOk_lit _⟩
    simp only [PyData.shown]
    have h1 := int_text_length_le10 (a := i) (k := 19) (by decide) (Nat.lt_of_lt_of_le h' (Nat.pow_le_pow_right (by decide) (by omega)))
    have h2 : (Str.ofString (toString i)).length = (toString i).length := by
      show (Str.ofString (toString i)).cps.size = _
      rw [← Array.length_toList, signs_ofString, List.length_map, String.length_toList]
    omega
  | n + 1, .str s, h => by
    have h' : wordOk s = true := h
    have := lim24 (n + 1)
    unfold wordOk at h'
    simp only [Bool.and_eq_true, decide_eq_true_eq] at h'
    simp only [PyData.shown]
    exact ⟨by omega, h'.2⟩
  | n + 1, .list ds, h => (seq_text (by have := h.1; omega) fun d hd => Ok.text hk (h.2 d hd)).1
  | n + 1, .tuple ds, h => (seq_text (by have := h.1; omega) fun d hd => Ok.text hk (h.2 d hd)).2
  | n + 1, .dict _, h => h.elim
theorem Ok.repr {k n : Nat} {d : D} (hk : k ≤ 3) (hn : n ≤ 6) (h : Ok k n d) : fRepr [d] = some (.str d.shown) ∧ opEq (.str d.shown) (.str d.shown) = some true := by
  have hl : lim n ≤ sizeLine := by
    have : ∀ n, n ≤ 6 → lim n ≤ lim 6 := by decide
    exact Nat.le_trans (this n hn) (by decide)
  obtain ⟨t1, t2⟩ := h.text hk
  have hd := h.deep
  constructor
  · show (if reprOk d then some (PyData.str d.shown) else none) = _
    unfold reprOk
    rw [if_pos]
    simp only [Bool.and_eq_true, decide_eq_true_eq]
    exact ⟨⟨⟨h.show hk, h.lay⟩, by omega⟩, Nat.le_trans t1 hl⟩
  · unfold opEq eqOk
    rw [if_pos]
    · simp [PyData.eqv]
    · simp [PyData.canLay0, t2, PyData.depth]
end L4

set_option Elab.async false
set_option linter.all false
set_option maxRecDepth 100000
namespace K60
open PySem PySem.Spec PyProof.Rows L2 L3 L4

def Fd (T : Nat) (f : List D) : Prop := ∃ a b t : Int, f = [.int a, .int b, .int t] ∧ 0 ≤ t ∧ t ≤ T
theorem Fd.le {T T' : Nat} {f : List D} (h : Fd T f) (hl : T ≤ T') : Fd T' f := by
  obtain ⟨a, b, t, e, h0, h1⟩ := h
  exact ⟨a, b, t, e, h0, by omega⟩
theorem mod_ok (i j : Int) (h : 0 < j) : opMod (.int i) (.int j) = some (.int (i % j)) := if_pos h
theorem div_ok (i j : Int) (h : 0 < j) (h2 : j < 1073741824) : opDiv (.int i) (.int j) = some (.int (i / j)) := if_pos (by simp [h, h2])
theorem mul_okL (i j : Int) (h : -(2 ^ 64) < i) (h2 : i < 2 ^ 64) : opMulI (.int i) (.int j) = some (.int (i * j)) := if_pos (by simp only [mulOk, Bool.or_eq_true, Bool.and_eq_true, decide_eq_true_eq]; exact .inl ⟨h, h2⟩)
theorem mul_okR (i j : Int) (h : -(2 ^ 64) < j) (h2 : j < 2 ^ 64) : opMulI (.int i) (.int j) = some (.int (i * j)) := if_pos (by simp only [mulOk, Bool.or_eq_true, Bool.and_eq_true, decide_eq_true_eq]; exact .inr ⟨h, h2⟩)
theorem ix3_0 (a b c : D) : opIx (.list [a, b, c]) (.int 0) = some a := rfl
theorem ix3_1 (a b c : D) : opIx (.list [a, b, c]) (.int 1) = some b := rfl
theorem ix3_2 (a b c : D) : opIx (.list [a, b, c]) (.int 2) = some c := rfl
theorem put3_0 (a b c d : D) : putD [a, b, c] (.int 0) d = some [d, b, c] := rfl
theorem put3_2 (a b c d : D) : putD [a, b, c] (.int 2) d = some [a, b, d] := rfl
theorem add_ok (i j : Int) : opAdd (.int i) (.int j) = some (.int (i + j)) := rfl
theorem gt_ok (i j : Int) : opGt (.int i) (.int j) = some (decide (j < i)) := rfl
theorem take_ok {T : Nat} {f : List D} {m : Int} (h : Fd T f) (hT : T ≤ 1000000) (hm : 0 < m) (hm2 : m < 1073741824) :
    ∃ (r : Int) (f' : List D), c__law_take f (.int m) = .ret (.int r, f') ∧ 0 ≤ r ∧ r < m ∧ Fd (T + 1) f' := by
  obtain ⟨a, b, t, rfl, h0, h1⟩ := h
  unfold c__law_take
  rw [ix3_0, oM_some, bd_ret, gt_ok, oM_some, bd_ret]
  by_cases ha : 0 < a
  · simp only [ha, decide_true, if_true]
    simp only [oM_some, bd_ret, mod_ok _ _ hm, div_ok _ _ hm hm2, put3_0]
    exact ⟨_, _, rfl, Int.emod_nonneg _ (by omega), Int.emod_lt_of_pos _ hm, _, _, _, rfl, h0, by omega⟩
  · simp only [ha, decide_false]
    rw [if_neg (by decide)]
    simp only [oM_some, bd_ret, ix3_2, ix3_1, ix3_0, put3_2, add_ok]
    rw [mod_ok _ _ (by decide), mul_okL _ _ (by decide) (by decide)]
    simp only [oM_some, bd_ret]
    rw [mul_okR _ _ (by omega) (by omega)]
    simp only [oM_some, bd_ret, add_ok]
    rw [mul_okR _ _ (by decide) (by decide)]
    simp only [oM_some, bd_ret, add_ok]
    rw [mod_ok _ _ (by decide)]
    simp only [oM_some, bd_ret, add_ok]
    rw [div_ok _ _ (by decide) (by decide), mul_okL _ _ (by decide) (by decide)]
    simp only [oM_some, bd_ret, add_ok]
    rw [mul_okR _ _ (by decide) (by decide)]
    simp only [oM_some, bd_ret, add_ok]
    rw [mod_ok _ _ (by decide)]
    simp only [oM_some, bd_ret, add_ok]
    rw [div_ok _ _ (by decide) (by decide)]
    simp only [oM_some, bd_ret, add_ok]
    rw [mod_ok _ _ hm]
    exact ⟨_, _, rfl, Int.emod_nonneg _ (by omega), Int.emod_lt_of_pos _ hm, _, _, _, rfl, by omega, by omega⟩
theorem feed_ok (ns : List Int) (k : Int) (hn : ns.length ≤ 63) : ∃ f, c__law_feed (.list (ns.map PyData.int)) (.int k) = .ret f ∧ Fd 0 f := by
  have j1 : ∀ c : Int, ∃ f, c__law_feed_j1 (.int c) = .ret f ∧ Fd 0 f := fun c => by
    unfold c__law_feed_j1
    have e : opPow (.int 10) (.int 18) = some (.int (10 ^ 18)) := rfl
    rw [e]
    simp only [oM_some, bd_ret]
    have e2 : opGe (.int c) (.int (10 ^ 18)) = some (decide ((10 : Int) ^ 18 ≤ c)) := rfl
    rw [e2]
    simp only [oM_some, bd_ret]
    have e3 : ∀ b : Bool, fInt [.bool b] = some (.int (if b then 1 else 0)) := fun b => rfl
    rw [e3]
    simp only [oM_some, bd_ret]
    rw [mul_okR _ _ (by split <;> decide) (by split <;> decide)]
    exact ⟨_, rfl, _, _, _, rfl, Int.le_refl _, Int.le_refl _⟩
  unfold c__law_feed
  have e1 : fLen [.list (ns.map PyData.int)] = some (.int ns.length) := by show some (PyData.int (ns.map PyData.int).length) = _; rw [List.length_map]
  simp only [e1, oM_some, bd_ret, gt_ok]
  by_cases h : 0 < (ns.length : Int)
  · simp only [h, decide_true, if_true]
    rw [mod_ok _ _ h, div_ok _ _ h (by omega)]
    simp only [oM_some, bd_ret]
    rw [mul_okL _ _ (by decide) (by decide)]
    have m1 := Int.emod_nonneg k (b := (ns.length : Int)) (by omega)
    have m2 := Int.emod_lt_of_pos k h
    obtain ⟨x, hx, e⟩ := atI_ok (ns.map PyData.int) (k % ns.length) m1 (by rw [List.length_map]; exact m2)
    obtain ⟨i, hi, rfl⟩ := List.mem_map.mp hx
    have e2 : opIx (.list (ns.map PyData.int)) (.int (k % ns.length)) = some (.int i) := e
    rw [e2]
    simp only [oM_some, bd_ret, add_ok]
    exact j1 _
  · simp only [h, decide_false]
    rw [if_neg (by decide)]
    exact j1 0
end K60

set_option Elab.async false
set_option linter.all false
set_option maxRecDepth 100000
namespace K60
open PySem PySem.Spec PyProof.Rows L2 L3 L4

theorem cut_mem {ds : List D} {lo hi : Option Int} {d : D} (h : d ∈ L4.cutD ds lo hi) : d ∈ ds := List.mem_of_mem_drop (List.mem_of_mem_take h)
theorem cut_len (ds : List D) (lo hi : Option Int) : (L4.cutD ds lo hi).length ≤ ds.length := by
  unfold L4.cutD
  rw [List.length_take, List.length_drop]
  omega
theorem cut_lo (ds : List D) (n : Nat) : L4.cutD ds (some n) none = ds.drop n := by
  unfold L4.cutD
  rw [HT.sIx_nat, HT.sIx_none]
  by_cases h : n ≤ ds.length
  · rw [Nat.min_eq_left h, List.take_of_length_le (by rw [List.length_drop]; omega)]
  · rw [Nat.min_eq_right (by omega), List.drop_of_length_le (Nat.le_refl _), List.drop_of_length_le (by omega)]
    simp
theorem cut_hi (ds : List D) (n : Nat) : L4.cutD ds none (some n) = ds.take n := by
  unfold L4.cutD
  rw [HT.sIx_nat, HT.sIx_none]
  by_cases h : n ≤ ds.length
  · rw [Nat.min_eq_left h]; simp
  · rw [Nat.min_eq_right (by omega)]
    simp
    rw [List.take_of_length_le (by omega)]
theorem cut_lohi (ds : List D) (m n : Nat) (h : m ≤ n) (h2 : n ≤ ds.length) : L4.cutD ds (some m) (some n) = (ds.drop m).take (n - m) := by
  unfold L4.cutD
  rw [HT.sIx_nat, HT.sIx_nat, Nat.min_eq_left h2, Nat.min_eq_left (Nat.le_trans h h2)]

def BI (d : D) : Prop := ∃ i : Int, d = .int i ∧ -1000000000000000 ≤ i ∧ i ≤ 1000000000000000
def nB : Int := -1000000000000000
theorem negB : opNeg (.int 1000000000000000) = some (.int nB) := rfl
theorem nB_lo : -1000000000000000 ≤ nB := Int.le_refl _
theorem nB_hi : nB ≤ 1000000000000000 := by unfold nB; decide
def nine : List D := [(.int 0), (.int 1), (.int (-1)), (.int 0), (.int 2), (.int (-3)), (.int 1), (.int 1000000000000000), (.int nB)]
theorem nine_BI : ∀ d ∈ nine, BI d := by
  intro d hd
  simp only [nine, List.mem_cons, List.not_mem_nil, or_false] at hd
  rcases hd with rfl | rfl | rfl | rfl | rfl | rfl | rfl | rfl | rfl <;> first | exact ⟨_, rfl, nB_lo, nB_hi⟩ | exact ⟨_, rfl, by decide, by decide⟩
abbrev sz (R S : Nat) : D := .tuple [.int R, .int S]
structure Form (R S : Nat) (v : D) : Prop where
  of : ∃ a as bs, v = .tuple [a, .tuple as, .tuple bs] ∧ BI a ∧ as.length = R ∧ bs.length = S ∧ (∀ x ∈ as, BI x) ∧ ∀ x ∈ bs, BI x
theorem form_ok {T R S : Nat} {f : List D} (h : Fd T f) (hT : T ≤ 1000) (hR : R ≤ 9) (hS : S ≤ 9) :
    ∃ v f', c__law_form f (sz R S) = .ret (v, f') ∧ Fd (T + 20) f' ∧ Form R S v := by
  unfold c__law_form
  have e1 : opNeg (.int 1) = some (.int (-1)) := rfl
  have e2 : opNeg (.int 3) = some (.int (-3)) := rfl
  have e3 : opPow (.int 10) (.int 15) = some (.int 1000000000000000) := rfl
  have e4 := negB
  have e5 : opIx (sz R S) (.int 0) = some (.int R) := rfl
  have e6 : opIx (sz R S) (.int 1) = some (.int S) := rfl
  simp only [e1, e2, e3, e4, oMS, bdR, e5, e6, add_ok]
  have e7 : (1 : Int) + (R : Int) + (S : Int) = ((1 + R + S : Nat) : Int) := by omega
  rw [e7, range_ok _ (by omega)]
  simp only [oM_some, bd_ret]
  obtain ⟨xs, s', c1, ⟨c2, c2', c2''⟩, c3, c4⟩ := compE_ok (step := fun (s13 : List D × D × D × Unit) d14 => bd (c__law_take s13.1 (.int 9)) fun r15 => bd (oM (opIx s13.2.2.1 r15.1)) fun x16 => .ret (some x16, (r15.2, s13.2.1, s13.2.2.1, ())))
    (P := fun j s => Fd (T + j) s.1 ∧ s.2.1 = sz R S ∧ s.2.2.1 = .list nine) (R := BI) (rangeD 0 (1 + R + S)) 0 (f, sz R S, .list nine, ()) (by
      intro j s d hd h0 hj ⟨p1, p2, p3⟩
      rw [rangeD_len] at hj
      obtain ⟨r, f', t1, t2, t3, t4⟩ := take_ok p1 (by omega) (m := 9) (by decide) (by decide)
      obtain ⟨x, hx, e⟩ := atI_ok nine r t2 t3
      refine ⟨x, (f', s.2.1, s.2.2.1, ()), ?_, ⟨t4, p2, p3⟩, nine_BI x hx⟩
      simp only [t1, bd_ret, p3]
      have : opIx (.list nine) (.int r) = some x := e
      rw [this]; rfl) ⟨h, rfl, rfl⟩
  rw [rangeD_len] at c2 c3
  have c1' := c1
  unfold nine at c1'
  rw [c1']
  simp only [bd_ret]
  rw [fitM_ok (by omega)]
  simp only [bd_ret]
  obtain ⟨f', z', x', u⟩ := s'
  simp only at c2 c2' c2''
  subst c2' c2''
  simp only [e5, oM_some, bd_ret, add_ok]
  have e8 : (1 : Int) + (R : Int) = ((1 + R : Nat) : Int) := by omega
  obtain ⟨a, r, rfl⟩ : ∃ a r, xs = a :: r := by
    cases xs with
    | nil => simp at c3; omega
    | cons a r => exact ⟨a, r, rfl⟩
  have e9 : opIx (.list (a :: r)) (.int 0) = some a := atI_nat (a :: r) 0 (by simp)
  have a1 : asI (.int 1) = .ret (some 1) := rfl
  have a2 : ∀ i, asI (.int i) = .ret (some i) := fun _ => rfl
  have a3 : ∀ ds lo hi, fCut (.list ds) lo hi = some (.list (L4.cutD ds lo hi)) := fun _ _ _ => rfl
  have a4 : ∀ ds, fTuple [.list ds] = some (.tuple ds) := fun _ => rfl
  simp only [e9, a2, a3, a4, oM_some, bd_ret, e8]
  have a5 : L4.cutD (a :: r) (some 1) (some ((1 + R : Nat) : Int)) = r.take R := by
    have := cut_lohi (a :: r) 1 (1 + R) (by omega) (by rw [c3]; omega)
    have q : ((1 : Nat) : Int) = 1 := rfl
    rw [q] at this
    rw [this]
    show r.take (1 + R - 1) = _
    congr 1; omega
  have a6 : L4.cutD (a :: r) (some ((1 + R : Nat) : Int)) none = r.drop R := by
    rw [cut_lo, Nat.add_comm, List.drop_succ_cons]
  rw [a5, a6]
  refine ⟨_, _, rfl, c2.le (by omega), ⟨a, r.take R, r.drop R, rfl, c4 a List.mem_cons_self, ?_, ?_, fun x hx => c4 x (List.mem_cons_of_mem _ (List.mem_of_mem_take hx)), fun x hx => c4 x (List.mem_cons_of_mem _ (List.mem_of_mem_drop hx))⟩⟩
  · rw [List.length_take]; simp at c3; omega
  · rw [List.length_drop]; simp at c3; omega
structure Fact (R S : Nat) (v : D) : Prop where
  of : ∃ w, Form R S w ∧ ((∃ s : Str, (s = "least" ∨ s = "same") ∧ v = .tuple [.str s, w]) ∨ ∃ i : Int, 2 ≤ i ∧ i ≤ 99 ∧ v = .tuple [.str "rest", w, .int i])
theorem fact_ok {T R S : Nat} {f : List D} (h : Fd T f) (hT : T ≤ 900) (hR : R ≤ 9) (hS : S ≤ 9) :
    ∃ v f', c__law_fact f (sz R S) = .ret (v, f') ∧ Fd (T + 30) f' ∧ Fact R S v := by
  obtain ⟨w, f1, w1, w2, w3⟩ := form_ok h (by omega) hR hS
  obtain ⟨r, f2, t1, t2, t3, t4⟩ := take_ok w2 (by omega) (m := 4) (by decide) (by decide)
  unfold c__law_fact
  simp only [w1, t1, bd_ret]
  have q1 : opEq (.str "least") (.str "rest") = some false := by decide +kernel
  have q2 : opEq (.str "same") (.str "rest") = some false := by decide +kernel
  have q3 : opEq (.str "rest") (.str "rest") = some true := by decide +kernel
  have hr : r = 0 ∨ r = 1 ∨ r = 2 ∨ r = 3 := by omega
  rcases hr with rfl | rfl | rfl | rfl
  · have : opIx (.list [(.str "least"), (.str "same"), (.str "rest"), (.str "least")]) (.int 0) = some (.str "least") := rfl
    simp only [this, oM_some, bd_ret, q1]
    rw [if_neg (by decide)]
    exact ⟨_, _, rfl, t4.le (by omega), ⟨w, w3, .inl ⟨_, .inl rfl, rfl⟩⟩⟩
  · have : opIx (.list [(.str "least"), (.str "same"), (.str "rest"), (.str "least")]) (.int 1) = some (.str "same") := rfl
    simp only [this, oM_some, bd_ret, q2]
    rw [if_neg (by decide)]
    exact ⟨_, _, rfl, t4.le (by omega), ⟨w, w3, .inl ⟨_, .inr rfl, rfl⟩⟩⟩
  · have : opIx (.list [(.str "least"), (.str "same"), (.str "rest"), (.str "least")]) (.int 2) = some (.str "rest") := rfl
    simp only [this, oM_some, bd_ret, q3, if_true]
    obtain ⟨r, f3, u1, u2, u3, u4⟩ := take_ok t4 (by omega) (m := 4) (by decide) (by decide)
    simp only [u1, bd_ret]
    have hr : r = 0 ∨ r = 1 ∨ r = 2 ∨ r = 3 := by omega
    have : ∃ i : Int, 2 ≤ i ∧ i ≤ 99 ∧ opIx (.list [(.int 2), (.int 3), (.int 99), (.int 4)]) (.int r) = some (.int i) := by
      rcases hr with rfl | rfl | rfl | rfl
      · exact ⟨2, by decide, by decide, rfl⟩
      · exact ⟨3, by decide, by decide, rfl⟩
      · exact ⟨99, by decide, by decide, rfl⟩
      · exact ⟨4, by decide, by decide, rfl⟩
    obtain ⟨i, i1, i2, i3⟩ := this
    simp only [i3, oM_some, bd_ret]
    exact ⟨_, _, rfl, u4.le (by omega), ⟨w, w3, .inr ⟨i, i1, i2, rfl⟩⟩⟩
  · have : opIx (.list [(.str "least"), (.str "same"), (.str "rest"), (.str "least")]) (.int 3) = some (.str "least") := rfl
    simp only [this, oM_some, bd_ret, q1]
    rw [if_neg (by decide)]
    exact ⟨_, _, rfl, t4.le (by omega), ⟨w, w3, .inl ⟨_, .inl rfl, rfl⟩⟩⟩
end K60

set_option Elab.async false
set_option linter.all false
set_option maxRecDepth 100000
namespace K60
open PySem PySem.Spec PyProof.Rows L2 L3 L4

theorem eqI (a b : Int) : opEq (.int a) (.int b) = some (a == b) := by
  unfold opEq eqOk
  simp [PyData.canLay0, PyData.depth, PyData.eqv]
theorem neI (a b : Int) : opNe (.int a) (.int b) = some (!(a == b)) := by
  unfold opNe eqOk
  simp [PyData.canLay0, PyData.depth, PyData.eqv]
theorem leI (a b : Int) : opLe (.int a) (.int b) = some (decide (a ≤ b)) := rfl
theorem ltI (a b : Int) : opLt (.int a) (.int b) = some (decide (a < b)) := rfl
theorem asB_b (b : Bool) : asB (.bool b) = .ret b := id rfl
theorem tru_b (b : Bool) : truD (.bool b) = some b := id rfl
theorem lenT (ds : List D) : fLen [.tuple ds] = some (.int ds.length) := id rfl
theorem ixT (ds : List D) (n : Nat) (h : n < ds.length) : opIx (.tuple ds) (.int n) = some ds[n] := atI_nat ds n h

def lo : Int := -1000000000000000
theorem negLo : opNeg (.int 1000000000000000) = some (.int lo) := rfl
theorem pow15 : opPow (.int 10) (.int 15) = some (.int 1000000000000000) := id rfl
def sW (lo hi : Int) : D → Bool
  | .int i => decide (lo ≤ i) && decide (i ≤ hi)
  | _ => false
def sB : D → Bool := sW lo 1000000000000000
def sA (n : Nat) : D → Bool
  | .tuple ds => decide (ds.length = n) && ds.all sB
  | _ => false
def sF (R S : Nat) : D → Bool
  | .tuple [a, b, c] => sB a && sA R b && sA S c
  | _ => false
def sS (w : Str) : D → Bool
  | .str s => s == w
  | _ => false
def sC (R S : Nat) : D → Bool
  | .tuple [a, f] => (sS "least" a || sS "same" a) && sF R S f
  | .tuple [a, f, k] => sS "rest" a && sF R S f && sW 2 99 k
  | _ => false
theorem iteB (a b : Bool) : (if a = true then (M.ret b) else .ret false) = .ret (a && b) := by cases a <;> rfl
theorem iteO (a b : Bool) : (if a = true then (M.ret true) else .ret b) = .ret (a || b) := by cases a <;> rfl
theorem within_ok (d : D) (l h : Int) : c_is_within d (.int l) (.int h) = .ret (.bool (sW l h d)) := by
  unfold c_is_within c_is_whole
  cases d with
  | int i =>
    have t1 : isT "int" (.int i) = true := id rfl
    have t2 : isT "bool" (.int i) = false := id rfl
    simp only [t1, t2, if_true, bdR, oMS, asB_b, leI, Bool.not_false, iteB, sW, Bool.true_and]
  | bool i =>
    have t1 : isT "int" (.bool i) = true := id rfl
    have t2 : isT "bool" (.bool i) = true := id rfl
    simp only [t1, t2, if_true, bdR, oMS, asB_b, Bool.not_true, sW]
    rfl
  | none => rfl
  | str i => rfl
  | list i => rfl
  | tuple i => rfl
  | dict i => rfl
theorem whole_ok (d : D) (l h : Int) : c__law_is_whole d (.int l) (.int h) = .ret (.bool (sW l h d)) := by
  unfold c__law_is_whole
  cases d with
  | int i =>
    have t1 : isT "int" (.int i) = true := id rfl
    have t2 : isT "bool" (.int i) = false := id rfl
    simp only [t1, t2, if_true, bdR, oMS, asB_b, leI, Bool.not_false, iteB, sW]
  | bool i =>
    have t1 : isT "int" (.bool i) = true := id rfl
    have t2 : isT "bool" (.bool i) = true := id rfl
    simp only [t1, t2, if_true, bdR, oMS, asB_b, Bool.not_true, sW]
    rfl
  | none => rfl
  | str i => rfl
  | list i => rfl
  | tuple i => rfl
  | dict i => rfl
theorem bounded_ok (d : D) : c_is_bounded d = .ret (.bool (sB d)) := by
  unfold c_is_bounded
  rw [negLo, oMS, bdR, within_ok, bdR]
  rfl
theorem tupleOf_ok (d : D) (n : Nat) : c_is_tuple_of d (.int n) = .ret (.bool (match d with | .tuple ds => decide (ds.length = n) | _ => false)) := by
  unfold c_is_tuple_of
  cases d with
  | tuple ds =>
    have t1 : isT "tuple" (.tuple ds) = true := id rfl
    simp only [t1, if_true, bdR, oMS, lenT, eqI]
    congr 2
    have : ((ds.length : Int) == (n : Int)) = decide (ds.length = n) := by
      by_cases h : ds.length = n
      · simp [h]
      · simp only [h, decide_false]; rw [beq_eq_false_iff_ne]; omega
    rw [this]
  | none => rfl
  | str i => rfl
  | list i => rfl
  | bool i => rfl
  | int i => rfl
  | dict i => rfl
theorem bools_map (ds : List D) (p : D → Bool) : boolsOf (ds.map fun d => PyData.bool (p d)) = some (ds.map p) := by
  have : (ds.map fun d => PyData.bool (p d)) = (ds.map p).map PyData.bool := by simp
  rw [this, boolsOf_map]
theorem are_ok (d : D) (n : Nat) (h : ∀ ds, d = .tuple ds → ds.length ≤ 100) : c_are_bounded (.int n) d = .ret (.bool (sA n d)) := by
  unfold c_are_bounded
  rw [tupleOf_ok]
  cases d with
  | tuple ds =>
    simp only [bdR, asB_b]
    have hs : seqD (.tuple ds) = some ds := id rfl
    have hc := compC_ok (step := fun d2 => bd (c_is_bounded d2) fun x3 => .ret (some x3)) (g := fun d => .bool (sB d)) ds fun d _ => by rw [bounded_ok, bdR]
    simp only [hs, oMS, bdR, hc]
    rw [fitM_ok (by rw [List.length_map]; have := h ds rfl; omega)]
    have ha : fAll [.list (ds.map fun d => PyData.bool (sB d))] = some (ds.all sB) := by
      show (boolsOf _).map _ = _
      rw [bools_map]
      simp
    simp only [bdR, ha, oMS, iteB]
    rfl
  | none => rfl
  | str i => rfl
  | list i => rfl
  | bool i => rfl
  | int i => rfl
  | dict i => rfl
theorem notIn_bools (ds : List D) (p : D → Bool) : opNotIn (.bool false) (.list (ds.map fun d => PyData.bool (p d))) = some (ds.all p) := by
  have h1 : PyData.canLayAll0 (ds.map fun d => PyData.bool (p d)) = true := lay_all fun d hd => by
    obtain ⟨x, _, rfl⟩ := List.mem_map.mp hd
    simp [PyData.canLay0]
  show (if inOk _ _ then _ else none) = _
  have h2 : inOk (.bool false) (ds.map fun d => PyData.bool (p d)) = true := by
    unfold inOk
    simp [h1, PyData.canLay0, PyData.depth]
  rw [if_pos h2]
  congr 1
  induction ds with
  | nil => rfl
  | cons d r ih =>
    have h1' : PyData.canLayAll0 (r.map fun d => PyData.bool (p d)) = true := lay_all fun d hd => by
      obtain ⟨x, _, rfl⟩ := List.mem_map.mp hd
      simp [PyData.canLay0]
    have := ih h1' (by unfold inOk; simp [h1', PyData.canLay0, PyData.depth])
    rw [List.map_cons, List.any_cons, Bool.not_or, this, List.all_cons]
    simp only [PyData.eqv]
    cases p d <;> rfl
theorem lawAre_ok (d : D) (n : Nat) (h : ∀ ds, d = .tuple ds → ds.length ≤ 100) : c__law_are_whole d (.int n) = .ret (.bool (sA n d)) := by
  unfold c__law_are_whole
  cases d with
  | tuple ds =>
    have t1 : isT "tuple" (.tuple ds) = true := id rfl
    simp only [t1, Bool.not_true, lenT, oMS, bdR, neI]
    rw [if_neg (by decide), bdR]
    by_cases hn : ds.length = n
    · have e : (!((ds.length : Int) == (n : Int))) = false := by simp [hn]
      rw [e, if_neg (by decide)]
      have hs : seqD (.tuple ds) = some ds := id rfl
      have hc := compC_ok (step := fun d3 => bd (bd (bd (oM (opPow (.int 10) (.int 15))) fun x4 => oM (opNeg x4)) fun x5 => bd (oM (opPow (.int 10) (.int 15))) fun x6 => c__law_is_whole d3 x5 x6) fun x7 => .ret (some x7)) (g := fun d => .bool (sB d)) ds fun d _ => by
        simp only [pow15, oMS, bdR, negLo, whole_ok]
        rfl
      simp only [hs, oMS, bdR, hc]
      rw [fitM_ok (by rw [List.length_map]; have := h ds rfl; omega)]
      simp only [bdR, notIn_bools, oMS]
      simp [sA, hn]
    · have e : (!((ds.length : Int) == (n : Int))) = true := by
        rw [Bool.not_eq_true', beq_eq_false_iff_ne]; omega
      rw [e, if_pos rfl]
      simp [sA, hn]
  | none => rfl
  | str i => rfl
  | list i => rfl
  | bool i => rfl
  | int i => rfl
  | dict i => rfl
end K60

set_option Elab.async false
set_option linter.all false
set_option maxRecDepth 100000
namespace K60
open PySem PySem.Spec PyProof.Rows L2 L3 L4

/-- short enough, all of it -/
def Sh (d : D) : Prop := ∃ k n, k ≤ 3 ∧ n ≤ 6 ∧ Ok k n d
theorem Sh.t {ds : List D} (h : Sh (.tuple ds)) : ds.length ≤ 9 ∧ ∀ d ∈ ds, Sh d := by
  obtain ⟨k, n, hk, hn, h⟩ := h
  cases n with
  | zero => exact h.elim
  | succ n => exact ⟨by have := h.1; omega, fun d hd => ⟨k, n, hk, by omega, h.2 d hd⟩⟩
theorem Sh.len {d : D} (h : Sh d) : ∀ ds, d = .tuple ds → ds.length ≤ 100 := fun ds e => by subst e; have := h.t.1; omega
theorem Sh.lay {d : D} (h : Sh d) : d.canLay0 = true := by obtain ⟨k, n, hk, hn, h⟩ := h; exact h.lay
theorem Sh.deep {d : D} (h : Sh d) : d.depth ≤ 1000 := by obtain ⟨k, n, hk, hn, h⟩ := h; have := h.deep; omega
theorem eqS {d : D} (h : Sh d) (w : String) : opEq d (.str w) = some (sS w d) := by
  unfold opEq eqOk
  have hw : PyData.canLay0 (.str w) = true := by simp [PyData.canLay0, strOk_lit]
  rw [if_pos (by simp [h.lay, h.deep, hw])]
  cases d <;> simp [PyData.eqv, sS]
theorem inS {d : D} (h : Sh d) : opIn d (.tuple [(.str "least"), (.str "same")]) = some (sS "least" d || sS "same" d) ∧ opIn d (.list [(.str "least"), (.str "same")]) = some (sS "least" d || sS "same" d) := by
  have hw : PyData.canLayAll0 [(.str "least"), (.str "same")] = true := by simp [PyData.canLayAll0, PyData.canLay0, strOk_lit]
  have hi : inOk d [(.str "least"), (.str "same")] = true := by unfold inOk; simp [h.lay, h.deep, hw]
  have he : ([(.str "least"), (.str "same")] : List D).any (fun y => PyData.eqv y d) = (sS "least" d || sS "same" d) := by
    cases d <;> simp [PyData.eqv, sS]
    rename_i s
    have e : ∀ a b : Str, (a == b) = (b == a) := fun a b => by
      rw [Bool.eq_iff_iff]; simp; exact eq_comm
    rw [e, e (Str.ofString "same")]
  constructor
  · show (if inOk _ _ then _ else none) = _
    rw [if_pos hi, he]
  · show (if inOk _ _ then _ else none) = _
    rw [if_pos hi, he]
theorem ixT0 (a : D) (r : List D) : opIx (.tuple (a :: r)) (.int 0) = some a := ixT (a :: r) 0 (by simp)
theorem ixT1 (a b : D) (r : List D) : opIx (.tuple (a :: b :: r)) (.int 1) = some b := ixT (a :: b :: r) 1 (by simp)
theorem ixT2 (a b c : D) (r : List D) : opIx (.tuple (a :: b :: c :: r)) (.int 2) = some c := ixT (a :: b :: c :: r) 2 (by simp)
theorem form_is {R S : Nat} {d : D} (h : Sh d) : c_is_form (.int R) (.int S) d = .ret (.bool (sF R S d)) := by
  unfold c_is_form
  have e3 : c_is_tuple_of d (.int 3) = _ := tupleOf_ok d 3
  rw [e3]
  cases d with
  | tuple ds =>
    match ds, h with
    | [], _ => rfl
    | [a], _ => rfl
    | [a, b], _ => rfl
    | [a, b, c], h =>
      have hs := h.t.2
      have hb := (hs b (by simp)).len
      have hc := (hs c (by simp)).len
      have e : decide (([a, b, c] : List D).length = 3) = true := rfl
      simp only [e, bdR, oMS, tru_b, Bool.not_true, ixT0, ixT1, ixT2, bounded_ok, are_ok _ _ hb, are_ok _ _ hc, asB_b, iteB]
      rw [if_neg (by decide), bdR]
      cases q : sB a with
      | true => simp [sF, q]
      | false => simp [sF, q]
    | a :: b :: c :: e :: r, _ =>
      have q : decide ((a :: b :: c :: e :: r).length = 3) = false := by simp
      simp only [q, bdR, oMS, tru_b, Bool.not_false, if_true]
      rfl
  | none => rfl
  | str i => rfl
  | list i => rfl
  | bool i => rfl
  | int i => rfl
  | dict i => rfl
theorem lawForm_is {R S : Nat} {d : D} (h : Sh d) : c__law_is_form (sz R S) d = .ret (.bool (sF R S d)) := by
  unfold c__law_is_form
  cases d with
  | tuple ds =>
    have t1 : isT "tuple" (.tuple ds) = true := id rfl
    simp only [t1, Bool.not_true, lenT, oMS, bdR, neI]
    rw [if_neg (by decide), bdR]
    match ds, h with
    | [], _ => rfl
    | [a], _ => rfl
    | [a, b], _ => rfl
    | [a, b, c], h =>
      have hs := h.t.2
      have hb := (hs b (by simp)).len
      have hc := (hs c (by simp)).len
      have ha : ∀ ds, (PyData.tuple [a]) = .tuple ds → ds.length ≤ 100 := fun ds e => by cases e; simp
      have e : (!((([a, b, c] : List D).length : Int) == (3 : Int))) = false := rfl
      have e5 : opIx (sz R S) (.int 0) = some (.int R) := rfl
      have e6 : opIx (sz R S) (.int 1) = some (.int S) := rfl
      have a1 : c__law_are_whole (.tuple [a]) (.int 1) = _ := lawAre_ok (.tuple [a]) 1 ha
      rw [e, if_neg (by decide)]
      simp only [bdR, oMS, ixT0, ixT1, ixT2, e5, e6, a1, lawAre_ok _ _ hb, lawAre_ok _ _ hc, asB_b, iteB]
      simp [sF, sA, Bool.and_assoc]
    | a :: b :: c :: e :: r, _ =>
      have q : (!(((a :: b :: c :: e :: r).length : Int) == (3 : Int))) = true := by
        rw [Bool.not_eq_true', beq_eq_false_iff_ne]; simp only [List.length_cons]; omega
      rw [q, if_pos rfl]
      rfl
  | none => rfl
  | str i => rfl
  | list i => rfl
  | bool i => rfl
  | int i => rfl
  | dict i => rfl
theorem fact_is {R S : Nat} {d : D} (h : Sh d) : c_is_fact (.int R) (.int S) d = .ret (.bool (sC R S d)) := by
  unfold c_is_fact
  cases d with
  | tuple ds =>
    have t1 : isT "tuple" (.tuple ds) = true := id rfl
    simp only [t1, Bool.not_true, lenT, oMS, bdR, ltI]
    rw [if_neg (by decide)]
    match ds, h with
    | [], _ => rfl
    | [a], _ => rfl
    | a :: b :: r, h =>
      have hs := h.t.2
      have ha := hs a (by simp)
      have hb := hs b (by simp)
      have e : decide (((a :: b :: r).length : Int) < 2) = false := by simp; omega
      rw [e, if_neg (by decide)]
      simp only [ixT0, ixT1, oMS, bdR, form_is hb, tru_b, (inS ha).1, eqS ha, eqI]
      cases qf : sF R S b with
      | false =>
        simp only [Bool.not_false, if_true]
        match r with
        | [] => simp [sC, qf]
        | [c] => simp [sC, qf]
        | c :: e :: r => simp [sC]
      | true =>
        simp only [Bool.not_true]
        rw [if_neg (by decide)]
        match r, h with
        | [], _ =>
          have e2 : ((([a, b] : List D).length : Int) == (2 : Int)) = true := rfl
          have e3 : ((([a, b] : List D).length : Int) == (3 : Int)) = false := rfl
          rw [e2, e3]
          show _ = M.ret (PyData.bool ((sS "least" a || sS "same" a) && sF R S b))
          rw [qf]
          cases (sS "least" a || sS "same" a) <;> cases sS "rest" a <;> rfl
        | [c], h =>
          have e2 : ((([a, b, c] : List D).length : Int) == (2 : Int)) = false := rfl
          have e3 : ((([a, b, c] : List D).length : Int) == (3 : Int)) = true := rfl
          rw [e2, e3]
          simp only [ixT2, oMS, bdR, within_ok, asB_b, if_true, iteB]
          have hx : (sS "least" a || sS "same" a) = true → sS "rest" a = false := by
            cases a <;> simp [sS]
            rename_i s
            rintro (rfl | rfl) <;> decide +kernel
          cases q : (sS "least" a || sS "same" a) with
          | true => simp [sC, hx q]
          | false => simp [sC, qf]
        | c :: e :: r, _ =>
          have e2 : (((a :: b :: c :: e :: r).length : Int) == (2 : Int)) = false := by
            rw [beq_eq_false_iff_ne]; simp only [List.length_cons]; omega
          have e3 : (((a :: b :: c :: e :: r).length : Int) == (3 : Int)) = false := by
            rw [beq_eq_false_iff_ne]; simp only [List.length_cons]; omega
          rw [e2, e3]
          cases (sS "least" a || sS "same" a) <;> cases sS "rest" a <;> simp [sC]
  | none => rfl
  | str i => rfl
  | list i => rfl
  | bool i => rfl
  | int i => rfl
  | dict i => rfl
theorem lawFact_is {R S : Nat} {d : D} (h : Sh d) : c__law_is_fact (sz R S) d = .ret (.bool (sC R S d)) := by
  unfold c__law_is_fact
  cases d with
  | tuple ds =>
    have t1 : isT "tuple" (.tuple ds) = true := id rfl
    simp only [t1, Bool.not_true, lenT, oMS, bdR, leI]
    rw [if_neg (by decide)]
    match ds, h with
    | [], _ => rfl
    | [a], _ => rfl
    | [a, b], h =>
      have hs := h.t.2
      have ha := hs a (by simp)
      have hb := hs b (by simp)
      have e1 : decide ((2 : Int) ≤ (([a, b] : List D).length : Int)) = true := rfl
      have e2 : decide ((([a, b] : List D).length : Int) ≤ 3) = true := rfl
      have e3 : ((([a, b] : List D).length : Int) == (3 : Int)) = false := rfl
      simp only [e1, e2, if_true, bdR, Bool.not_true, ixT0, ixT1, oMS, eqI, e3, (inS ha).2, lawForm_is hb, asB_b, iteB]
      rw [if_neg (by decide), bdR]
      cases a <;> rfl
    | [a, b, c], h =>
      have hs := h.t.2
      have ha := hs a (by simp)
      have hb := hs b (by simp)
      have e1 : decide ((2 : Int) ≤ (([a, b, c] : List D).length : Int)) = true := rfl
      have e2 : decide ((([a, b, c] : List D).length : Int) ≤ 3) = true := rfl
      have e3 : ((([a, b, c] : List D).length : Int) == (3 : Int)) = true := rfl
      simp only [e1, e2, if_true, bdR, Bool.not_true, ixT0, ixT1, ixT2, oMS, eqI, e3, eqS ha, lawForm_is hb, whole_ok, asB_b, iteB]
      rw [if_neg (by decide), bdR]
      cases a <;> first | rfl | skip
      rename_i s
      have t2 : isT "str" (.str s) = true := id rfl
      rw [t2]
      simp [sC, Bool.and_assoc]
    | a :: b :: c :: e :: r, _ =>
      have e1 : decide ((2 : Int) ≤ ((a :: b :: c :: e :: r).length : Int)) = true := by simp; omega
      have e2 : decide (((a :: b :: c :: e :: r).length : Int) ≤ 3) = false := by simp; omega
      simp only [e1, e2, if_true, bdR, Bool.not_false]
      rfl
  | none => rfl
  | str i => rfl
  | list i => rfl
  | bool i => rfl
  | int i => rfl
  | dict i => rfl
end K60

set_option Elab.async false
set_option linter.all false
set_option maxRecDepth 100000
namespace K60
open PySem PySem.Spec PyProof.Rows L2 L3 L4

theorem right_ok {R S : Nat} {d : D} (h : Sh d) : c__law_right (sz R S) d = .ret (.bool true) := by
  unfold c__law_right
  have e5 : opIx (sz R S) (.int 0) = some (.int R) := rfl
  have e6 : opIx (sz R S) (.int 1) = some (.int S) := rfl
  obtain ⟨k, n, hk, hn, ho⟩ := id h
  obtain ⟨r1, r2⟩ := ho.repr hk hn
  have h2 : Ok 0 2 (.tuple [.bool (sF R S d), .bool (sC R S d)]) := ⟨by simp, fun x hx => by
    simp only [List.mem_cons, List.not_mem_nil, or_false] at hx
    rcases hx with rfl | rfl <;> trivial⟩
  obtain ⟨q1, q2⟩ := h2.repr (by omega) (by omega)
  simp only [e5, e6, oMS, bdR, form_is h, fact_is h, lawForm_is h, lawFact_is h, r1, r2, q1, q2, if_true]

theorem ok_list {k n : Nat} {ds : List D} (hl : ds.length ≤ 6 + k) (h : ∀ d ∈ ds, Ok k n d) : Ok k (n + 1) (.list ds) := ⟨hl, h⟩
theorem ok_tuple {k n : Nat} {ds : List D} (hl : ds.length ≤ 6 + k) (h : ∀ d ∈ ds, Ok k n d) : Ok k (n + 1) (.tuple ds) := ⟨hl, h⟩
theorem menu {k n T : Nat} {f : List D} {m : List D} {b : Nat} (hm : m.length = b) (hb : 0 < b) (hb2 : b < 1000) (h : ∀ d ∈ m, Ok k n d) (hf : Fd T f) (hT : T ≤ 10000) {kk : D → D × List D} :
    ∃ (r : Int) (x : D) (f' : List D), c__law_take f (.int b) = .ret (.int r, f') ∧ opIx (.list m) (.int r) = some x ∧ Ok k n x ∧ Fd (T + 1) f' := by
  obtain ⟨r, f', t1, t2, t3, t4⟩ := take_ok hf (by omega) (m := b) (by omega) (by omega)
  obtain ⟨x, hx, e⟩ := atI_ok m r t2 (by omega)
  exact ⟨r, x, f', t1, e, h x hx, t4⟩
theorem addT (a b : List D) (h : a.length + b.length ≤ 1000) : opAdd (.tuple a) (.tuple b) = some (.tuple (a ++ b)) := if_pos (le1000 h)
theorem addL (a b : List D) (h : a.length + b.length ≤ 1000) : opAdd (.list a) (.list b) = some (.list (a ++ b)) := if_pos (le1000 h)
theorem cutT (ds : List D) (lo hi : Option Int) : fCut (.tuple ds) lo hi = some (.tuple (L4.cutD ds lo hi)) := id rfl
theorem asI_i (i : Int) : asI (.int i) = .ret (some i) := id rfl
theorem subI (a b : Int) : opSub (.int a) (.int b) = some (.int (a - b)) := id rfl
theorem addI (a b : Int) : opAdd (.int a) (.int b) = some (.int (a + b)) := id rfl
theorem odd_ok {k n T : Nat} {f : List D} {d : D} (hk : k ≤ 2) (h : Ok k n d) (hf : Fd T f) (hT : T ≤ 9000) :
    ∃ r f', c__law_odd f d = .ret (r, f') ∧ Ok (k + 1) (n + 1) r ∧ Fd (T + 2) f' := by
  cases n with
  | zero => exact h.elim
  | succ n =>
  have w0 : ∀ s : String, wordOk s = true → Ok (k + 1) (n + 1 + 1) (.str s) := fun s hs => hs
  have i0 : ∀ i : Int, i.natAbs ≤ 1000000000000001 → Ok (k + 1) (n + 1 + 1) (.int i) := fun i hi => by
    show i.natAbs < 10 ^ (16 + (k + 1))
    exact Nat.lt_of_lt_of_le (Nat.lt_of_le_of_lt hi (by decide)) (Nat.pow_le_pow_right (by decide) (show 16 ≤ 16 + (k + 1) by omega))
  have t0 : Ok (k + 1) (n + 1 + 1) (.tuple []) := ⟨by simp, fun _ h => by cases h⟩
  unfold c__law_odd
  have small : ∀ b : Bool, ∃ r f', (bd (c__law_take f (.int 6)) fun r7 => bd (oM (opIx (.list [.bool b, (.int 0), (.int 1), .none, (.str ""), (.tuple [])]) r7.1)) fun x8 => M.ret (x8, r7.2)) = .ret (r, f') ∧ Ok (k + 1) (n + 1 + 1) r ∧ Fd (T + 2) f' := fun b => by
    obtain ⟨r, x, f', m1, m2, m3, m4⟩ := menu (k := k + 1) (n := n + 1 + 1) (m := [.bool b, (.int 0), (.int 1), .none, (.str ""), (.tuple [])]) (b := 6) rfl (by decide) (by decide) (by
      intro d hd
      simp only [List.mem_cons, List.not_mem_nil, or_false] at hd
      rcases hd with rfl | rfl | rfl | rfl | rfl | rfl
      · trivial
      · exact i0 _ (by decide)
      · exact i0 _ (by decide)
      · trivial
      · exact w0 _ (by decide +kernel)
      · exact t0) hf (by omega) (kk := fun x => (x, []))
    have m1' : c__law_take f (.int 6) = .ret (.int r, f') := m1
    simp only [m1', bdR, m2, oMS]
    exact ⟨_, _, rfl, m3, m4.le (by omega)⟩
  cases d with
  | none => exact small true
  | bool b => 
    have t1 : isT "bool" (.bool b) = true := id rfl
    simp only [t1, if_true, bdR, tru_b, oMS]
    exact small (!b)
  | int i =>
    have h' : i.natAbs < 10 ^ (16 + k) := h
    have hp : (10 : Nat) ^ (16 + (k + 1)) = 10 * 10 ^ (16 + k) := by rw [← Nat.add_assoc, Nat.pow_succ, Nat.mul_comm]
    have hq : 10 ≤ (10 : Nat) ^ (16 + k) := Nat.le_trans (by decide) (Nat.pow_le_pow_right (by decide) (show 1 ≤ 16 + k by omega))
    have b0 : ∀ j : Int, j.natAbs < 10 * 10 ^ (16 + k) → Ok (k + 1) (n + 1 + 1) (.int j) := fun j hj => by
      show j.natAbs < 10 ^ (16 + (k + 1))
      rw [hp]; exact hj
    have t1 : isT "bool" (.int i) = false := id rfl
    have t2 : opIsB (.int i) .none = some false := id rfl
    have t3 : isT "int" (.int i) = true := id rfl
    have mul2 : opMulI (.int 2) (.int i) = some (.int (2 * i)) := mul_okL _ _ (by decide) (by decide)
    simp only [t1, t2, t3, oMS, bdR, addI, subI, mul2, eqI, pow15]
    rw [if_neg (by decide), bdR, if_neg (by decide), if_pos trivial]
    obtain ⟨r, x, f', m1, m2, m3, m4⟩ := menu (k := k + 1) (n := n + 1 + 1) (m := [.int (i + 1), .int (i - 1), .int (0 - i), .int (2 * i), .bool (i == 1), .none, .str "1", .int (1000000000000000 + 1), .tuple [.int i]]) (b := 9) rfl (by decide) (by decide) (by
      intro d hd
      simp only [List.mem_cons, List.not_mem_nil, or_false] at hd
      rcases hd with rfl | rfl | rfl | rfl | rfl | rfl | rfl | rfl | rfl
      · exact b0 _ (by omega)
      · exact b0 _ (by omega)
      · exact b0 _ (by omega)
      · exact b0 _ (by omega)
      · trivial
      · trivial
      · exact w0 _ (by decide +kernel)
      · exact i0 _ (by decide)
      · exact ⟨by simp; omega, fun x hx => by
          simp only [List.mem_cons, List.not_mem_nil, or_false] at hx
          subst hx
          exact (Ok.bent (n := n + 1) (d := .int i) h')⟩) hf (by omega) (kk := fun x => (x, []))
    have m1' : c__law_take f (.int 9) = .ret (.int r, f') := m1
    simp only [m1', bdR, m2, oMS]
    exact ⟨_, _, rfl, m3, m4.le (by omega)⟩
  | str s =>
    have t1 : isT "bool" (.str s) = false := id rfl
    have t2 : opIsB (.str s) .none = some false := id rfl
    have t3 : isT "int" (.str s) = false := id rfl
    have t4 : isT "str" (.str s) = true := id rfl
    simp only [t1, t2, t3, t4, oMS, bdR]
    rw [if_neg (by decide), bdR, if_neg (by decide), if_neg (by decide), if_pos trivial, addL _ _ (by decide), oMS, bdR]
    obtain ⟨r, x, f', m1, m2, m3, m4⟩ := menu (k := k + 1) (n := n + 1 + 1) (m := [(.str "sum"), (.str "rest"), (.str "split"), (.str "cases"), (.str "know"), (.str "never"), (.str "in")] ++ [(.str "stays"), (.str "meet"), (.str "on"), (.str "end"), (.str "least"), (.str "same"), (.str "")]) (b := 14) rfl (by decide) (by decide) (by
      intro d hd
      simp only [List.cons_append, List.nil_append, List.mem_cons, List.not_mem_nil, or_false] at hd
      rcases hd with rfl | rfl | rfl | rfl | rfl | rfl | rfl | rfl | rfl | rfl | rfl | rfl | rfl | rfl <;> exact w0 _ (by decide +kernel)) hf (by omega) (kk := fun x => (x, []))
    have m1' : c__law_take f (.int 14) = .ret (.int r, f') := m1
    simp only [m1', bdR, m2, oMS]
    exact ⟨_, _, rfl, m3, m4.le (by omega)⟩
  | list ds =>
    have t1 : isT "bool" (.list ds) = false := id rfl
    have t2 : opIsB (.list ds) .none = some false := id rfl
    have t3 : isT "int" (.list ds) = false := id rfl
    have t4 : isT "str" (.list ds) = false := id rfl
    have t5 : isT "list" (.list ds) = true := id rfl
    have t6 : fTuple [.list ds] = some (.tuple ds) := id rfl
    simp only [t1, t2, t3, t4, t5, t6, oMS, bdR]
    rw [if_neg (by decide), bdR, if_neg (by decide), if_neg (by decide), if_neg (by decide), if_pos trivial]
    exact ⟨_, _, rfl, (Ok.bent (n := n + 1) (d := .tuple ds) h).up, hf.le (by omega)⟩
  | dict ds => exact h.elim
  | tuple ds =>
    have hl : ds.length ≤ 6 + k := h.1
    have he : ∀ d ∈ ds, Ok (k + 1) (n + 1) d := fun d hd => (Ok.bent (h.2 d hd)).up
    have t1 : isT "bool" (.tuple ds) = false := id rfl
    have t2 : opIsB (.tuple ds) .none = some false := id rfl
    have t3 : isT "int" (.tuple ds) = false := id rfl
    have t4 : isT "str" (.tuple ds) = false := id rfl
    have t5 : isT "list" (.tuple ds) = false := id rfl
    have t6 : fList [.tuple ds] = some ds := id rfl
    have t7 : fRev (.tuple ds) = some (.tuple ds.reverse) := id rfl
    simp only [t1, t2, t3, t4, t5, oMS, bdR, lenT, addI]
    rw [if_neg (by decide), bdR, if_neg (by decide), if_neg (by decide), if_neg (by decide), if_neg (by decide)]
    obtain ⟨q, f1, q1, q2, q3, q4⟩ := take_ok hf (by omega) (m := (ds.length : Int) + 1) (by omega) (by omega)
    obtain ⟨q, rfl⟩ := Int.eq_ofNat_of_zero_le q2
    rw [q1]
    have hmax : fMax [.int 0, .int ((q : Int) - 1)] = some (.int ((q - 1 : Nat) : Int)) := by
      show some (PyData.int (if (q : Int) - 1 > 0 then (q : Int) - 1 else 0)) = _
      congr 2
      split <;> omega
    have hq1 : (q : Int) + 1 = ((q + 1 : Nat) : Int) := by omega
    simp only [bdR, oMS, asI_i, cutT, addI, subI, hmax, hq1, t6, t7]
    simp only [cut_hi, cut_lo]
    have l1 : (ds.take q).length + (ds.drop (q + 1)).length ≤ ds.length := by simp only [List.length_take, List.length_drop]; omega
    have l2 : (ds.take q).length + (ds.drop (q - 1)).length ≤ ds.length + 1 := by simp only [List.length_take, List.length_drop]; omega
    have l3 : (ds.drop q).length + (ds.take q).length ≤ ds.length := by simp only [List.length_take, List.length_drop]; omega
    rw [addT _ _ (Nat.le_trans l1 (by omega)), addT _ _ (Nat.le_trans l2 (by omega)), addT _ _ (Nat.le_trans l3 (by omega)), addT ds _ (by simp; omega)]
    simp only [bdR, oMS]
    rw [addL _ _ (by simp)]
    simp only [bdR, oMS]
    have z0 : Ok (k + 1) (n + 1) (.int 0) := by
      show (0 : Int).natAbs < _
      exact Nat.pos_of_ne_zero (by simp)
    obtain ⟨r, x, f', m1, m2, m3, m4⟩ := menu (k := k + 1) (n := n + 1 + 1) (m := [.tuple (ds.take q ++ ds.drop (q + 1)), .tuple (ds.take q ++ ds.drop (q - 1)), .tuple ds.reverse, .list ds, .tuple []] ++ [.tuple (ds.drop q ++ ds.take q), .tuple (ds ++ [.int 0]), .tuple [.tuple ds]]) (b := 8) rfl (by decide) (by decide) (by
      intro d hd
      simp only [List.cons_append, List.nil_append, List.mem_cons, List.not_mem_nil, or_false] at hd
      rcases hd with rfl | rfl | rfl | rfl | rfl | rfl | rfl | rfl
      · refine ok_tuple (by rw [List.length_append]; omega) fun d hd => ?_
        rcases List.mem_append.mp hd with hd | hd
        · exact he d (List.mem_of_mem_take hd)
        · exact he d (List.mem_of_mem_drop hd)
      · refine ok_tuple (by rw [List.length_append]; omega) fun d hd => ?_
        rcases List.mem_append.mp hd with hd | hd
        · exact he d (List.mem_of_mem_take hd)
        · exact he d (List.mem_of_mem_drop hd)
      · exact ok_tuple (by rw [List.length_reverse]; omega) fun d hd => he d (List.mem_reverse.mp hd)
      · exact ok_list (by omega) he
      · exact t0
      · refine ok_tuple (by rw [List.length_append]; omega) fun d hd => ?_
        rcases List.mem_append.mp hd with hd | hd
        · exact he d (List.mem_of_mem_drop hd)
        · exact he d (List.mem_of_mem_take hd)
      · refine ok_tuple (by rw [List.length_append]; simp; omega) fun d hd => ?_
        rcases List.mem_append.mp hd with hd | hd
        · exact he d hd
        · simp only [List.mem_cons, List.not_mem_nil, or_false] at hd
          subst hd
          exact z0
      · refine ok_tuple (by simp; omega) fun d hd => ?_
        simp only [List.mem_cons, List.not_mem_nil, or_false] at hd
        subst hd
        exact Ok.bent (n := n + 1) (d := .tuple ds) h) q4 (by omega) (kk := fun x => (x, []))
    have m1' : c__law_take f1 (.int 8) = .ret (.int r, f') := m1
    simp only [m1', bdR, m2, oMS]
    exact ⟨_, _, rfl, m3, m4.le (by omega)⟩
end K60

set_option Elab.async false
set_option linter.all false
set_option maxRecDepth 100000
namespace K60
open PySem PySem.Spec PyProof.Rows L2 L3 L4

theorem eqNilT {k n : Nat} {ds : List D} (h : Ok k n (.tuple ds)) (hn : n ≤ 1000) : opEq (.tuple ds) (.tuple []) = some ds.isEmpty := by
  unfold opEq eqOk
  have h1 := h.lay
  have h2 := h.deep
  rw [if_pos (by simp [h1, PyData.canLayAll0, PyData.canLay0] at *; exact ⟨h1, by omega⟩)]
  cases ds <;> simp [PyData.eqv, PyData.eqvAll]
theorem bent_ok {k : Nat} (hk : k ≤ 2) : ∀ (i deep n T : Nat) (f : List D) (d : D), deep < i → deep ≤ 10 → n ≤ 10 → Ok k n d → Fd T f → T + 2 * deep ≤ 8000 →
    ∃ r f', c__law_bent i f d (.int deep) = .ret (r, f') ∧ Ok (k + 1) (n + 1) r ∧ Fd (T + 5 * (deep + 1)) f'
  | 0, deep, n, T, f, d, hi, _, _, _, _, _ => by omega
  | i + 1, deep, n, T, f, d, hi, hd, hn, h, hf, hT => by
    have od : ∀ (g : List D) (T' : Nat), Fd T' g → T' ≤ T + 2 → ∃ r f', (bd (c__law_odd g d) fun r20 => M.ret (r20.1, r20.2)) = .ret (r, f') ∧ Ok (k + 1) (n + 1) r ∧ Fd (T + 5 * (deep + 1)) f' := fun g T' hg hT' => by
      obtain ⟨r, f', e1, e2, e3⟩ := odd_ok hk h hg (by omega)
      rw [e1, bdR]
      exact ⟨r, f', rfl, e2, e3.le (by omega)⟩
    show ∃ r f', c__law_bent_b (c__law_bent i) f d (.int deep) = .ret (r, f') ∧ _
    unfold c__law_bent_b
    cases d with
    | tuple ds =>
      have t1 : isT "tuple" (.tuple ds) = true := id rfl
      rw [t1, Bool.not_true, if_neg (by decide), eqNilT h (by omega), oMS, bdR]
      cases ds with
      | nil => exact od f T hf (by omega)
      | cons a r =>
        show ∃ r' f', (if false = true then _ else _) = _ ∧ _
        rw [if_neg (by decide)]
        have e0 : opEq (.int deep) (.int 0) = some ((deep : Int) == 0) := eqI _ _
        rw [e0, oMS, bdR]
        by_cases hz : (deep : Int) = 0
        · have : ((deep : Int) == 0) = true := by simp [hz]
          rw [this, if_pos rfl]
          exact od f T hf (by omega)
        · have : ((deep : Int) == 0) = false := by rw [beq_eq_false_iff_ne]; exact hz
          rw [this, if_neg (by decide)]
          obtain ⟨q, f1, q1, q2, q3, q4⟩ := take_ok hf (by omega) (m := 7) (by decide) (by decide)
          rw [q1, bdR]
          have e1 : opEq (.int q) (.int 0) = some (q == 0) := eqI _ _
          simp only [e1, oMS, bdR]
          by_cases hq : q = 0
          · have : (q == 0) = true := by simp [hq]
            rw [this, if_pos rfl]
            exact od f1 (T + 1) q4 (by omega)
          · have : (q == 0) = false := by rw [beq_eq_false_iff_ne]; exact hq
            rw [this, if_neg (by decide)]
            cases n with
            | zero => exact h.elim
            | succ n =>
            have hl : (a :: r).length ≤ 6 + k := h.1
            have hpos : 0 < (a :: r).length := by simp
            obtain ⟨p, f2, p1, p2, p3, p4⟩ := take_ok q4 (by omega) (m := ((a :: r).length : Int)) (by omega) (by omega)
            obtain ⟨p, rfl⟩ := Int.eq_ofNat_of_zero_le p2
            have hp : p < (a :: r).length := by omega
            obtain ⟨c, hc⟩ : ∃ c, (a :: r)[p]'hp = c := ⟨_, rfl⟩
            have e2 : opIx (.tuple (a :: r)) (.int p) = some c := by rw [← hc]; exact ixT (a :: r) p hp
            have hc' : c ∈ a :: r := by rw [← hc]; exact List.getElem_mem _
            have e3 : (deep : Int) - 1 = ((deep - 1 : Nat) : Int) := by omega
            obtain ⟨x, f3, x1, x2, x3⟩ := bent_ok hk i (deep - 1) n (T + 1 + 1) f2 c (by omega) (by omega) (by omega) (h.2 c hc') p4 (by omega)
            have e4 : (p : Int) + 1 = ((p + 1 : Nat) : Int) := by omega
            simp only [lenT, oMS, bdR]
            rw [p1]
            simp only [bdR, asI_i, cutT, oMS, e2, subI, e3, x1, addI, e4, cut_hi, cut_lo]
            have l1 : ((a :: r).take p).length + ([x] : List D).length ≤ 1000 := by simp only [List.length_take, List.length_cons, List.length_nil] at *; omega
            have l2 : (((a :: r).take p) ++ [x]).length + ((a :: r).drop (p + 1)).length = (a :: r).length := by
              simp only [List.length_append, List.length_take, List.length_drop, List.length_cons, List.length_nil] at *; omega
            rw [addT _ _ l1, oMS, bdR, addT _ _ (by omega), oMS, bdR]
            refine ⟨_, _, rfl, ok_tuple (by rw [List.length_append]; omega) fun d hd => ?_, x3.le (by omega)⟩
            rcases List.mem_append.mp hd with hd | hd
            · rcases List.mem_append.mp hd with hd | hd
              · exact (Ok.bent (h.2 d (List.mem_of_mem_take hd))).up
              · simp only [List.mem_cons, List.not_mem_nil, or_false] at hd
                subst hd
                exact x2
            · exact (Ok.bent (h.2 d (List.mem_of_mem_drop hd))).up
    | none => exact od f T hf (by omega)
    | bool b => exact od f T hf (by omega)
    | int b => exact od f T hf (by omega)
    | str b => exact od f T hf (by omega)
    | list b => exact od f T hf (by omega)
    | dict b => exact od f T hf (by omega)
theorem BI.ok {d : D} (h : BI d) : Ok 0 1 d ∧ sB d = true := by
  obtain ⟨i, rfl, h1, h2⟩ := h
  constructor
  · show i.natAbs < 10 ^ 16
    omega
  · show (decide (lo ≤ i) && decide (i ≤ 1000000000000000)) = true
    unfold lo
    simp [h1, h2]
theorem Form.ok {R S : Nat} {v : D} (h : Form R S v) (hR : R ≤ 6) (hS : S ≤ 6) : Ok 0 3 v ∧ sF R S v = true := by
  obtain ⟨a, as, bs, rfl, h1, h2, h3, h4, h5⟩ := h.of
  have ha : Ok 0 2 (.tuple as) := ok_tuple (by omega) fun d hd => (h4 d hd).ok.1
  have hb : Ok 0 2 (.tuple bs) := ok_tuple (by omega) fun d hd => (h5 d hd).ok.1
  constructor
  · refine ok_tuple (by simp) fun d hd => ?_
    simp only [List.mem_cons, List.not_mem_nil, or_false] at hd
    rcases hd with rfl | rfl | rfl
    · exact h1.ok.1.up
    · exact ha
    · exact hb
  · simp only [sF, sA, h1.ok.2, h2, h3, Bool.and_eq_true, decide_true, true_and, List.all_eq_true]
    exact ⟨fun x hx => (h4 x hx).ok.2, fun x hx => (h5 x hx).ok.2⟩
theorem wLeast : wordOk "least" = true := by decide +kernel
theorem wSame : wordOk "same" = true := by decide +kernel
theorem wRest : wordOk "rest" = true := by decide +kernel
theorem wMost : wordOk "most" = true := by decide +kernel
theorem wNone : wordOk "" = true := by decide +kernel
theorem Fact.ok {R S : Nat} {v : D} (h : Fact R S v) (hR : R ≤ 6) (hS : S ≤ 6) : Ok 0 4 v ∧ sC R S v = true := by
  obtain ⟨w, hw, (⟨s, hs, rfl⟩ | ⟨i, i1, i2, rfl⟩)⟩ := h.of
  · obtain ⟨w1, w2⟩ := hw.ok hR hS
    constructor
    · refine ok_tuple (by simp) fun d hd => ?_
      simp only [List.mem_cons, List.not_mem_nil, or_false] at hd
      rcases hd with rfl | rfl
      · rcases hs with rfl | rfl
        · exact wLeast
        · exact wSame
      · exact w1
    · show ((sS "least" (.str s) || sS "same" (.str s)) && sF R S w) = true
      rw [w2]
      rcases hs with rfl | rfl <;> simp [sS]
  · obtain ⟨w1, w2⟩ := hw.ok hR hS
    constructor
    · refine ok_tuple (by simp) fun d hd => ?_
      simp only [List.mem_cons, List.not_mem_nil, or_false] at hd
      rcases hd with rfl | rfl | rfl
      · exact wRest
      · exact w1
      · show i.natAbs < 10 ^ 16
        omega
    · show (sS "rest" (.str "rest") && sF R S w && sW 2 99 (.int i)) = true
      rw [w2]
      simp [sS, sW, i1, i2]
end K60

set_option Elab.async false
set_option linter.all false
set_option maxRecDepth 100000
namespace K60
open PySem PySem.Spec PyProof.Rows L2 L3 L4

theorem s7_ok {kn2 kn51 s f z w o th kn} {R S : Nat} (h : Sh th) : c_law_s7 kn2 kn51 s f z w o th (sz R S) kn = kn (s, f, z, w, o, th, ()) := by
  unfold c_law_s7
  rw [right_ok h]
  simp only [bdR, tru_b, oMS, Bool.not_true]
  rw [if_neg (by decide)]
theorem s5_ok {kn2 s d kn} {R S : Nat} (h : Sh d) : c_law_s5 kn2 s (sz R S) d kn = kn (s, sz R S, ()) := by
  unfold c_law_s5
  rw [right_ok h]
  simp only [bdR, tru_b, oMS, Bool.not_true]
  rw [if_neg (by decide)]
abbrev oth (R S : Nat) : List D := [sz (R + 1) S, sz R (S % 4 + 1), sz S (R % 4 + 1)]
theorem s3_ok {kn2 s f w th} {R S T : Nat} {kn51 : D × List D × D × D × D × Unit → M D} {res : M D} (h : Ok 1 5 th) (hf : Fd T f) (hT : T ≤ 7000)
    (hk : ∀ f', Fd (T + 20) f' → kn51 (s, f', sz R S, w, .list (oth R S), ()) = res) : c_law_s3 kn2 s f (sz R S) w (.list (oth R S)) th kn51 = res := by
  have hs : Sh th := ⟨1, 5, by decide, by decide, h⟩
  unfold c_law_s3
  rw [addL _ _ (by simp), oMS, bdR]
  have e : seqD (.list ([sz R S] ++ oth R S)) = some ([sz R S] ++ oth R S) := id rfl
  rw [e, oMS, bdR]
  refine forS_ok (P := fun _ st => st = (s, f, sz R S, w, .list (oth R S), th, ())) _ 0 _ _ ?_ rfl ?_
  · intro j st d hd _ _ hp kn hkn
    subst hp
    have : ∃ R' S' : Nat, d = sz R' S' := by
      simp only [List.cons_append, List.nil_append, List.mem_cons, List.not_mem_nil, or_false] at hd
      rcases hd with rfl | rfl | rfl | rfl <;> exact ⟨_, _, rfl⟩
    obtain ⟨R', S', rfl⟩ := this
    rw [s7_ok hs]
    exact hkn _ rfl
  · intro st hp
    subst hp
    show c_law_r8 kn2 kn51 s f (sz R S) w (.list (oth R S)) th = res
    unfold c_law_r8
    obtain ⟨r, f', b1, b2, b3⟩ := bent_ok (k := 1) (by decide) 4 3 5 T f th (by decide) (by decide) (by decide) h hf (by omega)
    have b1' : c__law_bent 4 f th (.int 3) = .ret (r, f') := b1
    rw [b1', bdR]
    have hr : Sh r := ⟨2, 6, by decide, by decide, b2⟩
    rw [right_ok hr, bdR, asB_b, bdR]
    show (if false = true then _ else _) = _
    rw [if_neg (by decide)]
    exact hk f' b3
theorem r4_ok {kn2 : D × Unit → M D} {s f o w} {R S : Nat} {res : M D} (h : Ok 0 3 w) (ht : ∃ ds, w = .tuple ds) (hk : kn2 (s, ()) = res) : c_law_r4 kn2 s f (sz R S) w o = res := by
  obtain ⟨ds, rfl⟩ := ht
  unfold c_law_r4
  have hl : ds.length ≤ 6 := h.1
  have e1 : fList [.tuple ds] = some ds := id rfl
  rw [addL _ _ (by simp), addT _ _ (by simp; omega)]
  simp only [oMS, bdR, e1]
  rw [addL _ _ (by simp), oMS, bdR]
  have e2 : ∀ l : List D, seqD (.list l) = some l := fun _ => id rfl
  rw [e2, oMS, bdR]
  refine forS_ok (P := fun _ st => st = (s, sz R S, ())) _ 0 _ _ ?_ rfl ?_
  · intro j st d hd _ _ hp kn hkn
    subst hp
    have h' : Ok 1 3 (.tuple ds) := h.bent
    have sh : ∀ {d : D}, Ok 1 4 d → Sh d := fun h => ⟨1, 4, by decide, by decide, h⟩
    have i0 : ∀ (n : Nat) (i : Int), i.natAbs ≤ 1000 → Ok 1 (n + 1) (.int i) := fun n i hi => by
      show i.natAbs < 10 ^ (16 + 1)
      exact Nat.lt_of_le_of_lt hi (by decide)
    have w1 : Ok 1 3 (.str "rest") := wRest
    have w2 : Ok 1 3 (.str "least") := wLeast
    have w3 : Ok 1 3 (.str "same") := wSame
    have w4 : Ok 1 3 (.str "most") := wMost
    have w5 : Ok 1 4 (.str "") := wNone
    have t0 : ∀ n, Ok 1 (n + 1) (.tuple []) := fun n => ⟨by simp, fun _ h => by cases h⟩
    have t0' : ∀ n, Ok 1 (n + 1) (.list []) := fun n => ⟨by simp, fun _ h => by cases h⟩
    have l1 : ∀ {a : D}, Ok 1 3 a → Ok 1 4 (.tuple [a]) := fun ha => ok_tuple (by simp) fun d hd => by
      simp only [List.mem_cons, List.not_mem_nil, or_false] at hd
      subst hd; exact ha
    have l2 : ∀ {a b : D}, Ok 1 3 a → Ok 1 3 b → Ok 1 4 (.tuple [a, b]) ∧ Ok 1 4 (.list [a, b]) := fun {a b} ha hb => by
      have : ∀ d ∈ [a, b], Ok 1 3 d := fun d hd => by
        simp only [List.mem_cons, List.not_mem_nil, or_false] at hd
        rcases hd with rfl | rfl
        · exact ha
        · exact hb
      exact ⟨ok_tuple (by simp) this, ok_list (by simp) this⟩
    have l3 : ∀ {a b c : D}, Ok 1 3 a → Ok 1 3 b → Ok 1 3 c → Ok 1 4 (.tuple [a, b, c]) := fun ha hb hc => ok_tuple (by simp) fun d hd => by
      simp only [List.mem_cons, List.not_mem_nil, or_false] at hd
      rcases hd with rfl | rfl | rfl
      · exact ha
      · exact hb
      · exact hc
    have hd' : Ok 1 4 d := by
      simp only [List.cons_append, List.nil_append, List.mem_cons, List.not_mem_nil, or_false] at hd
      rcases hd with rfl | rfl | rfl | rfl | rfl | rfl | rfl | rfl | rfl | rfl | rfl | rfl | rfl | rfl | rfl | rfl | rfl | rfl | rfl | rfl | rfl
      · exact l3 w1 h' (i0 _ _ (by decide))
      · exact l3 w1 h' (i0 _ _ (by decide))
      · exact l3 w1 h' (i0 _ _ (by decide))
      · exact l3 w1 h' (i0 _ _ (by decide))
      · exact l3 w1 h' (show Ok 1 3 (.bool true) from trivial)
      · exact l3 w2 h' (i0 _ _ (by decide))
      · exact (l2 w3 h').1
      · exact l1 w2
      · exact (l2 w1 h').1
      · exact (l2 w2 h').2
      · exact (l2 w4 h').1
      · exact trivial
      · exact trivial
      · exact i0 _ _ (by decide)
      · exact w5
      · exact t0 _
      · exact t0' _
      · exact l3 (t0 _) (t0 _) (t0 _)
      · exact l3 (i0 _ _ (by decide)) (t0 _) (t0 _)
      · refine ok_tuple (by simp; omega) fun d hd => ?_
        rcases List.mem_append.mp hd with hd | hd
        · exact (Ok.bent (h.2 d hd)).up
        · simp only [List.mem_cons, List.not_mem_nil, or_false] at hd
          subst hd
          exact i0 _ _ (by decide)
      · exact ok_list (by omega) fun d hd => (Ok.bent (h.2 d hd)).up
    show c_law_s5 kn2 s (sz R S) d kn = res
    rw [s5_ok (sh hd')]
    exact hkn _ rfl
  · intro st hp
    subst hp
    exact hk
theorem s1_ok {ns : List Int} {k : Int} {kn2 : D × Unit → M D} {res : M D} (hn : ns.length ≤ 63) (hk : kn2 (.list (ns.map PyData.int), ()) = res) : c_law_s1 (.list (ns.map PyData.int)) (.int k) kn2 = res := by
  unfold c_law_s1
  obtain ⟨f0, a1, a2⟩ := feed_ok ns k hn
  obtain ⟨r, f1, b1, b2, b3, b4⟩ := take_ok a2 (by decide) (m := 6) (by decide) (by decide)
  obtain ⟨s, f2, c1, c2, c3, c4⟩ := take_ok b4 (by decide) (m := 4) (by decide) (by decide)
  simp only [a1, b1, c1, bdR, addI, oMS]
  obtain ⟨R, hR⟩ : ∃ R : Nat, 1 + r = R := ⟨(1 + r).toNat, by omega⟩
  obtain ⟨S, hS⟩ : ∃ S : Nat, 1 + s = S := ⟨(1 + s).toNat, by omega⟩
  rw [hR, hS]
  obtain ⟨v, f3, d1, d2, d3⟩ := form_ok (R := R) (S := S) c4 (by decide) (by omega) (by omega)
  obtain ⟨u, f4, g1, g2, g3⟩ := fact_ok (R := R) (S := S) d2 (by decide) (by omega) (by omega)
  obtain ⟨v1, v2⟩ := d3.ok (by omega) (by omega)
  obtain ⟨u1, u2⟩ := g3.ok (by omega) (by omega)
  have sv : Sh v := ⟨0, 3, by decide, by decide, v1⟩
  have su : Sh u := ⟨0, 4, by decide, by decide, u1⟩
  obtain ⟨x, f5, h1, h2, h3⟩ := bent_ok (k := 0) (by decide) 4 3 3 _ f4 v (by decide) (by decide) (by decide) v1 g2 (by decide)
  obtain ⟨y, f6, k1, k2, k3⟩ := bent_ok (k := 0) (by decide) 4 3 4 _ f5 u (by decide) (by decide) (by decide) u1 h3 (by decide)
  have h1' : c__law_bent 4 f4 v (.int 3) = .ret (x, f5) := h1
  have k1' : c__law_bent 4 f5 u (.int 3) = .ret (y, f6) := k1
  have e5 : opIx (sz R S) (.int 0) = some (.int R) := rfl
  have e6 : opIx (sz R S) (.int 1) = some (.int S) := rfl
  have e7 : opNotB (.bool true) (.bool true) = some false := id rfl
  have e8 : opMod (.int S) (.int 4) = some (.int ((S % 4 : Nat) : Int)) := by rw [mod_ok _ _ (by decide)]; congr 2
  have e9 : opMod (.int R) (.int 4) = some (.int ((R % 4 : Nat) : Int)) := by rw [mod_ok _ _ (by decide)]; congr 2
  have p1 : ∀ n : Nat, (n : Int) + 1 = ((n + 1 : Nat) : Int) := fun n => by omega
  simp only [d1, g1, bdR, e5, e6, oMS, form_is sv, fact_is su, v2, u2, e7, e8, e9, addI, p1, h1', k1']
  rw [if_neg (by decide), bdR, if_neg (by decide)]
  have e10 : ∀ l : List D, seqD (.tuple l) = some l := fun _ => id rfl
  rw [e10, oMS, bdR]
  have hx : Ok 1 5 x := h2.up
  have hy : Ok 1 5 y := k2
  have hv : Ok 1 5 v := v1.bent.up.up
  have hu : Ok 1 5 u := u1.bent.up
  refine forS_ok (P := fun j st => ∃ f, st = (.list (ns.map PyData.int), f, sz R S, v, .list (oth R S), ()) ∧ Fd (1000 + 20 * j) f) _ 0 _ _ ?_ ⟨f6, rfl, k3.le (by decide)⟩ ?_
  · rintro j st d hd _ hj ⟨f, rfl, hf⟩ kn hkn
    have hd' : Ok 1 5 d := by
      simp only [List.mem_cons, List.not_mem_nil, or_false] at hd
      rcases hd with rfl | rfl | rfl | rfl
      · exact hv
      · exact hu
      · exact hx
      · exact hy
    have hj' : j < 4 := by simpa using hj
    exact s3_ok hd' hf (by omega) fun f' hf' => hkn _ ⟨f', rfl, hf'.le (by omega)⟩
  · rintro st ⟨f, rfl, hf⟩
    obtain ⟨a, as, bs, e, _⟩ := d3.of
    exact r4_ok v1 ⟨_, e⟩ hk
theorem main (ns : List Int) (hn : ns.length ≤ 63) : c_law (.list (ns.map PyData.int)) = .ret (.bool true) := by
  unfold c_law
  have e : fRange1 [.int 16] = some (rangeD 0 16) := range_ok 16 (by decide)
  rw [e, oMS, bdR]
  refine forS_ok (P := fun _ st => st = (.list (ns.map PyData.int), ())) _ 0 _ _ ?_ rfl ?_
  · intro j st d hd _ _ hp kn hkn
    subst hp
    have : ∃ k : Int, d = .int k := by
      unfold rangeD at hd
      obtain ⟨i, _, rfl⟩ := List.mem_map.mp hd
      exact ⟨_, rfl⟩
    obtain ⟨k, rfl⟩ := this
    exact s1_ok hn (hkn _ rfl)
  · intro st hp
    subst hp
    rfl
end K60

set_option Elab.async false
set_option linter.all false
set_option maxRecDepth 100000
set_option maxHeartbeats 8000000
namespace K60
open PySem PySem.Spec PyProof.Rows L2 L3 L4
theorem all_mk {l : PySem.W.OpenLaw} {w : World} {K : Fg} {h : Heap} {mg : Str → Option Value} {fa f0 f1 f2 f3 f4 f5 f6 f7 f8 f9 f10 f11 f12 f13 f14 f15 f16 f17 f18 : Addr} (X : K.In h) (G : h.Ns mainGlobals mg) (hfa : mg "law" = some (.ref fa))
    {oc0 kV0 dc0 pm0 cd0 ct0 : Value} {od0 an0 : Option Addr} {sl0 : Array (Option Value)}
    {oc1 kV1 dc1 pm1 cd1 ct1 : Value} {od1 an1 : Option Addr} {sl1 : Array (Option Value)}
    {oc2 kV2 dc2 pm2 cd2 ct2 : Value} {od2 an2 : Option Addr} {sl2 : Array (Option Value)}
    {oc3 kV3 dc3 pm3 cd3 ct3 : Value} {od3 an3 : Option Addr} {sl3 : Array (Option Value)}
    {oc4 kV4 dc4 pm4 cd4 ct4 : Value} {od4 an4 : Option Addr} {sl4 : Array (Option Value)}
    {oc5 kV5 dc5 pm5 cd5 ct5 : Value} {od5 an5 : Option Addr} {sl5 : Array (Option Value)}
    {oc6 kV6 dc6 pm6 cd6 ct6 : Value} {od6 an6 : Option Addr} {sl6 : Array (Option Value)}
    {oc7 kV7 dc7 pm7 cd7 ct7 : Value} {od7 an7 : Option Addr} {sl7 : Array (Option Value)}
    {oc8 kV8 dc8 pm8 cd8 ct8 : Value} {od8 an8 : Option Addr} {sl8 : Array (Option Value)}
    {oc9 kV9 dc9 pm9 cd9 ct9 : Value} {od9 an9 : Option Addr} {sl9 : Array (Option Value)}
    {oc10 kV10 dc10 pm10 cd10 ct10 : Value} {od10 an10 : Option Addr} {sl10 : Array (Option Value)}
    {oc11 kV11 dc11 pm11 cd11 ct11 : Value} {od11 an11 : Option Addr} {sl11 : Array (Option Value)}
    {oc12 kV12 dc12 pm12 cd12 ct12 : Value} {od12 an12 : Option Addr} {sl12 : Array (Option Value)}
    {oc13 kV13 dc13 pm13 cd13 ct13 : Value} {od13 an13 : Option Addr} {sl13 : Array (Option Value)}
    {oc14 kV14 dc14 pm14 cd14 ct14 : Value} {od14 an14 : Option Addr} {sl14 : Array (Option Value)}
    {oc15 kV15 dc15 pm15 cd15 ct15 : Value} {od15 an15 : Option Addr} {sl15 : Array (Option Value)}
    {oc16 kV16 dc16 pm16 cd16 ct16 : Value} {od16 an16 : Option Addr} {sl16 : Array (Option Value)}
    {oc17 kV17 dc17 pm17 cd17 ct17 : Value} {od17 an17 : Option Addr} {sl17 : Array (Option Value)}
    {oc18 kV18 dc18 pm18 cd18 ct18 : Value} {od18 an18 : Option Addr} {sl18 : Array (Option Value)}
    {u_GREATEST : Value}
    {u_MOST_DIVIDES : Value}
    (a0 : PySem.W.nsIn K mainGlobals "is_whole" = some (some (.ref f0))) (l0 : K.lookup f0 = some ⟨oc0, od0, .func (PySem.W.fnOf "is_whole" "is_whole" (defArgs s_is_whole) (defBody s_is_whole) (defScope s_is_whole) .none kV0 dc0 pm0 an0 cd0 ct0), sl0⟩) (c0 : PySem.W.codeIn K cd0 "is_whole" = true) (k0 : PySem.W.keepIn K (.ref f0) = true)
    (a1 : PySem.W.nsIn K mainGlobals "is_within" = some (some (.ref f1))) (l1 : K.lookup f1 = some ⟨oc1, od1, .func (PySem.W.fnOf "is_within" "is_within" (defArgs s_is_within) (defBody s_is_within) (defScope s_is_within) .none kV1 dc1 pm1 an1 cd1 ct1), sl1⟩) (c1 : PySem.W.codeIn K cd1 "is_within" = true) (k1 : PySem.W.keepIn K (.ref f1) = true)
    (a2 : PySem.W.nsIn K mainGlobals "is_tuple_of" = some (some (.ref f2))) (l2 : K.lookup f2 = some ⟨oc2, od2, .func (PySem.W.fnOf "is_tuple_of" "is_tuple_of" (defArgs s_is_tuple_of) (defBody s_is_tuple_of) (defScope s_is_tuple_of) .none kV2 dc2 pm2 an2 cd2 ct2), sl2⟩) (c2 : PySem.W.codeIn K cd2 "is_tuple_of" = true) (k2 : PySem.W.keepIn K (.ref f2) = true)
    (a3 : PySem.W.nsIn K mainGlobals "is_bounded" = some (some (.ref f3))) (l3 : K.lookup f3 = some ⟨oc3, od3, .func (PySem.W.fnOf "is_bounded" "is_bounded" (defArgs s_is_bounded) (defBody s_is_bounded) (defScope s_is_bounded) .none kV3 dc3 pm3 an3 cd3 ct3), sl3⟩) (c3 : PySem.W.codeIn K cd3 "is_bounded" = true) (k3 : PySem.W.keepIn K (.ref f3) = true)
    (a4 : PySem.W.nsIn K mainGlobals "are_bounded" = some (some (.ref f4))) (l4 : K.lookup f4 = some ⟨oc4, od4, .func (PySem.W.fnOf "are_bounded" "are_bounded" (defArgs s_are_bounded) (defBody s_are_bounded) (defScope s_are_bounded) .none kV4 dc4 pm4 an4 cd4 ct4), sl4⟩) (c4 : PySem.W.codeIn K cd4 "are_bounded" = true) (k4 : PySem.W.keepIn K (.ref f4) = true)
    (a5 : PySem.W.nsIn K mainGlobals "is_form" = some (some (.ref f5))) (l5 : K.lookup f5 = some ⟨oc5, od5, .func (PySem.W.fnOf "is_form" "is_form" (defArgs s_is_form) (defBody s_is_form) (defScope s_is_form) .none kV5 dc5 pm5 an5 cd5 ct5), sl5⟩) (c5 : PySem.W.codeIn K cd5 "is_form" = true) (k5 : PySem.W.keepIn K (.ref f5) = true)
    (a6 : PySem.W.nsIn K mainGlobals "is_fact" = some (some (.ref f6))) (l6 : K.lookup f6 = some ⟨oc6, od6, .func (PySem.W.fnOf "is_fact" "is_fact" (defArgs s_is_fact) (defBody s_is_fact) (defScope s_is_fact) .none kV6 dc6 pm6 an6 cd6 ct6), sl6⟩) (c6 : PySem.W.codeIn K cd6 "is_fact" = true) (k6 : PySem.W.keepIn K (.ref f6) = true)
    (a7 : PySem.W.nsIn K mainGlobals "_law_feed" = some (some (.ref f7))) (l7 : K.lookup f7 = some ⟨oc7, od7, .func (PySem.W.fnOf "_law_feed" "_law_feed" (defArgs s__law_feed) (defBody s__law_feed) (defScope s__law_feed) .none kV7 dc7 pm7 an7 cd7 ct7), sl7⟩) (c7 : PySem.W.codeIn K cd7 "_law_feed" = true) (k7 : PySem.W.keepIn K (.ref f7) = true)
    (a8 : PySem.W.nsIn K mainGlobals "_law_take" = some (some (.ref f8))) (l8 : K.lookup f8 = some ⟨oc8, od8, .func (PySem.W.fnOf "_law_take" "_law_take" (defArgs s__law_take) (defBody s__law_take) (defScope s__law_take) .none kV8 dc8 pm8 an8 cd8 ct8), sl8⟩) (c8 : PySem.W.codeIn K cd8 "_law_take" = true) (k8 : PySem.W.keepIn K (.ref f8) = true)
    (a9 : PySem.W.nsIn K mainGlobals "_law_form" = some (some (.ref f9))) (l9 : K.lookup f9 = some ⟨oc9, od9, .func (PySem.W.fnOf "_law_form" "_law_form" (defArgs s__law_form) (defBody s__law_form) (defScope s__law_form) .none kV9 dc9 pm9 an9 cd9 ct9), sl9⟩) (c9 : PySem.W.codeIn K cd9 "_law_form" = true) (k9 : PySem.W.keepIn K (.ref f9) = true)
    (a10 : PySem.W.nsIn K mainGlobals "_law_fact" = some (some (.ref f10))) (l10 : K.lookup f10 = some ⟨oc10, od10, .func (PySem.W.fnOf "_law_fact" "_law_fact" (defArgs s__law_fact) (defBody s__law_fact) (defScope s__law_fact) .none kV10 dc10 pm10 an10 cd10 ct10), sl10⟩) (c10 : PySem.W.codeIn K cd10 "_law_fact" = true) (k10 : PySem.W.keepIn K (.ref f10) = true)
    (a11 : PySem.W.nsIn K mainGlobals "_law_is_whole" = some (some (.ref f11))) (l11 : K.lookup f11 = some ⟨oc11, od11, .func (PySem.W.fnOf "_law_is_whole" "_law_is_whole" (defArgs s__law_is_whole) (defBody s__law_is_whole) (defScope s__law_is_whole) .none kV11 dc11 pm11 an11 cd11 ct11), sl11⟩) (c11 : PySem.W.codeIn K cd11 "_law_is_whole" = true) (k11 : PySem.W.keepIn K (.ref f11) = true)
    (a12 : PySem.W.nsIn K mainGlobals "_law_are_whole" = some (some (.ref f12))) (l12 : K.lookup f12 = some ⟨oc12, od12, .func (PySem.W.fnOf "_law_are_whole" "_law_are_whole" (defArgs s__law_are_whole) (defBody s__law_are_whole) (defScope s__law_are_whole) .none kV12 dc12 pm12 an12 cd12 ct12), sl12⟩) (c12 : PySem.W.codeIn K cd12 "_law_are_whole" = true) (k12 : PySem.W.keepIn K (.ref f12) = true)
    (a13 : PySem.W.nsIn K mainGlobals "_law_is_form" = some (some (.ref f13))) (l13 : K.lookup f13 = some ⟨oc13, od13, .func (PySem.W.fnOf "_law_is_form" "_law_is_form" (defArgs s__law_is_form) (defBody s__law_is_form) (defScope s__law_is_form) .none kV13 dc13 pm13 an13 cd13 ct13), sl13⟩) (c13 : PySem.W.codeIn K cd13 "_law_is_form" = true) (k13 : PySem.W.keepIn K (.ref f13) = true)
    (a14 : PySem.W.nsIn K mainGlobals "_law_is_fact" = some (some (.ref f14))) (l14 : K.lookup f14 = some ⟨oc14, od14, .func (PySem.W.fnOf "_law_is_fact" "_law_is_fact" (defArgs s__law_is_fact) (defBody s__law_is_fact) (defScope s__law_is_fact) .none kV14 dc14 pm14 an14 cd14 ct14), sl14⟩) (c14 : PySem.W.codeIn K cd14 "_law_is_fact" = true) (k14 : PySem.W.keepIn K (.ref f14) = true)
    (a15 : PySem.W.nsIn K mainGlobals "_law_odd" = some (some (.ref f15))) (l15 : K.lookup f15 = some ⟨oc15, od15, .func (PySem.W.fnOf "_law_odd" "_law_odd" (defArgs s__law_odd) (defBody s__law_odd) (defScope s__law_odd) .none kV15 dc15 pm15 an15 cd15 ct15), sl15⟩) (c15 : PySem.W.codeIn K cd15 "_law_odd" = true) (k15 : PySem.W.keepIn K (.ref f15) = true)
    (a16 : PySem.W.nsIn K mainGlobals "_law_bent" = some (some (.ref f16))) (l16 : K.lookup f16 = some ⟨oc16, od16, .func (PySem.W.fnOf "_law_bent" "_law_bent" (defArgs s__law_bent) (defBody s__law_bent) (defScope s__law_bent) .none kV16 dc16 pm16 an16 cd16 ct16), sl16⟩) (c16 : PySem.W.codeIn K cd16 "_law_bent" = true) (k16 : PySem.W.keepIn K (.ref f16) = true)
    (a17 : PySem.W.nsIn K mainGlobals "_law_right" = some (some (.ref f17))) (l17 : K.lookup f17 = some ⟨oc17, od17, .func (PySem.W.fnOf "_law_right" "_law_right" (defArgs s__law_right) (defBody s__law_right) (defScope s__law_right) .none kV17 dc17 pm17 an17 cd17 ct17), sl17⟩) (c17 : PySem.W.codeIn K cd17 "_law_right" = true) (k17 : PySem.W.keepIn K (.ref f17) = true)
    (a18 : PySem.W.nsIn K mainGlobals "law" = some (some (.ref f18))) (l18 : K.lookup f18 = some ⟨oc18, od18, .func (PySem.W.fnOf "law" "law" (defArgs s_law) (defBody s_law) (defScope s_law) .none kV18 dc18 pm18 an18 cd18 ct18), sl18⟩) (c18 : PySem.W.codeIn K cd18 "law" = true) (k18 : PySem.W.keepIn K (.ref f18) = true)
    (z_range : PySem.W.nsIn K mainGlobals "range" = some none)
    (z_len : PySem.W.nsIn K mainGlobals "len" = some none)
    (z_tuple : PySem.W.nsIn K mainGlobals "tuple" = some none)
    (z_list : PySem.W.nsIn K mainGlobals "list" = some none)
    (z_max : PySem.W.nsIn K mainGlobals "max" = some none)
    (z_min : PySem.W.nsIn K mainGlobals "min" = some none)
    (z_sum : PySem.W.nsIn K mainGlobals "sum" = some none)
    (z_abs : PySem.W.nsIn K mainGlobals "abs" = some none)
    (z_repr : PySem.W.nsIn K mainGlobals "repr" = some none)
    (z_enumerate : PySem.W.nsIn K mainGlobals "enumerate" = some none)
    (z_isinstance : PySem.W.nsIn K mainGlobals "isinstance" = some none)
    (z_all : PySem.W.nsIn K mainGlobals "all" = some none)
    (z_any : PySem.W.nsIn K mainGlobals "any" = some none)
    (z_int : PySem.W.nsIn K mainGlobals "int" = some none)
    (z_str : PySem.W.nsIn K mainGlobals "str" = some none)
    (z_bool : PySem.W.nsIn K mainGlobals "bool" = some none)
    (z_zip : PySem.W.nsIn K mainGlobals "zip" = some none)
    (z_sorted : PySem.W.nsIn K mainGlobals "sorted" = some none)
    (z_set : PySem.W.nsIn K mainGlobals "set" = some none)
    (z_dict : PySem.W.nsIn K mainGlobals "dict" = some none)
    (z_reversed : PySem.W.nsIn K mainGlobals "reversed" = some none)
    (g_GREATEST : PySem.W.nsIn K mainGlobals "GREATEST" = some (some u_GREATEST)) (r_GREATEST : RelV (.int 1000000000000000) u_GREATEST)
    (g_MOST_DIVIDES : PySem.W.nsIn K mainGlobals "MOST_DIVIDES" = some (some u_MOST_DIVIDES)) (r_MOST_DIVIDES : RelV (.int 99) u_MOST_DIVIDES) :
    ∃ fd : FuncData, (∀ (s : Shared) (v : Value), BindsTo s fd ⟨[v], []⟩ [("_law_script", v)]) ∧ ∀ base : Heap, K.In base → base.Ns mainGlobals mg → FnOk l.prog w K mg base CX0 8 fa fd ["_law_script"] (spD K 1 mf_law) := by
  have e := hfa.symm.trans (PySem.W.mg_of X G a18)
  cases e
  have B : BN mg := ⟨PySem.W.mg_none_of X G z_range, PySem.W.mg_none_of X G z_len, PySem.W.mg_none_of X G z_tuple, PySem.W.mg_none_of X G z_list, PySem.W.mg_none_of X G z_max, PySem.W.mg_none_of X G z_min, PySem.W.mg_none_of X G z_sum, PySem.W.mg_none_of X G z_abs, PySem.W.mg_none_of X G z_repr, PySem.W.mg_none_of X G z_enumerate, PySem.W.mg_none_of X G z_isinstance, PySem.W.mg_none_of X G z_all, PySem.W.mg_none_of X G z_any, PySem.W.mg_none_of X G z_int, PySem.W.mg_none_of X G z_str, PySem.W.mg_none_of X G z_bool, PySem.W.mg_none_of X G z_zip, PySem.W.mg_none_of X G z_sorted, PySem.W.mg_none_of X G z_set, PySem.W.mg_none_of X G z_dict, PySem.W.mg_none_of X G z_reversed⟩
  have Kn : KN mg := ⟨⟨_, PySem.W.mg_of X G g_GREATEST, r_GREATEST⟩, ⟨_, PySem.W.mg_of X G g_MOST_DIVIDES, r_MOST_DIVIDES⟩⟩
  have F0 := fun_mk (st := s_is_whole) l0 c0 k0
  have F1 := fun_mk (st := s_is_within) l1 c1 k1
  have F2 := fun_mk (st := s_is_tuple_of) l2 c2 k2
  have F3 := fun_mk (st := s_is_bounded) l3 c3 k3
  have F4 := fun_mk (st := s_are_bounded) l4 c4 k4
  have F5 := fun_mk (st := s_is_form) l5 c5 k5
  have F6 := fun_mk (st := s_is_fact) l6 c6 k6
  have F7 := fun_mk (st := s__law_feed) l7 c7 k7
  have F8 := fun_mk (st := s__law_take) l8 c8 k8
  have F9 := fun_mk (st := s__law_form) l9 c9 k9
  have F10 := fun_mk (st := s__law_fact) l10 c10 k10
  have F11 := fun_mk (st := s__law_is_whole) l11 c11 k11
  have F12 := fun_mk (st := s__law_are_whole) l12 c12 k12
  have F13 := fun_mk (st := s__law_is_form) l13 c13 k13
  have F14 := fun_mk (st := s__law_is_fact) l14 c14 k14
  have F15 := fun_mk (st := s__law_odd) l15 c15 k15
  have F16 := fun_mk (st := s__law_bent) l16 c16 k16
  have F17 := fun_mk (st := s__law_right) l17 c17 k17
  have F18 := fun_mk (st := s_law) l18 c18 k18
  refine ⟨PySem.W.fnOf "law" "law" (defArgs s_law) (defBody s_law) (defScope s_law) .none kV18 dc18 pm18 an18 cd18 ct18, fun s v => .of_eq rfl, fun base _ _ => ?_⟩
  have C_is_whole := ok_is_whole (P := l.prog) (w := w) (base := base) F0 (PySem.W.mg_of X G a0) B Kn 
  have C_is_within := ok_is_within (P := l.prog) (w := w) (base := base) F1 (PySem.W.mg_of X G a1) B Kn C_is_whole
  have C_is_tuple_of := ok_is_tuple_of (P := l.prog) (w := w) (base := base) F2 (PySem.W.mg_of X G a2) B Kn 
  have C_is_bounded := ok_is_bounded (P := l.prog) (w := w) (base := base) F3 (PySem.W.mg_of X G a3) B Kn C_is_within
  have C_are_bounded := ok_are_bounded (P := l.prog) (w := w) (base := base) F4 (PySem.W.mg_of X G a4) B Kn C_is_tuple_of C_is_bounded
  have C_is_form := ok_is_form (P := l.prog) (w := w) (base := base) F5 (PySem.W.mg_of X G a5) B Kn C_are_bounded C_is_tuple_of C_is_bounded
  have C_is_fact := ok_is_fact (P := l.prog) (w := w) (base := base) F6 (PySem.W.mg_of X G a6) B Kn C_is_within C_is_form
  have C__law_feed := ok__law_feed (P := l.prog) (w := w) (base := base) F7 (PySem.W.mg_of X G a7) B Kn 
  have C__law_take := ok__law_take (P := l.prog) (w := w) (base := base) F8 (PySem.W.mg_of X G a8) B Kn 
  have C__law_form := ok__law_form (P := l.prog) (w := w) (base := base) F9 (PySem.W.mg_of X G a9) B Kn C__law_take
  have C__law_fact := ok__law_fact (P := l.prog) (w := w) (base := base) F10 (PySem.W.mg_of X G a10) B Kn C__law_form C__law_take
  have C__law_is_whole := ok__law_is_whole (P := l.prog) (w := w) (base := base) F11 (PySem.W.mg_of X G a11) B Kn 
  have C__law_are_whole := ok__law_are_whole (P := l.prog) (w := w) (base := base) F12 (PySem.W.mg_of X G a12) B Kn C__law_is_whole
  have C__law_is_form := ok__law_is_form (P := l.prog) (w := w) (base := base) F13 (PySem.W.mg_of X G a13) B Kn C__law_are_whole
  have C__law_is_fact := ok__law_is_fact (P := l.prog) (w := w) (base := base) F14 (PySem.W.mg_of X G a14) B Kn C__law_is_form C__law_is_whole
  have C__law_odd := ok__law_odd (P := l.prog) (w := w) (base := base) F15 (PySem.W.mg_of X G a15) B Kn C__law_take
  have C__law_bent := ok__law_bent (P := l.prog) (w := w) (base := base) F16 (PySem.W.mg_of X G a16) B Kn C__law_take C__law_odd 4
  have C__law_right := ok__law_right (P := l.prog) (w := w) (base := base) F17 (PySem.W.mg_of X G a17) B Kn C_is_form C_is_fact C__law_is_form C__law_is_fact
  exact fn_law F18 B Kn C__law_feed C__law_form C__law_fact C__law_bent C__law_take C_is_form C_is_fact C__law_right
theorem walk {l : PySem.W.OpenLaw} {q : Program} {loose : List Str} {XP : (Str → Option Value) → Heap → Prop} {YP : World → Heap → Prop} {d : DefRec} {K : Params → Fg} (main : ∀ ns : List Int, ns.length ≤ 63 → c_law (.list (ns.map PyData.int)) = .ret (.bool true)) (hn : l.most = some 63) (hdf : d.params.defaults = [])
    (hY : ∀ (w : World) (h : Heap), YP w h → (K w.params).In h)
    (F : ∀ (w : World) (mg : Str → Option Value) (fa : Addr) (h : Heap), (K w.params).In h → h.Ns mainGlobals mg → mg d.name = some (.ref fa) →
      ∃ fd : FuncData, (∀ (s : Shared) (u : Value), BindsTo s fd ⟨[u], []⟩ [("_law_script", u)]) ∧ ∀ base : Heap, (K w.params).In base → base.Ns mainGlobals mg → FnOk l.prog w (K w.params) mg base CX0 8 fa fd ["_law_script"] (spD (K w.params) 1 mf_law)) :
    PySem.W.WalkO q loose XP YP l.row.toRowW d [] (fun f vs => PySem.call f vs) :=
  L2.walk_of (n := 63) (k := 8) (x := "_law_script") (CX := fun _ => CX0) (sp := fun w => spD (K w.params) 1 mf_law) hn (by decide) hdf ⟨rfl, by decide, by decide, rfl⟩ hY F (fun w H a ns hl _ hS => law_start hS (main ns hl)) fun _ _ _ _ _ z => z
end K60
open PySem PySem.W PyProof.Rows
set_option maxRecDepth 100000 in
set_option maxHeartbeats 0 in
theorem PySem.Challenge.cw_passersby_k60_forms_and_facts_of_any_thi_holds : PySem.Challenge.rw_passersby_k60_forms_and_facts_of_any_thi.Holds := by
  w_on; o_law; k_head; (case hw => w_witness2)
  k_fill
  refine K60.walk (l := PySem.Challenge.rw_passersby_k60_forms_and_facts_of_any_thi) K60.main rfl rfl (fun w h Y => PySem.W.kIn_of Y) ?F
  case F =>
    intro w mg fa h KX G hmg
    refine' K60.all_mk KX G hmg ?a0 ?l0 ?c0 ?k0 ?a1 ?l1 ?c1 ?k1 ?a2 ?l2 ?c2 ?k2 ?a3 ?l3 ?c3 ?k3 ?a4 ?l4 ?c4 ?k4 ?a5 ?l5 ?c5 ?k5 ?a6 ?l6 ?c6 ?k6 ?a7 ?l7 ?c7 ?k7 ?a8 ?l8 ?c8 ?k8 ?a9 ?l9 ?c9 ?k9 ?a10 ?l10 ?c10 ?k10 ?a11 ?l11 ?c11 ?k11 ?a12 ?l12 ?c12 ?k12 ?a13 ?l13 ?c13 ?k13 ?a14 ?l14 ?c14 ?k14 ?a15 ?l15 ?c15 ?k15 ?a16 ?l16 ?c16 ?k16 ?a17 ?l17 ?c17 ?k17 ?a18 ?l18 ?c18 ?k18 ?z_range ?z_len ?z_tuple ?z_list ?z_max ?z_min ?z_sum ?z_abs ?z_repr ?z_enumerate ?z_isinstance ?z_all ?z_any ?z_int ?z_str ?z_bool ?z_zip ?z_sorted ?z_set ?z_dict ?z_reversed ?g_GREATEST ?r_GREATEST ?g_MOST_DIVIDES ?r_MOST_DIVIDES
    (case a0 => k_is)
    (case l0 => k_is)
    (case c0 => k_is)
    (case k0 => k_is)
    (case a1 => k_is)
    (case l1 => k_is)
    (case c1 => k_is)
    (case k1 => k_is)
    (case a2 => k_is)
    (case l2 => k_is)
    (case c2 => k_is)
    (case k2 => k_is)
    (case a3 => k_is)
    (case l3 => k_is)
    (case c3 => k_is)
    (case k3 => k_is)
    (case a4 => k_is)
    (case l4 => k_is)
    (case c4 => k_is)
    (case k4 => k_is)
    (case a5 => k_is)
    (case l5 => k_is)
    (case c5 => k_is)
    (case k5 => k_is)
    (case a6 => k_is)
    (case l6 => k_is)
    (case c6 => k_is)
    (case k6 => k_is)
    (case a7 => k_is)
    (case l7 => k_is)
    (case c7 => k_is)
    (case k7 => k_is)
    (case a8 => k_is)
    (case l8 => k_is)
    (case c8 => k_is)
    (case k8 => k_is)
    (case a9 => k_is)
    (case l9 => k_is)
    (case c9 => k_is)
    (case k9 => k_is)
    (case a10 => k_is)
    (case l10 => k_is)
    (case c10 => k_is)
    (case k10 => k_is)
    (case a11 => k_is)
    (case l11 => k_is)
    (case c11 => k_is)
    (case k11 => k_is)
    (case a12 => k_is)
    (case l12 => k_is)
    (case c12 => k_is)
    (case k12 => k_is)
    (case a13 => k_is)
    (case l13 => k_is)
    (case c13 => k_is)
    (case k13 => k_is)
    (case a14 => k_is)
    (case l14 => k_is)
    (case c14 => k_is)
    (case k14 => k_is)
    (case a15 => k_is)
    (case l15 => k_is)
    (case c15 => k_is)
    (case k15 => k_is)
    (case a16 => k_is)
    (case l16 => k_is)
    (case c16 => k_is)
    (case k16 => k_is)
    (case a17 => k_is)
    (case l17 => k_is)
    (case c17 => k_is)
    (case k17 => k_is)
    (case a18 => k_is)
    (case l18 => k_is)
    (case c18 => k_is)
    (case k18 => k_is)
    (case z_range => k_is)
    (case z_len => k_is)
    (case z_tuple => k_is)
    (case z_list => k_is)
    (case z_max => k_is)
    (case z_min => k_is)
    (case z_sum => k_is)
    (case z_abs => k_is)
    (case z_repr => k_is)
    (case z_enumerate => k_is)
    (case z_isinstance => k_is)
    (case z_all => k_is)
    (case z_any => k_is)
    (case z_int => k_is)
    (case z_str => k_is)
    (case z_bool => k_is)
    (case z_zip => k_is)
    (case z_sorted => k_is)
    (case z_set => k_is)
    (case z_dict => k_is)
    (case z_reversed => k_is)
    (case g_GREATEST => k_is)
    (case r_GREATEST => first | exact ⟨_, rfl⟩ | rfl)
    (case g_MOST_DIVIDES => k_is)
    (case r_MOST_DIVIDES => first | exact ⟨_, rfl⟩ | rfl)

