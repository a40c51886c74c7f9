import PyProof.Rows.All
import Wide.All
import OpenK.AllK
import Wide.FinOn
import Lean
import PyProof.EqAt
import PyProof.EqKinds
import PyProof.TupleCall
import PySem.Challenge.RW_passersby_k03_truths

set_option Elab.async false
set_option linter.all false
set_option maxRecDepth 100000
/-! THE HAND LAYER, for ints, bools, texts, own classes, LISTS and tuples (index, slices, in, append, pop ..), calls, loops. Paste it whole ahead of your own text; what your proof does not reach may be deleted. -/
namespace L2
open PySem PySem.Spec PyProof.Rows

/-- a key: an int or a str -/
abbrev Key := Sum Int Str
def keyIs : Key → Value → Bool
  | .inl k, v => Value.isInt k v
  | .inr x, v => Value.isStrOf x v
def keyH (w : World) : Key → Int
  | .inl k => hashInt k
  | .inr x => hashStr w x
theorem keyIs_shape : ∀ {k : Key} {v : Value}, keyIs k v = true → (∃ i t, k = Sum.inl i ∧ v = Value.int i t) ∨ (∃ x t, k = Sum.inr x ∧ v = Value.str x t)
  | .inl i, v, h => by
    obtain ⟨t, e⟩ := Value.isInt_shape (k := i) (v := v) h
    exact .inl ⟨i, t, rfl, e⟩
  | .inr x, v, h => by
    obtain ⟨t, e⟩ := Value.isStrOf_shape (x := x) (v := v) h
    exact .inr ⟨x, t, rfl, e⟩
theorem keyIs_int (i : Int) (t : Tok) : keyIs (.inl i) (.int i t) = true := by simp [keyIs, Value.isInt]
theorem keyIs_str (x : Str) (t : Tok) : keyIs (.inr x) (.str x t) = true := by simp [keyIs, Value.isStrOf]
theorem key_ll (a b : Int) : decide ((Sum.inl a : Key) = Sum.inl b) = (a == b) := by
  by_cases e : a = b
  · subst e; simp
  · have h : ¬ (Sum.inl a : Key) = Sum.inl b := fun q => e (Sum.inl.inj q)
    rw [decide_eq_false h]
    exact (beq_eq_false_iff_ne.mpr e).symm
theorem key_rr (a b : Str) : decide ((Sum.inr a : Key) = Sum.inr b) = decide (a = b) := by
  by_cases e : a = b
  · subst e; simp
  · have h : ¬ (Sum.inr a : Key) = Sum.inr b := fun q => e (Sum.inr.inj q)
    rw [decide_eq_false h, decide_eq_false e]
theorem key_lr (a : Int) (b : Str) : decide ((Sum.inl a : Key) = Sum.inr b) = false := decide_eq_false (fun q => nomatch q)
theorem key_rl (a : Str) (b : Int) : decide ((Sum.inr a : Key) = Sum.inl b) = false := decide_eq_false (fun q => nomatch q)

def mixKind (prog : Program) (w : World) : PySem.KeyKind prog w Key where
  is := keyIs
  hash := keyH w
  inj := fun v a b ha hb => by
    rcases keyIs_shape ha with ⟨i, t, rfl, rfl⟩ | ⟨x, t, rfl, rfl⟩
    · rcases keyIs_shape hb with ⟨j, u, rfl, e⟩ | ⟨y, u, rfl, e⟩
      · injection e with e1 _; rw [e1]
      · exact nomatch e
    · rcases keyIs_shape hb with ⟨j, u, rfl, e⟩ | ⟨y, u, rfl, e⟩
      · exact nomatch e
      · injection e with e1 _; rw [e1]
  byValue := fun k v h => by
    rcases keyIs_shape h with ⟨i, t, rfl, rfl⟩ | ⟨x, t, rfl, rfl⟩ <;> rfl
  pyHash := fun hv h => by
    rcases keyIs_shape hv with ⟨i, t, rfl, rfl⟩ | ⟨x, t, rfl, rfl⟩
    · exact wpAny_pyHash_int h
    · exact wpAny_pyHash_str h
  eqBool := fun hu hv h => by
    rcases keyIs_shape hu with ⟨i, t, rfl, rfl⟩ | ⟨x, t, rfl, rfl⟩
    · rcases keyIs_shape hv with ⟨j, u, rfl, rfl⟩ | ⟨y, u, rfl, rfl⟩
      · rw [key_ll] at h; exact wpAny_eqBool_int h
      · rw [key_lr] at h; exact SeqAt.EqAt.int_str i t y u _ _ _ _ h
    · rcases keyIs_shape hv with ⟨j, u, rfl, rfl⟩ | ⟨y, u, rfl, rfl⟩
      · rw [key_rl] at h; exact SeqAt.EqAt.str_int x t j u _ _ _ _ h
      · rw [key_rr] at h; exact wpAny_eqBool_str h
  «strs» := fun k x t v h => by
    rcases keyIs_shape h with ⟨i, u, rfl, e⟩ | ⟨y, u, rfl, e⟩
    · exact nomatch e
    · injection e with e1 _
      subst e1
      cases v <;> rfl

theorem mixKind_is (prog : Program) (w : World) (k : Key) (v : Value) : (mixKind prog w).is k v = keyIs k v := rfl
theorem mixKind_int (prog : Program) (w : World) (i : Int) (t : Tok) : (mixKind prog w).is (.inl i) (.int i t) = true := keyIs_int i t
theorem mixKind_str (prog : Program) (w : World) (x : Str) (t : Tok) : (mixKind prog w).is (.inr x) (.str x t) = true := keyIs_str x t
end L2

namespace L2
open PySem PySem.Spec PyProof.Rows

/-- a value, without the heap -/
inductive V where
  | non | bl (b : Bool) | int (i : Int) | str (x : Str) | byt (b : Array UInt8) | flt (b : UInt64) | ref (a : Addr) | ty (n : String)
  deriving DecidableEq

def RelV : V → Value → Prop
  | .non, u => u = Value.none
  | .bl b, u => u = Value.bool b
  | .int i, u => ∃ t, u = Value.int i t
  | .str x, u => ∃ t, u = Value.str x t
  | .byt b, u => ∃ t, u = Value.bytes b t
  | .flt b, u => ∃ t, u = Value.float b t
  | .ref a, u => u = Value.ref a
  | .ty n, u => u = Value.type n

abbrev Vals : List V → List Value → Prop := Paired RelV
theorem Vals.length {xs : List V} {us : List Value} (r : Vals xs us) : xs.length = us.length := Paired.length r
theorem Vals.get : ∀ {xs : List V} {us : List Value} {i : Nat} {x : V}, Vals xs us → xs[i]? = some x → ∃ u, us[i]? = some u ∧ RelV x u
  | _, _, _, _, .nil, e => by simp at e
  | _, _, 0, _, .cons r _, e => by simp at e; subst e; exact ⟨_, rfl, r⟩
  | _, _, i + 1, x, .cons _ t, e => by
    obtain ⟨u, h1, h2⟩ := Vals.get (i := i) (x := x) t (by simpa using e)
    exact ⟨u, by simpa using h1, h2⟩
theorem Vals.set {x : V} {u : Value} (r : RelV x u) : ∀ {xs : List V} {us : List Value} (i : Nat), Vals xs us → Vals (xs.set i x) (us.set i u)
  | _, _, _, .nil => .nil
  | _, _, 0, .cons _ t => .cons r t
  | _, _, i + 1, .cons q t => .cons q (Vals.set r i t)
theorem Vals.append : ∀ {xs ys : List V} {us ws : List Value}, Vals xs us → Vals ys ws → Vals (xs ++ ys) (us ++ ws)
  | _, _, _, _, .nil, s => s
  | _, _, _, _, .cons r t, s => .cons r (Vals.append t s)
theorem Vals.take : ∀ {xs : List V} {us : List Value} (n : Nat), Vals xs us → Vals (xs.take n) (us.take n)
  | _, _, 0, _ => .nil
  | _, _, _ + 1, .nil => .nil
  | _, _, n + 1, .cons r t => .cons r (Vals.take n t)
theorem Vals.drop : ∀ {xs : List V} {us : List Value} (n : Nat), Vals xs us → Vals (xs.drop n) (us.drop n)
  | _, _, 0, r => r
  | _, _, _ + 1, .nil => .nil
  | _, _, n + 1, .cons _ t => Vals.drop n t
theorem Vals.none_of : ∀ {xs : List V} {us : List Value} {i : Nat}, Vals xs us → xs[i]? = none → us[i]? = none := fun {xs us i} r e => by
  have h1 := r.length
  have h2 : xs.length ≤ i := List.getElem?_eq_none_iff.mp e
  exact List.getElem?_eq_none_iff.mpr (by omega)

def RelO : Option V → Option Value → Prop
  | some v, some u => RelV v u
  | none, none => True
  | _, _ => False
def KV {κ : Type} : List (κ × V) → List (κ × Value) → Prop := Paired fun (p : κ × V) (q : κ × Value) => p.1 = q.1 ∧ RelV p.2 q.2

/-- a key of a dict (00_mix): an int or a text -/
def kV : Key → V
  | .inl i => .int i
  | .inr x => .str x

/-- what stands at a tracked address -/
inductive HO where
  /-- a list -/
  | lst (xs : List V)
  /-- a tuple (never changes) -/
  | tup (xs : List V)
  /-- a dict whose keys are ints and texts; one whose keys are tuples of ints and texts (the empty one is both) -/
  | dK (kvs : List (Key × V)) | dT (kvs : List (List Key × V))
  /-- a set of ints: its members, its size -/
  | set (S : Int → Bool) (n : Nat)
  /-- an instance of the class at C, its dict at dx, its attributes -/
  | ins (C dx : Addr) (fs : List (Str × V))
  /-- the dict of the instance at x -/
  | own (x : Addr)
  /-- the dict of an exception -/
  | xd (fs : List (Str × V))
  /-- a bound method, f of x -/
  | met (f x : Addr)
  /-- a range object lo, lo + 1, .. below hi -/
  | rng (lo hi : Int)
  /-- a thing that is known to the object (the script; a dict while a loop walks it): read, never written while it is so -/
  | frz (o : Obj) (u : HO)
  /-- a code object's table -/
  | tbl (ps : Array Value)
  /-- any other thing, by what is true of its one object (a def of one's own: SetO a S n := HO.ext fun h => ..) -/
  | ext (φ : Heap → Prop)

abbrev Hp := Addr → Option HO
def upd (H : Hp) (a : Addr) (o : HO) : Hp := fun b => if b = a then some o else H b
theorem upd_same {H : Hp} {a : Addr} {o : HO} : upd H a o a = some o := by unfold upd; rw [if_pos rfl]
theorem upd_ne {H : Hp} {a b : Addr} {o : HO} (h : b ≠ a) : upd H a o b = H b := by unfold upd; rw [if_neg h]
theorem upd_upd {H : Hp} {a : Addr} {o u : HO} : upd (upd H a o) a u = upd H a u := by
  funext b; unfold upd; split <;> rfl
/-- two objects of different content stand apart -/
theorem ne_of {H : Hp} {a b : Addr} {o u : HO} (h : H a = some o) (h' : H b = some u) (d : o ≠ u) : a ≠ b := by
  intro e; subst e; rw [h] at h'; exact d (Option.some.inj h')
theorem ne_of_none {H : Hp} {a b : Addr} {o : HO} (h : H a = some o) (h' : H b = none) : a ≠ b := by
  intro e; subst e; rw [h] at h'; cases h'

section
variable (P : Program) (w : World)
def ObjOk (H : Hp) (h : Heap) (a : Addr) : HO → Prop
  | .lst xs => xs.length ≤ sizeLine ∧ ∃ (its : List Value) (n : Nat), Vals xs its ∧ h.get? a = some { cls := .type "list", data := .seq its.toArray n }
  | .tup xs => xs.length ≤ sizeLine ∧ ∃ its : List Value, Vals xs its ∧ IsTup h a its.toArray
  | .dK kvs => kvs.length ≤ sizeLine ∧ (a == sysModules) = false ∧ ∃ vs, KV kvs vs ∧ h.DictOf (mixKind P w) a vs
  | .dT kvs => kvs.length ≤ sizeLine ∧ (a == sysModules) = false ∧ ∃ xs : List (List Key × Addr × Value),
      Paired (fun (p : List Key × V) (q : List Key × Addr × Value) => p.1 = q.1 ∧ H q.2.1 = some (.tup (p.1.map kV)) ∧ RelV p.2 q.2.2) kvs xs ∧
      ∃ o es ep, h.get? a = some o ∧ o.ExactDict ∧ o.data = .dict es ep ∧ es.toList = xs.map (entryOfKey (tupleKind (mixKind P w))) ∧ (xs.map (·.1)).Nodup
  | .set S n => h.SetOf (intKind P w) a S n
  | .ins C dx fs => H dx = some (.own a) ∧ fs.length ≤ 1000 ∧ dx ≠ a ∧ h.get? a = some (PySem.W.instObj C dx) ∧
      ∃ mA, h.Ns1 dx mA ∧ (∀ f, RelO (fs.lookup f) (mA f)) ∧ PySem.Within mA (fs.map (·.1))
  | .own _ => ∃ o, h.get? a = some o
  | .xd fs => ∃ mA, h.Ns1 a mA ∧ ∀ f, RelO (fs.lookup f) (mA f)
  | .rng lo hi => ∃ t u v, h.get? a = some { cls := .type "range", data := .fields #[.int lo t, .int hi u, .int 1 v] }
  | .frz o u => h.get? a = some o ∧ ObjOk H h a u
  | .tbl ps => h.get? a = some { cls := .none, data := .fields ps }
  | .met f x => h.get? a = some (PySem.W.methodObj (.ref f) (.ref x))
  | .ext φ => φ h ∧ (∃ o, h.get? a = some o) ∧ ∀ h1 h2 : Heap, φ h1 → (∀ o, h1.get? a = some o → h2.get? a = some o) → φ h2
/-- the abstract heap is held -/
def HOk (H : Hp) (h : Heap) : Prop := ∀ a o, H a = some o → ObjOk P w H h a o
end

section
variable {P : Program} {w : World} {H H' : Hp} {h h' : Heap} {a : Addr} {o : HO}
theorem ObjOk.lt (x : ObjOk P w H h a o) : a < h.objs.size := by
  cases o with
  | lst xs => obtain ⟨_, _, _, _, e⟩ := x; exact Heap.lt_size e
  | tup xs => obtain ⟨_, _, _, p⟩ := x; exact p.lt
  | dK kvs => obtain ⟨_, _, _, _, o, _, _, e, _⟩ := x; exact Heap.lt_size e
  | dT kvs => obtain ⟨_, _, _, _, o, _, _, e, _⟩ := x; exact Heap.lt_size e
  | set S n => obtain ⟨o, _, _, _, e, _⟩ := x; exact Heap.lt_size e
  | ins C dx fs => obtain ⟨_, _, _, e, _⟩ := x; exact Heap.lt_size e
  | own y => obtain ⟨_, e⟩ := x; exact Heap.lt_size e
  | xd fs => obtain ⟨_, ⟨_, _, _, e, _⟩, _⟩ := x; exact Heap.lt_size e
  | rng lo hi => obtain ⟨_, _, _, e⟩ := x; exact Heap.lt_size e
  | frz ob u => obtain ⟨e, _⟩ := x; exact Heap.lt_size e
  | tbl ps => exact Heap.lt_size (show h.get? a = some _ from x)
  | met f y => exact Heap.lt_size (show h.get? a = some _ from x)
  | ext φ => obtain ⟨_, ⟨_, e⟩, _⟩ := x; exact Heap.lt_size e
theorem Paired.mapP {α β : Type} {F G : α → β → Prop} : ∀ {l₁ : List α} {l₂ : List β}, Paired F l₁ l₂ → (∀ a b, F a b → G a b) → Paired G l₁ l₂
  | _, _, .nil, _ => .nil
  | _, _, .cons r t, f => .cons (f _ _ r) (Paired.mapP t f)
theorem Paired.imp' {α β : Type} {F G : α → β → Prop} (f : ∀ a b, F a b → G a b) {l₁ : List α} {l₂ : List β} (r : Paired F l₁ l₂) : Paired G l₁ l₂ := Paired.mapP r f
/-- what an object's description leans on: its own object, its own dict, the tuples -/
theorem ObjOk.stay (x : ObjOk P w H h a o) (k : ∀ b u, (b = a ∨ H b = some (.own a)) → h.get? b = some u → h'.get? b = some u)
    (ho : ∀ b, H b = some (.own a) → H' b = some (.own a)) (ht : ∀ b xs, H b = some (.tup xs) → H' b = some (.tup xs)) : ObjOk P w H' h' a o := by
  induction o with
  | lst xs => obtain ⟨z, its, n, r, e⟩ := x; exact ⟨z, its, n, r, k _ _ (.inl rfl) e⟩
  | tup xs => obtain ⟨z, its, r, ob, e, c⟩ := x; exact ⟨z, its, r, ob, k _ _ (.inl rfl) e, c⟩
  | dK kvs => obtain ⟨z, y, vs, r, ob, es, ep, e, c⟩ := x; exact ⟨z, y, vs, r, ob, es, ep, k _ _ (.inl rfl) e, c⟩
  | dT kvs =>
    obtain ⟨z, y, xs, r, ob, es, ep, e, c⟩ := x
    exact ⟨z, y, xs, Paired.mapP r fun p q z => ⟨z.1, ht _ _ z.2.1, z.2.2⟩, ob, es, ep, k _ _ (.inl rfl) e, c⟩
  | set S n => obtain ⟨ob, es, ep, t, e, c⟩ := x; exact ⟨ob, es, ep, t, k _ _ (.inl rfl) e, c⟩
  | ins C dx fs =>
    obtain ⟨d, z, ne, e, mA, ⟨od, es, ep, e2, c⟩, r⟩ := x
    exact ⟨ho _ d, z, ne, k _ _ (.inl rfl) e, mA, ⟨od, es, ep, k _ _ (.inr d) e2, c⟩, r⟩
  | own y => obtain ⟨ob, e⟩ := x; exact ⟨ob, k _ _ (.inl rfl) e⟩
  | xd fs => obtain ⟨mA, ⟨od, es, ep, e, c⟩, r⟩ := x; exact ⟨mA, ⟨od, es, ep, k _ _ (.inl rfl) e, c⟩, r⟩
  | rng lo hi => obtain ⟨t, u, v, e⟩ := x; exact ⟨t, u, v, k _ _ (.inl rfl) e⟩
  | frz ob u ih => obtain ⟨e, q⟩ := x; exact ⟨k _ _ (.inl rfl) e, ih q⟩
  | tbl ps =>
    have e : h.get? a = some { cls := .none, data := .fields ps } := x
    show h'.get? a = some { cls := .none, data := .fields ps }
    exact k a _ (.inl rfl) e
  | met f y =>
    have e : h.get? a = some (PySem.W.methodObj (.ref f) (.ref y)) := x
    show h'.get? a = some (PySem.W.methodObj (.ref f) (.ref y))
    exact k a _ (.inl rfl) e
  | ext φ => obtain ⟨p, ⟨o, e⟩, st⟩ := x; exact ⟨st _ _ p fun o q => k _ _ (.inl rfl) q, ⟨o, k _ _ (.inl rfl) e⟩, st⟩
theorem HOk.lt (x : HOk P w H h) (e : H a = some o) : a < h.objs.size := (x a o e).lt
theorem HOk.fresh (x : HOk P w H h) (e : h.objs.size ≤ a) : H a = none := by
  cases q : H a with
  | none => rfl
  | some u => exact absurd (Nat.lt_of_lt_of_le (x.lt q) e) (Nat.lt_irrefl _)
/-- every object of the heap is kept -/
theorem HOk.kept (x : HOk P w H h) (k : ∀ b u, h.get? b = some u → h'.get? b = some u) : HOk P w H h' := fun a o e =>
  (x a o e).stay (fun b u _ q => k b u q) (fun _ q => q) fun _ _ q => q
/-- a new object is laid and tracked -/
theorem HOk.laid (x : HOk P w H h) (k : ∀ b u, h.get? b = some u → h'.get? b = some u) (hp : h.objs.size ≤ a) (new : ObjOk P w (upd H a o) h' a o) : HOk P w (upd H a o) h' := fun b u e => by
  have hn := x.fresh hp
  by_cases hb : b = a
  · subst hb; rw [upd_same] at e; cases e; exact new
  · rw [upd_ne hb] at e
    exact (x b u e).stay (fun c v _ q => k c v q) (fun c q => by rw [upd_ne (ne_of_none q hn)]; exact q) fun c xs q => by rw [upd_ne (ne_of_none q hn)]; exact q
end

/-- what may be read as u: it is u, or a known u -/
def Rd (H : Hp) (a : Addr) (u : HO) : Prop := H a = some u ∨ ∃ o, H a = some (.frz o u)
theorem Rd.of {H : Hp} {a : Addr} {u : HO} (h : H a = some u) : Rd H a u := .inl h
theorem Rd.ok {P : Program} {w : World} {H : Hp} {h : Heap} {a : Addr} {u : HO} (r : Rd H a u) (x : HOk P w H h) : ObjOk P w H h a u := by
  rcases r with r | ⟨o, r⟩
  · exact x a u r
  · obtain ⟨_, q⟩ := x a _ r
    exact q
/-- what may be written -/
def Mut : Option HO → Prop
  | some (.lst _) => True
  | some (.dK _) => True
  | some (.dT _) => True
  | some (.set _ _) => True
  | some (.ins _ _ _) => True
  | some (.ext _) => True
  | _ => False
section
variable {P : Program} {w : World} {H : Hp} {h h' : Heap} {x e : Addr} {o' : HO}
/-- the object at e is changed: x itself, or the dict of the instance x -/
theorem HOk.write (ok : HOk P w H h) (mu : Mut (H x)) (he : e = x ∨ H e = some (.own x)) (k : ∀ b u, b ≠ e → h.get? b = some u → h'.get? b = some u) (heo : ∃ u, h'.get? e = some u)
    (new : ObjOk P w (upd H x o') h' x o') : HOk P w (upd H x o') h' := fun b u q => by
  have nown : ∀ c y, H c = some (.own y) → c ≠ x := fun c y r z => by subst z; rw [r] at mu; exact mu
  have ntup : ∀ c xs, H c = some (.tup xs) → c ≠ x := fun c xs r z => by subst z; rw [r] at mu; exact mu
  by_cases hb : b = x
  · subst hb; rw [upd_same] at q; cases q; exact new
  · rw [upd_ne hb] at q
    by_cases hbe : b = e
    · have q' : H b = some (.own x) := by
        rcases he with z | z
        · exact absurd (hbe.trans z) hb
        · rw [hbe]; exact z
      rw [q] at q'; cases q'
      obtain ⟨v, hv⟩ := heo
      exact ⟨v, by rw [hbe]; exact hv⟩
    · refine (ok b u q).stay (fun c v hc r => k c v ?_ r) (fun c r => by rw [upd_ne (nown c b r)]; exact r) fun c xs r => by rw [upd_ne (ntup c xs r)]; exact r
      rcases hc with rfl | hc
      · exact hbe
      · rintro rfl
        rcases he with z | z
        · exact nown c b hc z
        · rw [hc] at z; cases z; exact hb rfl
end

/-! ### kept unless tracked; of the frames at fs (the callers') the slots may change (an exception that passes writes there); of the records at ex (iterators) nothing is said -/
structure Un (fs ex : List Addr) (H H' : Hp) (h h' : Heap) : Prop where
  keep : ∀ b o, h.get? b = some o → H b = none → b ∉ fs → b ∉ ex → h'.get? b = some o
  slot : ∀ b o, h.get? b = some o → H b = none → b ∈ fs → b ∉ ex → ∃ sl, h'.get? b = some { o with slots := sl }
  free : ∀ b o, h.get? b = some o → H b = none → b ∉ ex → H' b = none
  there : ∀ b o, h.get? b = some o → b ∉ ex → ∃ o', h'.get? b = some o'
  tups : ∀ b xs, H b = some (.tup xs) → H' b = some (.tup xs)
  frzs : ∀ b o u, H b = some (.frz o u) → H' b = some (.frz o u)
  tbls : ∀ b ps, H b = some (.tbl ps) → ∃ more, H' b = some (.tbl (ps ++ more))
section
variable {fs fs' ex ex' : List Addr} {H H1 H2 : Hp} {h h1 h2 h' : Heap} {a x e : Addr} {o : HO}
theorem Un.any (u : Un fs ex H H1 h h1) {b : Addr} {ob : Obj} (q : h.get? b = some ob) (n : H b = none) (hx : b ∉ ex) : ∃ sl, h1.get? b = some { ob with slots := sl } := by
  by_cases hb : b ∈ fs
  · exact u.slot b ob q n hb hx
  · exact ⟨ob.slots, u.keep b ob q n hb hx⟩
theorem Un.trans (a : Un fs ex H H1 h h1) (b : Un fs ex H1 H2 h1 h2) : Un fs ex H H2 h h2 where
  keep := fun c ob q n hc hx => b.keep c ob (a.keep c ob q n hc hx) (a.free c ob q n hx) hc hx
  slot := fun c ob q n hc hx => by
    obtain ⟨sl, e1⟩ := a.slot c ob q n hc hx
    obtain ⟨sl', e2⟩ := b.slot c _ e1 (a.free c ob q n hx) hc hx
    exact ⟨sl', e2⟩
  free := fun c ob q n hx => by
    obtain ⟨o', e1⟩ := a.there c ob q hx
    exact b.free c o' e1 (a.free c ob q n hx) hx
  there := fun c ob q hx => by
    obtain ⟨o', e1⟩ := a.there c ob q hx
    exact b.there c o' e1 hx
  tups := fun c xs q => b.tups c xs (a.tups c xs q)
  frzs := fun c ob xs q => b.frzs c ob xs (a.frzs c ob xs q)
  tbls := fun c ps q => by
    obtain ⟨m1, e1⟩ := a.tbls c ps q
    obtain ⟨m2, e2⟩ := b.tbls c _ e1
    exact ⟨m1 ++ m2, by rw [e2, Array.append_assoc]⟩
theorem Un.kept (k : ∀ b u, h.get? b = some u → h'.get? b = some u) : Un fs ex H H h h' :=
  ⟨fun b ob q _ _ _ => k b ob q, fun b ob q _ _ _ => ⟨ob.slots, k b ob q⟩, fun _ _ _ n _ => n, fun b ob q _ => ⟨ob, k b ob q⟩, fun _ _ q => q, fun _ _ _ q => q, fun _ ps q => ⟨#[], by rw [q]; simp⟩⟩
theorem Un.refl : Un fs ex H H h h := Un.kept fun _ _ q => q
theorem Un.laid (k : ∀ b u, h.get? b = some u → h'.get? b = some u) (hp : h.objs.size ≤ a) (hn : H a = none) : Un fs ex H (upd H a o) h h' where
  keep := fun b u q _ _ _ => k b u q
  slot := fun b u q _ _ _ => ⟨u.slots, k b u q⟩
  free := fun b u q n _ => by rw [upd_ne (Nat.ne_of_lt (Nat.lt_of_lt_of_le (Heap.lt_size q) hp))]; exact n
  there := fun b u q _ => ⟨u, k b u q⟩
  tups := fun b xs q => by rw [upd_ne (ne_of_none q hn)]; exact q
  frzs := fun b u xs q => by rw [upd_ne (ne_of_none q hn)]; exact q
  tbls := fun b ps q => ⟨#[], by rw [upd_ne (ne_of_none q hn), q]; simp⟩
theorem Un.write (mu : Mut (H x)) (he : e = x ∨ H e = some (.own x)) (k : ∀ b u, b ≠ e → h.get? b = some u → h'.get? b = some u) (heo : ∃ u, h'.get? e = some u) : Un fs ex H (upd H x o) h h' := by
  have hx : ∀ b, H b = none → b ≠ x := fun b n z => by subst z; rw [n] at mu; exact mu
  have hb : ∀ b, H b = none → b ≠ e := fun b n z => by
    subst z
    rcases he with r | r
    · exact hx b n r
    · rw [n] at r; cases r
  have hm : ∀ b u, H b = some u → ¬ Mut (some u) → b ≠ x := fun b u q nm z => by subst z; rw [q] at mu; exact nm mu
  refine ⟨fun b u q n _ _ => k b u (hb b n) q, fun b u q n _ _ => ⟨u.slots, k b u (hb b n) q⟩, fun b u q n _ => by rw [upd_ne (hx b n)]; exact n, fun b u q _ => ?_,
    fun b xs q => by rw [upd_ne (hm b _ q fun z => z)]; exact q, fun b u xs q => by rw [upd_ne (hm b _ q fun z => z)]; exact q, fun b ps q => ⟨#[], by rw [upd_ne (hm b _ q fun z => z), q]; simp⟩⟩
  by_cases hbe : b = e
  · subst hbe; exact heo
  · exact ⟨u, k b u hbe q⟩
theorem Un.mono (u : Un fs ex H H1 h h1) (hs : ∀ b ∈ fs, b ∈ fs') (hx : ∀ b ∈ ex, b ∈ ex') : Un fs' ex' H H1 h h1 :=
  ⟨fun b ob q n hb he => u.keep b ob q n (fun z => hb (hs b z)) fun z => he (hx b z), fun _ _ q n _ he => u.any q n fun z => he (hx _ z), fun b ob q n he => u.free b ob q n fun z => he (hx b z), fun b ob q he => u.there b ob q fun z => he (hx b z), u.tups, u.frzs, u.tbls⟩
end

/-! ### the heap without what is tracked -/
def trk (h : Heap) (H : Hp) : List Addr := (List.range h.objs.size).filter fun a => (H a).isSome
def hidT (h : Heap) (H : Hp) : Heap := PySem.W.hideAll h (trk h H)
theorem hidT_size (h : Heap) (H : Hp) : (hidT h H).objs.size = h.objs.size := PySem.W.hideAll_size _ _
theorem hidT_get {h : Heap} {H : Hp} {b : Addr} {o : Obj} (e : h.get? b = some o) (n : H b = none) : (hidT h H).get? b = some o :=
  PySem.W.hideAll_get _ e fun hm => by
    have q : (H b).isSome = true := (List.mem_filter.mp hm).2
    rw [n] at q; simp at q
theorem of_hidT {h : Heap} {H : Hp} {b : Addr} {o : Obj} (e : (hidT h H).get? b = some o) : h.get? b = some o ∧ H b = none := by
  have e' : h.get? b = some o := PySem.W.of_hideAll (trk h H) e
  refine ⟨e', ?_⟩
  cases q : H b with
  | none => rfl
  | some x =>
    have hm : b ∈ trk h H := List.mem_filter.mpr ⟨List.mem_range.mpr (Heap.lt_size e'), by simp [q]⟩
    have z : (hidT h H).get? b = none := PySem.W.hideAll_none (trk h H) hm
    rw [z] at e; cases e

/-! ### OpenK's ledger, filled with every new object but one -/
def allNews (g h : Heap) (L : Addr) : List (Addr × Obj) := (List.range h.objs.size).filterMap fun a => if a = L ∨ (g.get? a).isSome = true then none else (h.get? a).map fun o => (a, o)
theorem mem_allNews {g h : Heap} {L a : Addr} {o : Obj} (h1 : a ≠ L) (h2 : g.get? a = none) (h3 : h.get? a = some o) : (a, o) ∈ allNews g h L :=
  List.mem_filterMap.mpr ⟨a, List.mem_range.mpr (Heap.lt_size h3), by simp [h1, h2, h3]⟩
theorem of_mem_allNews {g h : Heap} {L : Addr} {p : Addr × Obj} (hp : p ∈ allNews g h L) : p.1 ≠ L ∧ g.get? p.1 = none ∧ h.get? p.1 = some p.2 := by
  obtain ⟨b, _, e⟩ := List.mem_filterMap.mp hp
  split at e
  · cases e
  · rename_i hn
    cases q : h.get? b with
    | none => rw [q] at e; simp at e
    | some u =>
      rw [q] at e
      simp only [Option.map_some, Option.some.injEq] at e
      subst e
      refine ⟨fun z => hn (.inl z), ?_, q⟩
      show g.get? b = none
      cases r : g.get? b with
      | none => rfl
      | some v => exact (hn (.inr (by simp [r]))).elim
def rest (g h : Heap) (L d : Addr) : List (Addr × Obj) := (allNews g h L).filter fun p => decide (p.1 ≠ d)
theorem rest_ne {g h : Heap} {L d : Addr} : ∀ p ∈ rest g h L d, p.1 ≠ d := fun p hp => of_decide_eq_true (List.mem_filter.mp hp).2
theorem mem_rest {g h : Heap} {L d a : Addr} {o : Obj} (h1 : a ≠ L) (h2 : g.get? a = none) (h3 : h.get? a = some o) (h4 : a ≠ d) : (a, o) ∈ rest g h L d :=
  List.mem_filter.mpr ⟨mem_allNews h1 h2 h3, decide_eq_true h4⟩
theorem news_all {g h : Heap} {L : Addr} : News g L h (allNews g h L) := fun p hp => let ⟨a, b, c⟩ := of_mem_allNews hp; ⟨c, a, b⟩
theorem news_at {g h : Heap} {L d : Addr} {o : Obj} (h1 : d ≠ L) (h2 : g.get? d = none) (h3 : h.get? d = some o) : News g L h ((d, o) :: rest g h L d) := fun p hp => by
  rcases List.mem_cons.mp hp with rfl | hp
  · exact ⟨h3, h1, h2⟩
  · exact news_all p (List.mem_filter.mp hp).1
/-- behind a rule that changed d alone: all else but the frame is kept -/
theorem kept_of_news {g h h' : Heap} {L d : Addr} {m : Str → Option Value} (k : ∀ b o, g.get? b = some o → h.get? b = some o) (F : Fr g L h' m) (N : News g L h' (rest g h L d)) :
    ∀ b o, b ≠ L → b ≠ d → h.get? b = some o → h'.get? b = some o := fun b o h1 h2 e => by
  cases q : g.get? b with
  | some u =>
    have := k b u q
    rw [e] at this; cases this
    exact F.keep b _ q
  | none => exact (N (b, o) (mem_rest h1 q e h2)).1
end L2

namespace L2
open PySem PySem.Spec PyProof.Rows

/-- the module's facts, over the base: the heap at the law's entry without what is tracked there -/
structure Mod (K : PySem.W.Frag) (mg : Str → Option Value) (base : Heap) : Prop where
  kin : K.In base
  glob : base.Ns mainGlobals mg
  blt : ∃ mb, base.Ns builtinsNs mb ∧ ∀ x : Str, x ≠ "__name__" → mb x = bootBuiltins x
  nolimit : base.NoLimit

/-- the context: a def's body (or a comprehension's block) running. base: fixed through the whole law; s₀, H₀: the entry; outer: the frames whose slots others may change (a def's callers); stack: all frames that run;
   ex: iterators that were made ahead of the entry and are walked here (a comprehension's); fn: the names whose cells were made at the entry (a def: all; a comprehension's block: its own); calm: not within an except suite; pn: pins that every state bears; xe: what is wanted of an exception that leaves the code -/
structure Cx where
  prog : Program
  w : World
  K : PySem.W.Frag
  mg : Str → Option Value
  base : Heap
  A : Around
  N : List Str
  s₀ : Shared
  H₀ : Hp
  env : Env
  outer : List Env
  stack : List Env
  ex : List Addr
  fn : Str → Bool
  calm : Bool
  pn : List (Addr × Obj)
  xe : Value → Shared → Prop
/-- the callers' frames -/
def frs (l : List Env) : List Addr := l.filterMap (·.frame)
abbrev Cx.fs (X : Cx) : List Addr := frs X.outer

def Vis (sc : Scope) (x : Str) : Prop := sc.names.lookup x = some .local ∨ sc.names.lookup x = some .cell ∨ sc.names.lookup x = some .free
def Loc (sc : Scope) (x : Str) : Prop := sc.names.lookup x = some .local ∨ sc.names.lookup x = some .cell
def Look (env : Env) (h : Heap) (m : Str → Option Value) (x : Str) (u : Value) : Prop :=
  (env.kindOf x = some .local ∧ m x = some u) ∨ ((env.kindOf x = some .cell ∨ env.kindOf x = some .free) ∧ ∃ c, env.cells.lookup x = some c ∧ h.IsCell c (some u))

structure Cx.Ok (X : Cx) : Prop where
  mod : Mod X.K X.mg X.base
  kind : X.env.scope.kind = .function
  glob : X.env.globals = mainGlobals
  blt : X.env.builtins = builtinsNs
  above : X.s₀.heap.objs.size ≤ X.env.locals
  inj : ∀ x y c, X.env.cells.lookup x = some c → X.env.cells.lookup y = some c → x = y
  has : ∀ x, (X.env.kindOf x = some .cell ∨ X.env.kindOf x = some .free) → ∃ c, X.env.cells.lookup x = some c
  cab : ∀ x c, X.fn x = true → X.env.cells.lookup x = some c → X.s₀.heap.objs.size ≤ c
  hd : X.calm = true → X.A.handled = none
  frames : X.A.frames = some X.stack
  stk : X.stack = X.outer ∨ (X.stack = X.env :: X.outer ∧ X.env.frame = some X.env.locals)
  exf : ∀ b ∈ X.ex, b ≠ X.env.locals ∧ ∀ x c, X.env.cells.lookup x = some c → c ≠ b
  bs : ∀ b o, X.base.get? b = some o → X.s₀.heap.get? b = some o ∧ X.H₀ b = none
  bsz : X.base.objs.size ≤ X.s₀.heap.objs.size
  noex : ∀ b o, X.base.get? b = some o → b ∉ X.ex
  exfs : ∀ b ∈ X.ex, b ∉ X.fs
  funs : X.s₀.heap.FunFrames X.base X.outer
  frf : ∀ b ∈ X.fs, X.H₀ b = none

structure Inv (X : Cx) (pins : List (Addr × Obj)) (σ : List (Option V)) (H : Hp) (s : Shared) : Prop where
  ok : X.Ok
  os : s.os = X.s₀.os
  bare : AllBare s.gens
  base : Un X.fs X.ex X.H₀ H X.s₀.heap s.heap
  loc : ∃ m, s.heap.Ns X.env.locals m ∧ ∀ (i : Nat) (x : Str) (v : V), X.N[i]? = some x → σ[i]? = some (some v) → Vis X.env.scope x → ∃ u, RelV v u ∧ Look X.env s.heap m x u
  cell : ∀ x c, X.env.cells.lookup x = some c → ∃ v, s.heap.IsCell c v
  free : H X.env.locals = none
  freeC : ∀ x c, X.env.cells.lookup x = some c → H c = none
  pin : ∀ p ∈ X.pn ++ pins, s.heap.get? p.1 = some p.2 ∧ H p.1 = none ∧ p.1 ≠ X.env.locals ∧ p.1 ∉ X.fs ∧ ∀ v, p.2.data ≠ .cell v
  hok : HOk X.prog X.w H s.heap
  len : σ.length = X.N.length

section
variable {X : Cx} {pins : List (Addr × Obj)} {σ : List (Option V)} {H H' : Hp} {s : Shared} {h' : Heap}

theorem Cx.Ok.nofr (ok : X.Ok) {b : Addr} {o : Obj} (e : X.base.get? b = some o) : b ∉ X.fs := fun hb => by
  have := (ok.funs.mem hb).1
  rw [e] at this; cases this
theorem Inv.bs (I : Inv X pins σ H s) : ∀ b o, X.base.get? b = some o → s.heap.get? b = some o ∧ H b = none := fun b o e =>
  ⟨I.base.keep b o (I.ok.bs b o e).1 (I.ok.bs b o e).2 (I.ok.nofr e) (I.ok.noex b o e), I.base.free b o (I.ok.bs b o e).1 (I.ok.bs b o e).2 (I.ok.noex b o e)⟩
theorem Inv.bk (I : Inv X pins σ H s) : ∀ b o, X.base.get? b = some o → s.heap.get? b = some o := fun b o e => (I.bs b o e).1
theorem Inv.mod (I : Inv X pins σ H s) : Mod X.K X.mg X.base := I.ok.mod
theorem Inv.kIn (I : Inv X pins σ H s) : X.K.In s.heap := I.ok.mod.kin.keeps I.bk
theorem Inv.nolimit (I : Inv X pins σ H s) : s.heap.NoLimit := I.ok.mod.nolimit.keeps I.bk
/-- the frame over the base: for OpenK's rules (K.In X.base is I.mod.kin) -/
theorem Inv.fr (I : Inv X pins σ H s) : ∃ m, Fr X.base X.env.locals s.heap m :=
  let ⟨m, hn, _⟩ := I.loc
  ⟨m, hn, I.bk, Nat.le_trans I.ok.bsz I.ok.above⟩
theorem Inv.lt (I : Inv X pins σ H s) : X.env.locals < s.heap.objs.size := let ⟨_, hn, _⟩ := I.loc; hn.lt
theorem Inv.sz (I : Inv X pins σ H s) : X.s₀.heap.objs.size ≤ s.heap.objs.size := Nat.le_trans I.ok.above (Nat.le_of_lt I.lt)
theorem Inv.nofs (I : Inv X pins σ H s) {a : Addr} (h : s.heap.objs.size ≤ a) : a ∉ X.fs := fun hb => by
  obtain ⟨_, o, ho, _⟩ := I.ok.funs.mem hb
  exact absurd (Nat.lt_of_lt_of_le (Heap.lt_size ho) (Nat.le_trans I.sz h)) (Nat.lt_irrefl _)
theorem Inv.cne (I : Inv X pins σ H s) : ∀ x c, X.env.cells.lookup x = some c → c ≠ X.env.locals := fun x c e z => by
  obtain ⟨v, o, ho, hd⟩ := I.cell x c e
  obtain ⟨m, ⟨o', es, ep, ho', hd', _⟩, _⟩ := I.loc
  rw [z, ho'] at ho; cases ho; rw [hd'] at hd; cases hd
theorem Inv.funs (I : Inv X pins σ H s) : s.heap.FunFrames X.base X.outer := by
  have all : ∀ (l : List Env), (∀ b ∈ frs l, b ∈ X.fs) → X.s₀.heap.FunFrames X.base l → s.heap.FunFrames X.base l := by
    intro l
    induction l with
    | nil => intro _ _; trivial
    | cons env r ih =>
      intro hs hl
      obtain ⟨hk, ⟨L, o, hf, hn, ho, hd⟩, hr⟩ := hl
      have hL : L ∈ X.fs := hs L (by unfold frs; rw [List.filterMap_cons, hf]; exact List.mem_cons_self)
      obtain ⟨sl, e⟩ := I.base.slot L o ho (I.ok.frf L hL) hL fun z => I.ok.exfs L z hL
      exact ⟨hk, ⟨L, _, hf, hn, e, hd⟩, ih (fun b hb => hs b (by unfold frs; rw [List.filterMap_cons, hf]; exact List.mem_cons_of_mem _ hb)) hr⟩
  exact all X.outer (fun _ hb => hb) I.ok.funs

/-- the frames that run, for a call -/
theorem Inv.stack (I : Inv X pins σ H s) : s.heap.FunFrames X.base X.stack := by
  rcases I.ok.stk with e | ⟨e, hf⟩
  · rw [e]; exact I.funs
  · rw [e]
    obtain ⟨m, hn, _⟩ := I.loc
    refine .cons (by rw [I.ok.kind]; decide) hf hn ?_ I.funs
    exact Heap.get?_none_of_le (Nat.le_trans I.ok.bsz I.ok.above)
theorem Inv.stkSub (I : Inv X pins σ H s) : ∀ b ∈ frs X.stack, b ∈ X.env.locals :: X.fs := fun b hb => by
  rcases I.ok.stk with e | ⟨e, hf⟩
  · rw [e] at hb; exact List.mem_cons_of_mem _ hb
  · rw [e] at hb
    unfold frs at hb
    rw [List.filterMap_cons, hf] at hb
    exact hb
theorem Inv.stkFree (I : Inv X pins σ H s) : ∀ b ∈ frs X.stack, H b = none := fun b hb => by
  rcases List.mem_cons.mp (I.stkSub b hb) with e | hb
  · rw [e]; exact I.free
  · obtain ⟨_, o, ho, _⟩ := I.ok.funs.mem hb
    exact I.base.free b o ho (I.ok.frf b hb) fun z => I.ok.exfs b z hb

/-- THE STEP: the untracked objects but the frame and the records at ch are kept (the callers' frames up to slots), the frame's map is kept, the new abstract heap is held -/
theorem Inv.step {g' : Array GenState} {t' : Nat} {d' : Drawn} {ch : List Addr} (I : Inv X pins σ H s)
    (hch : ∀ b ∈ ch, (b ∈ X.ex ∨ X.s₀.heap.objs.size ≤ b) ∧ b ≠ X.env.locals ∧ (∀ x c, X.env.cells.lookup x = some c → c ≠ b) ∧ ∀ p ∈ X.pn ++ pins, p.1 ≠ b)
    (keep : ∀ b o, b ≠ X.env.locals → b ∉ X.fs → b ∉ ch → s.heap.get? b = some o → H b = none → h'.get? b = some o)
    (slot : ∀ b o, b ≠ X.env.locals → b ∈ X.fs → b ∉ ch → s.heap.get? b = some o → H b = none → ∃ sl, h'.get? b = some { o with slots := sl }) (free : ∀ b o, b ∉ ch → s.heap.get? b = some o → H b = none → H' b = none)
    (there : ∀ b o, b ∉ ch → s.heap.get? b = some o → ∃ o', h'.get? b = some o')
    (tups : ∀ b xs, H b = some (.tup xs) → H' b = some (.tup xs)) (frzs : ∀ b o u, H b = some (.frz o u) → H' b = some (.frz o u)) (tbls : ∀ b ps, H b = some (.tbl ps) → ∃ more, H' b = some (.tbl (ps ++ more)))
    (ns : ∀ m, s.heap.Ns X.env.locals m → h'.Ns X.env.locals m) (hok : HOk X.prog X.w H' h') (hg : AllBare g') :
    Inv X pins σ H' { s with heap := h', gens := g', drawn := d', toks := t' } := by
  have neL : ∀ b o, X.s₀.heap.get? b = some o → b ≠ X.env.locals := fun b o e => Nat.ne_of_lt (Nat.lt_of_lt_of_le (Heap.lt_size e) I.ok.above)
  have neC : ∀ b o, X.s₀.heap.get? b = some o → b ∉ X.ex → b ∉ ch := fun b o e hx hb => by
    rcases (hch b hb).1 with z | z
    · exact hx z
    · exact absurd (Nat.lt_of_lt_of_le (Heap.lt_size e) z) (Nat.lt_irrefl _)
  have cellK : ∀ x c, X.env.cells.lookup x = some c → ∀ v, s.heap.IsCell c v → h'.IsCell c v := fun x c e v ⟨o, ho, hd⟩ => by
    have nch : c ∉ ch := fun z => (hch c z).2.2.1 x c e rfl
    by_cases hc : c ∈ X.fs
    · obtain ⟨sl, q⟩ := slot c o (I.cne x c e) hc nch ho (I.freeC x c e)
      exact ⟨_, q, hd⟩
    · exact ⟨o, keep c o (I.cne x c e) hc nch ho (I.freeC x c e), hd⟩
  refine ⟨I.ok, I.os, hg, ⟨fun b o e n hb hx => ?_, fun b o e n hb hx => ?_, fun b o e n hx => ?_, fun b o e hx => ?_, fun b xs e => tups b xs (I.base.tups b xs e), fun b o xs e => frzs b o xs (I.base.frzs b o xs e), fun b ps e => ?_⟩, ?_, fun x c e => ?_, ?_, fun x c e => ?_, fun p hp => ?_, hok, I.len⟩
  · exact keep b o (neL b o e) hb (neC b o e hx) (I.base.keep b o e n hb hx) (I.base.free b o e n hx)
  · obtain ⟨sl, e1⟩ := I.base.slot b o e n hb hx
    obtain ⟨sl', e2⟩ := slot b _ (neL b o e) hb (neC b o e hx) e1 (I.base.free b o e n hx)
    exact ⟨sl', e2⟩
  · obtain ⟨o', e1⟩ := I.base.there b o e hx
    exact free b o' (neC b o e hx) e1 (I.base.free b o e n hx)
  · obtain ⟨o', e1⟩ := I.base.there b o e hx
    exact there b o' (neC b o e hx) e1
  · obtain ⟨m1, e1⟩ := I.base.tbls b ps e
    obtain ⟨m2, e2⟩ := tbls b _ e1
    exact ⟨m1 ++ m2, by rw [e2, Array.append_assoc]⟩
  · obtain ⟨m, hn, hl⟩ := I.loc
    refine ⟨m, ns m hn, fun i x v e1 e2 e3 => ?_⟩
    obtain ⟨u, r, l⟩ := hl i x v e1 e2 e3
    refine ⟨u, r, ?_⟩
    rcases l with l | ⟨k, c, e, z⟩
    · exact .inl l
    · exact .inr ⟨k, c, e, cellK x c e _ z⟩
  · obtain ⟨v, z⟩ := I.cell x c e
    exact ⟨v, cellK x c e v z⟩
  · obtain ⟨m, ⟨o, _, _, ho, _⟩, _⟩ := I.loc
    exact free _ o (fun z => (hch _ z).2.1 rfl) ho I.free
  · obtain ⟨v, o, ho, hd⟩ := I.cell x c e
    exact free c o (fun z => (hch c z).2.2.1 x c e rfl) ho (I.freeC x c e)
  · obtain ⟨e, n, ne, nf, d⟩ := I.pin p hp
    have nch : p.1 ∉ ch := fun z => (hch p.1 z).2.2.2 p hp rfl
    exact ⟨keep p.1 p.2 ne nf nch e n, free p.1 p.2 nch e n, ne, nf, d⟩
/-- .. where the frame's own object is kept too -/
theorem Inv.un {t' : Nat} (I : Inv X pins σ H s) (u : Un X.fs [] H H' s.heap h') (hok : HOk X.prog X.w H' h') : Inv X pins σ H' { s with heap := h', toks := t' } := by
  obtain ⟨m, ⟨o, es, ep, ho, r⟩, _⟩ := id I.loc
  obtain ⟨sl, hL⟩ := u.any ho I.free (by simp)
  exact I.step (g' := s.gens) (d' := s.drawn) (ch := []) (fun _ z => nomatch z) (fun b o _ hb _ e n => u.keep b o e n hb (by simp)) (fun b o _ hb _ e n => u.slot b o e n hb (by simp)) (fun b o _ e n => u.free b o e n (by simp)) (fun b o _ e => u.there b o e (by simp)) u.tups u.frzs u.tbls (fun m' hm => by
    obtain ⟨o', es', ep', ho', r'⟩ := hm
    rw [ho] at ho'; cases ho'
    exact ⟨_, es', ep', hL, r'⟩) hok I.bare
/-- behind a call (or a comprehension's block): the slots of this frame may have changed too, the records at ch may have turned -/
theorem Inv.call {g' : Array GenState} {t' : Nat} {d' : Drawn} {ch : List Addr} (I : Inv X pins σ H s) (u : Un (frs X.stack) ch H H' s.heap h') (hok : HOk X.prog X.w H' h') (hg : AllBare g')
    (hch : ∀ b ∈ ch, (b ∈ X.ex ∨ X.s₀.heap.objs.size ≤ b) ∧ b ≠ X.env.locals ∧ (∀ x c, X.env.cells.lookup x = some c → c ≠ b) ∧ ∀ p ∈ X.pn ++ pins, p.1 ≠ b) :
    Inv X pins σ H' { s with heap := h', gens := g', drawn := d', toks := t' } := by
  obtain ⟨m, ⟨o, es, ep, ho, r⟩, _⟩ := id I.loc
  obtain ⟨sl, hL⟩ := u.any ho I.free fun z => (hch _ z).2.1 rfl
  exact I.step (ch := ch) hch (fun b o hL hb hc e n => u.keep b o e n (fun z => (List.mem_cons.mp (I.stkSub b z)).elim hL hb) hc) (fun b o _ _ hc e n => u.any e n hc) (fun b o hc e n => u.free b o e n hc) (fun b o hc e => u.there b o e hc) u.tups u.frzs u.tbls (fun m' hm => by
    obtain ⟨o', es', ep', ho', r'⟩ := hm
    rw [ho] at ho'; cases ho'
    exact ⟨_, es', ep', hL, r'⟩) hok hg
/-- an untracked record of ours (an iterator) has turned -/
theorem Inv.turned {t' : Nat} {it : Addr} (I : Inv X pins σ H s) (k : ∀ b o, b ≠ it → s.heap.get? b = some o → h'.get? b = some o) (hn : H it = none) (hL : it ≠ X.env.locals)
    (h1 : it ∈ X.ex ∨ X.s₀.heap.objs.size ≤ it) (h2 : ∀ x c, X.env.cells.lookup x = some c → c ≠ it) (h3 : ∀ p ∈ X.pn ++ pins, p.1 ≠ it) : Inv X pins σ H { s with heap := h', toks := t' } := by
  have nit : ∀ b u, H b = some u → b ≠ it := fun b u e z => by rw [z, hn] at e; cases e
  refine I.step (g' := s.gens) (d' := s.drawn) (ch := [it]) (fun b hb => ?_) (fun b o _ _ hc e _ => k b o (fun z => hc (by simp [z])) e) (fun b o _ _ hc e _ => ⟨o.slots, k b o (fun z => hc (by simp [z])) e⟩) (fun _ _ _ _ n => n)
    (fun b o hc e => ⟨o, k b o (fun z => hc (by simp [z])) e⟩) (fun _ _ e => e) (fun _ _ _ e => e) (fun b ps e => ⟨#[], by rw [e]; simp⟩) (fun m hm => ?_) (fun b u e => ?_) I.bare
  · have e : b = it := by simpa using hb
    subst e
    exact ⟨h1, hL, h2, h3⟩
  · obtain ⟨o, es, ep, ho, r⟩ := hm
    exact ⟨o, es, ep, k _ o (Ne.symm hL) ho, r⟩
  · refine (I.hok b u e).stay (fun c v hc q => k c v ?_ q) (fun _ q => q) fun _ _ q => q
    rcases hc with z | z
    · rw [z]; exact nit b u e
    · exact nit c _ z
theorem Inv.tok (I : Inv X pins σ H s) (t : Nat) : Inv X pins σ H { s with toks := t } := I.un (h' := s.heap) (t' := t) Un.refl I.hok
/-- all objects kept -/
theorem Inv.kept {t' : Nat} (I : Inv X pins σ H s) (k : ∀ b u, s.heap.get? b = some u → h'.get? b = some u) : Inv X pins σ H { s with heap := h', toks := t' } := I.un (Un.kept k) (I.hok.kept k)
/-- a new object laid and tracked -/
theorem Inv.laid {a : Addr} {o : HO} {t' : Nat} (I : Inv X pins σ H s) (k : ∀ b u, s.heap.get? b = some u → h'.get? b = some u) (hp : s.heap.objs.size ≤ a) (new : ObjOk X.prog X.w (upd H a o) h' a o) :
    Inv X pins σ (upd H a o) { s with heap := h', toks := t' } := I.un (Un.laid k hp (I.hok.fresh hp)) (I.hok.laid k hp new)
/-- an object written -/
theorem Inv.write {x e : Addr} {o : HO} {t' : Nat} (I : Inv X pins σ H s) (mu : Mut (H x)) (he : e = x ∨ H e = some (.own x)) (k : ∀ b u, b ≠ e → s.heap.get? b = some u → h'.get? b = some u) (heo : ∃ u, h'.get? e = some u)
    (new : ObjOk X.prog X.w (upd H x o) h' x o) : Inv X pins σ (upd H x o) { s with heap := h', toks := t' } := I.un (Un.write mu he k heo) (I.hok.write mu he k heo new)
/-- forgetting slots, pins -/
theorem Inv.weak {σ' : List (Option V)} (I : Inv X pins σ H s) (hl : σ'.length = σ.length) (w : ∀ (i : Nat) v, σ'[i]? = some (some v) → σ[i]? = some (some v)) : Inv X pins σ' H s :=
  ⟨I.ok, I.os, I.bare, I.base, let ⟨m, hn, hl'⟩ := I.loc; ⟨m, hn, fun i x v e1 e2 e3 => hl' i x v e1 (w i v e2) e3⟩, I.cell, I.free, I.freeC, I.pin, I.hok, hl.trans I.len⟩
theorem Inv.pins_of {pins' : List (Addr × Obj)} (I : Inv X pins σ H s) (h : ∀ p ∈ pins', s.heap.get? p.1 = some p.2 ∧ H p.1 = none ∧ p.1 ≠ X.env.locals ∧ p.1 ∉ X.fs ∧ ∀ v, p.2.data ≠ .cell v) : Inv X pins' σ H s :=
  ⟨I.ok, I.os, I.bare, I.base, I.loc, I.cell, I.free, I.freeC, fun p hp => (List.mem_append.mp hp).elim (fun z => I.pin p (List.mem_append_left _ z)) (h p), I.hok, I.len⟩

theorem nodup_ix {N : List Str} (hN : N.Nodup) {i j : Nat} {x : Str} (a : N[i]? = some x) (b : N[j]? = some x) : i = j := by
  obtain ⟨h1, e1⟩ := List.getElem?_eq_some_iff.mp a
  obtain ⟨h2, e2⟩ := List.getElem?_eq_some_iff.mp b
  exact (List.getElem_inj hN).mp (e1.trans e2.symm)

/-- a name is stored; what changed -/
theorem store_ok2 {M : Model} {A : Around} {E : Value → Shared → Prop} {i : Nat} {x : Str} {v : V} {u : Value} {Q : Unit → Shared → Prop} (I : Inv X pins σ H s) (hN : X.N.Nodup) (hi : X.N[i]? = some x) (hx : Loc X.env.scope x) (r : RelV v u)
    (h : ∀ s', Inv X pins (σ.set i (some v)) H s' → (∃ a, Heap.SameBut a s.heap s'.heap ∧ (a = X.env.locals ∨ X.env.cells.lookup x = some a)) → Q () s') (hf : X.fn x = true ∨ X.env.scope.names.lookup x = some .local := by first | exact .inl rfl | exact .inr rfl | assumption) : wpAny M A (storeName X.env x u) Q E s := by
  obtain ⟨m, hn, hl⟩ := id I.loc
  have hcls : (X.env.scope.kind == .class || (X.env.scope.kind == .module && X.env.locals != X.env.globals)) = false := by rw [I.ok.kind]; rfl
  have hiσ : i < σ.length := by rw [I.len]; exact (List.getElem?_eq_some_iff.mp hi).1
  have cne := I.cne
  have tracked : ∀ {a : Addr} {h' : Heap}, (∃ o, s.heap.get? a = some o ∧ H a = none) → Heap.SameBut a s.heap h' → HOk X.prog X.w H h' := fun {a h'} ha hs b ob e => by
    obtain ⟨_, _, hfree⟩ := ha
    refine (I.hok b ob e).stay (fun c w' hc q => (hs.2 c ?_).trans q) (fun _ q => q) fun _ _ q => q
    rintro rfl
    rcases hc with rfl | hc
    · rw [hfree] at e; cases e
    · rw [hfree] at hc; cases hc
  rcases hx with hk | hk
  · refine wpAny_storeName_local hk hn (fun h' hn' hs => ?_) hcls
    obtain ⟨oL, _, _, hoL, _⟩ := id hn
    refine h _ ⟨I.ok, I.os, I.bare, ⟨fun b o e n hb hx => ?_, fun b o e n hb hx => ?_, I.base.free, fun b o e hx => ?_, I.base.tups, I.base.frzs, I.base.tbls⟩, ⟨_, hn', fun j y v' e1 e2 e3 => ?_⟩, fun y c e => ?_, I.free, I.freeC, fun p hp => ?_, tracked ⟨oL, hoL, I.free⟩ hs, by simpa using I.len⟩ ⟨_, hs, .inl rfl⟩
    · exact (hs.2 b (Nat.ne_of_lt (Nat.lt_of_lt_of_le (Heap.lt_size e) I.ok.above))).trans (I.base.keep b o e n hb hx)
    · obtain ⟨sl, e1⟩ := I.base.slot b o e n hb hx
      exact ⟨sl, (hs.2 b (Nat.ne_of_lt (Nat.lt_of_lt_of_le (Heap.lt_size e) I.ok.above))).trans e1⟩
    · obtain ⟨o', e1⟩ := I.base.there b o e hx
      exact ⟨o', (hs.2 b (Nat.ne_of_lt (Nat.lt_of_lt_of_le (Heap.lt_size e) I.ok.above))).trans e1⟩
    · by_cases hj : j = i
      · subst hj
        rw [hi] at e1; cases e1
        rw [List.getElem?_set_self hiσ] at e2
        cases e2
        exact ⟨u, r, .inl ⟨hk, by simp⟩⟩
      · rw [List.getElem?_set_ne (Ne.symm hj)] at e2
        obtain ⟨u', r', q⟩ := hl j y v' e1 e2 e3
        refine ⟨u', r', ?_⟩
        rcases q with ⟨k, e⟩ | ⟨k, c, e, z⟩
        · refine .inl ⟨k, ?_⟩
          have : y ≠ x := fun e => hj (nodup_ix hN e1 (e ▸ hi))
          simp [this, e]
        · exact .inr ⟨k, c, e, z.sameBut hs (cne y c e)⟩
    · obtain ⟨w', z⟩ := I.cell y c e
      exact ⟨w', z.sameBut hs (cne y c e)⟩
    · obtain ⟨e, n, ne, nf, d⟩ := I.pin p hp
      exact ⟨(hs.2 p.1 ne).trans e, n, ne, nf, d⟩
  · have hfn : X.fn x = true := by
      rcases hf with z | z
      · exact z
      · rw [z] at hk; cases hk
    obtain ⟨c, hc⟩ := I.ok.has x (.inl hk)
    obtain ⟨w', z⟩ := I.cell x c hc
    refine wpAny_storeName_cell I.ok.kind hk hc z (fun h' hc' hs => ?_)
    obtain ⟨oc, hoc, hocd⟩ := id z
    refine h { s with heap := h' } ⟨I.ok, I.os, I.bare, ⟨fun b o e n hb hx => ?_, fun b o e n hb hx => ?_, I.base.free, fun b o e hx => ?_, I.base.tups, I.base.frzs, I.base.tbls⟩, ⟨m, hn.sameBut hs (Ne.symm (cne x c hc)), fun j y v' e1 e2 e3 => ?_⟩, fun y c' e => ?_, I.free, I.freeC, fun p hp => ?_, tracked ⟨oc, hoc, I.freeC x c hc⟩ hs, by simpa using I.len⟩ ⟨c, hs, .inr hc⟩
    · exact (hs.2 b (Nat.ne_of_lt (Nat.lt_of_lt_of_le (Heap.lt_size e) (I.ok.cab x c hfn hc)))).trans (I.base.keep b o e n hb hx)
    · obtain ⟨sl, e1⟩ := I.base.slot b o e n hb hx
      exact ⟨sl, (hs.2 b (Nat.ne_of_lt (Nat.lt_of_lt_of_le (Heap.lt_size e) (I.ok.cab x c hfn hc)))).trans e1⟩
    · obtain ⟨o', e1⟩ := I.base.there b o e hx
      exact ⟨o', (hs.2 b (Nat.ne_of_lt (Nat.lt_of_lt_of_le (Heap.lt_size e) (I.ok.cab x c hfn hc)))).trans e1⟩
    · by_cases hj : j = i
      · subst hj
        rw [hi] at e1; cases e1
        rw [List.getElem?_set_self hiσ] at e2
        cases e2
        exact ⟨u, r, .inr ⟨.inl hk, c, hc, hc'⟩⟩
      · rw [List.getElem?_set_ne (Ne.symm hj)] at e2
        obtain ⟨u', r', q⟩ := hl j y v' e1 e2 e3
        refine ⟨u', r', ?_⟩
        rcases q with q | ⟨k, c', e, z'⟩
        · exact .inl q
        · refine .inr ⟨k, c', e, z'.sameBut hs ?_⟩
          rintro rfl
          exact hj (nodup_ix hN e1 (I.ok.inj _ _ _ e hc ▸ hi))
    · by_cases hcc : c' = c
      · subst hcc; exact ⟨_, hc'⟩
      · obtain ⟨w2, z2⟩ := I.cell y c' e
        exact ⟨w2, z2.sameBut hs hcc⟩
    · obtain ⟨e, n, ne, nf, d⟩ := I.pin p hp
      refine ⟨(hs.2 p.1 ?_).trans e, n, ne, nf, d⟩
      intro q
      rw [q, hoc] at e
      have q' : oc = p.2 := Option.some.inj e
      exact d w' (by rw [← q']; exact hocd)
theorem store_ok {M : Model} {A : Around} {E : Value → Shared → Prop} {i : Nat} {x : Str} {v : V} {u : Value} {Q : Unit → Shared → Prop} (I : Inv X pins σ H s) (hN : X.N.Nodup) (hi : X.N[i]? = some x) (hx : Loc X.env.scope x) (r : RelV v u)
    (h : ∀ s', Inv X pins (σ.set i (some v)) H s' → Q () s') (hf : X.fn x = true ∨ X.env.scope.names.lookup x = some .local := by first | exact .inl rfl | exact .inr rfl | assumption) : wpAny M A (storeName X.env x u) Q E s :=
  store_ok2 I hN hi hx r (fun s' I' _ => h s' I') hf
/-- behind a call or a block, the state as it is -/
theorem Inv.call' {s' : Shared} {ch : List Addr} (I : Inv X pins σ H s) (ho : s'.os = s.os) (u : Un (frs X.stack) ch H H' s.heap s'.heap) (hok : HOk X.prog X.w H' s'.heap) (hg : AllBare s'.gens)
    (hch : ∀ b ∈ ch, (b ∈ X.ex ∨ X.s₀.heap.objs.size ≤ b) ∧ b ≠ X.env.locals ∧ (∀ x c, X.env.cells.lookup x = some c → c ≠ b) ∧ ∀ p ∈ X.pn ++ pins, p.1 ≠ b) : Inv X pins σ H' s' := by
  obtain ⟨h', g', d', t', o'⟩ := s'
  have e : o' = s.os := ho
  subst e
  exact I.call (g' := g') (t' := t') (d' := d') u hok hg hch
end

/-! ### the judgements -/
/-- an exception: its class, its own dict's address (where it has one), the abstract heap behind it -/
abbrev XK := Value → Option Addr → Hp → Prop
abbrev St := List (Option V)
abbrev VK := V → Hp → Prop
/-- an expression's reading; a test's; an argument list's -/
abbrev TE := St → Hp → VK → Prop
abbrev TT := St → Hp → (Bool → Hp → Prop) → Prop
abbrev TA := St → Hp → (List V → Hp → Prop) → Prop
/-- what is wanted behind a statement -/
structure Ends where
  nx : St → Hp → Prop
  rt : VK
  bk : St → Hp → Prop := fun _ _ => False
  ct : St → Hp → Prop := fun _ _ => False
abbrev TS := Ends → St → Hp → Prop

def EP (X : Cx) (pins : List (Addr × Obj)) (σ : St) (Q : VK) (u : Value) (s' : Shared) : Prop := ∃ v H', Inv X pins σ H' s' ∧ RelV v u ∧ Q v H'
def TP (X : Cx) (pins : List (Addr × Obj)) (σ : St) (Q : Bool → Hp → Prop) (b : Bool) (s' : Shared) : Prop := ∃ H', Inv X pins σ H' s' ∧ Q b H'
def AP (X : Cx) (pins : List (Addr × Obj)) (σ : St) (Q : List V → Hp → Prop) (us : List Value) (s' : Shared) : Prop := ∃ vs H', Inv X pins σ H' s' ∧ Vals vs us ∧ Q vs H'
def SP (X : Cx) (pins : List (Addr × Obj)) (D : Ends) (f : Flow) (s' : Shared) : Prop :=
  match f with
  | .next => ∃ σ' H', Inv X pins σ' H' s' ∧ D.nx σ' H'
  | .brk => ∃ σ' H', Inv X pins σ' H' s' ∧ D.bk σ' H'
  | .cont => ∃ σ' H', Inv X pins σ' H' s' ∧ D.ct σ' H'
  | .ret u => ∃ v σ' H', Inv X pins σ' H' s' ∧ RelV v u ∧ D.rt v H'

def PE (X : Cx) (e : Expr) (t : TE) : Prop :=
  ∀ (pins : List (Addr × Obj)) (s : Shared) (σ : St) (H : Hp) (Q : VK), Inv X pins σ H s → t σ H Q → wpAny (model X.prog X.w) X.A (eval e X.env) (EP X pins σ Q) X.xe s
def PT (X : Cx) (e : Expr) (t : TT) : Prop :=
  ∀ (pins : List (Addr × Obj)) (s : Shared) (σ : St) (H : Hp) (Q : Bool → Hp → Prop), Inv X pins σ H s → t σ H Q → wpAny (model X.prog X.w) X.A (isTrue e X.env (eval e X.env)) (TP X pins σ Q) X.xe s
/-- a test whatever its 'whole' is (and, or) -/
def PW (X : Cx) (e : Expr) (t : TT) : Prop :=
  ∀ (whole : Sem Value) (pins : List (Addr × Obj)) (s : Shared) (σ : St) (H : Hp) (Q : Bool → Hp → Prop), Inv X pins σ H s → t σ H Q → wpAny (model X.prog X.w) X.A (isTrue e X.env whole) (TP X pins σ Q) X.xe s
theorem PW.pt {X : Cx} {e : Expr} {t : TT} (h : PW X e t) : PT X e t := h _
/-- an argument list (no star), from the left -/
def PA (X : Cx) (es : List Expr) (t : TA) : Prop :=
  ∀ (pos : Pos) (pins : List (Addr × Obj)) (s : Shared) (σ : St) (H : Hp) (Q : List V → Hp → Prop), Inv X pins σ H s → t σ H Q → wpAny (model X.prog X.w) X.A (spliced (backTo pos (starEach es X.env))) (AP X pins σ Q) X.xe s
def PS (X : Cx) (st : Stmt) (t : TS) : Prop :=
  ∀ (pins : List (Addr × Obj)) (s : Shared) (σ : St) (H : Hp) (D : Ends), Inv X pins σ H s → t D σ H → wpAny (model X.prog X.w) X.A (exec st X.env) (SP X pins D) X.xe s
def PSs (X : Cx) (st : List Stmt) (t : TS) : Prop :=
  ∀ (pins : List (Addr × Obj)) (s : Shared) (σ : St) (H : Hp) (D : Ends), Inv X pins σ H s → t D σ H → wpAny (model X.prog X.w) X.A (execs st X.env) (SP X pins D) X.xe s
/-- weaken the end -/
theorem thn {α : Type} {t : Sem α} {Q Q' : α → Shared → Prop} {M : Model} {A : Around} {E : Value → Shared → Prop} {s : Shared} (h : wpAny M A t Q E s) (hQ : ∀ a s, Q a s → Q' a s) : wpAny M A t Q' E s := wpAny_mono h hQ fun _ _ x => x
end L2

namespace L2
open PySem PySem.Spec PyProof.Rows
section
variable {X : Cx}

/-- two expressions in a row -/
theorem bin {a b : Expr} {ta tb : TE} (ha : PE X a ta) (hb : PE X b tb) {pins : List (Addr × Obj)} {s : Shared} {σ : St} {H : Hp} {R : V → V → Hp → Prop} (I : Inv X pins σ H s) (h : ta σ H fun x H1 => tb σ H1 fun y H2 => R x y H2)
    {α : Type} {Q : α → Shared → Prop} {f : Value → Value → Sem α}
    (hf : ∀ v u s2 x y H2, Inv X pins σ H2 s2 → RelV x v → RelV y u → R x y H2 → wpAny (model X.prog X.w) X.A (f v u) Q X.xe s2) :
    wpAny (model X.prog X.w) X.A (eval a X.env) (fun v s₁ => wpAny (model X.prog X.w) X.A (eval b X.env) (fun u s₂ => wpAny (model X.prog X.w) X.A (f v u) Q X.xe s₂) X.xe s₁) X.xe s := by
  refine thn (ha pins s σ H _ I h) fun v s1 ⟨x, H1, I1, r1, q1⟩ => ?_
  refine thn (hb pins s1 σ H1 _ I1 q1) fun u s2 ⟨y, H2, I2, r2, q2⟩ => ?_
  exact hf v u s2 x y H2 I2 r1 r2 q2

/-! ### names and constants -/
def tVar (i : Nat) : TE := fun σ H Q => ∃ v, σ[i]? = some (some v) ∧ Q v H
def tC (v : V) : TE := fun _ H Q => Q v H
theorem pe_var {i : Nat} {x : Str} {pos : Pos} (hN : X.N[i]? = some x) (hv : Vis X.env.scope x) (hd : (x == ("__debug__" : Str)) = false := by decide) (hcd : (x == ("__classdict__" : Str)) = false := by decide) : PE X (.Name x pos) (tVar i) := by
  intro pins s σ H Q I h
  obtain ⟨v, e, h⟩ := h
  obtain ⟨m, hn, hl⟩ := I.loc
  obtain ⟨u, r, l⟩ := hl i x v hN e hv
  have fin : EP X pins σ Q u s := ⟨v, H, I, r, h⟩
  rcases l with ⟨hk, hm⟩ | ⟨hk, c, hc, hcell⟩
  · exact wpAny_Name (wpAny_loadName_local I.ok.kind hk hn hm fin) hd
  · rcases hk with hk | hk
    · exact wpAny_Name (wpAny_loadName_cell I.ok.kind hk hc hcell fin) hd
    · exact wpAny_Name (wpAny_loadName_free I.ok.kind hk hc hcell fin hcd) hd
theorem pe_int {i j pos} : PE X (.Constant (.int i) j pos) (tC (.int i)) := fun _ _ _ H _ I h => wpAny_Constant_int ⟨.int i, H, I.tok _, ⟨_, rfl⟩, h⟩
theorem pe_bl {b j pos} : PE X (.Constant (.bool b) j pos) (tC (.bl b)) := fun _ _ _ H _ I h => Constant_bool ⟨.bl b, H, I, rfl, h⟩
theorem pe_non {j pos} : PE X (.Constant .none j pos) (tC .non) := fun _ _ _ H _ I h => Constant_none ⟨.non, H, I, rfl, h⟩
theorem pe_str {x j pos} : PE X (.Constant (.str x) j pos) (tC (.str x)) := fun _ _ _ H _ I h => Calls.Constant_str ⟨.str x, H, I.tok _, ⟨_, rfl⟩, h⟩

/-- a global name of the def -/
def Gl (X : Cx) (x : Str) : Prop := X.env.kindOf x = some .globalImplicit
theorem ld_glob {E : Value → Shared → Prop} {pins : List (Addr × Obj)} {s : Shared} {σ : St} {H : Hp} {x : Str} {u : Value} {pos : Pos} {Q : Value → Shared → Prop} (I : Inv X pins σ H s) (hg : Gl X x) (hm : X.mg x = some u) (h : Q u s)
    (hd : (x == ("__debug__" : Str)) = false := by decide) : wpAny (model X.prog X.w) X.A (eval (.Name x pos) X.env) Q E s :=
  Calls.Name_function_global I.ok.kind hg (Calls.loadGlobal_global (by rw [I.ok.glob]; exact I.mod.glob.keeps I.bk) hm h) hd
theorem ld_blt {E : Value → Shared → Prop} {pins : List (Addr × Obj)} {s : Shared} {σ : St} {H : Hp} {x : Str} {u : Value} {pos : Pos} {Q : Value → Shared → Prop} (I : Inv X pins σ H s) (hg : Gl X x) (hm : X.mg x = none) (hv : bootBuiltins x = some u) (h : Q u s)
    (hn : x ≠ "__name__" := by decide) (hd : (x == ("__debug__" : Str)) = false := by decide) : wpAny (model X.prog X.w) X.A (eval (.Name x pos) X.env) Q E s := by
  obtain ⟨mb, h1, h2⟩ := I.mod.blt
  exact Calls.Name_function_global I.ok.kind hg (Calls.loadGlobal_builtin (by rw [I.ok.glob]; exact I.mod.glob.keeps I.bk) hm (by rw [I.ok.blt]; exact h1.keeps I.bk) ((h2 x hn).trans hv) h) hd
/-- a module's constant, a class, a function, as a value -/
theorem pe_glob {x : Str} {v : V} {u : Value} {pos : Pos} (hg : Gl X x) (hm : X.mg x = some u) (r : RelV v u) (hd : (x == ("__debug__" : Str)) = false := by decide) : PE X (.Name x pos) (tC v) :=
  fun _ _ _ H _ I h => ld_glob I hg hm ⟨v, H, I, r, h⟩ hd
theorem pe_bltn {x : Str} {v : V} {u : Value} {pos : Pos} (hg : Gl X x) (hm : X.mg x = none) (hv : bootBuiltins x = some u) (r : RelV v u) (hn : x ≠ "__name__" := by decide) (hd : (x == ("__debug__" : Str)) = false := by decide) : PE X (.Name x pos) (tC v) :=
  fun _ _ _ H _ I h => ld_blt I hg hm hv ⟨v, H, I, r, h⟩ hn hd

/-! ### arithmetic -/
/-- two ints -/
def t2I (ta tb : TE) (k : Int → Int → Hp → Prop) : St → Hp → Prop := fun σ H => ta σ H fun x H1 => tb σ H1 fun y H2 => ∃ i j, x = .int i ∧ y = .int j ∧ k i j H2
def tAdd (ta tb : TE) : TE := fun σ H Q => t2I ta tb (fun i j H2 => Q (.int (i + j)) H2) σ H
def tSub (ta tb : TE) : TE := fun σ H Q => t2I ta tb (fun i j H2 => Q (.int (i - j)) H2) σ H
/-- the left factor below 2^64 -/
def tMul (ta tb : TE) : TE := fun σ H Q => t2I ta tb (fun i j H2 => (-(2 ^ 64) < i ∧ i < 2 ^ 64) ∧ Q (.int (i * j)) H2) σ H
variable {a b : Expr} {ta tb : TE} {pos : Pos}
theorem pe_add (ha : PE X a ta) (hb : PE X b tb) : PE X (.BinOp a .Add b pos) (tAdd ta tb) := by
  intro pins s σ H Q I h
  refine wpAny_BinOp (bin ha hb I h fun v u s2 x y H2 I2 rx ry q => ?_)
  obtain ⟨i, j, rfl, rfl, q⟩ := q
  obtain ⟨t, rfl⟩ := rx
  obtain ⟨t', rfl⟩ := ry
  exact add_int ⟨.int _, H2, I2.tok _, ⟨_, rfl⟩, q⟩
theorem pe_sub (ha : PE X a ta) (hb : PE X b tb) : PE X (.BinOp a .Sub b pos) (tSub ta tb) := by
  intro pins s σ H Q I h
  refine wpAny_BinOp (bin ha hb I h fun v u s2 x y H2 I2 rx ry q => ?_)
  obtain ⟨i, j, rfl, rfl, q⟩ := q
  obtain ⟨t, rfl⟩ := rx
  obtain ⟨t', rfl⟩ := ry
  exact sub_int ⟨.int _, H2, I2.tok _, ⟨_, rfl⟩, q⟩
theorem pe_mul (ha : PE X a ta) (hb : PE X b tb) : PE X (.BinOp a .Mult b pos) (tMul ta tb) := by
  intro pins s σ H Q I h
  refine wpAny_BinOp (bin ha hb I h fun v u s2 x y H2 I2 rx ry q => ?_)
  obtain ⟨i, j, rfl, rfl, ⟨q1, q2⟩, q⟩ := q
  obtain ⟨t, rfl⟩ := rx
  obtain ⟨t', rfl⟩ := ry
  exact mul_int ⟨.int _, H2, I2.tok _, ⟨_, rfl⟩, q⟩ (.of_left (intBits_le_64 q1 q2))

/-! ### comparisons -/
def PC (X : Cx) (op : CmpOp) (a b : Expr) (t : TE) : Prop :=
  ∀ (pins : List (Addr × Obj)) (s : Shared) (σ : St) (H : Hp) (Q : VK), Inv X pins σ H s → t σ H Q →
    wpAny (model X.prog X.w) X.A (eval a X.env) (fun v s₁ => wpAny (model X.prog X.w) X.A (eval b X.env) (fun u s₂ => wpAny (model X.prog X.w) X.A (compareOp op v u) (EP X pins σ Q) X.xe s₂) X.xe s₁) X.xe s
theorem nobehind (b : Expr) {op : CmpOp} (h : op ≠ .In) (h2 : op ≠ .NotIn) : behindInMarks op b = false := by
  have e1 : (op == CmpOp.In) = false := by cases op <;> first | rfl | exact absurd rfl h
  have e2 : (op == CmpOp.NotIn) = false := by cases op <;> first | rfl | exact absurd rfl h2
  cases b <;> simp [behindInMarks, e1, e2]
def tCmp (p : Int → Int → Bool) (ta tb : TE) : TE := fun σ H Q => t2I ta tb (fun i j H2 => Q (.bl (p i j)) H2) σ H
abbrev tLt : TE → TE → TE := tCmp fun i j => decide (i < j)
abbrev tLe : TE → TE → TE := tCmp fun i j => decide (i ≤ j)
abbrev tGt : TE → TE → TE := tCmp fun i j => decide (j < i)
abbrev tGe : TE → TE → TE := tCmp fun i j => decide (j ≤ i)
abbrev tEqI : TE → TE → TE := tCmp fun i j => decide (i = j)
abbrev tNeI : TE → TE → TE := tCmp fun i j => !decide (i = j)
/-- a comparison of two ints, by its rule -/
theorem pc_int {op : CmpOp} {p : Int → Int → Bool} (ha : PE X a ta) (hb : PE X b tb)
    (rule : ∀ (i j : Int) (t u : Tok) (Q : Value → Shared → Prop) (s : Shared), Q (.bool (p i j)) s → wpAny (model X.prog X.w) X.A (compareOp op (.int i t) (.int j u)) Q X.xe s) : PC X op a b (tCmp p ta tb) := by
  intro pins s σ H Q I h
  refine bin ha hb I h fun v u s2 x y H2 I2 rx ry q => ?_
  obtain ⟨i, j, rfl, rfl, q⟩ := q
  obtain ⟨t, rfl⟩ := rx
  obtain ⟨t', rfl⟩ := ry
  exact rule i j t t' _ s2 ⟨.bl _, H2, I2, rfl, q⟩
theorem pc_lt (ha : PE X a ta) (hb : PE X b tb) : PC X .Lt a b (tLt ta tb) := pc_int ha hb fun _ _ _ _ _ _ h => lt_int h
theorem pc_le (ha : PE X a ta) (hb : PE X b tb) : PC X .LtE a b (tLe ta tb) := pc_int ha hb fun _ _ _ _ _ _ h => le_int h
theorem pc_gt (ha : PE X a ta) (hb : PE X b tb) : PC X .Gt a b (tGt ta tb) := pc_int ha hb fun _ _ _ _ _ _ h => gt_int h
theorem pc_ge (ha : PE X a ta) (hb : PE X b tb) : PC X .GtE a b (tGe ta tb) := pc_int ha hb fun _ _ _ _ _ _ h => ge_int h
theorem pc_eqI (ha : PE X a ta) (hb : PE X b tb) : PC X .Eq a b (tEqI ta tb) := pc_int ha hb fun _ _ _ _ _ _ h => eq_int (by rw [Bool.beq_eq_decide_eq]; exact h)
theorem pc_neI (ha : PE X a ta) (hb : PE X b tb) : PC X .NotEq a b (tNeI ta tb) := pc_int ha hb fun _ _ _ _ _ _ h => ne_int (by rw [bne, Bool.beq_eq_decide_eq]; exact h)
/-- is None -/
def tIsN (ta : TE) : TE := fun σ H Q => ta σ H fun x H1 => Q (.bl (decide (x = .non))) H1
def tNotN (ta : TE) : TE := fun σ H Q => ta σ H fun x H1 => Q (.bl (!decide (x = .non))) H1
theorem RelV.none_iff {x : V} {v : Value} (r : RelV x v) : (v == Value.none) = decide (x = .non) := by
  cases x with
  | non => cases r; rfl
  | bl _ => cases r; rfl
  | int _ => obtain ⟨t, rfl⟩ := r; rfl
  | str _ => obtain ⟨t, rfl⟩ := r; rfl
  | byt _ => obtain ⟨t, rfl⟩ := r; rfl
  | flt _ => obtain ⟨t, rfl⟩ := r; rfl
  | ref _ => cases r; rfl
  | ty _ => cases r; rfl
theorem pc_isN {j pos'} (ha : PE X a ta) : PC X .Is a (.Constant .none j pos') (tIsN ta) := by
  intro pins s σ H Q I h
  refine thn (ha pins s σ H _ I h) fun v s1 ⟨x, H1, I1, r1, q1⟩ => ?_
  exact Constant_none (is_none_gen ⟨.bl _, H1, I1, by rw [r1.none_iff]; rfl, q1⟩)
theorem pc_notN {j pos'} (ha : PE X a ta) : PC X .IsNot a (.Constant .none j pos') (tNotN ta) := by
  intro pins s σ H Q I h
  refine thn (ha pins s σ H _ I h) fun v s1 ⟨x, H1, I1, r1, q1⟩ => ?_
  exact Constant_none (isnot_none_gen ⟨.bl _, H1, I1, by rw [r1.none_iff]; rfl, q1⟩)
/-- a comparison as a value, as a test -/
def tB (t : TE) : TT := fun σ H Q => t σ H fun x H1 => ∃ c, x = .bl c ∧ Q c H1
theorem pe_cmp {op : CmpOp} {t : TE} (h : PC X op a b t) (h1 : behindInMarks op b = false := by first | exact nobehind _ (by decide) (by decide) | rfl) : PE X (.Compare a [op] [b] pos) t := fun pins s σ H Q I hw => wpAny_Compare1 (h pins s σ H Q I hw) h1
theorem pt_cmp {op : CmpOp} {t : TE} (h : PC X op a b t) (h1 : behindInMarks op b = false := by first | exact nobehind _ (by decide) (by decide) | rfl) : PT X (.Compare a [op] [b] pos) (tB t) := by
  intro pins s σ H Q I hw
  refine wpAny_isTrue_Compare1 (thn (h pins s σ H _ I hw) fun v s1 h1 => thn h1 fun u s2 h2 => thn h2 fun c s3 ⟨x, H1, I1, r1, q1⟩ => ?_) h1
  obtain ⟨d, rfl, q⟩ := q1
  cases r1
  exact wpAny_truthy_bool ⟨H1, I1, q⟩
/-- an expression whose value is a bool, as a test -/
theorem pt_val {e : Expr} {t : TE} (h : PE X e t) (he : ∀ whole, isTrue e X.env whole = (do let v ← whole; standAt e.pos; holding [v] (truthy v)) := by intro _; rfl) : PT X e (tB t) := by
  intro pins s σ H Q I hw
  refine isTrue_plain (thn (h pins s σ H _ I hw) fun v s1 ⟨x, H1, I1, r1, q1⟩ => ?_) (he _)
  obtain ⟨d, rfl, q⟩ := q1
  cases r1
  exact wpAny_truthy_bool ⟨H1, I1, q⟩

/-! ### and, or, not -/
variable {tA tB' : TT} {rest : List Expr}
def tAnd (t u : TT) : TT := fun σ H Q => t σ H fun c H1 => if c = true then u σ H1 Q else Q false H1
def tOr (t u : TT) : TT := fun σ H Q => t σ H fun c H1 => if c = true then Q true H1 else u σ H1 Q
def tNot (t : TT) : TT := fun σ H Q => t σ H fun c H1 => Q (!c) H1
theorem pw_and1 (ha : PT X a tA) : PW X (.BoolOp .And [a] pos) tA := by
  intro wh pins s σ H Q I h
  refine isTrue_and (thn (ha pins s σ H Q I h) fun c s1 e => ?_)
  cases c with
  | true => exact isTrue_and_nil e
  | false => exact e
theorem pw_or1 (ha : PT X a tA) : PW X (.BoolOp .Or [a] pos) tA := by
  intro wh pins s σ H Q I h
  refine isTrue_or (thn (ha pins s σ H Q I h) fun c s1 e => ?_)
  cases c with
  | false => exact isTrue_or_nil e
  | true => exact e
theorem pw_and (ha : PT X a tA) (hb : PW X (.BoolOp .And (b :: rest) pos) tB') : PW X (.BoolOp .And (a :: b :: rest) pos) (tAnd tA tB') := by
  intro wh pins s σ H Q I h
  refine isTrue_and (thn (ha pins s σ H _ I h) fun c s1 ⟨H1, I1, q1⟩ => ?_)
  cases c with
  | true => exact hb wh pins s1 σ H1 Q I1 q1
  | false => exact ⟨H1, I1, q1⟩
theorem pw_or (ha : PT X a tA) (hb : PW X (.BoolOp .Or (b :: rest) pos) tB') : PW X (.BoolOp .Or (a :: b :: rest) pos) (tOr tA tB') := by
  intro wh pins s σ H Q I h
  refine isTrue_or (thn (ha pins s σ H _ I h) fun c s1 ⟨H1, I1, q1⟩ => ?_)
  cases c with
  | true => exact ⟨H1, I1, q1⟩
  | false => exact hb wh pins s1 σ H1 Q I1 q1
theorem pt_not (ha : PT X a tA) : PT X (.UnaryOp .Not a pos) (tNot tA) := by
  intro pins s σ H Q I h
  exact isTrue_not (ha pins s σ H (fun c H1 => Q (!c) H1) I h)
/-- .. as values (bools) -/
def tAndV (ta tb : TE) : TE := fun σ H Q => ta σ H fun x H1 => ∃ c, x = .bl c ∧ if c = true then tb σ H1 Q else Q (.bl false) H1
def tOrV (ta tb : TE) : TE := fun σ H Q => ta σ H fun x H1 => ∃ c, x = .bl c ∧ if c = true then Q (.bl true) H1 else tb σ H1 Q
def tNotV (ta : TE) : TE := fun σ H Q => ta σ H fun x H1 => ∃ c, x = .bl c ∧ Q (.bl (!c)) H1
theorem pe_one {op} {t : TE} (h : PE X a t) : PE X (.BoolOp op [a] pos) t := fun pins s σ H Q I hw => BoolOp_one (h pins s σ H Q I hw)
theorem pe_and (ha : PE X a ta) (hb : PE X (.BoolOp .And (b :: rest) pos) tb) : PE X (.BoolOp .And (a :: b :: rest) pos) (tAndV ta tb) := by
  intro pins s σ H Q I h
  refine BoolOp_and (thn (ha pins s σ H _ I h) fun v s1 ⟨x, H1, I1, r1, q1⟩ => ?_)
  obtain ⟨c, rfl, q1⟩ := q1
  cases r1
  refine wpAny_truthy_bool ?_
  cases c with
  | true => exact hb pins s1 σ H1 Q I1 q1
  | false => exact ⟨.bl false, H1, I1, rfl, q1⟩
theorem pe_or (ha : PE X a ta) (hb : PE X (.BoolOp .Or (b :: rest) pos) tb) : PE X (.BoolOp .Or (a :: b :: rest) pos) (tOrV ta tb) := by
  intro pins s σ H Q I h
  refine BoolOp_or (thn (ha pins s σ H _ I h) fun v s1 ⟨x, H1, I1, r1, q1⟩ => ?_)
  obtain ⟨c, rfl, q1⟩ := q1
  cases r1
  refine wpAny_truthy_bool ?_
  cases c with
  | false => exact hb pins s1 σ H1 Q I1 q1
  | true => exact ⟨.bl true, H1, I1, rfl, q1⟩
theorem pe_not (ha : PE X a ta) : PE X (.UnaryOp .Not a pos) (tNotV ta) := by
  intro pins s σ H Q I h
  refine UnaryOp_ (thn (ha pins s σ H _ I h) fun v s1 ⟨x, H1, I1, r1, q1⟩ => ?_)
  obtain ⟨c, rfl, q1⟩ := q1
  cases r1
  exact not_of (wpAny_truthy_bool ⟨.bl (!c), H1, I1, rfl, q1⟩)
/-- a if t else b -/
def tIf (t : TT) (ta tb : TE) : TE := fun σ H Q => t σ H fun c H1 => if c = true then ta σ H1 Q else tb σ H1 Q
theorem pe_ifExp {c : Expr} (hc : PT X c tA) (ha : PE X a ta) (hb : PE X b tb) : PE X (.IfExp c a b pos) (tIf tA ta tb) := by
  intro pins s σ H Q I h
  refine wpAny_IfExp (thn (hc pins s σ H _ I h) fun d s1 ⟨H1, I1, q1⟩ => ?_)
  cases d with
  | true => exact ha pins s1 σ H1 Q I1 q1
  | false => exact hb pins s1 σ H1 Q I1 q1
end
end L2

namespace L2
open PySem PySem.Spec PyProof.Rows

/-! ### a list, a tuple that is read: tracked, frozen, or an object of the module -/
def SqL (K : PySem.W.Frag) (H : Hp) (a : Addr) (xs : List V) : Prop :=
  Rd H a (.lst xs) ∨
    ∃ (o : Obj) (its : Array Value) (n : Nat), K.lookup a = some o ∧ o.cls = .type "list" ∧ o.dict = none ∧ o.data = .seq its n ∧ its.size ≤ sizeLine ∧ Vals xs its.toList
def SqT (K : PySem.W.Frag) (H : Hp) (a : Addr) (xs : List V) : Prop :=
  Rd H a (.tup xs) ∨
    ∃ (o : Obj) (its : Array Value) (n : Nat), K.lookup a = some o ∧ o.cls = .type "tuple" ∧ o.data = .seq its n ∧ its.size ≤ sizeLine ∧ Vals xs its.toList
def absV : Value → Option V
  | .none => some .non
  | .bool b => some (.bl b)
  | .int i _ => some (.int i)
  | .str x _ => some (.str x)
  | .bytes b _ => some (.byt b)
  | .float b _ => some (.flt b)
  | .ref a => some (.ref a)
  | .type n => some (.ty n)
  | _ => none
theorem RelV.abs {x : V} {u : Value} (r : RelV x u) : absV u = some x := by
  cases x with
  | non => cases r; rfl
  | bl _ => cases r; rfl
  | int _ => obtain ⟨t, rfl⟩ := r; rfl
  | str _ => obtain ⟨t, rfl⟩ := r; rfl
  | byt _ => obtain ⟨t, rfl⟩ := r; rfl
  | flt _ => obtain ⟨t, rfl⟩ := r; rfl
  | ref _ => cases r; rfl
  | ty _ => cases r; rfl
theorem RelV.inj {x y : V} {u : Value} (r : RelV x u) (q : RelV y u) : x = y := Option.some.inj (r.abs.symm.trans q.abs)
theorem Vals.inj : ∀ {xs ys : List V} {us : List Value}, Vals xs us → Vals ys us → xs = ys
  | _, _, _, .nil, .nil => rfl
  | _, _, _, .cons r t, .cons r' t' => by rw [r.inj r', Vals.inj t t']
section
variable {X : Cx} {pins : List (Addr × Obj)} {σ : St} {H : Hp} {s : Shared} {a : Addr} {xs ys : List V}
theorem SqL.of {K : PySem.W.Frag} (h : H a = some (.lst xs)) : SqL K H a xs := .inl (.inl h)
theorem SqT.of {K : PySem.W.Frag} (h : H a = some (.tup xs)) : SqT K H a xs := .inl (.inl h)
theorem Inv.list (I : Inv X pins σ H s) (h : SqL X.K H a xs) : ∃ its : List Value, Vals xs its ∧ PlainL s.heap a its.toArray ∧ xs.length ≤ sizeLine := by
  rcases h with h | ⟨o, its, n, hk, hc, hd, hs, hz, r⟩
  · obtain ⟨z, its, n, r, e⟩ := h.ok I.hok
    exact ⟨its, r, ⟨_, n, e, rfl, rfl, rfl⟩, z⟩
  · refine ⟨its.toList, r, ⟨o, n, I.kIn a o hk, hc, hd, by simpa using hs⟩, ?_⟩
    have e := r.length
    simp only [Array.length_toList] at e
    omega
theorem Inv.tuple (I : Inv X pins σ H s) (h : SqT X.K H a xs) : ∃ its : List Value, Vals xs its ∧ IsTup s.heap a its.toArray ∧ xs.length ≤ sizeLine := by
  rcases h with h | ⟨o, its, n, hk, hc, hs, hz, r⟩
  · obtain ⟨z, its, r, p⟩ := h.ok I.hok
    exact ⟨its, r, p, z⟩
  · refine ⟨its.toList, r, ⟨o, I.kIn a o hk, hc, n, by simpa using hs⟩, ?_⟩
    have e := r.length
    simp only [Array.length_toList] at e
    omega
theorem Inv.list_inj (I : Inv X pins σ H s) (h : SqL X.K H a xs) (h' : SqL X.K H a ys) : xs = ys := by
  obtain ⟨its, r, ⟨o, n, e, _, _, d⟩, _⟩ := I.list h
  obtain ⟨its', r', ⟨o', n', e', _, _, d'⟩, _⟩ := I.list h'
  rw [e] at e'; cases e'
  rw [d] at d'
  injection d' with d1 _
  have : its = its' := by simpa using congrArg Array.toList d1
  subst this
  exact r.inj r'
theorem Inv.tuple_inj (I : Inv X pins σ H s) (h : SqT X.K H a xs) (h' : SqT X.K H a ys) : xs = ys := by
  obtain ⟨its, r, ⟨o, e, _, n, d⟩, _⟩ := I.tuple h
  obtain ⟨its', r', ⟨o', e', _, n', d'⟩, _⟩ := I.tuple h'
  rw [e] at e'; cases e'
  rw [d] at d'
  injection d' with d1 _
  have : its = its' := by simpa using congrArg Array.toList d1
  subst this
  exact r.inj r'
end

/-! ### another wish about exceptions -/
abbrev Cx.wish (X : Cx) (E : Value → Shared → Prop) : Cx := { X with xe := E }
/-- no exception leaves -/
abbrev Cx.nox (X : Cx) : Cx := X.wish fun _ _ => False
theorem Cx.Ok.wish {X : Cx} (ok : X.Ok) (E : Value → Shared → Prop) : (X.wish E).Ok :=
  ⟨ok.mod, ok.kind, ok.glob, ok.blt, ok.above, ok.inj, ok.has, ok.cab, ok.hd, ok.frames, ok.stk, ok.exf, ok.bs, ok.bsz, ok.noex, ok.exfs, ok.funs, ok.frf⟩
theorem Cx.Ok.unwish {X : Cx} {E : Value → Shared → Prop} (ok : (X.wish E).Ok) : X.Ok :=
  ⟨ok.mod, ok.kind, ok.glob, ok.blt, ok.above, ok.inj, ok.has, ok.cab, ok.hd, ok.frames, ok.stk, ok.exf, ok.bs, ok.bsz, ok.noex, ok.exfs, ok.funs, ok.frf⟩
section
variable {X : Cx} {pins : List (Addr × Obj)} {σ : St} {H : Hp} {s : Shared} {E : Value → Shared → Prop}
theorem Inv.wish (I : Inv X pins σ H s) (E : Value → Shared → Prop) : Inv (X.wish E) pins σ H s := ⟨I.ok.wish E, I.os, I.bare, I.base, I.loc, I.cell, I.free, I.freeC, I.pin, I.hok, I.len⟩
theorem Inv.unwish (I : Inv (X.wish E) pins σ H s) : Inv X pins σ H s := ⟨I.ok.unwish, I.os, I.bare, I.base, I.loc, I.cell, I.free, I.freeC, I.pin, I.hok, I.len⟩
theorem SP.unwish {D : Ends} {f : Flow} {s' : Shared} (h : SP (X.wish E) pins D f s') : SP X pins D f s' := by
  cases f with
  | next => obtain ⟨σ', H', I, q⟩ := h; exact ⟨σ', H', I.unwish, q⟩
  | brk => obtain ⟨σ', H', I, q⟩ := h; exact ⟨σ', H', I.unwish, q⟩
  | cont => obtain ⟨σ', H', I, q⟩ := h; exact ⟨σ', H', I.unwish, q⟩
  | ret u => obtain ⟨v, σ', H', I, r, q⟩ := h; exact ⟨v, σ', H', I.unwish, r, q⟩
theorem PE.nox {e : Expr} {t : TE} (h : PE X.nox e t) : PE X e t := fun pins s σ H Q I hw =>
  wpAny_mono (h pins s σ H Q (I.wish _) hw) (fun _ _ ⟨v, H', I', r, q⟩ => ⟨v, H', I'.unwish, r, q⟩) fun _ _ z => False.elim z
theorem PT.nox {e : Expr} {t : TT} (h : PT X.nox e t) : PT X e t := fun pins s σ H Q I hw =>
  wpAny_mono (h pins s σ H Q (I.wish _) hw) (fun _ _ ⟨H', I', q⟩ => ⟨H', I'.unwish, q⟩) fun _ _ z => False.elim z
theorem PSs.nox {st : List Stmt} {t : TS} (h : PSs X.nox st t) : PSs X st t := fun pins s σ H D I hw =>
  wpAny_mono (h pins s σ H D (I.wish _) hw) (fun _ _ q => q.unwish) fun _ _ z => False.elim z
end

/-! ### blocks and small statements -/
section
variable {X : Cx} {st : Stmt} {rest : List Stmt} {t u : TS} {e : Expr} {te : TE} {pos : Pos}
def tNext : TS := fun D σ H => D.nx σ H
def tSeq (t u : TS) : TS := fun D σ H => t { D with nx := u D } σ H
theorem pss_nil : PSs X [] tNext := fun _ _ σ H _ I h => wpAny_execs_nil ⟨σ, H, I, h⟩
theorem pss_cons (h1 : PS X st t) (h2 : PSs X rest u) : PSs X (st :: rest) (tSeq t u) := by
  intro pins s σ H D I h
  refine wpAny_execs_cons (thn (h1 pins s σ H { D with nx := u D } I h) fun f s1 q => ?_)
  cases f with
  | next =>
    obtain ⟨σ', H', I', q⟩ := q
    exact h2 pins s1 σ' H' D I' q
  | ret v => exact q
  | brk => exact q
  | cont => exact q
theorem pss_one (h1 : PS X st t) : PSs X [st] t := by
  intro pins s σ H D I h
  refine wpAny_execs_cons (thn (h1 pins s σ H D I h) fun f s1 q => ?_)
  cases f with
  | next => exact wpAny_execs_nil q
  | ret v => exact q
  | brk => exact q
  | cont => exact q
def tBreak : TS := fun D σ H => D.bk σ H
def tCont : TS := fun D σ H => D.ct σ H
theorem ps_pass : PS X (.Pass pos) tNext := fun _ _ σ H _ I h => wpAny_Pass ⟨σ, H, I, h⟩
theorem ps_break : PS X (.Break pos) tBreak := fun _ _ σ H _ I h => wpAny_Break ⟨σ, H, I, h⟩
theorem ps_continue : PS X (.Continue pos) tCont := fun _ _ σ H _ I h => wpAny_Continue ⟨σ, H, I, h⟩
/-- in a def's body nothing is shown -/
theorem Inv.quiet {pins : List (Addr × Obj)} {σ : St} {H : Hp} {s : Shared} (I : Inv X pins σ H s) : interactive X.env = false := by simp [interactive, I.ok.kind]
/-- a docstring -/
theorem ps_doc {x j pos pos'} : PS X (.Expr (.Constant (.str x) j pos) pos') tNext := fun _ s σ H _ I h => wpAny_Expr (Calls.Constant_str (show SP X _ _ .next { s with toks := s.toks + 1 } from ⟨σ, H, I.tok _, h⟩)) I.quiet
/-- an expression whose value is dropped -/
def tDrop (te : TE) : TS := fun D σ H => te σ H fun _ H1 => D.nx σ H1
theorem ps_expr (he : PE X e te) (hs : swapsWith e none pos.line X.env = pure false := by rfl) : PS X (.Expr e pos) (tDrop te) := by
  intro pins s σ H D I h
  exact wpAny_Expr_any (thn (he pins s σ H _ I h) fun v s1 ⟨x, H1, I1, r1, q1⟩ => ⟨σ, H1, I1, q1⟩) I.quiet hs
def tRet (te : TE) : TS := fun D σ H => te σ H D.rt
theorem ps_ret (he : PE X e te) : PS X (.Return (some e) pos) (tRet te) := by
  intro pins s σ H D I h
  exact wpAny_Return_some (thn (he pins s σ H _ I h) fun v s1 ⟨x, H1, I1, r1, q1⟩ => ⟨x, σ, H1, I1, r1, q1⟩)
def tRetN : TS := fun D _ H => D.rt .non H
theorem ps_retN : PS X (.Return none pos) tRetN := fun _ _ σ H _ I h => wpAny_Return_none ⟨.non, σ, H, I, rfl, h⟩
def tIfS (c : TT) (t u : TS) : TS := fun D σ H => c σ H fun b H1 => if b = true then t D σ H1 else u D σ H1
theorem ps_if {c : Expr} {a b : List Stmt} {tc : TT} (hc : PT X c tc) (ha : PSs X a t) (hb : PSs X b u) : PS X (.If c a b pos) (tIfS tc t u) := by
  intro pins s σ H D I h
  refine wpAny_If (thn (hc pins s σ H _ I h) fun d s1 ⟨H1, I1, q1⟩ => ?_)
  cases d with
  | true => exact ha pins s1 σ H1 D I1 q1
  | false => exact hb pins s1 σ H1 D I1 q1
/-- code that the proof never comes to -/
def tNever : TS := fun _ _ _ => False
theorem ps_never : PS X st tNever := fun _ _ _ _ _ _ h => h.elim
theorem pss_never {sts : List Stmt} : PSs X sts tNever := fun _ _ _ _ _ _ h => h.elim
end

/-! ### targets -/
abbrev TG := V → St → Hp → (St → Hp → Prop) → Prop
abbrev TGs := List V → St → Hp → (St → Hp → Prop) → Prop
def PG (X : Cx) (target : Expr) (t : TG) : Prop :=
  ∀ (pins : List (Addr × Obj)) (s : Shared) (σ : St) (H : Hp) (v : V) (u : Value) (Q : St → Hp → Prop), Inv X pins σ H s → RelV v u → t v σ H Q →
    wpAny (model X.prog X.w) X.A (assign target X.env u) (fun _ s' => ∃ σ' H', Inv X pins σ' H' s' ∧ Q σ' H') X.xe s
/-- several targets, one after another -/
def PGs (X : Cx) (ts : List Expr) (t : TGs) : Prop :=
  ∀ (pins : List (Addr × Obj)) (s : Shared) (σ : St) (H : Hp) (vs : List V) (us : List Value) (Q : St → Hp → Prop), Inv X pins σ H s → Vals vs us → t vs σ H Q →
    wpAny (model X.prog X.w) X.A (assignInOrder ((assignEach ts X.env).map (·.2)) us) (fun _ s' => ∃ σ' H', Inv X pins σ' H' s' ∧ Q σ' H') X.xe s
/-- o[i] = v, by values -/
abbrev TSet := V → V → V → Hp → (Hp → Prop) → Prop
def PSet (X : Cx) (t : TSet) : Prop :=
  ∀ (pins : List (Addr × Obj)) (s : Shared) (σ : St) (H : Hp) (o i v : V) (ov iv u : Value) (Q : Hp → Prop), Inv X pins σ H s → RelV o ov → RelV i iv → RelV v u → t o i v H Q →
    wpAny (model X.prog X.w) X.A (setItem ov iv u) (fun _ s' => ∃ H', Inv X pins σ H' s' ∧ Q H') X.xe s
/-- a op= b, by values -/
abbrev TIp := V → V → Hp → VK → Prop
def PIp (X : Cx) (op : Operator) (t : TIp) : Prop :=
  ∀ (pins : List (Addr × Obj)) (s : Shared) (σ : St) (H : Hp) (x y : V) (v u : Value) (Q : VK), Inv X pins σ H s → RelV x v → RelV y u → t x y H Q →
    wpAny (model X.prog X.w) X.A (inplaceOp op v u) (EP X pins σ Q) X.xe s
section
variable {X : Cx} {pos : Pos}
def gName (i : Nat) : TG := fun v σ H Q => Q (σ.set i (some v)) H
theorem pg_name {i : Nat} {x : Str} (hN : X.N.Nodup) (hi : X.N[i]? = some x) (hx : Loc X.env.scope x) (hf : X.fn x = true ∨ X.env.scope.names.lookup x = some .local := by first | exact .inl rfl | exact .inr rfl | assumption) : PG X (.Name x pos) (gName i) := by
  intro pins s σ H v u Q I r h
  exact wpAny_assign_Name (store_ok I hN hi hx r (fun s' I' => ⟨_, H, I', h⟩) hf)
def gNil : TGs := fun vs σ H Q => vs = [] ∧ Q σ H
def gCons (t : TG) (u : TGs) : TGs := fun vs σ H Q => ∃ v r, vs = v :: r ∧ t v σ H fun σ' H' => u r σ' H' Q
theorem pgs_nil : PGs X [] gNil := by
  intro pins s σ H vs us Q I r h
  obtain ⟨e, h⟩ := h
  subst e
  cases r
  exact assignInOrder_nil ⟨σ, H, I, h⟩
theorem pgs_cons {e : Expr} {es : List Expr} {t : TG} {u : TGs} (h1 : PG X e t) (h2 : PGs X es u)
    (hs : (assignEach (e :: es) X.env).map (·.2) = assign e X.env :: (assignEach es X.env).map (·.2) := by rfl) : PGs X (e :: es) (gCons t u) := by
  intro pins s σ H vs us Q I r h
  obtain ⟨v, vr, e1, h⟩ := h
  subst e1
  cases r with
  | cons r rr =>
    rw [hs]
    refine assignInOrder_cons (thn (h1 pins s σ H _ _ _ I r h) fun _ s1 ⟨σ1, H1, I1, q1⟩ => ?_)
    exact h2 pins s1 σ1 H1 _ _ Q I1 rr q1
/-- (a, b, ..) = a tuple of that length -/
def gTup (K : PySem.W.Frag) (n : Nat) (t : TGs) : TG := fun v σ H Q => ∃ a xs, v = .ref a ∧ SqT K H a xs ∧ xs.length = n ∧ t xs σ H Q
theorem pg_tup {es : List Expr} {k : Nat} {t : TGs} {n : Nat} (hc : X.calm = true) (h : PGs X es t)
    (hn : (assignEach es X.env).length = n := by rfl) (hst : (assignEach es X.env).findIdx? (·.1) = none := by rfl) : PG X (.Tuple es k pos) (gTup X.K n t) := by
  intro pins s σ H v u Q I r hw
  obtain ⟨a, xs, e1, hq, hl, hw⟩ := hw
  subst e1
  cases r
  obtain ⟨its, rv, ht, hz⟩ := I.tuple hq
  refine assign_Tuple_tuple (I.ok.hd hc) ht (by simp [hn, ← hl, rv.length]) hst fun h' hx => ?_
  have I1 : Inv X pins σ H { s with heap := h' } := I.kept (t' := s.toks) fun b o e => hx b o (Nat.ne_of_lt (Heap.lt_size e)) e
  exact h pins _ σ H xs _ Q I1 (by simpa using rv) hw
/-- o[i] = .. -/
def gSub (to ti : TE) (t : TSet) : TG := fun v σ H Q => to σ H fun o H1 => ti σ H1 fun i H2 => t o i v H2 fun H3 => Q σ H3
theorem pg_sub {o i : Expr} {to ti : TE} {t : TSet} (ho : PE X o to) (hi : PE X i ti) (hs : PSet X t)
    (ha : ∀ v, assign (.Subscript o i pos) X.env v = (do
      let ov ← holding [v] (eval o X.env)
      let iv ← holding [v, ov] (eval i X.env)
      standAt pos
      holding [v, ov, iv] (setItem ov iv v)
      release [v, ov, iv] []) := by intro _; rfl) : PG X (.Subscript o i pos) (gSub to ti t) := by
  intro pins s σ H v u Q I r h
  rw [ha]
  refine wpAny_bind (wpAny_holding (thn (ho pins s σ H _ I h) fun ov s1 ⟨x, H1, I1, r1, q1⟩ => ?_))
  refine wpAny_bind (wpAny_holding (thn (hi pins s1 σ H1 _ I1 q1) fun iv s2 ⟨y, H2, I2, r2, q2⟩ => ?_))
  refine wpAny_bind (wpAny_standAt (wpAny_bind (wpAny_holding (thn (hs pins s2 σ H2 x y v ov iv u _ I2 r1 r2 r q2) fun _ s3 ⟨H3, I3, q3⟩ => ?_))))
  exact wpAny_release ⟨σ, H3, I3, q3⟩
/-- target = value -/
def tAsg (te : TE) (g : TG) : TS := fun D σ H => te σ H fun x H1 => g x σ H1 D.nx
theorem ps_asg {tg e : Expr} {te : TE} {g : TG} (he : PE X e te) (hg : PG X tg g) (hs : swapsWithSole [tg] e pos.line X.env = pure false := by rfl) (hw : swappedStores [tg] e X.env = pure none := by rfl)
    (h1 : (assignEach [tg] X.env).map (·.2) = [assign tg X.env] := by rfl) : PS X (.Assign [tg] e pos) (tAsg te g) := by
  intro pins s σ H D I h
  refine wpAny_Assign_stores (thn (he pins s σ H _ I h) fun v s1 ⟨x, H1, I1, r1, q1⟩ => ?_) hs hw
  rw [h1]
  exact thn (hg pins s1 σ H1 x v _ I1 r1 q1) fun _ s2 q => q
/-- name = value -/
theorem ps_set {i : Nat} {x : Str} {e : Expr} {te : TE} {pos' : Pos} (hN : X.N.Nodup) (hi : X.N[i]? = some x) (hx : Loc X.env.scope x) (he : PE X e te) (hs : swapsWith e (some (.Name x pos')) pos.line X.env = pure false := by rfl) (hf : X.fn x = true ∨ X.env.scope.names.lookup x = some .local := by first | exact .inl rfl | exact .inr rfl | assumption) :
    PS X (.Assign [.Name x pos'] e pos) (tAsg te (gName i)) := by
  intro pins s σ H D I h
  refine wpAny_Assign_Name (thn (he pins s σ H _ I h) fun v s1 ⟨y, H1, I1, r1, q1⟩ => ?_) hs
  exact store_ok I1 hN hi hx r1 (fun s2 I2 => ⟨_, H1, I2, q1⟩) hf
/-- a, b = x, y with plain local names: stored from the right; the pair itself is not tracked (the opening rows as in PyProof/Rows/TupAssign.lean:23) -/
def tPar (i j : Nat) (ta : TA) : TS := fun D σ H => ta σ H fun vs H1 => ∃ v w, vs = [v, w] ∧ D.nx ((σ.set i (some v)).set j (some w)) H1
theorem ps_par {i j : Nat} {x y : Str} {a b : Expr} {ta : TA} {px py pt : Pos} {kt k2 pt2} (hc : X.calm = true) (hN : X.N.Nodup) (hi : X.N[i]? = some x) (hj : X.N[j]? = some y) (hij : i ≠ j)
    (hx : X.env.scope.names.lookup x = some .local) (hy : X.env.scope.names.lookup y = some .local) (ha : PA X [a, b] ta)
    (hw : swappedStores [.Tuple [.Name x px, .Name y py] kt pt] (.Tuple [a, b] k2 pt2) X.env = pure (some [x, y]))
    (hs : swapsWithSole [.Tuple [.Name x px, .Name y py] kt pt] (.Tuple [a, b] k2 pt2) pos.line X.env = pure false := by rfl) :
    PS X (.Assign [.Tuple [.Name x px, .Name y py] kt pt] (.Tuple [a, b] k2 pt2) pos) (tPar i j ta) := by
  intro pins s σ H D I h
  rw [exec_Assign_arm]
  refine wpAny_bind (wpAny_standAt ?_)
  rw [hs]
  refine wpAny_bind (wpAny_pure ?_)
  rw [if_neg (by decide)]
  refine wpAny_bind (Tuple_ (thn (ha _ pins s σ H _ I h) fun us s1 ⟨vs, H1, I1, r1, q1⟩ => ?_))
  obtain ⟨v, w, e1, q1⟩ := q1
  subst e1
  obtain ⟨u1, u2, rfl, rv, rw'⟩ : ∃ u1 u2, us = [u1, u2] ∧ RelV v u1 ∧ RelV w u2 := by
    cases r1 with
    | cons p q =>
      cases q with
      | cons p' q' =>
        cases q'
        exact ⟨_, _, rfl, p, p'⟩
  refine wpAny_newObj_type ?_ (by show 2 ≤ sizeLine; decide)
  have I2 : Inv X pins σ H1 { s1 with heap := s1.heap.push { cls := .type "tuple", data := .seq [u1, u2].toArray } } := I1.kept (t' := s1.toks) fun b o e => Heap.get?_push_of_some _ e
  rw [hw]
  refine wpAny_bind (wpAny_pure ?_)
  show wpAny (model X.prog X.w) X.A (do rule "assign.swapped-stores"; let items ← unpackItems (.ref s1.heap.objs.size) 2 none; assignInOrder [fun v => bindName X.env y v, fun v => bindName X.env x v] items.reverse; pure Flow.next) _ _ _
  refine wpAny_bind (wpAny_rule (wpAny_bind (unpackItems_tuple (items := #[u1, u2]) (I.ok.hd hc) (IsTup.new s1.heap _) fun h' hx' => ?_)))
  have I3 := I2.kept (h' := h') (t' := s1.toks) fun b o e => hx' b o (Nat.ne_of_lt (Heap.lt_size e)) e
  show wpAny _ _ (assignInOrder [fun v => bindName X.env y v, fun v => bindName X.env x v] [u2, u1] >>= fun _ => pure Flow.next) _ _ _
  refine wpAny_bind (assignInOrder_cons (wpAny_bindName (store_ok I3 hN hj (.inl hy) rw' (fun s2 I4 => ?_) (.inr hy))))
  refine assignInOrder_cons (wpAny_bindName (store_ok I4 hN hi (.inl hx) rv (fun s3 I5 => assignInOrder_nil (wpAny_pure ?_)) (.inr hx)))
  rw [List.set_comm _ _ (Ne.symm hij)] at I5
  exact ⟨_, H1, I5, q1⟩
/-- name op= e -/
def tAug (i : Nat) (te : TE) (ti : TIp) : TS := fun D σ H => ∃ x, σ[i]? = some (some x) ∧ te σ H fun y H1 => ti x y H1 fun z H2 => D.nx (σ.set i (some z)) H2
theorem ps_aug {i : Nat} {x : Str} {e : Expr} {te : TE} {op : Operator} {ti : TIp} {pos' : Pos} (hN : X.N.Nodup) (hi : X.N[i]? = some x) (hx : Loc X.env.scope x) (he : PE X e te) (ho : PIp X op ti) (hf : X.fn x = true ∨ X.env.scope.names.lookup x = some .local := by first | exact .inl rfl | exact .inr rfl | assumption) :
    PS X (.AugAssign (.Name x pos') op e pos) (tAug i te ti) := by
  intro pins s σ H D I h
  obtain ⟨v, e1, h⟩ := h
  obtain ⟨m, hn, hl⟩ := I.loc
  have vis : Vis X.env.scope x := by rcases hx with k | k; exact .inl k; exact .inr (.inl k)
  obtain ⟨u, r, l⟩ := hl i x v hi e1 vis
  refine wpAny_AugAssign_Name ?_
  have go : wpAny (model X.prog X.w) X.A (eval e X.env) (fun w s₂ => wpAny (model X.prog X.w) X.A (inplaceOp op u w) (fun r s₃ => wpAny (model X.prog X.w) X.A (storeName X.env x r) (fun _ => SP X pins D .next) X.xe s₃) X.xe s₂) X.xe s := by
    refine thn (he pins s σ H _ I h) fun w s1 ⟨y, H1, I1, r1, q1⟩ => ?_
    refine thn (ho pins s1 σ H1 v y u w _ I1 r r1 q1) fun z s2 ⟨zv, H2, I2, r2, q2⟩ => ?_
    exact store_ok I2 hN hi hx r2 (fun s3 I3 => ⟨_, H2, I3, q2⟩) hf
  rcases l with ⟨hk, hm⟩ | ⟨hk, c, hc, hcell⟩
  · exact wpAny_loadName_local I.ok.kind hk hn hm go
  · rcases hk with hk | hk
    · exact wpAny_loadName_cell I.ok.kind hk hc hcell go
    · rcases hx with k | k
      · have : X.env.scope.names.lookup x = some .free := hk
        rw [k] at this; cases this
      · have : X.env.scope.names.lookup x = some .free := hk
        rw [k] at this; cases this
/-- o[i] op= e -/
def tAugS (to ti te : TE) (tget : V → V → Hp → VK → Prop) (tip : TIp) (tset : TSet) : TS := fun D σ H => to σ H fun o H1 => ti σ H1 fun i H2 => tget o i H2 fun x H3 => te σ H3 fun y H4 => tip x y H4 fun z H5 => tset o i z H5 fun H6 => D.nx σ H6
/-- o[i], by values -/
def PGet (X : Cx) (t : V → V → Hp → VK → Prop) : Prop :=
  ∀ (pins : List (Addr × Obj)) (s : Shared) (σ : St) (H : Hp) (o i : V) (ov iv : Value) (Q : VK), Inv X pins σ H s → RelV o ov → RelV i iv → t o i H Q →
    wpAny (model X.prog X.w) X.A (getItem ov iv) (EP X pins σ Q) X.xe s
theorem ps_augS {o i e : Expr} {to ti te : TE} {tget : V → V → Hp → VK → Prop} {tip : TIp} {tset : TSet} {op : Operator} {tpos : Pos} (ho : PE X o to) (hi : PE X i ti) (hg : PGet X tget) (he : PE X e te) (hp : PIp X op tip) (hs : PSet X tset)
    (ha : ∀ ov iv new, augStore i ov iv new = (do holding [new, ov, iv] (setItem ov iv new); release [new, ov, iv] []; pure .next) := by intros; rfl) : PS X (.AugAssign (.Subscript o i tpos) op e pos) (tAugS to ti te tget tip tset) := by
  intro pins s σ H D I h
  refine wpAny_AugAssign_SubscriptAny (thn (ho pins s σ H _ I h) fun ov s1 ⟨x1, H1, I1, r1, q1⟩ => ?_) ha
  refine thn (hi pins s1 σ H1 _ I1 q1) fun iv s2 ⟨x2, H2, I2, r2, q2⟩ => ?_
  refine thn (hg pins s2 σ H2 x1 x2 ov iv _ I2 r1 r2 q2) fun old s3 ⟨x3, H3, I3, r3, q3⟩ => ?_
  refine thn (he pins s3 σ H3 _ I3 q3) fun v s4 ⟨x4, H4, I4, r4, q4⟩ => ?_
  refine thn (hp pins s4 σ H4 x3 x4 old v _ I4 r3 r4 q4) fun new s5 ⟨x5, H5, I5, r5, q5⟩ => ?_
  exact thn (hs pins s5 σ H5 x1 x2 x5 ov iv new _ I5 r1 r2 r5 q5) fun _ s6 ⟨H6, I6, q6⟩ => ⟨σ, H6, I6, q6⟩
/-- ints -/
def ipI (f : Int → Int → Int) : TIp := fun x y H Q => ∃ i j, x = .int i ∧ y = .int j ∧ Q (.int (f i j)) H
theorem ip_add : PIp X .Add (ipI fun i j => i + j) := by
  intro pins s σ H x y v u Q I r1 r2 h
  obtain ⟨i, j, e1, e2, q⟩ := h
  subst e1; subst e2
  obtain ⟨t, rfl⟩ := r1
  obtain ⟨t', rfl⟩ := r2
  exact iadd_int ⟨.int _, H, I.tok _, ⟨_, rfl⟩, q⟩
theorem ip_sub : PIp X .Sub (ipI fun i j => i - j) := by
  intro pins s σ H x y v u Q I r1 r2 h
  obtain ⟨i, j, e1, e2, q⟩ := h
  subst e1; subst e2
  obtain ⟨t, rfl⟩ := r1
  obtain ⟨t', rfl⟩ := r2
  exact isub_int ⟨.int _, H, I.tok _, ⟨_, rfl⟩, q⟩
end

/-! ### while -/
section
variable {X : Cx} {pos : Pos}
/-- the invariant W with its measure -/
def tWhile (c : TT) (tb : TS) : TS := fun D σ H => ∃ W : Nat → St → Hp → Prop, (∃ m, W m σ H) ∧ ∀ m σ H, W m σ H →
  c σ H fun b H1 => if b = true then ∃ N : St → Hp → Prop, (∀ σ' H', N σ' H' → ∃ m', m' < m ∧ W m' σ' H') ∧ tb { D with nx := N, ct := N, bk := D.nx } σ H1 else D.nx σ H1
theorem ps_while {c : Expr} {body : List Stmt} {tc : TT} {tb : TS} (hp : PassesOwn (model X.prog X.w) X.A X.env X.xe) (hc : PT X c tc) (hb : PSs X body tb) : PS X (.While c body [] pos) (tWhile tc tb) := by
  intro pins s σ H D I h
  obtain ⟨W, ⟨m0, w0⟩, turn⟩ := h
  refine wpAny_While (codeAny_whileLoop (fun n s' => ∃ σ' H', Inv X pins σ' H' s' ∧ W n σ' H') ?_ m0 ⟨σ, H, I, w0⟩)
  rintro n s1 ⟨σ1, H1, I1, w1⟩
  refine wpAny_passesOwn hp (thn (hc pins s1 σ1 H1 _ I1 (turn n σ1 H1 w1)) fun b s2 ⟨H2, I2, q2⟩ => ?_)
  cases b with
  | true =>
    obtain ⟨N, hN, q2⟩ := q2
    rw [if_pos rfl]
    refine wpAny_passesOwn hp (thn (hb pins s2 σ1 H2 _ I2 q2) fun f s3 q3 => ?_)
    cases f with
    | next =>
      obtain ⟨σ3, H3, I3, n3⟩ := q3
      obtain ⟨m', hm, w3⟩ := hN σ3 H3 n3
      exact ⟨m', hm, σ3, H3, I3, w3⟩
    | cont =>
      obtain ⟨σ3, H3, I3, n3⟩ := q3
      obtain ⟨m', hm, w3⟩ := hN σ3 H3 n3
      exact ⟨m', hm, σ3, H3, I3, w3⟩
    | brk => exact q3
    | ret v => exact q3
  | false =>
    rw [if_neg Bool.false_ne_true]
    exact wpAny_execs_nil ⟨σ1, H2, I2, q2⟩
end

/-! ### what a loop or a comprehension walks -/
/-- at turn i: it yields x (the heap may grow), or it stops -/
structure It where
  go : Nat → Hp → Prop
  yld : Nat → Hp → V → Hp → Prop
  stop : Nat → Hp → Prop
/-- the iterator's own objects may turn: they are not the frame's, not pinned, younger than the entry (or a comprehension's own) -/
def FpOk (X : Cx) (pins : List (Addr × Obj)) (H : Hp) (b : Addr) : Prop :=
  H b = none ∧ b ≠ X.env.locals ∧ b ∉ X.fs ∧ (b ∈ X.ex ∨ X.s₀.heap.objs.size ≤ b) ∧ (∀ x c, X.env.cells.lookup x = some c → c ≠ b) ∧ ∀ p ∈ X.pn ++ pins, p.1 ≠ b
theorem Inv.fpOk {X : Cx} {pins : List (Addr × Obj)} {σ : St} {H H' : Hp} {s : Shared} {b : Addr} (I : Inv X pins σ H s) (hb : s.heap.objs.size ≤ b) (hn : H' b = none) : FpOk X pins H' b := by
  refine ⟨hn, Nat.ne_of_gt (Nat.lt_of_lt_of_le I.lt hb), I.nofs hb, .inr (Nat.le_trans I.sz hb), fun x c e z => ?_, fun p hp z => ?_⟩
  · obtain ⟨v, q⟩ := I.cell x c e
    exact absurd (Nat.lt_of_lt_of_le q.lt (by rw [z]; exact hb)) (Nat.lt_irrefl _)
  · exact absurd (Nat.lt_of_lt_of_le (Heap.lt_size (I.pin p hp).1) (by rw [z]; exact hb)) (Nat.lt_irrefl _)
structure Turn (P : Program) (w : World) (K : PySem.W.Frag) (tg : Expr) (J : It) (fp : List Addr) (it : Addr) (tn : Nat → Heap → Prop) : Prop where
  mem : it ∈ fp
  obj : ∀ i h, tn i h → ∀ b ∈ fp, ∃ o, h.get? b = some o ∧ ∀ v, o.data ≠ .cell v
  keep : ∀ i h h', tn i h → (∀ b ∈ fp, ∀ o, h.get? b = some o → h'.get? b = some o) → tn i h'
  item : ∀ (X : Cx), X.prog = P → X.w = w → X.K = K → X.calm = true → ∀ (i : Nat) (pins : List (Addr × Obj)) (s : Shared) (σ : St) (H : Hp) (E : Value → Shared → Prop), Inv X pins σ H s → (∀ b ∈ fp, FpOk X pins H b) → tn i s.heap → J.go i H →
    wpAny (model P w) X.A (pyNext (.ref it)) (fun r s1 => ∃ u, r = some u ∧
      wpAny (model P w) X.A (letOwnedTupleGo tg (.ref it) u) (fun _ s2 => ∃ x H', Inv X pins σ H' s2 ∧ RelV x u ∧ J.yld i H x H' ∧ tn (i + 1) s2.heap ∧ ∀ b ∈ fp, H' b = none) E s1) E s
  done : ∀ (X : Cx), X.prog = P → X.w = w → X.K = K → X.calm = true → ∀ (i : Nat) (pins : List (Addr × Obj)) (s : Shared) (σ : St) (H : Hp) (E : Value → Shared → Prop), Inv X pins σ H s → (∀ b ∈ fp, FpOk X pins H b) → tn i s.heap → J.stop i H →
    wpAny (model P w) X.A (pyNext (.ref it)) (fun r s1 => r = none ∧ Inv X pins σ H s1) E s
  self : ∀ (A : Around) (i : Nat) (s : Shared) (Q : Value → Shared → Prop) (E : Value → Shared → Prop), tn i s.heap → Q (.ref it) s → wpAny (model P w) A (pyIter (.ref it)) Q E s
abbrev TI := St → Hp → (It → Hp → Prop) → Prop
/-- an iterator has come -/
def PIE (X : Cx) (pins : List (Addr × Obj)) (σ : St) (tg : Expr) (R : It → Hp → Prop) (itv : Value) (s2 : Shared) : Prop :=
  ∃ (it : Addr) (fp : List Addr) (tn : Nat → Heap → Prop) (J : It) (H' : Hp), itv = .ref it ∧ Inv X pins σ H' s2 ∧ Turn X.prog X.w X.K tg J fp it tn ∧ tn 0 s2.heap ∧ (∀ b ∈ fp, FpOk X pins H' b) ∧ R J H'
def PI (X : Cx) (tg iter : Expr) (wi : TI) : Prop :=
  ∀ (pins : List (Addr × Obj)) (s : Shared) (σ : St) (H : Hp) (R : It → Hp → Prop), Inv X pins σ H s → wi σ H R →
    wpAny (model X.prog X.w) X.A (eval iter X.env) (fun v s1 => wpAny (model X.prog X.w) X.A (pyIter v) (PIE X pins σ tg R) X.xe s1) X.xe s

/-- the step ahead of the store is nothing for an iterator that keeps no tuple -/
theorem go_of {M : Model} {A : Around} {E : Value → Shared → Prop} {s : Shared} {tg : Expr} {it : Addr} {u : Value} {o : Obj} {n : String} {vs : Array Value} {Q : Unit → Shared → Prop} (ho : s.heap.get? it = some o) (hc : o.cls = .type n) (hd : o.data = .fields vs)
    (hn : ["enumerate", "zip", "dict_itemiterator", "dict_reverseitemiterator", "odict_iterator", "itertools.zip_longest", "itertools.pairwise"].contains n = false) (hQ : Q () s) : wpAny M A (letOwnedTupleGo tg (.ref it) u) Q E s := by
  unfold letOwnedTupleGo
  cases tg <;> first
    | exact wpAny_pure hQ
    | (cases u <;> first
        | exact wpAny_pure hQ
        | (refine wpAny_bind (wpAny_load ho ?_)
           rw [hc, hd]
           show wpAny M A (if (["enumerate", "zip", "dict_itemiterator", "dict_reverseitemiterator", "odict_iterator", "itertools.zip_longest", "itertools.pairwise"].contains n && vs[0]? == some (rawInt _)) = true then _ else _) Q E s
           rw [if_neg (by intro h; rw [hn, Bool.false_and] at h; cases h)]
           exact wpAny_pure hQ))

/-- the list at a, as it stands at each turn (a loop may append to it) -/
def Itl (K : PySem.W.Frag) (a : Addr) : It :=
  ⟨fun i H => ∃ xs x, SqL K H a xs ∧ xs[i]? = some x, fun i H x H' => H' = H ∧ ∀ xs, SqL K H a xs → xs[i]? = some x, fun i H => ∃ xs, SqL K H a xs ∧ xs.length ≤ i⟩
def Itt (K : PySem.W.Frag) (a : Addr) : It :=
  ⟨fun i H => ∃ xs x, SqT K H a xs ∧ xs[i]? = some x, fun i H x H' => H' = H ∧ ∀ xs, SqT K H a xs → xs[i]? = some x, fun i H => ∃ xs, SqT K H a xs ∧ xs.length ≤ i⟩
/-- lo, lo + 1, .. (n of them) -/
def Itr (lo : Int) (n : Nat) : It := ⟨fun i _ => i < n, fun i H x H' => H' = H ∧ x = .int (lo + i), fun i _ => n ≤ i⟩
theorem turn_list {P : Program} {w : World} {K : PySem.W.Frag} {tg : Expr} (a it : Addr) : Turn P w K tg (Itl K a) [it] it (fun i h => h.IsListIter it a i) where
  mem := by simp
  obj := fun i h st b hb => by
    have e : b = it := by simpa using hb
    subst e
    obtain ⟨o, e, c, d⟩ := st
    exact ⟨o, e, fun v z => by rw [d] at z; cases z⟩
  keep := fun i h h' st k => st.at fun o e => k it (by simp) o e
  item := by
    intro X hP hw hK hc i pins s σ H E I hf st hg
    subst hP hw hK
    obtain ⟨xs, x, hq, hx⟩ := hg
    obtain ⟨its, rv, p, hz⟩ := I.list hq
    obtain ⟨u, hu, ru⟩ := rv.get hx
    obtain ⟨f0, f1, f2, f3, f4, f5⟩ := hf it (by simp)
    refine wpAny_pyNext_list_item st p.isList (x := u) (by simpa using hu) fun h' st' sb => ?_
    have I1 : Inv X pins σ H { s with heap := h' } := I.turned (t' := s.toks) (fun b o hb e => (sb.2 b hb).trans e) f0 f1 f3 f4 f5
    obtain ⟨o, e, c, d⟩ := id st'
    exact ⟨u, rfl, go_of (s := { s with heap := h' }) e c d (by decide) ⟨x, H, I1, ru, ⟨rfl, fun ys hy => by rw [I.list_inj hy hq]; exact hx⟩, st', fun b hb => (hf b hb).1⟩⟩
  done := by
    intro X hP hw hK hc i pins s σ H E I hf st hg
    subst hP hw hK
    obtain ⟨xs, hq, hx⟩ := hg
    obtain ⟨its, rv, p, hz⟩ := I.list hq
    obtain ⟨f0, f1, f2, f3, f4, f5⟩ := hf it (by simp)
    have hl := rv.length
    exact wpAny_pyNext_list_end (I.ok.hd hc) st p.isList (by simp; omega) fun h' eb => ⟨rfl, I.turned (t' := s.toks) (fun b o hb e => eb b o hb e) f0 f1 f3 f4 f5⟩
  self := fun _ _ _ _ _ st h => wpAny_pyIter_listiter st h
theorem turn_tuple {P : Program} {w : World} {K : PySem.W.Frag} {tg : Expr} (a it : Addr) : Turn P w K tg (Itt K a) [it] it (fun i h => h.IsTupleIter it a i) where
  mem := by simp
  obj := fun i h st b hb => by
    have e : b = it := by simpa using hb
    subst e
    obtain ⟨o, e, c, d⟩ := st
    exact ⟨o, e, fun v z => by rw [d] at z; cases z⟩
  keep := fun i h h' st k => st.at fun o e => k it (by simp) o e
  item := by
    intro X hP hw hK hc i pins s σ H E I hf st hg
    subst hP hw hK
    obtain ⟨xs, x, hq, hx⟩ := hg
    obtain ⟨its, rv, p, hz⟩ := I.tuple hq
    obtain ⟨u, hu, ru⟩ := rv.get hx
    obtain ⟨f0, f1, f2, f3, f4, f5⟩ := hf it (by simp)
    refine wpAny_pyNext_tuple_item st (show s.heap.IsTuple a its.toArray from p) (x := u) (by simpa using hu) fun h' st' sb => ?_
    have I1 : Inv X pins σ H { s with heap := h' } := I.turned (t' := s.toks) (fun b o hb e => (sb.2 b hb).trans e) f0 f1 f3 f4 f5
    obtain ⟨o, e, c, d⟩ := id st'
    exact ⟨u, rfl, go_of (s := { s with heap := h' }) e c d (by decide) ⟨x, H, I1, ru, ⟨rfl, fun ys hy => by rw [I.tuple_inj hy hq]; exact hx⟩, st', fun b hb => (hf b hb).1⟩⟩
  done := by
    intro X hP hw hK hc i pins s σ H E I hf st hg
    subst hP hw hK
    obtain ⟨xs, hq, hx⟩ := hg
    obtain ⟨its, rv, p, hz⟩ := I.tuple hq
    obtain ⟨f0, f1, f2, f3, f4, f5⟩ := hf it (by simp)
    have hl := rv.length
    exact wpAny_pyNext_tuple_end (I.ok.hd hc) st (show s.heap.IsTuple a its.toArray from p) (by simp; omega) fun h' eb => ⟨rfl, I.turned (t' := s.toks) (fun b o hb e => eb b o hb e) f0 f1 f3 f4 f5⟩
  self := fun _ _ _ _ _ st h => wpAny_pyIter_tupleiter st h
theorem turn_range {P : Program} {w : World} {K : PySem.W.Frag} {tg : Expr} (it : Addr) (lo : Int) (n : Nat) : Turn P w K tg (Itr lo n) [it] it (fun i h => IsRangeIter h it (lo + (i : Nat) * 1) ((n : Int) - (i : Nat)) 1) where
  mem := by simp
  obj := fun i h st b hb => by
    have e : b = it := by simpa using hb
    subst e
    exact ⟨_, st, fun v z => by
      have z' : Data.fields _ = Data.cell v := z
      cases z'⟩
  keep := fun i h h' st k => k it (by simp) _ st
  item := by
    intro X hP hw hK hc i pins s σ H E I hf st hg
    subst hP hw hK
    obtain ⟨f0, f1, f2, f3, f4, f5⟩ := hf it (by simp)
    have W := Walks.range (prog := X.prog) (w := X.w) (I.ok.hd hc) it lo 1 n
    refine W.item i s _ _ hg st fun v h' tk hv st' kk => ?_
    obtain ⟨t, rfl⟩ := hv
    have I1 : Inv X pins σ H { s with heap := h', toks := tk } := I.turned (fun b o hb e => kk b o (by simpa using hb) e) f0 f1 f3 f4 f5
    refine ⟨_, rfl, go_of (s := { s with heap := h', toks := tk }) (n := "range_iterator") st' rfl rfl (by decide) ⟨.int (lo + i), H, I1, ⟨t, ?_⟩, ⟨rfl, rfl⟩, st', fun b hb => (hf b hb).1⟩⟩
    rw [Int.mul_one]
  done := by
    intro X hP hw hK hc i pins s σ H E I hf st hg
    subst hP hw hK
    obtain ⟨f0, f1, f2, f3, f4, f5⟩ := hf it (by simp)
    exact wpAny_pyNext_range_end (I.ok.hd hc) st (by have : n ≤ i := hg; omega) fun h' eb => ⟨rfl, I.turned (t' := s.toks) (fun b o hb e => eb b o hb e) f0 f1 f3 f4 f5⟩
  self := fun _ _ _ _ _ st h => wpAny_pyIter_rangeiter st h
end L2

namespace L2
open PySem PySem.Spec PyProof.Rows
section
variable {X : Cx} {tg : Expr}
def iList (K : PySem.W.Frag) (tl : TE) : TI := fun σ H R => tl σ H fun x H1 => ∃ a, x = .ref a ∧ (∃ xs, SqL K H1 a xs) ∧ R (Itl K a) H1
def iTup (K : PySem.W.Frag) (tl : TE) : TI := fun σ H R => tl σ H fun x H1 => ∃ a, x = .ref a ∧ (∃ xs, SqT K H1 a xs) ∧ R (Itt K a) H1
theorem pi_list {l : Expr} {tl : TE} (hl : PE X l tl) : PI X tg l (iList X.K tl) := by
  intro pins s σ H R I h
  refine thn (hl pins s σ H _ I h) fun v s1 ⟨x, H1, I1, r1, q1⟩ => ?_
  obtain ⟨a, e, ⟨xs, hq⟩, q⟩ := q1
  subst e
  cases r1
  obtain ⟨its, rv, p, hz⟩ := I1.list hq
  refine wpAny_pyIter_list p.isList ?_
  refine ⟨s1.heap.objs.size, [s1.heap.objs.size], _, _, H1, rfl, I1.kept (t' := s1.toks) fun b o e => Heap.get?_push_of_some _ e, turn_list a _, ⟨_, Heap.get?_push_size _ rfl, rfl, rfl⟩, fun b hb => ?_, q⟩
  have e : b = s1.heap.objs.size := by simpa using hb
  subst e
  exact I1.fpOk (Nat.le_refl _) (I1.hok.fresh (Nat.le_refl _))
theorem pi_tup {l : Expr} {tl : TE} (hl : PE X l tl) : PI X tg l (iTup X.K tl) := by
  intro pins s σ H R I h
  refine thn (hl pins s σ H _ I h) fun v s1 ⟨x, H1, I1, r1, q1⟩ => ?_
  obtain ⟨a, e, ⟨xs, hq⟩, q⟩ := q1
  subst e
  cases r1
  obtain ⟨its, rv, p, hz⟩ := I1.tuple hq
  refine wpAny_pyIter_tuple (show s1.heap.IsTuple a its.toArray from p) ?_
  refine ⟨s1.heap.objs.size, [s1.heap.objs.size], _, _, H1, rfl, I1.kept (t' := s1.toks) fun b o e => Heap.get?_push_of_some _ e, turn_tuple a _, ⟨_, Heap.get?_push_size _ rfl, rfl, rfl⟩, fun b hb => ?_, q⟩
  have e : b = s1.heap.objs.size := by simpa using hb
  subst e
  exact I1.fpOk (Nat.le_refl _) (I1.hok.fresh (Nat.le_refl _))
/-- a range object just made, walked -/
theorem range_it {pins : List (Addr × Obj)} {σ : St} {H : Hp} {s : Shared} {R : It → Hp → Prop} {E : Value → Shared → Prop} {lo hi : Int} {t u v : Tok} {tk : Nat} (I : Inv X pins σ H s) (h1 : -(2 ^ 62) ≤ lo) (h2 : lo < 2 ^ 62) (h3 : -(2 ^ 62) ≤ hi) (h4 : hi < 2 ^ 62)
    (q : R (Itr lo (hi - lo).toNat) H) : wpAny (model X.prog X.w) X.A (pyIter (.ref s.heap.objs.size)) (PIE X pins σ tg R) E { s with heap := s.heap.push { cls := .type "range", data := .fields #[.int lo t, .int hi u, .int 1 v] }, toks := tk } := by
  refine wpAny_pyIter_range (IsRange.new ..) (small_one h1 h2 h3 h4) ?_
  have I1 : Inv X pins σ H { s with heap := s.heap.push { cls := .type "range", data := .fields #[.int lo t, .int hi u, .int 1 v] }, toks := tk } := I.kept fun b o e => Heap.get?_push_of_some _ e
  refine ⟨(s.heap.push { cls := .type "range", data := .fields #[.int lo t, .int hi u, .int 1 v] }).objs.size, [(s.heap.push { cls := .type "range", data := .fields #[.int lo t, .int hi u, .int 1 v] }).objs.size], _, _, H, rfl,
    I1.kept (t' := tk) fun b o e => Heap.get?_push_of_some _ e, turn_range _ lo (hi - lo).toNat, ?_, fun b hb => ?_, q⟩
  · have e1 : lo + ((0 : Nat) : Int) * 1 = lo := by simp
    have e2 : (((hi - lo).toNat : Nat) : Int) - ((0 : Nat) : Int) = Builtin.Range.rangeSize lo hi 1 := by rw [rangeSize_one]; split <;> omega
    show IsRangeIter _ _ (lo + ((0 : Nat) : Int) * 1) ((((hi - lo).toNat : Nat) : Int) - ((0 : Nat) : Int)) 1
    rw [e1, e2]
    exact Heap.get?_push_size _ rfl
  · have e : b = (s.heap.push { cls := .type "range", data := .fields #[.int lo t, .int hi u, .int 1 v] }).objs.size := by simpa using hb
    subst e
    exact I1.fpOk (Nat.le_refl _) (I1.hok.fresh (Nat.le_refl _))
def iRng1 (ta : TA) : TI := fun σ H R => ta σ H fun vs H1 => ∃ j : Int, vs = [.int j] ∧ -(2 ^ 62) ≤ j ∧ j < 2 ^ 62 ∧ R (Itr 0 j.toNat) H1
def iRng2 (ta : TA) : TI := fun σ H R => ta σ H fun vs H1 => ∃ i j : Int, vs = [.int i, .int j] ∧ (-(2 ^ 62) ≤ i ∧ i < 2 ^ 62 ∧ -(2 ^ 62) ≤ j ∧ j < 2 ^ 62) ∧ R (Itr i (j - i).toNat) H1
theorem pi_range1 {a : Expr} {ta : TA} {p pos : Pos} (hg : Gl X "range") (hm : X.mg "range" = none) (ha : PA X [a] ta) (hs : starEach [a] X.env = [(false, eval a X.env)] := by rfl) : PI X tg (.Call (.Name "range" p) [a] [] pos) (iRng1 ta) := by
  intro pins s σ H R I h
  refine Call_ (ld_blt I hg hm boot_range (PyProof.Rows.callWith_type1 (thn (ha pos pins s σ H _ I h) fun us s1 ⟨vs, H1, I1, r1, q1⟩ => ?_) hs rfl))
  obtain ⟨j, e, q1, q2, q⟩ := q1
  subst e
  cases r1 with
  | cons r rr =>
    cases rr
    obtain ⟨t, rfl⟩ := r
    exact call_range_1 (range_it I1 (by omega) (by omega) q1 q2 (by simpa using q))
theorem pi_range2 {a b : Expr} {ta : TA} {p pos : Pos} (hg : Gl X "range") (hm : X.mg "range" = none) (ha : PA X [a, b] ta) (hs : starEach [a, b] X.env = [(false, eval a X.env), (false, eval b X.env)] := by rfl) (hs2 : starEach [b] X.env = [(false, eval b X.env)] := by rfl) :
    PI X tg (.Call (.Name "range" p) [a, b] [] pos) (iRng2 ta) := by
  intro pins s σ H R I h
  refine Call_ (ld_blt I hg hm boot_range (PyProof.Rows.callWith_type1 (thn (ha pos pins s σ H _ I h) fun us s1 ⟨vs, H1, I1, r1, q1⟩ => ?_) (by rw [hs, hs2]) (by rw [hs2]; rfl)))
  obtain ⟨i, j, e, ⟨q1, q2, q3, q4⟩, q⟩ := q1
  subst e
  cases r1 with
  | cons r rr =>
    cases rr with
    | cons r' rr =>
      cases rr
      obtain ⟨t, rfl⟩ := r
      obtain ⟨t', rfl⟩ := r'
      exact call_range_2 (range_it I1 q1 q2 q3 q4 q)

/-! ### for -/
/-- W: the invariant by the turn and a measure; N: what the body is to reach -/
def tFor (wi : TI) (g : TG) (tb : TS) : TS := fun D σ H => wi σ H fun J H1 => ∃ W : Nat → Nat → St → Hp → Prop, (∃ m, W 0 m σ H1) ∧ ∀ i m σ H, W i m σ H →
  (J.stop i H ∧ D.nx σ H) ∨ (J.go i H ∧ ∃ N : St → Hp → Prop, (∀ σ' H', N σ' H' → ∃ m', m' < m ∧ W (i + 1) m' σ' H') ∧ ∀ x H', J.yld i H x H' → g x σ H' fun σ2 H2 => tb { D with nx := N, ct := N, bk := D.nx } σ2 H2)
/-- the records at fp as they stand -/
def pinsAt (fp : List Addr) (h : Heap) : List (Addr × Obj) := fp.filterMap fun b => (h.get? b).map fun o => (b, o)
theorem mem_pinsAt {fp : List Addr} {h : Heap} {b : Addr} {o : Obj} (hb : b ∈ fp) (e : h.get? b = some o) : (b, o) ∈ pinsAt fp h := List.mem_filterMap.mpr ⟨b, hb, by rw [e]; rfl⟩
theorem of_pinsAt {fp : List Addr} {h : Heap} {p : Addr × Obj} (hp : p ∈ pinsAt fp h) : p.1 ∈ fp ∧ h.get? p.1 = some p.2 := by
  obtain ⟨b, hb, e⟩ := List.mem_filterMap.mp hp
  cases q : h.get? b with
  | none => rw [q] at e; cases e
  | some o =>
    rw [q] at e
    have e' : (b, o) = p := Option.some.inj e
    subst e'
    exact ⟨hb, q⟩
theorem Inv.pinned {pins : List (Addr × Obj)} {σ : St} {H : Hp} {s : Shared} {fp : List Addr} (I : Inv X pins σ H s) (hf : ∀ b ∈ fp, FpOk X pins H b) (ho : ∀ b ∈ fp, ∃ o, s.heap.get? b = some o ∧ ∀ v, o.data ≠ .cell v) : Inv X (pins ++ pinsAt fp s.heap) σ H s :=
  I.pins_of fun p hp => (List.mem_append.mp hp).elim (fun z => I.pin p (List.mem_append_right _ z)) fun z => by
    obtain ⟨hb, e⟩ := of_pinsAt z
    obtain ⟨f0, f1, f2, _⟩ := hf p.1 hb
    obtain ⟨o, e', d⟩ := ho p.1 hb
    rw [e] at e'; cases e'
    exact ⟨e, f0, f1, f2, d⟩
theorem Inv.unpinned {pins pl : List (Addr × Obj)} {σ : St} {H : Hp} {s : Shared} (I : Inv X (pins ++ pl) σ H s) : Inv X pins σ H s := I.pins_of fun p hp => I.pin p (List.mem_append_right _ (List.mem_append_left _ hp))
theorem ps_for {iter : Expr} {body : List Stmt} {wi : TI} {g : TG} {tb : TS} {pos : Pos} (hp : PassesOwn (model X.prog X.w) X.A X.env X.xe) (hc : X.calm = true) (hi : PI X tg iter wi) (hg : PG X tg g) (hb : PSs X body tb)
    (hs : ∀ x, foldedSetIterable iter X.env x = pure x := by intro _; rfl) : PS X (.For tg iter body [] pos) (tFor wi g tb) := by
  intro pins s σ H D I h
  refine wpAny_For (thn (hi pins s σ H _ I h) fun v s1 h1 => thn h1 fun itv s2 h2 => ?_) hs
  obtain ⟨it, fp, tn, J, H2, e, I2, T, st2, f2, W, ⟨m0, w0⟩, turn⟩ := h2
  subst e
  -- what stays true of the iterator's objects through the loop
  have stat : ∀ {H' : Hp}, (∀ b ∈ fp, H' b = none) → ∀ b ∈ fp, FpOk X pins H' b := fun hn b hb => ⟨hn b hb, (f2 b hb).2⟩
  refine codeAny_forLoop_any (fun n s' => ∃ i σ' H', Inv X pins σ' H' s' ∧ tn i s'.heap ∧ (∀ b ∈ fp, H' b = none) ∧ W i n σ' H') ?_ m0 ⟨0, σ, H2, I2, st2, fun b hb => (f2 b hb).1, w0⟩
  rintro n s3 ⟨i, σ3, H3, I3, st3, fr3, w3⟩
  rcases turn i n σ3 H3 w3 with ⟨stop, qn⟩ | ⟨go, N, hN, step⟩
  · refine wpAny_passesOwn hp (thn (T.done X rfl rfl rfl hc i pins s3 σ3 H3 X.xe I3 (stat fr3) st3 stop) fun r s4 ⟨hr, I4⟩ => ?_)
    subst hr
    exact wpAny_execs_nil ⟨σ3, H3, I4, qn⟩
  · refine wpAny_passesOwn hp (thn (T.item X rfl rfl rfl hc i pins s3 σ3 H3 X.xe I3 (stat fr3) st3 go) fun r s4 ⟨u, hr, h4⟩ => ?_)
    subst hr
    refine wpAny_passesOwn hp (thn h4 fun _ s5 ⟨x, H5, I5, r5, y5, st5, fr5⟩ => ?_)
    have I5' := I5.pinned (stat fr5) (T.obj _ _ st5)
    refine wpAny_passesOwn hp (thn (hg _ s5 σ3 H5 x u _ I5' r5 (step x H5 y5)) fun _ s6 ⟨σ6, H6, I6, q6⟩ => ?_)
    refine wpAny_passesOwn hp (thn (hb _ s6 σ6 H6 _ I6 q6) fun f s7 q7 => ?_)
    have again : ∀ {σ7 : St} {H7 : Hp}, Inv X (pins ++ pinsAt fp s5.heap) σ7 H7 s7 → N σ7 H7 → ∃ m, m < n ∧ ∃ i σ' H', Inv X pins σ' H' s7 ∧ tn i s7.heap ∧ (∀ b ∈ fp, H' b = none) ∧ W i m σ' H' := fun {σ7 H7} I7 n7 => by
      obtain ⟨m', hm, w7⟩ := hN σ7 H7 n7
      refine ⟨m', hm, i + 1, σ7, H7, I7.unpinned, T.keep _ _ _ st5 fun b hb o e => (I7.pin (b, o) (List.mem_append_right _ (List.mem_append_right _ (mem_pinsAt hb e)))).1, fun b hb => ?_, w7⟩
      obtain ⟨o, e, d⟩ := T.obj _ _ st5 b hb
      exact (I7.pin (b, o) (List.mem_append_right _ (List.mem_append_right _ (mem_pinsAt hb e)))).2.1
    cases f with
    | next => obtain ⟨σ7, H7, I7, n7⟩ := q7; exact again I7 n7
    | cont => obtain ⟨σ7, H7, I7, n7⟩ := q7; exact again I7 n7
    | brk => obtain ⟨σ7, H7, I7, q7⟩ := q7; exact ⟨σ7, H7, I7.unpinned, q7⟩
    | ret v => obtain ⟨x7, σ7, H7, I7, r7, q7⟩ := q7; exact ⟨x7, σ7, H7, I7.unpinned, r7, q7⟩
end

/-! ### the forms one uses -/
/-- over a list that the body leaves as it is -/
theorem for_list {K : PySem.W.Frag} {a : Addr} {xs : List V} {g : TG} {tb : TS} {D : Ends} {σ : St} {H : Hp} (Pv : Nat → St → Hp → Prop) (h0 : Pv 0 σ H) (hl : ∀ i σ H, i ≤ xs.length → Pv i σ H → SqL K H a xs)
    (hs : ∀ i x σ H, xs[i]? = some x → Pv i σ H → g x σ H fun σ2 H2 => tb { D with nx := Pv (i + 1), ct := Pv (i + 1), bk := D.nx } σ2 H2) (hd : ∀ σ H, Pv xs.length σ H → D.nx σ H) :
    ∃ W : Nat → Nat → St → Hp → Prop, (∃ m, W 0 m σ H) ∧ ∀ i m σ H, W i m σ H →
      ((Itl K a).stop i H ∧ D.nx σ H) ∨ ((Itl K a).go i H ∧ ∃ N : St → Hp → Prop, (∀ σ' H', N σ' H' → ∃ m', m' < m ∧ W (i + 1) m' σ' H') ∧ ∀ x H', (Itl K a).yld i H x H' → g x σ H' fun σ2 H2 => tb { D with nx := N, ct := N, bk := D.nx } σ2 H2) := by
  refine ⟨fun i m σ H => m = xs.length - i ∧ i ≤ xs.length ∧ Pv i σ H, ⟨xs.length, by simp, Nat.zero_le _, h0⟩, ?_⟩
  rintro i m σ H ⟨rfl, hi, p⟩
  have q := hl i σ H hi p
  by_cases hlt : i < xs.length
  · refine .inr ⟨⟨xs, xs[i], q, by simp [hlt]⟩, Pv (i + 1), fun σ' H' p' => ⟨xs.length - (i + 1), by omega, rfl, hlt, p'⟩, fun x H' y => ?_⟩
    obtain ⟨e, y⟩ := y
    subst e
    exact hs i x σ _ (y xs q) p
  · have e : i = xs.length := by omega
    subst e
    exact .inl ⟨⟨xs, q, Nat.le_refl _⟩, hd σ H p⟩
theorem for_tup {K : PySem.W.Frag} {a : Addr} {xs : List V} {g : TG} {tb : TS} {D : Ends} {σ : St} {H : Hp} (Pv : Nat → St → Hp → Prop) (h0 : Pv 0 σ H) (hl : ∀ i σ H, i ≤ xs.length → Pv i σ H → SqT K H a xs)
    (hs : ∀ i x σ H, xs[i]? = some x → Pv i σ H → g x σ H fun σ2 H2 => tb { D with nx := Pv (i + 1), ct := Pv (i + 1), bk := D.nx } σ2 H2) (hd : ∀ σ H, Pv xs.length σ H → D.nx σ H) :
    ∃ W : Nat → Nat → St → Hp → Prop, (∃ m, W 0 m σ H) ∧ ∀ i m σ H, W i m σ H →
      ((Itt K a).stop i H ∧ D.nx σ H) ∨ ((Itt K a).go i H ∧ ∃ N : St → Hp → Prop, (∀ σ' H', N σ' H' → ∃ m', m' < m ∧ W (i + 1) m' σ' H') ∧ ∀ x H', (Itt K a).yld i H x H' → g x σ H' fun σ2 H2 => tb { D with nx := N, ct := N, bk := D.nx } σ2 H2) := by
  refine ⟨fun i m σ H => m = xs.length - i ∧ i ≤ xs.length ∧ Pv i σ H, ⟨xs.length, by simp, Nat.zero_le _, h0⟩, ?_⟩
  rintro i m σ H ⟨rfl, hi, p⟩
  have q := hl i σ H hi p
  by_cases hlt : i < xs.length
  · refine .inr ⟨⟨xs, xs[i], q, by simp [hlt]⟩, Pv (i + 1), fun σ' H' p' => ⟨xs.length - (i + 1), by omega, rfl, hlt, p'⟩, fun x H' y => ?_⟩
    obtain ⟨e, y⟩ := y
    subst e
    exact hs i x σ _ (y xs q) p
  · have e : i = xs.length := by omega
    subst e
    exact .inl ⟨⟨xs, q, Nat.le_refl _⟩, hd σ H p⟩
theorem for_range {lo : Int} {n : Nat} {g : TG} {tb : TS} {D : Ends} {σ : St} {H : Hp} (Pv : Nat → St → Hp → Prop) (h0 : Pv 0 σ H)
    (hs : ∀ i σ H, i < n → Pv i σ H → g (.int (lo + i)) σ H fun σ2 H2 => tb { D with nx := Pv (i + 1), ct := Pv (i + 1), bk := D.nx } σ2 H2) (hd : ∀ σ H, Pv n σ H → D.nx σ H) :
    ∃ W : Nat → Nat → St → Hp → Prop, (∃ m, W 0 m σ H) ∧ ∀ i m σ H, W i m σ H →
      ((Itr lo n).stop i H ∧ D.nx σ H) ∨ ((Itr lo n).go i H ∧ ∃ N : St → Hp → Prop, (∀ σ' H', N σ' H' → ∃ m', m' < m ∧ W (i + 1) m' σ' H') ∧ ∀ x H', (Itr lo n).yld i H x H' → g x σ H' fun σ2 H2 => tb { D with nx := N, ct := N, bk := D.nx } σ2 H2) := by
  refine ⟨fun i m σ H => m = n - i ∧ i ≤ n ∧ Pv i σ H, ⟨n, by simp, Nat.zero_le _, h0⟩, ?_⟩
  rintro i m σ H ⟨rfl, hi, p⟩
  by_cases hlt : i < n
  · refine .inr ⟨hlt, Pv (i + 1), fun σ' H' p' => ⟨n - (i + 1), by omega, rfl, hlt, p'⟩, fun x H' y => ?_⟩
    obtain ⟨e, y⟩ := y
    subst e y
    exact hs i σ _ hlt p
  · have e : i = n := by omega
    subst e
    exact .inl ⟨Nat.le_refl _, hd σ H p⟩
/-- while, by a word and a measure of the state -/
theorem while_by {c : TT} {tb : TS} {D : Ends} {σ : St} {H : Hp} (Pv : St → Hp → Prop) (μ : St → Hp → Nat) (h0 : Pv σ H)
    (hs : ∀ σ H, Pv σ H → c σ H fun b H1 => if b = true then tb { D with nx := fun σ' H' => Pv σ' H' ∧ μ σ' H' < μ σ H, ct := fun σ' H' => Pv σ' H' ∧ μ σ' H' < μ σ H, bk := D.nx } σ H1 else D.nx σ H1)
    (mono : ∀ σ H Q Q', (∀ b H1, Q b H1 → Q' b H1) → c σ H Q → c σ H Q') : tWhile c tb D σ H := by
  refine ⟨fun m σ H => m = μ σ H ∧ Pv σ H, ⟨_, rfl, h0⟩, ?_⟩
  rintro m σ H ⟨rfl, p⟩
  refine mono σ H _ _ (fun b H1 q => ?_) (hs σ H p)
  cases b with
  | true => exact ⟨_, fun σ' H' ⟨p', l⟩ => ⟨_, l, rfl, p'⟩, q⟩
  | false => exact q
end L2

namespace L2
open PySem PySem.Spec PyProof.Rows

abbrev R2 := V → V → Hp → VK → Prop
/-- a two-place operation on values: f is binaryOp op, inplaceOp op or compareOp op -/
def OpR (X : Cx) (f : Value → Value → Sem Value) (r : R2) : Prop :=
  ∀ (pins : List (Addr × Obj)) (s : Shared) (σ : St) (H : Hp) (x y : V) (v u : Value) (Q : VK), Inv X pins σ H s → RelV x v → RelV y u → r x y H Q →
    wpAny (model X.prog X.w) X.A (f v u) (EP X pins σ Q) X.xe s
/-- a one-place operation -/
def UnR (X : Cx) (f : Value → Sem Value) (r : V → Hp → VK → Prop) : Prop :=
  ∀ (pins : List (Addr × Obj)) (s : Shared) (σ : St) (H : Hp) (x : V) (v : Value) (Q : VK), Inv X pins σ H s → RelV x v → r x H Q →
    wpAny (model X.prog X.w) X.A (f v) (EP X pins σ Q) X.xe s
/-- a call of a value that is known (a builtin, a type) with values -/
def CallR (X : Cx) (f : Value) (r : List V → Hp → VK → Prop) : Prop :=
  ∀ (pins : List (Addr × Obj)) (s : Shared) (σ : St) (H : Hp) (xs : List V) (us : List Value) (Q : VK), Inv X pins σ H s → Vals xs us → r xs H Q →
    wpAny (model X.prog X.w) X.A (call f us) (EP X pins σ Q) X.xe s
/-- a value's truth -/
def TruR (X : Cx) (r : V → Hp → (Bool → Hp → Prop) → Prop) : Prop :=
  ∀ (pins : List (Addr × Obj)) (s : Shared) (σ : St) (H : Hp) (x : V) (v : Value) (Q : Bool → Hp → Prop), Inv X pins σ H s → RelV x v → r x H Q →
    wpAny (model X.prog X.w) X.A (truthy v) (TP X pins σ Q) X.xe s

def tOp (r : R2) (ta tb : TE) : TE := fun σ H Q => ta σ H fun x H1 => tb σ H1 fun y H2 => r x y H2 Q
def tUn (r : V → Hp → VK → Prop) (ta : TE) : TE := fun σ H Q => ta σ H fun x H1 => r x H1 Q
/-- ints in, under C, and a value out -/
def rI (C : Int → Int → Prop) (g : Int → Int → V) : R2 := fun x y H Q => ∃ i j, x = .int i ∧ y = .int j ∧ C i j ∧ Q (g i j) H
def rI0 (g : Int → Int → V) : R2 := fun x y H Q => ∃ i j, x = .int i ∧ y = .int j ∧ Q (g i j) H
def rU (g : Int → V) : V → Hp → VK → Prop := fun x H Q => ∃ i, x = .int i ∧ Q (g i) H

section
variable {X : Cx} {a b c : Expr} {ta tb tc : TE} {pos : Pos}

theorem binT (ha : PE X a ta) (hb : PE X b tb) {pins : List (Addr × Obj)} {s : Shared} {σ : St} {H : Hp} {R : V → V → Hp → Prop} (I : Inv X pins σ H s)
    (h : ta σ H fun x H1 => tb σ H1 fun y H2 => R x y H2) {Q : Value → Shared → Prop} {f : Value → Value → Sem Value}
    (hf : ∀ v u s2 x y H2, Inv X pins σ H2 s2 → RelV x v → RelV y u → R x y H2 → wpAny (model X.prog X.w) X.A (f v u) Q X.xe s2) :
    wpAny (model X.prog X.w) X.A (eval a X.env) (fun v s₁ => wpAny (model X.prog X.w) X.A (eval b X.env) (fun u s₂ => wpAny (model X.prog X.w) X.A (f v u) Q X.xe s₂) X.xe s₁) X.xe s := by
  refine thn (ha pins s σ H _ I h) fun v s1 ⟨x, H1, I1, r1, q1⟩ => ?_
  refine thn (hb pins s1 σ H1 _ I1 q1) fun u s2 ⟨y, H2, I2, r2, q2⟩ => ?_
  exact hf v u s2 x y H2 I2 r1 r2 q2

theorem pe_op {op : Operator} {r : R2} (ho : OpR X (binaryOp op) r) (ha : PE X a ta) (hb : PE X b tb) : PE X (.BinOp a op b pos) (tOp r ta tb) := by
  intro pins s σ H Q I h
  exact wpAny_BinOp (binT ha hb I h fun v u s2 x y H2 I2 rx ry q => ho pins s2 σ H2 x y v u Q I2 rx ry q)
theorem pe_un {op : UnaryOp} {r : V → Hp → VK → Prop} (ho : UnR X (unaryOp op) r) (ha : PE X a ta) : PE X (.UnaryOp op a pos) (tUn r ta) := by
  intro pins s σ H Q I h
  exact UnaryOp_ (thn (ha pins s σ H _ I h) fun v s1 ⟨x, H1, I1, r1, q1⟩ => ho pins s1 σ H1 x v Q I1 r1 q1)
/-- a op= e at a name: the name's slot i -/
theorem augR {op : Operator} {r : R2} (ho : OpR X (inplaceOp op) r) {pins : List (Addr × Obj)} {s : Shared} {σ : St} {H : Hp} {x y : V} {v u : Value} {Q : VK} (I : Inv X pins σ H s)
    (rx : RelV x v) (ry : RelV y u) (q : r x y H Q) : wpAny (model X.prog X.w) X.A (inplaceOp op v u) (EP X pins σ Q) X.xe s := ho pins s σ H x y v u Q I rx ry q

/-! ### ints -/
theorem opI {f : Value → Value → Sem Value} {C : Int → Int → Prop} {g : Int → Int → Int}
    (rule : ∀ (i j : Int) (t u : Tok) (s : Shared) (Q : Value → Shared → Prop) (E : Value → Shared → Prop), C i j → Q (.int (g i j) s.toks) { s with toks := s.toks + 1 } → wpAny (model X.prog X.w) X.A (f (.int i t) (.int j u)) Q E s) :
    OpR X f (rI C fun i j => .int (g i j)) := by
  intro pins s σ H x y v u Q I rx ry h
  obtain ⟨i, j, rfl, rfl, hc, q⟩ := h
  obtain ⟨t, rfl⟩ := rx
  obtain ⟨t', rfl⟩ := ry
  exact rule i j t t' s _ _ hc ⟨.int (g i j), H, I.tok _, ⟨_, rfl⟩, q⟩
theorem opI0 {f : Value → Value → Sem Value} {g : Int → Int → Int}
    (rule : ∀ (i j : Int) (t u : Tok) (s : Shared) (Q : Value → Shared → Prop) (E : Value → Shared → Prop), Q (.int (g i j) s.toks) { s with toks := s.toks + 1 } → wpAny (model X.prog X.w) X.A (f (.int i t) (.int j u)) Q E s) :
    OpR X f (rI0 fun i j => .int (g i j)) := by
  intro pins s σ H x y v u Q I rx ry h
  obtain ⟨i, j, rfl, rfl, q⟩ := h
  obtain ⟨t, rfl⟩ := rx
  obtain ⟨t', rfl⟩ := ry
  exact rule i j t t' s _ _ ⟨.int (g i j), H, I.tok _, ⟨_, rfl⟩, q⟩
theorem opB0 {f : Value → Value → Sem Value} {g : Int → Int → Bool}
    (rule : ∀ (i j : Int) (t u : Tok) (s : Shared) (Q : Value → Shared → Prop) (E : Value → Shared → Prop), Q (.bool (g i j)) s → wpAny (model X.prog X.w) X.A (f (.int i t) (.int j u)) Q E s) :
    OpR X f (rI0 fun i j => .bl (g i j)) := by
  intro pins s σ H x y v u Q I rx ry h
  obtain ⟨i, j, rfl, rfl, q⟩ := h
  obtain ⟨t, rfl⟩ := rx
  obtain ⟨t', rfl⟩ := ry
  exact rule i j t t' s _ _ ⟨.bl (g i j), H, I, rfl, q⟩

def CDiv (i j : Int) : Prop := 0 < j ∧ j < 1073741824
def CDivN (i j : Int) : Prop := j ≠ 0 ∧ j.natAbs < 1073741824
def CPow (i j : Int) : Prop := 0 ≤ j ∧ j ≤ 1000000 ∧ i.natAbs < 2 ^ 64
def CMul (i j : Int) : Prop := (-(2 ^ 64) < i ∧ i < 2 ^ 64) ∨ (-(2 ^ 64) < j ∧ j < 2 ^ 64)
theorem CMul.ok {i j : Int} (h : CMul i j) : IntMulOk i j := by
  rcases h with ⟨h1, h2⟩ | ⟨h1, h2⟩
  · exact .of_left (intBits_le_64 h1 h2)
  · exact .of_right (intBits_le_64 h1 h2)
theorem two_pow_nn (k : Nat) : (0 : Int) ≤ 2 ^ k := by
  rw [two_pow_cast]
  exact Int.natCast_nonneg _

theorem op_add : OpR X (binaryOp .Add) (rI0 fun i j => .int (i + j)) := opI0 fun _ _ _ _ _ _ _ q => add_int q
theorem op_sub : OpR X (binaryOp .Sub) (rI0 fun i j => .int (i - j)) := opI0 fun _ _ _ _ _ _ _ q => sub_int q
theorem op_mul : OpR X (binaryOp .Mult) (rI CMul fun i j => .int (i * j)) := opI fun _ _ _ _ _ _ _ hc q => mul_int q hc.ok
/-- // by a positive divisor -/
theorem op_fdiv : OpR X (binaryOp .FloorDiv) (rI CDiv fun i j => .int (i / j)) := opI fun i j _ _ _ _ _ hc q => by
  have h1 : (0 : Int) < j := hc.1
  have h2 : j < 1073741824 := hc.2
  exact floordiv_int (by omega) (by rw [Int.fdiv_eq_ediv_of_nonneg i (by omega)]; exact q) (.inl (PyProof.noPylong_small (by omega)))
theorem op_fdivN : OpR X (binaryOp .FloorDiv) (rI CDivN fun i j => .int (i.fdiv j)) := opI fun _ _ _ _ _ _ _ hc q => floordiv_int hc.1 q (.inl (PyProof.noPylong_small hc.2))
/-- % by a positive divisor of any size -/
theorem op_mod : OpR X (binaryOp .Mod) (rI (fun _ j => 0 < j) fun i j => .int (i % j)) := opI fun i j _ _ _ _ _ hc q => by
  have h1 : (0 : Int) < j := hc
  exact mod_int' (by omega) (by rw [Int.fmod_eq_emod_of_nonneg i (by omega)]; exact q)
theorem op_modN : OpR X (binaryOp .Mod) (rI (fun _ j => j ≠ 0) fun i j => .int (i.fmod j)) := opI fun _ _ _ _ _ _ _ hc q => mod_int' hc q
theorem op_pow : OpR X (binaryOp .Pow) (rI CPow fun i j => .int (i ^ j.toNat)) := opI fun _ _ _ _ _ _ _ hc q => pow_int_small hc.1 hc.2.1 hc.2.2 q
theorem op_shl : OpR X (binaryOp .LShift) (rI CPow fun i j => .int (i * 2 ^ j.toNat)) := opI fun _ _ _ _ _ _ _ hc q => lshift_int_small hc.1 hc.2.1 hc.2.2 q
theorem op_shr : OpR X (binaryOp .RShift) (rI (fun _ j => 0 ≤ j) fun i j => .int (i / 2 ^ j.toNat)) := opI fun i j _ _ _ _ _ hc q =>
  rshift_int hc (by rw [Int.fdiv_eq_ediv_of_nonneg i (two_pow_nn _)]; exact q)
theorem op_and : OpR X (binaryOp .BitAnd) (rI0 fun i j => .int (Builtin.bitAnd i j)) := opI0 fun _ _ _ _ _ _ _ q => and_int q
theorem op_or : OpR X (binaryOp .BitOr) (rI0 fun i j => .int (Builtin.bitOr i j)) := opI0 fun _ _ _ _ _ _ _ q => or_int q
theorem op_xor : OpR X (binaryOp .BitXor) (rI0 fun i j => .int (Builtin.bitXor i j)) := opI0 fun _ _ _ _ _ _ _ q => xor_int q

theorem iop_add : OpR X (inplaceOp .Add) (rI0 fun i j => .int (i + j)) := opI0 fun _ _ _ _ _ _ _ q => iadd_int q
theorem iop_sub : OpR X (inplaceOp .Sub) (rI0 fun i j => .int (i - j)) := opI0 fun _ _ _ _ _ _ _ q => isub_int q
theorem iop_mul : OpR X (inplaceOp .Mult) (rI CMul fun i j => .int (i * j)) := opI fun _ _ _ _ _ _ _ hc q => imul_int q hc.ok
theorem iop_fdiv : OpR X (inplaceOp .FloorDiv) (rI CDiv fun i j => .int (i / j)) := opI fun i j _ _ _ _ _ hc q => by
  have h1 : (0 : Int) < j := hc.1
  have h2 : j < 1073741824 := hc.2
  exact ifloordiv_int (by omega) (by rw [Int.fdiv_eq_ediv_of_nonneg i (by omega)]; exact q) (.inl (PyProof.noPylong_small (by omega)))
theorem iop_mod : OpR X (inplaceOp .Mod) (rI (fun _ j => 0 < j) fun i j => .int (i % j)) := opI fun i j _ _ _ _ _ hc q => by
  have h1 : (0 : Int) < j := hc
  exact imod_int (by omega) (by rw [Int.fmod_eq_emod_of_nonneg i (by omega)]; exact q)
theorem iop_shl : OpR X (inplaceOp .LShift) (rI CPow fun i j => .int (i * 2 ^ j.toNat)) := opI fun _ _ _ _ _ _ _ hc q => ilshift_int_small hc.1 hc.2.1 hc.2.2 q
theorem iop_shr : OpR X (inplaceOp .RShift) (rI (fun _ j => 0 ≤ j) fun i j => .int (i / 2 ^ j.toNat)) := opI fun i j _ _ _ _ _ hc q =>
  irshift_int hc (by rw [Int.fdiv_eq_ediv_of_nonneg i (two_pow_nn _)]; exact q)
theorem iop_and : OpR X (inplaceOp .BitAnd) (rI0 fun i j => .int (Builtin.bitAnd i j)) := opI0 fun _ _ _ _ _ _ _ q => iand_int q
theorem iop_or : OpR X (inplaceOp .BitOr) (rI0 fun i j => .int (Builtin.bitOr i j)) := opI0 fun _ _ _ _ _ _ _ q => ior_int q
theorem iop_xor : OpR X (inplaceOp .BitXor) (rI0 fun i j => .int (Builtin.bitXor i j)) := opI0 fun _ _ _ _ _ _ _ q => ixor_int q

theorem unI {f : Value → Sem Value} {g : Int → Int}
    (rule : ∀ (i : Int) (t : Tok) (s : Shared) (Q : Value → Shared → Prop) (E : Value → Shared → Prop), Q (.int (g i) s.toks) { s with toks := s.toks + 1 } → wpAny (model X.prog X.w) X.A (f (.int i t)) Q E s) :
    UnR X f (rU fun i => .int (g i)) := by
  intro pins s σ H x v Q I rx h
  obtain ⟨i, rfl, q⟩ := h
  obtain ⟨t, rfl⟩ := rx
  exact rule i t s _ _ ⟨.int (g i), H, I.tok _, ⟨_, rfl⟩, q⟩
theorem un_neg : UnR X (unaryOp .USub) (rU fun i => .int (-i)) := unI fun _ _ _ _ _ q => neg_int q
theorem un_inv : UnR X (unaryOp .Invert) (rU fun i => .int (Builtin.bitNot i)) := unI fun _ _ _ _ _ q => invert_int q

/-! ### bools among ints: n += (a < b) -/
theorem op_add_ib : OpR X (binaryOp .Add) (fun x y H Q => ∃ i k, x = .int i ∧ y = .bl k ∧ Q (.int (i + b2i k)) H) := by
  intro pins s σ H x y v u Q I rx ry h
  obtain ⟨i, k, rfl, rfl, q⟩ := h
  obtain ⟨t, rfl⟩ := rx
  cases ry
  exact add_int_bool ⟨.int (i + b2i k), H, I.tok _, ⟨_, rfl⟩, q⟩
end

/-! ### comparisons -/
/-- the scalars that == tells apart as data does -/
def scal : V → V → Bool
  | .non, .non => true | .non, .int _ => true | .int _, .non => true | .non, .bl _ => true | .bl _, .non => true | .non, .str _ => true | .str _, .non => true
  | .int _, .int _ => true | .bl _, .bl _ => true | .str _, .str _ => true | .byt _, .byt _ => true
  | .int _, .str _ => true | .str _, .int _ => true | .bl _, .str _ => true | .str _, .bl _ => true
  | _, _ => false
def rEq : R2 := fun x y H Q => scal x y = true ∧ Q (.bl (decide (x = y))) H
def rNe : R2 := fun x y H Q => scal x y = true ∧ Q (.bl (!decide (x = y))) H

theorem dec_int {i j : Int} : decide (V.int i = V.int j) = (i == j) := by
  rw [Bool.eq_iff_iff]
  simp
theorem dec_bl {i j : Bool} : decide (V.bl i = V.bl j) = (i == j) := by
  rw [Bool.eq_iff_iff]
  simp
theorem dec_str {i j : Str} : decide (V.str i = V.str j) = (i == j) := by
  rw [Bool.eq_iff_iff]
  simp
theorem dec_byt {i j : Array UInt8} : decide (V.byt i = V.byt j) = (i.toList == j.toList) := by
  rw [Bool.eq_iff_iff]
  cases i
  cases j
  simp

section
variable {X : Cx} {a b c : Expr} {ta tb tc : TE} {pos : Pos}
theorem fin_bl {pins : List (Addr × Obj)} {σ : St} {H : Hp} {s : Shared} {Q : VK} {k k' : Bool} (I : Inv X pins σ H s) (q : Q (.bl k) H) (e : k = k') : EP X pins σ Q (.bool k') s := by
  subst e
  exact ⟨.bl k, H, I, rfl, q⟩
theorem op_eq : OpR X (compareOp .Eq) rEq := by
  intro pins s σ H x y v u Q I rx ry h
  obtain ⟨hs, q⟩ := h
  cases x with
  | non =>
    cases rx
    cases y with
    | non => cases ry; exact PySem.EqNone.eq_none_none (fin_bl I q (by simp))
    | bl j => cases ry; exact PySem.EqNone.eq_none_bool (fin_bl I q (by simp))
    | int j => obtain ⟨t', rfl⟩ := ry; exact PySem.EqNone.eq_none_int (fin_bl I q (by simp))
    | str j => obtain ⟨t', rfl⟩ := ry; exact PySem.EqNone.eq_none_str (fin_bl I q (by simp))
    | _ => exact absurd (show false = true from hs) Bool.false_ne_true
  | bl i =>
    cases rx
    cases y with
    | non => cases ry; exact PySem.EqNone.eq_bool_none (fin_bl I q (by simp))
    | bl j => cases ry; exact eq_bool (fin_bl I q dec_bl)
    | str j => obtain ⟨t', rfl⟩ := ry; exact PySem.EqMixed.eq_bool_str (fin_bl I q (by simp))
    | _ => exact absurd (show false = true from hs) Bool.false_ne_true
  | int i =>
    obtain ⟨t, rfl⟩ := rx
    cases y with
    | non => cases ry; exact PySem.EqNone.eq_int_none (fin_bl I q (by simp))
    | int j => obtain ⟨t', rfl⟩ := ry; exact eq_int (fin_bl I q dec_int)
    | str j => obtain ⟨t', rfl⟩ := ry; exact PySem.EqMixed.eq_int_str (fin_bl I q (by simp))
    | _ => exact absurd (show false = true from hs) Bool.false_ne_true
  | str i =>
    obtain ⟨t, rfl⟩ := rx
    cases y with
    | non => cases ry; exact PySem.EqNone.eq_str_none (fin_bl I q (by simp))
    | bl j => cases ry; exact PySem.EqMixed.eq_str_bool (fin_bl I q (by simp))
    | int j => obtain ⟨t', rfl⟩ := ry; exact PySem.EqMixed.eq_str_int (fin_bl I q (by simp))
    | str j => obtain ⟨t', rfl⟩ := ry; exact eq_str (fin_bl I q dec_str)
    | _ => exact absurd (show false = true from hs) Bool.false_ne_true
  | byt i =>
    obtain ⟨t, rfl⟩ := rx
    cases y with
    | byt j => obtain ⟨t', rfl⟩ := ry; exact PySem.W.eq_bytes (fin_bl I q dec_byt)
    | _ => exact absurd (show false = true from hs) Bool.false_ne_true
  | _ => cases y <;> exact absurd (show false = true from hs) Bool.false_ne_true
theorem op_ne : OpR X (compareOp .NotEq) rNe := by
  intro pins s σ H x y v u Q I rx ry h
  obtain ⟨hs, q⟩ := h
  cases x with
  | non =>
    cases rx
    cases y with
    | non => cases ry; exact PySem.EqNone.ne_none_none (fin_bl I q (by simp))
    | bl j => cases ry; exact PySem.EqNone.ne_none_bool (fin_bl I q (by simp))
    | int j => obtain ⟨t', rfl⟩ := ry; exact PySem.EqNone.ne_none_int (fin_bl I q (by simp))
    | str j => obtain ⟨t', rfl⟩ := ry; exact PySem.EqNone.ne_none_str (fin_bl I q (by simp))
    | _ => exact absurd (show false = true from hs) Bool.false_ne_true
  | bl i =>
    cases rx
    cases y with
    | non => cases ry; exact PySem.EqNone.ne_bool_none (fin_bl I q (by simp))
    | bl j => cases ry; exact ne_bool (fin_bl I q (congrArg not dec_bl))
    | str j => obtain ⟨t', rfl⟩ := ry; exact PySem.EqMixed.ne_bool_str (fin_bl I q (by simp))
    | _ => exact absurd (show false = true from hs) Bool.false_ne_true
  | int i =>
    obtain ⟨t, rfl⟩ := rx
    cases y with
    | non => cases ry; exact PySem.EqNone.ne_int_none (fin_bl I q (by simp))
    | int j => obtain ⟨t', rfl⟩ := ry; exact ne_int (fin_bl I q (congrArg not dec_int))
    | str j => obtain ⟨t', rfl⟩ := ry; exact PySem.EqMixed.ne_int_str (fin_bl I q (by simp))
    | _ => exact absurd (show false = true from hs) Bool.false_ne_true
  | str i =>
    obtain ⟨t, rfl⟩ := rx
    cases y with
    | non => cases ry; exact PySem.EqNone.ne_str_none (fin_bl I q (by simp))
    | bl j => cases ry; exact PySem.EqMixed.ne_str_bool (fin_bl I q (by simp))
    | int j => obtain ⟨t', rfl⟩ := ry; exact PySem.EqMixed.ne_str_int (fin_bl I q (by simp))
    | str j => obtain ⟨t', rfl⟩ := ry; exact ne_str (fin_bl I q (congrArg not dec_str))
    | _ => exact absurd (show false = true from hs) Bool.false_ne_true
  | byt i =>
    obtain ⟨t, rfl⟩ := rx
    cases y with
    | byt j => obtain ⟨t', rfl⟩ := ry; exact PySem.W.ne_bytes (fin_bl I q (congrArg not dec_byt))
    | _ => exact absurd (show false = true from hs) Bool.false_ne_true
  | _ => cases y <;> exact absurd (show false = true from hs) Bool.false_ne_true

theorem op_lt : OpR X (compareOp .Lt) (rI0 fun i j => .bl (decide (i < j))) := opB0 fun _ _ _ _ _ _ _ q => lt_int q
theorem op_le : OpR X (compareOp .LtE) (rI0 fun i j => .bl (decide (i ≤ j))) := opB0 fun _ _ _ _ _ _ _ q => le_int q
theorem op_gt : OpR X (compareOp .Gt) (rI0 fun i j => .bl (decide (j < i))) := opB0 fun _ _ _ _ _ _ _ q => gt_int q
theorem op_ge : OpR X (compareOp .GtE) (rI0 fun i j => .bl (decide (j ≤ i))) := opB0 fun _ _ _ _ _ _ _ q => ge_int q
theorem op_lt_str : OpR X (compareOp .Lt) (fun x y H Q => ∃ i j, x = .str i ∧ y = .str j ∧ Q (.bl (decide (i.cps.toList < j.cps.toList))) H) := by
  intro pins s σ H x y v u Q I rx ry h
  obtain ⟨i, j, rfl, rfl, q⟩ := h
  obtain ⟨t, rfl⟩ := rx
  obtain ⟨t', rfl⟩ := ry
  exact lt_str (fin_bl I q rfl)
/-- the one string within the other -/
theorem op_in_str : OpR X (compareOp .In) (fun x y H Q => ∃ i j, x = .str i ∧ y = .str j ∧ Q (.bl (!(Builtin.Str.occurrences j i 0 j.length 1).isEmpty)) H) := by
  intro pins s σ H x y v u Q I rx ry h
  obtain ⟨i, j, rfl, rfl, q⟩ := h
  obtain ⟨t, rfl⟩ := rx
  obtain ⟨t', rfl⟩ := ry
  exact in_str (fin_bl I q rfl)

/-- is None, is not None: the right side a value none -/
theorem op_isN : OpR X (compareOp .Is) (fun x y H Q => y = .non ∧ Q (.bl (decide (x = .non))) H) := by
  intro pins s σ H x y v u Q I rx ry h
  obtain ⟨rfl, q⟩ := h
  cases ry
  refine is_none_gen (fin_bl I q ?_)
  cases x <;> first
    | (cases rx; rfl)
    | (obtain ⟨t, rfl⟩ := rx; rfl)
theorem op_notN : OpR X (compareOp .IsNot) (fun x y H Q => y = .non ∧ Q (.bl (!decide (x = .non))) H) := by
  intro pins s σ H x y v u Q I rx ry h
  obtain ⟨rfl, q⟩ := h
  cases ry
  refine isnot_none_gen (fin_bl I q ?_)
  cases x <;> first
    | (cases rx; rfl)
    | (obtain ⟨t, rfl⟩ := rx; rfl)

theorem op_notin_str : OpR X (compareOp .NotIn) (fun x y H Q => ∃ i j, x = .str i ∧ y = .str j ∧ Q (.bl (!(!(Builtin.Str.occurrences j i 0 j.length 1).isEmpty))) H) := by
  intro pins s σ H x y v u Q I rx ry h
  obtain ⟨i, j, rfl, rfl, q⟩ := h
  obtain ⟨t, rfl⟩ := rx
  obtain ⟨t', rfl⟩ := ry
  exact notIn_str (fin_bl I q rfl)
/-- is, is not of two objects that are tracked lists or instances -/
def isObj : HO → Bool
  | .lst _ => true
  | .ins _ _ _ => true
  | _ => false
theorem obj_there {pins : List (Addr × Obj)} {s : Shared} {σ : St} {H : Hp} {a : Addr} {o : HO} (I : Inv X pins σ H s) (h : H a = some o) (p : isObj o = true) : ∃ ob, s.heap.get? a = some ob ∧ ob.cls ≠ .type "tuple" := by
  cases o with
  | lst xs =>
    obtain ⟨_, its, n, _, e⟩ : xs.length ≤ sizeLine ∧ ∃ (its : List Value) (n : Nat), Vals xs its ∧ s.heap.get? a = some { cls := .type "list", data := .seq its.toArray n } := I.hok a _ h
    exact ⟨_, e, (by show Value.type "list" ≠ .type "tuple"; decide +kernel)⟩
  | ins C dx fs =>
    have x := I.hok a _ h
    obtain ⟨_, _, _, e, _⟩ := x
    exact ⟨_, e, (by show Value.ref C ≠ .type "tuple"; exact fun z => by cases z)⟩
  | _ => exact absurd (show false = true from p) Bool.false_ne_true
theorem op_is_ref : OpR X (compareOp .Is) (fun x y H Q => ∃ a b oa ob, x = .ref a ∧ y = .ref b ∧ H a = some oa ∧ isObj oa = true ∧ H b = some ob ∧ isObj ob = true ∧ Q (.bl (decide (a = b))) H) := by
  intro pins s σ H x y v u Q I rx ry h
  obtain ⟨a, b, oa, ob, rfl, rfl, ha, pa, hb, pb, q⟩ := h
  cases rx
  cases ry
  obtain ⟨o1, e1, n1⟩ := obj_there I ha pa
  obtain ⟨o2, e2, _⟩ := obj_there I hb pb
  by_cases z : a = b
  · subst z
    exact wpAny_is_ref_self (fin_bl I q (by simp))
  · exact wpAny_is_ref_other z e1 e2 n1 (fin_bl I q (by simp [z]))
theorem op_isnot_ref : OpR X (compareOp .IsNot) (fun x y H Q => ∃ a b oa ob, x = .ref a ∧ y = .ref b ∧ H a = some oa ∧ isObj oa = true ∧ H b = some ob ∧ isObj ob = true ∧ Q (.bl (!decide (a = b))) H) := by
  intro pins s σ H x y v u Q I rx ry h
  obtain ⟨a, b, oa, ob, rfl, rfl, ha, pa, hb, pb, q⟩ := h
  cases rx
  cases ry
  obtain ⟨o1, e1, n1⟩ := obj_there I ha pa
  obtain ⟨o2, e2, _⟩ := obj_there I hb pb
  by_cases z : a = b
  · subst z
    exact wpAny_isNot_ref_self (fin_bl I q (by simp))
  · exact wpAny_isNot_ref_other z e1 e2 n1 (fin_bl I q (by simp [z]))

/-- two rules for one operation: by cases -/
theorem OpR.or {f : Value → Value → Sem Value} {r r' : R2} (h : OpR X f r) (h' : OpR X f r') : OpR X f (fun x y H Q => r x y H Q ∨ r' x y H Q) := by
  intro pins s σ H x y v u Q I rx ry q
  rcases q with q | q
  · exact h pins s σ H x y v u Q I rx ry q
  · exact h' pins s σ H x y v u Q I rx ry q

theorem nomark (b : Expr) {op : CmpOp} (h : op ≠ .In := by decide) (h2 : op ≠ .NotIn := by decide) : behindInMarks op b = false := by
  have e1 : (op == CmpOp.In) = false := by cases op <;> first | rfl | exact absurd rfl h
  have e2 : (op == CmpOp.NotIn) = false := by cases op <;> first | rfl | exact absurd rfl h2
  cases b <;> simp [behindInMarks, e1, e2]
/-- a comparison as a value; hm: nomark b, or (for in, not in) by with_unfolding_all rfl -/
theorem pe_cmpR {op : CmpOp} {r : R2} (ho : OpR X (compareOp op) r) (ha : PE X a ta) (hb : PE X b tb) (hm : behindInMarks op b = false) : PE X (.Compare a [op] [b] pos) (tOp r ta tb) := by
  intro pins s σ H Q I h
  exact wpAny_Compare1 (binT ha hb I h fun v u s2 x y H2 I2 rx ry q => ho pins s2 σ H2 x y v u Q I2 rx ry q) hm
/-- a reading of a value as a test -/
def tTest (t : TE) : TT := fun σ H Q => t σ H fun x H' => ∃ k, x = .bl k ∧ Q k H'
theorem pt_cmpR {op : CmpOp} {r : R2} (ho : OpR X (compareOp op) r) (ha : PE X a ta) (hb : PE X b tb) (hm : behindInMarks op b = false) : PT X (.Compare a [op] [b] pos) (tTest (tOp r ta tb)) := by
  intro pins s σ H Q I h
  refine wpAny_isTrue_Compare1 (thn (ha pins s σ H _ I h) fun v s1 ⟨x, H1, I1, r1, q1⟩ => thn (hb pins s1 σ H1 _ I1 q1) fun u s2 ⟨y, H2, I2, r2, q2⟩ =>
    thn (ho pins s2 σ H2 x y v u _ I2 r1 r2 q2) fun c s3 ⟨z, H3, I3, r3, k, e, q3⟩ => ?_) hm
  subst e
  cases r3
  exact wpAny_truthy_bool ⟨H3, I3, q3⟩
/-- a op1 b op2 c -/
def tChain (r r' : R2) (ta tb tc : TE) : TE := fun σ H Q => ta σ H fun x H1 => tb σ H1 fun y H2 => r x y H2 fun z H3 => ∃ k, z = .bl k ∧
  (if k = true then tc σ H3 fun w' H4 => r' y w' H4 Q else Q (.bl false) H3)
theorem pe_chain {op op' : CmpOp} {r r' : R2} (ho : OpR X (compareOp op) r) (ho' : OpR X (compareOp op') r') (ha : PE X a ta) (hb : PE X b tb) (hc : PE X c tc)
    (hm : lastMarks [op, op'] [b, c] = false := by with_unfolding_all rfl) : PE X (.Compare a [op, op'] [b, c] pos) (tChain r r' ta tb tc) := by
  intro pins s σ H Q I h
  refine Compare_chain (thn (ha pins s σ H _ I h) fun v s1 ⟨x, H1, I1, r1, q1⟩ => chain_link (thn (hb pins s1 σ H1 _ I1 q1) fun u s2 ⟨y, H2, I2, r2, q2⟩ =>
    thn (ho pins s2 σ H2 x y v u _ I2 r1 r2 q2) fun d s3 ⟨z, H3, I3, r3, k, e, q3⟩ => ?_)) hm
  subst e
  cases r3
  refine wpAny_truthy_bool ?_
  cases k with
  | false => exact ite_ff ⟨.bl false, H3, I3, rfl, q3⟩
  | true => exact ite_tt (chain_last (thn (hc pins s3 σ H3 _ I3 q3) fun w' s4 ⟨z', H4, I4, r4, q4⟩ => ho' pins s4 σ H4 y z' u w' Q I4 r2 r4 q4))
theorem pt_chain {op op' : CmpOp} {r r' : R2} (ho : OpR X (compareOp op) r) (ho' : OpR X (compareOp op') r') (ha : PE X a ta) (hb : PE X b tb) (hc : PE X c tc)
    (hm : lastMarks [op, op'] [b, c] = false := by with_unfolding_all rfl) : PT X (.Compare a [op, op'] [b, c] pos) (tTest (tChain r r' ta tb tc)) := by
  intro pins s σ H Q I h
  refine isTrue_chain (thn (ha pins s σ H _ I h) fun v s1 ⟨x, H1, I1, r1, q1⟩ => test_link (thn (hb pins s1 σ H1 _ I1 q1) fun u s2 ⟨y, H2, I2, r2, q2⟩ =>
    thn (ho pins s2 σ H2 x y v u _ I2 r1 r2 q2) fun d s3 ⟨z, H3, I3, r3, k, e, q3⟩ => ?_)) hm
  subst e
  cases r3
  refine wpAny_truthy_bool ?_
  cases k with
  | false =>
    obtain ⟨k', e', q'⟩ := q3
    cases e'
    exact ite_ff ⟨H3, I3, q'⟩
  | true =>
    refine ite_tt (test_last (thn (hc pins s3 σ H3 _ I3 q3) fun w' s4 ⟨z', H4, I4, r4, q4⟩ => thn (ho' pins s4 σ H4 y z' u w' _ I4 r2 r4 q4) fun d' s5 ⟨z2, H5, I5, r5, k2, e2, q5⟩ => ?_))
    subst e2
    cases r5
    exact wpAny_truthy_bool ⟨H5, I5, q5⟩

/-! ### truth -/
/-- a value's truth by the abstract heap -/
def TruV (K : PySem.W.Frag) (x : V) (H : Hp) (k : Bool) : Prop :=
  match x with
  | .non => k = false
  | .bl b => k = b
  | .int i => k = (i != 0)
  | .str y => y.length ≤ sizeLine ∧ k = ((y.length : Int) != 0)
  | .byt y => y.size ≤ sizeLine ∧ k = ((y.size : Int) != 0)
  | .ref p => (∃ xs, SqL K H p xs ∧ k = !xs.isEmpty) ∨ (∃ xs, SqT K H p xs ∧ k = !xs.isEmpty) ∨ ∃ kvs, H p = some (.dK kvs) ∧ k = !kvs.isEmpty
  | _ => False
theorem isEmpty_kv {κ : Type} {kvs : List (κ × V)} {vs : List (κ × Value)} (r : KV kvs vs) : (!vs.isEmpty) = !kvs.isEmpty := by
  cases r <;> rfl
theorem isEmpty_of {xs : List V} {its : List Value} (r : Vals xs its) : (!its.toArray.isEmpty) = !xs.isEmpty := by
  cases r <;> simp
theorem line63 : (sizeLine : Nat) < 2 ^ 63 := by rw [sizeLine_eq]; decide
theorem tru_ok : TruR X (fun x H Q => ∃ k, TruV X.K x H k ∧ Q k H) := by
  intro pins s σ H x v Q I rx h
  obtain ⟨k, e, q⟩ := h
  have hl := line63
  have hs : sizeLine = 16777216 := sizeLine_eq
  cases x with
  | non =>
    cases rx
    have e' : k = false := e
    subst e'
    exact truthy_none ⟨H, I, q⟩
  | bl b =>
    cases rx
    have e' : k = b := e
    subst e'
    exact wpAny_truthy_bool ⟨H, I, q⟩
  | int i =>
    obtain ⟨t, rfl⟩ := rx
    have e' : k = (i != 0) := e
    subst e'
    exact PySem.P.truthy_int ⟨H, I, q⟩
  | str y =>
    obtain ⟨t, rfl⟩ := rx
    obtain ⟨hy, e'⟩ : y.length ≤ sizeLine ∧ k = ((y.length : Int) != 0) := e
    subst e'
    exact PySem.P.truthy_str (by omega) ⟨H, I.tok _, q⟩
  | byt y =>
    obtain ⟨t, rfl⟩ := rx
    obtain ⟨hy, e'⟩ : y.size ≤ sizeLine ∧ k = ((y.size : Int) != 0) := e
    subst e'
    exact PySem.W.truthy_bytes (by omega) ⟨H, I.tok _, q⟩
  | ref p =>
    cases rx
    have e' : (∃ xs, SqL X.K H p xs ∧ k = !xs.isEmpty) ∨ (∃ xs, SqT X.K H p xs ∧ k = !xs.isEmpty) ∨ ∃ kvs, H p = some (.dK kvs) ∧ k = !kvs.isEmpty := e
    rcases e' with ⟨xs, hx, e'⟩ | ⟨xs, hx, e'⟩ | ⟨kvs, hx, e'⟩
    · subst e'
      obtain ⟨its, r, pl, hz⟩ := I.list hx
      have hlen := r.length
      exact wpAny_truthy_list pl.isList (by simp only [List.size_toArray]; omega) ⟨H, I.tok _, by rw [isEmpty_of r]; exact q⟩
    · subst e'
      obtain ⟨its, r, pl, hz⟩ := I.tuple hx
      have hlen := r.length
      exact truthy_tuple pl (by simp only [List.size_toArray]; omega) ⟨H, I.tok _, by rw [isEmpty_of r]; exact q⟩
    · subst e'
      obtain ⟨hz, hS, vs, r, m⟩ : kvs.length ≤ sizeLine ∧ (p == sysModules) = false ∧ ∃ vs, KV kvs vs ∧ s.heap.DictOf (mixKind X.prog X.w) p vs := I.hok p _ hx
      have hlen : kvs.length = vs.length := Paired.length r
      exact wpAny_truthy_dict hS m (by omega) ⟨H, I.tok _, by rw [isEmpty_kv r]; exact q⟩
  | _ => exact (show False from e).elim
/-- any expression whose test is its value's truth (a name, a call, a subscript, a field ..: he by fun _ => rfl) -/
theorem pt_truth (ha : PE X a ta) (he : ∀ whole, isTrue a X.env whole = (do let v ← whole; standAt a.pos; holding [v] (truthy v))) :
    PT X a (fun σ H Q => ta σ H fun x H' => ∃ k, TruV X.K x H' k ∧ Q k H') := by
  intro pins s σ H Q I h
  exact isTrue_plain (thn (ha pins s σ H _ I h) fun v s1 ⟨x, H1, I1, r1, q1⟩ => tru_ok pins s1 σ H1 x v Q I1 r1 q1) (he _)

/-! ### strs and bytes -/
theorem pe_byt {x : List UInt8} {k : Nat} : PE X (.Constant (.bytes x) k pos) (fun _ H Q => Q (.byt x.toArray) H) := fun _ _ _ H _ I h => PySem.W.Constant_bytes ⟨.byt x.toArray, H, I.tok _, ⟨_, rfl⟩, h⟩
theorem op_add_str : OpR X (binaryOp .Add) (fun x y H Q => ∃ i j, x = .str i ∧ y = .str j ∧ i.length + j.length ≤ sizeLine ∧ Q (.str (i ++ j)) H) := by
  intro pins s σ H x y v u Q I rx ry h
  obtain ⟨i, j, rfl, rfl, hz, q⟩ := h
  obtain ⟨t, rfl⟩ := rx
  obtain ⟨t', rfl⟩ := ry
  exact add_str (fun t' tk => ⟨.str (i ++ j), H, I.tok _, ⟨_, rfl⟩, q⟩) hz
theorem iop_add_str : OpR X (inplaceOp .Add) (fun x y H Q => ∃ i j, x = .str i ∧ y = .str j ∧ i.length + j.length ≤ sizeLine ∧ Q (.str (i ++ j)) H) := by
  intro pins s σ H x y v u Q I rx ry h
  obtain ⟨i, j, rfl, rfl, hz, q⟩ := h
  obtain ⟨t, rfl⟩ := rx
  obtain ⟨t', rfl⟩ := ry
  exact iadd_str (fun t' tk => ⟨.str (i ++ j), H, I.tok _, ⟨_, rfl⟩, q⟩) hz
theorem op_add_byt : OpR X (binaryOp .Add) (fun x y H Q => ∃ i j, x = .byt i ∧ y = .byt j ∧ i.size + j.size ≤ 16777216 ∧ Q (.byt (i ++ j)) H) := by
  intro pins s σ H x y v u Q I rx ry h
  obtain ⟨i, j, rfl, rfl, hz, q⟩ := h
  obtain ⟨t, rfl⟩ := rx
  obtain ⟨t', rfl⟩ := ry
  exact PySem.W.KBy.add_bytes hz (fun t' tk => ⟨.byt (i ++ j), H, I.tok _, ⟨_, rfl⟩, q⟩)

def PlainIxT (b : Expr) : Prop := ∀ o i, subscripted b false o i = operate [o, i] (getItem o i)
/-- s[i], 0 ≤ i < len -/
theorem pe_item_str (ha : PE X a ta) (hb : PE X b tb) (hs : PlainIxT b) :
    PE X (.Subscript a b pos) (tOp (fun x y H Q => ∃ z i c, x = .str z ∧ y = .int i ∧ 0 ≤ i ∧ i < 2 ^ 63 ∧ i < z.length ∧ z.cps[i.toNat]? = some c ∧ Q (.str ⟨#[c]⟩) H) ta tb) := by
  intro pins s σ H Q I h
  refine Subscript_ (binT ha hb I h fun v u s2 x y H2 I2 rx ry q => ?_)
  obtain ⟨z, i, c, rfl, rfl, h0, h63, h1, hc, q⟩ := q
  obtain ⟨t, rfl⟩ := rx
  obtain ⟨t', rfl⟩ := ry
  have e : seqIndex? i z.length = some i.toNat := PySem.StrLaws.seqIndex_nonneg h0 h1
  exact tail_any (typeIs_str s2 z t) slot_str_getitem.lookup (getItem_str (c := c) (by
    have e1 : decide (i < -(2 ^ 63 : Int)) = false := decide_eq_false (by omega)
    have e2 : decide (i ≥ 2 ^ 63) = false := decide_eq_false (by omega)
    rw [e1, e2] <;> rfl) (by rw [e]; exact hc) ⟨.str ⟨#[c]⟩, H2, I2.tok _, ⟨_, rfl⟩, q⟩) (hs _ _)
/-- b[i], 0 ≤ i < len -/
theorem pe_item_byt (ha : PE X a ta) (hb : PE X b tb) (hs : PlainIxT b) :
    PE X (.Subscript a b pos) (tOp (fun x y H Q => ∃ (z : List UInt8) (i : Int), x = .byt z.toArray ∧ y = .int i ∧ z.length ≤ sizeLine ∧ 0 ≤ i ∧ i < z.length ∧ Q (.int ((z.getD i.toNat 0).toNat : Nat)) H) ta tb) := by
  intro pins s σ H Q I h
  refine Subscript_ (binT ha hb I h fun v u s2 x y H2 I2 rx ry q => ?_)
  obtain ⟨z, i, rfl, rfl, hz, h0, h1, q⟩ := q
  obtain ⟨t, rfl⟩ := rx
  obtain ⟨t', rfl⟩ := ry
  have hl : sizeLine = 16777216 := sizeLine_eq
  exact tail_any (PySem.W.typeIs_bytes s2 z.toArray t) PySem.W.FB.slot_bytes_getitem.lookup (PySem.W.getItem_bytes (by omega) h0 h1 ⟨.int ((z.getD i.toNat 0).toNat : Nat), H2, I2.tok _, ⟨_, rfl⟩, q⟩) (hs _ _)

/-! ### scalar builtins, by CallR -/
theorem vals1 {x : V} {us : List Value} (r : Vals [x] us) : ∃ u, us = [u] ∧ RelV x u := by
  cases r with
  | cons r1 r2 => cases r2; exact ⟨_, rfl, r1⟩
theorem vals2 {x y : V} {us : List Value} (r : Vals [x, y] us) : ∃ u w', us = [u, w'] ∧ RelV x u ∧ RelV y w' := by
  cases r with
  | cons r1 r2 =>
    cases r2 with
    | cons r3 r4 => cases r4; exact ⟨_, _, rfl, r1, r3⟩
theorem call_abs : CallR X (.builtin "abs") (fun xs H Q => ∃ i, xs = [.int i] ∧ Q (.int (if i < 0 then -i else i)) H) := by
  intro pins s σ H xs us Q I r h
  obtain ⟨i, rfl, q⟩ := h
  obtain ⟨u, rfl, t, rfl⟩ := vals1 r
  exact call_abs_int fun u tk => ⟨.int (if i < 0 then -i else i), H, I.tok _, ⟨_, rfl⟩, q⟩
theorem call_max2 (hc : X.calm = true) : CallR X (.builtin "max") (fun xs H Q => ∃ i j, xs = [.int i, .int j] ∧ Q (.int (if j > i then j else i)) H) := by
  intro pins s σ H xs us Q I r h
  obtain ⟨i, j, rfl, q⟩ := h
  obtain ⟨u, w', rfl, ⟨t, rfl⟩, ⟨t', rfl⟩⟩ := vals2 r
  refine max_two_ints (I.ok.hd hc) fun h' tk k => ⟨_, H, I.kept k, ?_, q⟩
  by_cases hj : j > i
  · rw [if_pos hj, if_pos hj]; exact ⟨_, rfl⟩
  · rw [if_neg hj, if_neg hj]; exact ⟨_, rfl⟩
theorem call_min2 (hc : X.calm = true) : CallR X (.builtin "min") (fun xs H Q => ∃ i j, xs = [.int i, .int j] ∧ Q (.int (if j < i then j else i)) H) := by
  intro pins s σ H xs us Q I r h
  obtain ⟨i, j, rfl, q⟩ := h
  obtain ⟨u, w', rfl, ⟨t, rfl⟩, ⟨t', rfl⟩⟩ := vals2 r
  refine min_two_ints (I.ok.hd hc) fun h' tk k => ⟨_, H, I.kept k, ?_, q⟩
  by_cases hj : j < i
  · rw [if_pos hj, if_pos hj]; exact ⟨_, rfl⟩
  · rw [if_neg hj, if_neg hj]; exact ⟨_, rfl⟩
theorem call_int1 : CallR X (.type "int") (fun xs H Q => (∃ i, xs = [.int i] ∧ Q (.int i) H) ∨ ∃ k, xs = [.bl k] ∧ Q (.int (if k then 1 else 0)) H) := by
  intro pins s σ H xs us Q I r h
  rcases h with ⟨i, rfl, q⟩ | ⟨k, rfl, q⟩
  · obtain ⟨u, rfl, t, rfl⟩ := vals1 r
    exact call_int_int ⟨.int i, H, I, ⟨_, rfl⟩, q⟩
  · obtain ⟨u, rfl, r1⟩ := vals1 r
    cases r1
    exact call_int_bool ⟨.int (if k then 1 else 0), H, I.tok _, ⟨_, rfl⟩, q⟩
theorem call_bool1 : CallR X (.type "bool") (fun xs H Q => (∃ i, xs = [.int i] ∧ Q (.bl (i != 0)) H) ∨ ∃ k, xs = [.bl k] ∧ Q (.bl k) H) := by
  intro pins s σ H xs us Q I r h
  rcases h with ⟨i, rfl, q⟩ | ⟨k, rfl, q⟩
  · obtain ⟨u, rfl, t, rfl⟩ := vals1 r
    exact call_bool_int ⟨.bl (i != 0), H, I, rfl, q⟩
  · obtain ⟨u, rfl, r1⟩ := vals1 r
    cases r1
    exact call_bool_bool ⟨.bl k, H, I, rfl, q⟩
theorem call_str_int : CallR X (.type "str") (fun xs H Q => ∃ i, xs = [.int i] ∧ i.natAbs.log2 < 1920 ∧ Q (.str (toString i)) H) := by
  intro pins s σ H xs us Q I r h
  obtain ⟨i, rfl, hz, q⟩ := h
  obtain ⟨u, rfl, t, rfl⟩ := vals1 r
  exact PySem.P.str_of_int hz ⟨.str _, H, I.tok _, ⟨_, rfl⟩, q⟩
theorem call_ord : CallR X (.builtin "ord") (fun xs H Q => ∃ x, xs = [.str x] ∧ x.length = 1 ∧ Q (.int (x.cps.getD 0 0 : Nat)) H) := by
  intro pins s σ H xs us Q I r h
  obtain ⟨x, rfl, hz, q⟩ := h
  obtain ⟨u, rfl, t, rfl⟩ := vals1 r
  exact ord_of_one hz ⟨.int _, H, I.tok _, ⟨_, rfl⟩, q⟩
theorem call_chr : CallR X (.builtin "chr") (fun xs H Q => ∃ i, xs = [.int i] ∧ 0 ≤ i ∧ i ≤ 1114111 ∧ Q (.str ⟨#[i.toNat]⟩) H) := by
  intro pins s σ H xs us Q I r h
  obtain ⟨i, rfl, h0, h1, q⟩ := h
  obtain ⟨u, rfl, t, rfl⟩ := vals1 r
  exact chr_of_range h0 h1 ⟨.str _, H, I.tok _, ⟨_, rfl⟩, q⟩
/-- len of a str, a bytes, a list, a tuple -/
def LenV (K : PySem.W.Frag) (x : V) (H : Hp) (n : Nat) : Prop :=
  match x with
  | .str y => y.length ≤ sizeLine ∧ n = y.length
  | .byt y => y.size ≤ sizeLine ∧ n = y.size
  | .ref p => (∃ xs, SqL K H p xs ∧ n = xs.length) ∨ ∃ xs, SqT K H p xs ∧ n = xs.length
  | _ => False
theorem call_len : CallR X (.builtin "len") (fun xs H Q => ∃ x n, xs = [x] ∧ LenV X.K x H n ∧ Q (.int n) H) := by
  intro pins s σ H xs us Q I r h
  obtain ⟨x, n, rfl, e, q⟩ := h
  obtain ⟨u, rfl, rx⟩ := vals1 r
  have hl := line63
  have hs : sizeLine = 16777216 := sizeLine_eq
  cases x with
  | str y =>
    obtain ⟨t, rfl⟩ := rx
    obtain ⟨hy, e'⟩ : y.length ≤ sizeLine ∧ n = y.length := e
    subst e'
    exact len_str (by omega) ⟨.int _, H, I.tok _, ⟨_, rfl⟩, q⟩
  | byt y =>
    obtain ⟨t, rfl⟩ := rx
    obtain ⟨hy, e'⟩ : y.size ≤ sizeLine ∧ n = y.size := e
    subst e'
    exact PySem.W.len_bytes (by omega) ⟨.int _, H, I.tok _, ⟨_, rfl⟩, q⟩
  | ref p =>
    cases rx
    have e' : (∃ xs, SqL X.K H p xs ∧ n = xs.length) ∨ ∃ xs, SqT X.K H p xs ∧ n = xs.length := e
    rcases e' with ⟨xs, hx, e'⟩ | ⟨xs, hx, e'⟩
    · subst e'
      obtain ⟨its, r', pl, hz⟩ := I.list hx
      have hlen := r'.length
      exact Calls.call_len_list pl.isList (by simp only [List.size_toArray]; omega) ⟨.int xs.length, H, I.tok _, ⟨_, by simp only [List.size_toArray]; rw [hlen]⟩, q⟩
    · subst e'
      obtain ⟨its, r', pl, hz⟩ := I.tuple hx
      have hlen := r'.length
      exact len_tuple pl (by simp only [List.size_toArray]; omega) ⟨.int xs.length, H, I.tok _, ⟨_, by simp only [List.size_toArray]; rw [hlen]⟩, q⟩
  | _ => exact (show False from e).elim
/-- divmod: a new tuple -/
theorem call_divmod : CallR X (.builtin "divmod") (fun xs H Q => ∃ i j, xs = [.int i, .int j] ∧ CDiv i j ∧ ∀ p, H p = none → Q (.ref p) (upd H p (.tup [.int (i / j), .int (i % j)]))) := by
  intro pins s σ H xs us Q I r h
  obtain ⟨i, j, rfl, ⟨h1, h2⟩, q⟩ := h
  obtain ⟨u, w', rfl, ⟨t, rfl⟩, ⟨t', rfl⟩⟩ := vals2 r
  refine divmod_int (by omega) ?_ (.inl (PyProof.noPylong_small (by omega)))
  rw [Int.fdiv_eq_ediv_of_nonneg i (by omega), Int.fmod_eq_emod_of_nonneg i (by omega)]
  have hn : H s.heap.objs.size = none := I.hok.fresh (Nat.le_refl _)
  refine ⟨.ref s.heap.objs.size, _, ?_, rfl, q _ hn⟩
  refine I.laid (fun b o e => Heap.get?_push_of_some _ e) (Nat.le_refl _) ⟨by simp only [List.length_cons, List.length_nil]; rw [sizeLine_eq]; decide, [.int (i / j) s.toks, .int (i % j) (s.toks + 1)], .cons ⟨_, rfl⟩ (.cons ⟨_, rfl⟩ .nil), ?_⟩
  exact ⟨_, Heap.get?_push_size s.heap rfl, rfl, 0, rfl⟩
end
end L2

namespace L2
open PySem PySem.Spec PyProof.Rows

/-! ### an instance, its attributes a map -/
structure ObjM (h : Heap) (x dx C : Addr) (mA : Str → Option Value) : Prop where
  obj : h.get? x = some (PySem.W.instObj C dx)
  ns : h.Ns1 dx mA
  ne : dx ≠ x

theorem lookIn_ns {h : Heap} {dx : Addr} {mA : Str → Option Value} (n : h.Ns1 dx mA) : ∃ od, h.get? dx = some od ∧ ∀ name, PySem.W.lookIn name od = some (mA name) := by
  obtain ⟨o, es, ep, ho, hd, hk, _, hm⟩ := n
  refine ⟨o, ho, fun name => ?_⟩
  have e := hm name
  unfold nsFind findBy at e
  rw [← Array.find?_toList] at e
  unfold PySem.W.lookIn
  rw [hd]
  dsimp only
  split
  · rename_i y q
    rw [q] at e
    exact congrArg some e
  · rename_i q
    rw [q] at e
    have a : es.toList.any (·.refKey) = false := by
      rw [List.any_eq_false]
      intro y hy
      obtain ⟨z, t, hkey⟩ := hk y (Array.mem_toList_iff.mp hy)
      simp [DictEntry.refKey, hkey]
    have a' : ¬ es.toList.any (·.refKey) = true := by rw [a]; exact Bool.false_ne_true
    rw [if_neg a']
    exact congrArg some e

theorem ObjM.look {h : Heap} {x dx C : Addr} {mA : Str → Option Value} (I : ObjM h x dx C mA) : ∃ od, PySem.W.InstAt h x (PySem.W.instObj C dx) C (some od) ∧ ∀ name, PySem.W.lookIn name od = some (mA name) :=
  let ⟨od, ho, hl⟩ := lookIn_ns I.ns
  ⟨od, ⟨I.obj, rfl, rfl, ho⟩, hl⟩

section
variable {prog : Program} {w : World} {A : Around} {E : Value → Shared → Prop} {s : Shared} {K : PySem.W.Frag} {x dx C f : Addr} {mA : Str → Option Value} {name : Str} {v : Value}

theorem get_map {expr : Bool} {Q : Value → Shared → Prop} (X : K.In s.heap) (I : ObjM s.heap x dx C mA) (hg : PySem.W.plainGet K C name = true) (hh : PySem.W.hasDictIn K C = true)
    (ha : PySem.W.findIn K (.ref C) name = some none) (hv : mA name = some v) (hv' : PySem.W.handedIn v = true) (h : Q v { s with toks := s.toks + 1 }) :
    wpAny (model prog w) A (getAttr (.ref x) name expr) Q E s := by
  obtain ⟨od, J, hl⟩ := I.look
  exact PySem.W.get_value X J (PySem.W.plainGet_of hg).1 (PySem.W.findObj_own hh ha rfl (by rw [hl, hv])) hv' h

theorem get_const {expr : Bool} {a : Value} {Q : Value → Shared → Prop} (X : K.In s.heap) (I : ObjM s.heap x dx C mA) (hg : PySem.W.plainGet K C name = true) (hh : PySem.W.hasDictIn K C = true)
    (ha : PySem.W.findIn K (.ref C) name = some (some a)) (hn : PySem.W.specialIn K a "__get__" = some none) (hc : PySem.W.copiedNames.contains name = false) (hv : mA name = none) (hv' : PySem.W.handedIn a = true)
    (h : Q a { s with toks := s.toks + 1 }) : wpAny (model prog w) A (getAttr (.ref x) name expr) Q E s := by
  obtain ⟨od, J, hl⟩ := I.look
  exact PySem.W.get_value X J (PySem.W.plainGet_of hg).1 (PySem.W.findObj_cls hh ha hn hv' hc (by rw [hl, hv])) hv' h

theorem get_meth {pl : Sem Bool} {Q : Value × List Value → Shared → Prop} (X : K.In s.heap) (I : ObjM s.heap x dx C mA) (hg : PySem.W.plainGet K C name = true)
    (hf : PySem.W.findIn K (.ref C) name = some (some (.ref f))) (ht : PySem.W.isFn K (.ref f) = true) (hv : mA name = none) (h : Q (.ref f, [.ref x]) s) :
    wpAny (model prog w) A (getMethod (.ref x) name pl) Q E s := by
  obtain ⟨od, J, hl⟩ := I.look
  exact PySem.W.method_fn X J (PySem.W.plainGet_of hg).1 (PySem.W.plainGet_of hg).2 hf (beq_iff_eq.mp ht) (by show (PySem.W.lookIn name od).map (·.isSome) = some false; rw [hl, hv]; rfl) h

theorem set_map {ns : List Str} {Q : Unit → Shared → Prop} (X : K.In s.heap) (I : ObjM s.heap x dx C mA)
    (hs : PySem.W.findIn K (.ref C) "__setattr__" = some (some (.builtin "object.__setattr__"))) (hp : PySem.W.plainOver K C = true) (ht : PySem.W.takerIn K C name = some none) (hh : PySem.W.hasDictIn K C = true)
    (hw : PySem.Within mA ns) (hsz : ns.length ≤ sizeLine)
    (h : ∀ h', ObjM h' x dx C (fun y => if y = name then some v else mA y) → Heap.SameBut dx s.heap h' → Q () { s with heap := h', toks := s.toks + 2 }) :
    wpAny (model prog w) A (setAttr (.ref x) name v) Q E s := by
  obtain ⟨od, J, hl⟩ := I.look
  refine PySem.W.set_plain X J hs (PySem.W.osa_open (s := { s with toks := s.toks + 1 }) (r := none) X J hp ht fun b => ?_)
  obtain ⟨cd, hc, hd'⟩ := PySem.W.any_some hh
  have hx : s.heap.get? x = some ⟨.ref C, some dx, .plain, #[]⟩ := I.obj
  refine wpAny_bind (wpAny_pure (wpAny_bind (wpAny_bind (wpAny_loadPart hx (wpAny_bind (PySem.W.Looks.here (s := { s with toks := s.toks + 1 }) (PySem.W.looks_clsIn X hc) ?_))))))
  rw [hd']
  refine wpAny_pure (a := some dx) (wpAny_bind (wpAny_pure (wpAny_bind ?_)))
  refine wpAny_nsSet1 (s := { s with toks := s.toks + 1 }) I.ns fun h' hn2 hs2 => ?_
  obtain ⟨oD, esD, epD, hoD, hdD, hcD⟩ := hn2.count (PySem.Within.cons name v hw)
  refine wpAny_bind (wpAny_lookBehind hoD (by rw [hdD]; exact pastItsLine_dict (Nat.le_trans hcD (by rw [List.length_cons]; omega))) ?_)
  exact wpAny_pure (h _ ⟨(hs2.2 _ (Ne.symm I.ne)).trans I.obj, hn2, I.ne⟩ hs2)

/-- C(..): the dict at the heap's end, the instance behind it; then its __init__ -/
theorem make_map {R : Result → Shared → Prop} {vs : List Value} {kw : List (Str × Value)} (X : K.In s.heap) (hm : PySem.W.makesIn K C = true)
    (hi : PySem.W.findIn K (.ref C) "__init__" = some (some (.ref f))) (hf : PySem.W.typeIn K (.ref f) = some (.type "function"))
    (h : codeAny (model prog w) (A.under (.builtin "type.__call__" ⟨.ref C :: vs, kw⟩)) (.call (.ref f) ⟨.ref (s.heap.objs.size + 1) :: vs, kw⟩) (PySem.W.InitBack (s.heap.objs.size + 1) R)
      { s with heap := (s.heap.push PySem.W.emptyDict).push (PySem.W.instObj C s.heap.objs.size) }) :
    codeAny (model prog w) A (.call (.ref C) ⟨vs, kw⟩) R s := by
  obtain ⟨hh, g, d, t, os⟩ := s
  exact PySem.W.make_core (PySem.W.makes_of X hm) (PySem.W.looks_findIn X hi) (fun self => PySem.W.bind_fn X self hf) (.inl rfl) h
/-- C() where there is no __init__ but object's -/
theorem make_map0 {R : Result → Shared → Prop} (X : K.In s.heap) (hm : PySem.W.makesIn K C = true)
    (hi : PySem.W.findIn K (.ref C) "__init__" = some (some (.builtin "object.__init__")))
    (hb : ∀ self, PySem.W.Looks (model prog w) s.heap (bindSpecial (.builtin "object.__init__") self) (.builtin "object.__init__", [self]))
    (h : codeAny (model prog w) (A.under (.builtin "type.__call__" ⟨[.ref C], []⟩)) (.call (.builtin "object.__init__") ⟨[.ref (s.heap.objs.size + 1)], []⟩) (PySem.W.InitBack (s.heap.objs.size + 1) R)
      { s with heap := (s.heap.push PySem.W.emptyDict).push (PySem.W.instObj C s.heap.objs.size) }) :
    codeAny (model prog w) A (.call (.ref C) ⟨[], []⟩) R s := by
  obtain ⟨hh, g, d, t, os⟩ := s
  exact PySem.W.make_core (PySem.W.makes_of X hm) (PySem.W.looks_findIn X hi) hb (.inr ⟨rfl, rfl⟩) h
end

/-! ### the attributes as a list of pairs -/
def putF (f : Str) (v : V) : List (Str × V) → List (Str × V)
  | [] => [(f, v)]
  | (g, x) :: r => if g = f then (g, v) :: r else (g, x) :: putF f v r
theorem lookup_putF (f g : Str) (v : V) : ∀ fs : List (Str × V), (putF f v fs).lookup g = if g = f then some v else fs.lookup g
  | [] => by
    show List.lookup g [(f, v)] = _
    by_cases h : g = f
    · have hb : (g == f) = true := beq_iff_eq.mpr h
      simp only [List.lookup, hb, if_pos h]
    · have hb : (g == f) = false := beq_eq_false_iff_ne.mpr h
      simp only [List.lookup, hb, if_neg h]
  | (k, x) :: r => by
    have ih := lookup_putF f g v r
    rw [show putF f v ((k, x) :: r) = (if k = f then (k, v) :: r else (k, x) :: putF f v r) from rfl]
    by_cases hk : k = f
    · rw [if_pos hk]
      by_cases h : g = k
      · have hb : (g == k) = true := beq_iff_eq.mpr h
        simp only [List.lookup, hb, if_pos (h.trans hk)]
      · have hb : (g == k) = false := beq_eq_false_iff_ne.mpr h
        simp only [List.lookup, hb, if_neg (fun e : g = f => h (e.trans hk.symm))]
    · rw [if_neg hk]
      by_cases h : g = k
      · have hb : (g == k) = true := beq_iff_eq.mpr h
        simp only [List.lookup, hb, if_neg (fun e : g = f => hk (h.symm.trans e))]
      · have hb : (g == k) = false := beq_eq_false_iff_ne.mpr h
        simp only [List.lookup, hb]
        exact ih
theorem keys_putF (f : Str) (v : V) : ∀ fs : List (Str × V), f ∈ (putF f v fs).map (·.1) ∧ ∀ g, g ∈ fs.map (·.1) → g ∈ (putF f v fs).map (·.1)
  | [] => ⟨by simp [putF], fun g h => by simp at h⟩
  | (k, x) :: r => by
    obtain ⟨i1, i2⟩ := keys_putF f v r
    rw [show putF f v ((k, x) :: r) = (if k = f then (k, v) :: r else (k, x) :: putF f v r) from rfl]
    by_cases hk : k = f
    · rw [if_pos hk]
      subst hk
      exact ⟨by simp, fun g h => by simpa using h⟩
    · rw [if_neg hk]
      refine ⟨?_, fun g h => ?_⟩
      · rw [List.map_cons]
        exact List.mem_cons_of_mem _ i1
      · rw [List.map_cons] at h ⊢
        rcases List.mem_cons.mp h with e | e
        · exact List.mem_cons.mpr (.inl e)
        · exact List.mem_cons_of_mem _ (i2 g e)
theorem length_putF (f : Str) (v : V) : ∀ fs : List (Str × V), (putF f v fs).length ≤ fs.length + 1
  | [] => by simp [putF]
  | (k, x) :: r => by
    have ih := length_putF f v r
    rw [show putF f v ((k, x) :: r) = (if k = f then (k, v) :: r else (k, x) :: putF f v r) from rfl]
    by_cases hk : k = f
    · rw [if_pos hk, List.length_cons, List.length_cons]; omega
    · rw [if_neg hk, List.length_cons, List.length_cons]; omega

theorem RelO.some_of {v : V} {o : Option Value} (r : RelO (some v) o) : ∃ u, o = some u ∧ RelV v u := by
  cases o with
  | none => exact (show False from r).elim
  | some u => exact ⟨u, rfl, r⟩
theorem RelO.none_of {o : Option Value} (r : RelO none o) : o = none := by
  cases o with
  | none => rfl
  | some u => exact (show False from r).elim
theorem handed_of {v : V} {u : Value} (r : RelV v u) : PySem.W.handedIn u = true := by
  cases v with
  | non => cases (show u = Value.none from r); rfl
  | bl b => cases (show u = Value.bool b from r); rfl
  | int i => obtain ⟨t, e⟩ := (show ∃ t, u = Value.int i t from r); cases e; rfl
  | str x => obtain ⟨t, e⟩ := (show ∃ t, u = Value.str x t from r); cases e; rfl
  | byt b => obtain ⟨t, e⟩ := (show ∃ t, u = Value.bytes b t from r); cases e; rfl
  | flt b => obtain ⟨t, e⟩ := (show ∃ t, u = Value.float b t from r); cases e; rfl
  | ref a => cases (show u = Value.ref a from r); rfl
  | ty n => cases (show u = Value.type n from r); rfl

section
variable {P : Program} {w : World} {H H' : Hp} {h h' : Heap} {a C dx : Addr} {fs fs' : List (Str × V)}
theorem ins_get (hok : HOk P w H h) (e : H a = some (.ins C dx fs)) : ∃ mA, ObjM h a dx C mA ∧ (∀ f, RelO (fs.lookup f) (mA f)) ∧ PySem.Within mA (fs.map (·.1)) ∧ fs.length ≤ 1000 ∧ H dx = some (.own a) := by
  obtain ⟨d, z, ne, ob, mA, n, r, q⟩ := (show ObjOk P w H h a (.ins C dx fs) from hok a _ e)
  exact ⟨mA, ⟨ob, n, ne⟩, r, q, z, d⟩
end

/-! ### what of the text a class must have -/
structure Cls (K : PySem.W.Frag) (C : Addr) : Prop where
  pg : PySem.W.plainGet K C Str.empty = true
  hd : PySem.W.hasDictIn K C = true
  po : PySem.W.plainOver K C = true
  sa : PySem.W.findIn K (.ref C) "__setattr__" = some (some (.builtin "object.__setattr__"))
theorem Cls.get {K : PySem.W.Frag} {C : Addr} (c : Cls K C) (f : Str) : PySem.W.plainGet K C f = true := c.pg
/-- no class of it has the name -/
def NoAttr (K : PySem.W.Frag) (C : Addr) (f : Str) : Prop := PySem.W.findIn K (.ref C) f = some none
theorem NoAttr.taker {K : PySem.W.Frag} {C : Addr} {f : Str} (n : NoAttr K C f) : PySem.W.takerIn K C f = some none := by
  unfold PySem.W.takerIn
  rw [show PySem.W.findIn K (.ref C) f = some none from n]
  rfl
/-- a constant of the class -/
structure Con (K : PySem.W.Frag) (C : Addr) (f : Str) (v : V) (u : Value) : Prop where
  at_ : PySem.W.findIn K (.ref C) f = some (some u)
  rel : RelV v u
  get : PySem.W.specialIn K u "__get__" = some none
  cp : PySem.W.copiedNames.contains f = false
/-- a method: a plain def of the class or of one above it -/
structure Meth (K : PySem.W.Frag) (C : Addr) (m : Str) (f : Addr) : Prop where
  at_ : PySem.W.findIn K (.ref C) m = some (some (.ref f))
  fn : PySem.W.isFn K (.ref f) = true
  kp : PySem.W.keepIn K (.ref f) = true

section
variable {X : Cx} {pins : List (Addr × Obj)} {σ : St} {H : Hp} {s : Shared} {a C dx : Addr} {fs : List (Str × V)} {f : Str} {v : V} {A : Around} {E : Value → Shared → Prop}

theorem getattr_ok {b : Bool} {Q : Value → Shared → Prop} (I : Inv X pins σ H s) (e : H a = some (.ins C dx fs)) (c : Cls X.K C) (n : NoAttr X.K C f) (l : fs.lookup f = some v)
    (h : ∀ u s', Inv X pins σ H s' → RelV v u → Q u s') : wpAny (model X.prog X.w) A (getAttr (.ref a) f b) Q E s := by
  obtain ⟨mA, O, r, _, _, _⟩ := ins_get I.hok e
  obtain ⟨u, hu, ru⟩ := RelO.some_of (v := v) (o := mA f) (by rw [← l]; exact r f)
  exact get_map I.kIn O (c.get f) c.hd n hu (handed_of ru) (h u _ (I.tok _) ru)

theorem getcon_ok {b : Bool} {u : Value} {Q : Value → Shared → Prop} (I : Inv X pins σ H s) (e : H a = some (.ins C dx fs)) (c : Cls X.K C) (k : Con X.K C f v u) (l : fs.lookup f = none)
    (h : ∀ s', Inv X pins σ H s' → Q u s') : wpAny (model X.prog X.w) A (getAttr (.ref a) f b) Q E s := by
  obtain ⟨mA, O, r, _, _, _⟩ := ins_get I.hok e
  have hn : mA f = none := RelO.none_of (by rw [← l]; exact r f)
  exact get_const I.kIn O (c.get f) c.hd k.at_ k.get k.cp hn (handed_of k.rel) (h _ (I.tok _))

theorem getmeth_ok {m : Str} {g : Addr} {pl : Sem Bool} {Q : Value × List Value → Shared → Prop} (I : Inv X pins σ H s) (e : H a = some (.ins C dx fs)) (c : Cls X.K C) (k : Meth X.K C m g) (l : fs.lookup m = none)
    (h : Q (.ref g, [.ref a]) s) : wpAny (model X.prog X.w) A (getMethod (.ref a) m pl) Q E s := by
  obtain ⟨mA, O, r, _, _, _⟩ := ins_get I.hok e
  have hn : mA m = none := RelO.none_of (by rw [← l]; exact r m)
  exact get_meth I.kIn O (c.get m) k.at_ k.fn hn h

theorem setattr_ok {y : V} {u : Value} {Q : Unit → Shared → Prop} (I : Inv X pins σ H s) (e : H a = some (.ins C dx fs)) (c : Cls X.K C) (n : NoAttr X.K C f) (hl : fs.length < 1000) (ry : RelV y u)
    (h : ∀ s', Inv X pins σ (upd H a (.ins C dx (putF f y fs))) s' → Q () s') : wpAny (model X.prog X.w) A (setAttr (.ref a) f u) Q E s := by
  obtain ⟨mA, O, r, wi, _, ho⟩ := ins_get I.hok e
  have hz : (fs.map (·.1)).length ≤ sizeLine := by rw [List.length_map, sizeLine_eq]; omega
  refine set_map I.kIn O c.sa c.po n.taker c.hd wi hz fun h' O' sb => h _ ?_
  have hd : ∃ o, h'.get? dx = some o := let ⟨o, _, _, e', _⟩ := O'.ns; ⟨o, e'⟩
  refine I.write (x := a) (e := dx) (by rw [e]; exact True.intro) (.inr ho) (fun b q hb z => (sb.2 b hb).trans z) hd ?_
  refine ⟨by rw [upd_ne O.ne]; exact ho, ?_, O.ne, O'.obj, _, O'.ns, fun g => ?_, fun g hg => ?_⟩
  · have := length_putF f y fs; omega
  · show RelO ((putF f y fs).lookup g) (if g = f then some u else mA g)
    rw [lookup_putF]
    by_cases q : g = f
    · rw [if_pos q, if_pos q]; exact ry
    · rw [if_neg q, if_neg q]; exact r g
  · by_cases q : g = f
    · rw [q]; exact (keys_putF f y fs).1
    · refine (keys_putF f y fs).2 g (wi g fun z => hg ?_)
      show (if g = f then some u else mA g) = none
      rw [if_neg q]; exact z

/-- a new instance, tracked, without attributes -/
theorem Inv.made (I : Inv X pins σ H s) : Inv X pins σ (upd (upd H s.heap.objs.size (.own (s.heap.objs.size + 1))) (s.heap.objs.size + 1) (.ins C s.heap.objs.size []))
    { s with heap := (s.heap.push PySem.W.emptyDict).push (PySem.W.instObj C s.heap.objs.size) } := by
  have e1 : (s.heap.push PySem.W.emptyDict).get? s.heap.objs.size = some PySem.W.emptyDict := Heap.get?_push_size s.heap rfl
  have e2 : ((s.heap.push PySem.W.emptyDict).push (PySem.W.instObj C s.heap.objs.size)).get? (s.heap.objs.size + 1) = some (PySem.W.instObj C s.heap.objs.size) := by
    have := Heap.get?_push_size (s.heap.push PySem.W.emptyDict) (o := PySem.W.instObj C s.heap.objs.size) rfl
    rwa [Heap.size_push] at this
  have e3 : (s.heap.push PySem.W.emptyDict).Ns s.heap.objs.size (fun _ => none) := ⟨PySem.W.emptyDict, #[], _, e1, rfl, (fun e he => absurd he (by simp)), fun _ => rfl⟩
  have I1 := I.laid (a := s.heap.objs.size) (o := .own (s.heap.objs.size + 1)) (h' := s.heap.push PySem.W.emptyDict) (t' := s.toks) (fun b u q => Heap.get?_push_of_some _ q) (Nat.le_refl _) ⟨_, e1⟩
  refine I1.laid (a := s.heap.objs.size + 1) (o := .ins C s.heap.objs.size []) (t' := s.toks) (fun b u q => Heap.get?_push_of_some _ q) (Nat.le_of_eq (Heap.size_push _ _)) ?_
  have ne : s.heap.objs.size ≠ s.heap.objs.size + 1 := Nat.ne_of_lt (Nat.lt_succ_self _)
  refine ⟨by rw [upd_ne ne, upd_same], Nat.zero_le _, ne, e2, fun _ => none, (Heap.Ns1.of_empty e3).at fun o q => Heap.get?_push_of_some _ q, fun _ => True.intro, fun y hy => absurd rfl hy⟩

/-- e.f where nothing but the object is asked: through attributeBase (super) and the last hold -/
theorem attr_of {prog : Program} {w : World} {env : Env} {e : Expr} {f : Str} {pos : Pos} {s : Shared} {Q : Value → Shared → Prop} (hb : attributeBase e f env (eval e env) = eval e env)
    (h : wpAny (model prog w) A (eval e env) (fun o s₁ => wpAny (model prog w) A (getAttr o f true) Q E s₁) E s) : wpAny (model prog w) A (eval (.Attribute e f pos) env) Q E s :=
  Attribute_any_ h (by rw [arm_eval_Attribute, hb])
end

/-! ### readings and rules -/
/-- e.f, an attribute of the instance -/
def tFld (K : PySem.W.Frag) (ta : TE) (f : Str) : TE := fun σ H Q => ta σ H fun x H1 => ∃ a C dx fs v, x = .ref a ∧ H1 a = some (.ins C dx fs) ∧ Cls K C ∧ NoAttr K C f ∧ fs.lookup f = some v ∧ Q v H1
/-- e.f, a constant of the class -/
def tCon (K : PySem.W.Frag) (ta : TE) (f : Str) : TE := fun σ H Q => ta σ H fun x H1 => ∃ a C dx fs v u, x = .ref a ∧ H1 a = some (.ins C dx fs) ∧ Cls K C ∧ Con K C f v u ∧ fs.lookup f = none ∧ Q v H1
/-- e.f = value -/
def sFld (K : PySem.W.Frag) (ta tv : TE) (f : Str) : TS := fun D σ H => tv σ H fun y H1 => ta σ H1 fun x H2 => ∃ a C dx fs, x = .ref a ∧ H2 a = some (.ins C dx fs) ∧ Cls K C ∧ NoAttr K C f ∧ fs.length < 1000 ∧
  D.nx σ (upd H2 a (.ins C dx (putF f y fs)))
/-- an augmented operator on two values -/
def InOp (X : Cx) (op : Operator) (rd : V → V → Hp → VK → Prop) : Prop :=
  ∀ (pins : List (Addr × Obj)) (s : Shared) (σ : St) (H : Hp) (x y : V) (u v : Value) (Q : VK), Inv X pins σ H s → RelV x u → RelV y v → rd x y H Q → wpAny (model X.prog X.w) X.A (inplaceOp op u v) (EP X pins σ Q) X.xe s
/-- e.f op= value -/
def sFldAug (K : PySem.W.Frag) (ta tv : TE) (rd : V → V → Hp → VK → Prop) (f : Str) : TS := fun D σ H => ta σ H fun x H1 => ∃ a C dx fs v, x = .ref a ∧ H1 a = some (.ins C dx fs) ∧ Cls K C ∧ NoAttr K C f ∧ fs.lookup f = some v ∧
  tv σ H1 fun y H2 => rd v y H2 fun z H3 => ∃ dx' fs', H3 a = some (.ins C dx' fs') ∧ fs'.length < 1000 ∧ D.nx σ (upd H3 a (.ins C dx' (putF f z fs')))

section
variable {X : Cx} {o e value : Expr} {f : Str} {pos pos' tpos : Pos} {ta tv : TE}
theorem pe_fld (he : PE X e ta) (hb : attributeBase e f X.env (eval e X.env) = eval e X.env) : PE X (.Attribute e f pos) (tFld X.K ta f) := by
  intro pins s σ H Q I h
  refine attr_of hb (thn (he pins s σ H _ I h) fun u s1 ⟨x, H1, I1, rx, a, C, dx, fs, v, ex, ea, c, n, l, q⟩ => ?_)
  subst ex
  obtain rfl : u = Value.ref a := rx
  exact getattr_ok I1 ea c n l fun u' s2 I2 ru => ⟨v, H1, I2, ru, q⟩
theorem pe_con (he : PE X e ta) (hb : attributeBase e f X.env (eval e X.env) = eval e X.env) : PE X (.Attribute e f pos) (tCon X.K ta f) := by
  intro pins s σ H Q I h
  refine attr_of hb (thn (he pins s σ H _ I h) fun u s1 ⟨x, H1, I1, rx, a, C, dx, fs, v, u0, ex, ea, c, k, l, q⟩ => ?_)
  subst ex
  obtain rfl : u = Value.ref a := rx
  exact getcon_ok I1 ea c k l fun s2 I2 => ⟨v, H1, I2, k.rel, q⟩
theorem ps_fld (ha : PE X o ta) (hv : PE X value tv) (hs : swapsWith value (some (.Attribute o f pos')) pos.line X.env = pure false) : PS X (.Assign [.Attribute o f pos'] value pos) (sFld X.K ta tv f) := by
  intro pins s σ H D I h
  refine plainObj_wpAny_Assign_Attribute (thn (hv pins s σ H _ I h) fun u s1 ⟨y, H1, I1, ry, q⟩ => thn (ha pins s1 σ H1 _ I1 q) fun ov s2 ⟨x, H2, I2, rx, a, C, dx, fs, ex, ea, c, n, l, q2⟩ => ?_) hs
  subst ex
  obtain rfl : ov = Value.ref a := rx
  exact setattr_ok I2 ea c n l ry fun s3 I3 => ⟨σ, _, I3, q2⟩
theorem ps_fldaug {op : Operator} {rd : V → V → Hp → VK → Prop} (ha : PE X o ta) (hv : PE X value tv) (hop : InOp X op rd) : PS X (.AugAssign (.Attribute o f tpos) op value pos) (sFldAug X.K ta tv rd f) := by
  intro pins s σ H D I h
  refine wpAny_AugAssign_AttributeAny (thn (ha pins s σ H _ I h) fun ov s1 ⟨x, H1, I1, rx, a, C, dx, fs, v, ex, ea, c, n, l, q⟩ => ?_)
  subst ex
  obtain rfl : ov = Value.ref a := rx
  refine getattr_ok I1 ea c n l fun u s2 I2 ru => thn (hv pins s2 σ H1 _ I2 q) fun w3 s3 ⟨y, H2, I3, ry, q3⟩ => thn (hop pins s3 σ H2 v y u w3 _ I3 ru ry q3) fun w4 s4 ⟨z, H3, I4, rz, dx', fs', ea', l', q4⟩ => ?_
  exact setattr_ok I4 ea' c n l' rz fun s5 I5 => ⟨σ, _, I5, q4⟩
def rAdd : V → V → Hp → VK → Prop := fun x y H Q => ∃ i j, x = .int i ∧ y = .int j ∧ Q (.int (i + j)) H
def rSub : V → V → Hp → VK → Prop := fun x y H Q => ∃ i j, x = .int i ∧ y = .int j ∧ Q (.int (i - j)) H
theorem in_add : InOp X .Add rAdd := by
  rintro pins s σ H x y u v Q I rx ry ⟨i, j, rfl, rfl, q⟩
  obtain ⟨t, rfl⟩ := (show ∃ t, u = Value.int i t from rx)
  obtain ⟨t', rfl⟩ := (show ∃ t', v = Value.int j t' from ry)
  exact PyProof.Rows.iadd_int ⟨.int (i + j), H, I.tok _, ⟨_, rfl⟩, q⟩
theorem in_sub : InOp X .Sub rSub := by
  rintro pins s σ H x y u v Q I rx ry ⟨i, j, rfl, rfl, q⟩
  obtain ⟨t, rfl⟩ := (show ∃ t, u = Value.int i t from rx)
  obtain ⟨t', rfl⟩ := (show ∃ t', v = Value.int j t' from ry)
  exact PyProof.Rows.isub_int ⟨.int (i - j), H, I.tok _, ⟨_, rfl⟩, q⟩

/-- what is between an instance and its method: the tree of a method call -/
theorem methcall_of {pl : Sem Bool} {m : Str} {apos : Pos} {args : List Expr} {pins : List (Addr × Obj)} {s : Shared} {σ : St} {H : Hp} {Q : Value → Shared → Prop} {te : TE} (he : PE X e te) (I : Inv X pins σ H s)
    (h : te σ H fun x H1 => ∃ a C dx fs g, x = .ref a ∧ H1 a = some (.ins C dx fs) ∧ Cls X.K C ∧ Meth X.K C m g ∧ fs.lookup m = none ∧
      ∀ s1, Inv X pins σ H1 s1 → wpAny (model X.prog X.w) X.A (callWith pos (.ref g) [.ref a] (backTo pos (starEach args X.env)) (backToKw pos (keywordEach [] X.env))) Q X.xe s1)
    (ht : eval (.Call (.Attribute e m apos) args [] pos) X.env = (do
      let ov ← eval e X.env
      standAt apos.atName
      let (f, first) ← holding [ov] (getMethod ov m pl)
      callWith pos f first (backTo pos (starEach args X.env)) (backToKw pos (keywordEach [] X.env)))) :
    wpAny (model X.prog X.w) X.A (eval (.Call (.Attribute e m apos) args [] pos) X.env) Q X.xe s := by
  refine PySem.W.methodCall_KW (pl := pl) (thn (he pins s σ H _ I h) fun u s1 ⟨x, H1, I1, rx, a, C, dx, fs, g, ex, ea, c, k, l, q⟩ => ?_) ht
  subst ex
  obtain rfl : u = Value.ref a := rx
  exact getmeth_ok I1 ea c k l (q s1 I1)
end

/-! ### isinstance -/
section
variable {X : Cx} {pins : List (Addr × Obj)} {σ : St} {H : Hp} {s : Shared} {A : Around} {E : Value → Shared → Prop} {Q : Value → Shared → Prop} {c : Value} {b : Bool}
/-- the type of a value, as the fragment's deciders take it; for an instance its class -/
inductive TyOf (K : PySem.W.Frag) (H : Hp) : V → Value → Prop where
  | non : TyOf K H .non (.type "NoneType")
  | bl (x : Bool) : TyOf K H (.bl x) (.type "bool")
  | int (i : Int) : TyOf K H (.int i) (.type "int")
  | str (x : Str) : TyOf K H (.str x) (.type "str")
  | flt (x : UInt64) : TyOf K H (.flt x) (.type "float")
  | lst {a : Addr} {xs : List V} (e : H a = some (.lst xs)) : TyOf K H (.ref a) (.type "list")
  | frz {a : Addr} {o : Obj} {xs : List V} (e : H a = some (.frz o (.lst xs))) : TyOf K H (.ref a) (.type "list")
  | tup {a : Addr} {xs : List V} (e : H a = some (.tup xs)) : TyOf K H (.ref a) (.type "tuple")
  | dK {a : Addr} {kvs : List (Key × V)} (e : H a = some (.dK kvs)) : TyOf K H (.ref a) (.type "dict")
  | dT {a : Addr} {kvs : List (List Key × V)} (e : H a = some (.dT kvs)) : TyOf K H (.ref a) (.type "dict")
  | ins {a C dx : Addr} {fs : List (Str × V)} (e : H a = some (.ins C dx fs)) (cl : Cls K C) (ha : PySem.W.findIn K (.ref C) "__class__" = some (some (.builtin "object.__class__")))
      (hn : PySem.W.specialIn K (.builtin "object.__class__") "__get__" = some (some (.builtin "getset_descriptor.__get__"))) (htk : PySem.W.takesIn K (.builtin "object.__class__") = some true)
      (hm : PySem.W.mroIn K C (.type "object") = some true) : TyOf K H (.ref a) (.ref C)
/-- isinstance(x, c) for one class c, a built-in or an own one: kitOne's answer -/
theorem isinst_ok {x : V} {u t : Value} (I : Inv X pins σ H s) (rx : RelV x u) (ty : TyOf X.K H x t) (e : PySem.W.kitOne X.K t c = some b) (h : ∀ tk, Q (.bool b) { s with toks := tk }) :
    wpAny (model X.prog X.w) A (call (.builtin "isinstance") [u, c]) Q E s := by
  cases ty with
  | non => cases (show u = Value.none from rx); exact PySem.W.kia_one PySem.W.kitx_none I.kIn True.intro e (fun z => nomatch z) h
  | bl y => cases (show u = Value.bool y from rx); exact PySem.W.kia_one PySem.W.kitx_bool I.kIn True.intro e (fun z => nomatch z) h
  | int i => obtain ⟨t, q⟩ := (show ∃ t, u = Value.int i t from rx); cases q; exact PySem.W.kia_one PySem.W.kitx_int I.kIn True.intro e (fun z => nomatch z) h
  | str y => obtain ⟨t, q⟩ := (show ∃ t, u = Value.str y t from rx); cases q; exact PySem.W.kia_one PySem.W.kitx_str I.kIn True.intro e (fun z => nomatch z) h
  | flt y => obtain ⟨t, q⟩ := (show ∃ t, u = Value.float y t from rx); cases q; exact PySem.W.kia_one PySem.W.kitx_float I.kIn True.intro e (fun z => nomatch z) h
  | @lst a xs ea =>
    cases (show u = Value.ref a from rx)
    obtain ⟨_, _, n, _, h1⟩ := (show ObjOk X.prog X.w H s.heap a (.lst xs) from I.hok a _ ea)
    exact PySem.W.kia_one PySem.W.kitx_list I.kIn ⟨_, h1, rfl⟩ e (fun z => nomatch z) h
  | @frz a ob xs ea =>
    cases (show u = Value.ref a from rx)
    obtain ⟨_, _, _, n, _, h1⟩ := (show ObjOk X.prog X.w H s.heap a (.frz ob (.lst xs)) from I.hok a _ ea)
    exact PySem.W.kia_one PySem.W.kitx_list I.kIn ⟨_, h1, rfl⟩ e (fun z => nomatch z) h
  | @tup a xs ea =>
    cases (show u = Value.ref a from rx)
    obtain ⟨_, _, _, p⟩ := (show ObjOk X.prog X.w H s.heap a (.tup xs) from I.hok a _ ea)
    obtain ⟨o, h1, h2, _⟩ := p
    exact PySem.W.kia_one PySem.W.kitx_tuple I.kIn ⟨o, h1, h2⟩ e (fun z => nomatch z) h
  | @dK a kvs ea =>
    cases (show u = Value.ref a from rx)
    obtain ⟨_, _, vs, _, p⟩ := (show ObjOk X.prog X.w H s.heap a (.dK kvs) from I.hok a _ ea)
    obtain ⟨o, es, ep, h1, h2, _⟩ := p
    exact PySem.W.kia_one PySem.W.kitx_dict I.kIn ⟨o, h1, h2.1⟩ e (fun z => nomatch z) h
  | @dT a kvs ea =>
    cases (show u = Value.ref a from rx)
    obtain ⟨_, _, xs, _, o, es, ep, h1, h2, _⟩ := (show ObjOk X.prog X.w H s.heap a (.dT kvs) from I.hok a _ ea)
    exact PySem.W.kia_one PySem.W.kitx_dict I.kIn ⟨o, h1, h2.1⟩ e (fun z => nomatch z) h
  | @ins a C dx fs ea cl ha hn htk hm =>
    cases (show u = Value.ref a from rx)
    obtain ⟨mA, O, _⟩ := ins_get I.hok ea
    obtain ⟨od, J, _⟩ := O.look
    exact PySem.W.kia_one (PySem.W.kitx_own (cl.get _) cl.hd ha hn htk hm) I.kIn J e (fun z => nomatch z) h
end
end L2

namespace L2
open PySem PySem.Spec PyProof.Rows

/-! ### room -/
structure Room (k : Nat) (A : Around) : Prop where
  hd : A.handled = none
  dp : A.depth + 3 * k + 5 < recursionLimit
  un : A.units + 16 * k + 1200 < cLine
  gd : A.guards = some []
theorem Room.mono {j k : Nat} {A : Around} (r : Room k A) (h : j ≤ k) : Room j A := ⟨r.hd, by have := r.dp; omega, by have := r.un; omega, r.gd⟩
theorem Room.deeper {k : Nat} {A : Around} (r : Room (k + 1) A) (env : Env) : Room k (A.deeper env) :=
  ⟨r.hd, by have := r.dp; show A.depth + 1 + 3 * k + 5 < _; omega, by have := r.un; show A.units + 3 + 16 * k + 1200 < _; omega, r.gd⟩
theorem Room.in1 {k : Nat} {A : Around} (r : Room (k + 1) A) : Room k A.in1 :=
  ⟨r.hd, by have := r.dp; show A.depth + 3 * k + 5 < _; omega, by have := r.un; show A.units + 1 + 16 * k + 1200 < _; omega, r.gd⟩
theorem make_depth {A : Around} {C : Addr} {us : List Value} {kw : List (Str × Value)} : (A.under (.builtin "type.__call__" ⟨.ref C :: us, kw⟩)).depth = A.depth + 1 := by
  first | rfl | simp [Around.under, Code.weight, Code.isCreation, Code.isGuard, Code.isCaller, Code.frames, Code.isFrame, guardIds]
theorem make_units {A : Around} {C : Addr} {us : List Value} {kw : List (Str × Value)} : (A.under (.builtin "type.__call__" ⟨.ref C :: us, kw⟩)).units = A.units + 1 := by
  first | rfl | simp [Around.under, Code.cUnits, Code.frames, Code.isFrame]
theorem Room.make {k : Nat} {A : Around} (r : Room (k + 1) A) (C : Addr) (us : List Value) (kw : List (Str × Value)) : Room k (A.under (.builtin "type.__call__" ⟨.ref C :: us, kw⟩)) :=
  ⟨r.hd, by have := r.dp; rw [make_depth]; omega, by have := r.un; rw [make_units]; omega, by first | exact r.gd | simpa [Around.under, Code.isGuard, guardIds] using r.gd⟩
theorem Room.depth {k : Nat} {A : Around} (r : Room k A) : A.depth < recursionLimit := by have := r.dp; omega
theorem Room.units {k : Nat} {A : Around} (r : Room k A) : A.units + 64 < cLine := by have := r.un; omega
theorem Room.units0 {k : Nat} {A : Around} (r : Room k A) : A.units < cLine := by have := r.un; omega

/-! ### argument lists and displays -/
def tNil : TA := fun _ H Q => Q [] H
def tCons (ta : TE) (tr : TA) : TA := fun σ H Q => ta σ H fun x H1 => tr σ H1 fun xs H2 => Q (x :: xs) H2
section
variable {X : Cx} {e : Expr} {es : List Expr} {te : TE} {t : TA} {pos : Pos}
theorem pa_nil : PA X [] tNil := fun _ _ _ _ H Q I h => Calls.spliced_nil ⟨[], H, I, .nil, h⟩
theorem pa_cons (ha : PE X e te) (hr : PA X es t) (hs : starEach (e :: es) X.env = (false, eval e X.env) :: starEach es X.env := by rfl) : PA X (e :: es) (tCons te t) := by
  intro pos pins s σ H Q I h
  rw [hs]
  show wpAny _ _ (spliced ((false, eval e X.env) :: backTo pos (starEach es X.env))) _ _ s
  refine Calls.spliced_cons (thn (ha pins s σ H _ I h) fun u s1 ⟨x, H1, I1, r1, q1⟩ => ?_)
  exact thn (hr pos pins s1 σ H1 _ I1 q1) fun us s2 ⟨xs, H2, I2, r2, q2⟩ => ⟨x :: xs, H2, I2, .cons r1 r2, q2⟩

/-- a tuple, a list of written items -/
def tTup (t : TA) : TE := fun σ H Q => t σ H fun xs H1 => xs.length ≤ sizeLine ∧ ∀ p, H1 p = none → Q (.ref p) (upd H1 p (.tup xs))
def tLst (t : TA) : TE := fun σ H Q => t σ H fun xs H1 => xs.length ≤ sizeLine ∧ ∀ p, H1 p = none → Q (.ref p) (upd H1 p (.lst xs))
theorem pe_tup {x1} (h : PA X es t) : PE X (.Tuple es x1 pos) (tTup t) := by
  intro pins s σ H Q I hq
  refine wpAny_Tuple_spliced (thn (h pos pins s σ H _ I hq) fun us s1 ⟨xs, H1, I1, r, z, q⟩ => ⟨by rw [← r.length]; exact z, ?_⟩)
  have hf : H1 s1.heap.objs.size = none := I1.hok.fresh (Nat.le_refl _)
  refine ⟨.ref s1.heap.objs.size, upd H1 s1.heap.objs.size (.tup xs), I1.laid (t' := s1.toks) (fun b u e => Heap.get?_push_of_some _ e) (Nat.le_refl _) ?_, rfl, q _ hf⟩
  exact ⟨z, us, r, ⟨_, Heap.get?_push_size _ rfl, rfl, _, rfl⟩⟩
theorem pe_lst (h : PA X es t) : PE X (.List es pos) (tLst t) := by
  intro pins s σ H Q I hq
  refine wpAny_List_spliced (thn (h pos pins s σ H _ I hq) fun us s1 ⟨xs, H1, I1, r, z, q⟩ => ⟨by rw [← r.length]; exact z, ?_⟩)
  have hf : H1 s1.heap.objs.size = none := I1.hok.fresh (Nat.le_refl _)
  refine ⟨.ref s1.heap.objs.size, upd H1 s1.heap.objs.size (.lst xs), I1.laid (t' := s1.toks) (fun b u e => Heap.get?_push_of_some _ e) (Nat.le_refl _) ?_, rfl, q _ hf⟩
  exact ⟨z, us, 0, r, Heap.get?_push_size _ rfl⟩
end

/-! ### what a def promises -/
/-- a def's promise: the bound arguments in the parameters' order, the heap, the wanted end, the wanted exception -/
abbrev Sp := List V → Hp → VK → XK → Prop
/-- how an exception lies behind a call (file 08 gives it): the callers' frames, abstract heap and state ahead of the call, the wish, the exception, the state -/
abbrev CXT := List Env → Hp → Shared → XK → Value → Shared → Prop

/-- the state at a call -/
structure Env0 (P : Program) (w : World) (K : PySem.W.Frag) (mg : Str → Option Value) (base : Heap) (A : Around) (outer : List Env) (s : Shared) (H : Hp) : Prop where
  frames : A.frames = some outer
  mod : Mod K mg base
  bs : ∀ b o, base.get? b = some o → s.heap.get? b = some o ∧ H b = none
  bsz : base.objs.size ≤ s.heap.objs.size
  funs : s.heap.FunFrames base outer
  frf : ∀ b ∈ frs outer, H b = none
  hok : HOk P w H s.heap
  bare : AllBare s.gens
/-- a call's end -/
def CE (outer : List Env) (P : Program) (w : World) (H : Hp) (s : Shared) (Q : VK) (u : Value) (s' : Shared) : Prop :=
  ∃ v H', s'.os = s.os ∧ AllBare s'.gens ∧ Un (frs outer) [] H H' s.heap s'.heap ∧ HOk P w H' s'.heap ∧ RelV v u ∧ Q v H'
def CR (CX : CXT) (outer : List Env) (P : Program) (w : World) (H : Hp) (s : Shared) (Q : VK) (E : XK) (r : Result) (s' : Shared) : Prop :=
  match r with
  | .ok (.ret u) => CE outer P w H s Q u s'
  | .ok _ => False
  | .error e => CX outer H s E e s'
structure FnOk (P : Program) (w : World) (K : PySem.W.Frag) (mg : Str → Option Value) (base : Heap) (CX : CXT) (k : Nat) (f : Addr) (fd : FuncData) (ps : List Str) (sp : Sp) : Prop where
  len : ∀ vs H Q E, sp vs H Q E → vs.length = ps.length
  run : ∀ (A : Around) (outer : List Env) (s : Shared) (H : Hp) (args : Args) (us : List Value) (vs : List V) (Q : VK) (E : XK), Room k A → Env0 P w K mg base A outer s H → BindsTo s fd args (ps.zip us) → Vals vs us → sp vs H Q E →
    codeAny (model P w) A (.call (.ref f) args) (CR CX outer P w H s Q E) s
theorem FnOk.mono {P : Program} {w : World} {K : PySem.W.Frag} {mg : Str → Option Value} {base : Heap} {CX : CXT} {j k : Nat} {f : Addr} {fd : FuncData} {ps : List Str} {sp : Sp} (F : FnOk P w K mg base CX j f fd ps sp) (h : j ≤ k) :
    FnOk P w K mg base CX k f fd ps sp := ⟨F.len, fun A outer s H args us vs Q E hr => F.run A outer s H args us vs Q E (hr.mono h)⟩
/-- a weaker promise -/
theorem FnOk.imp {P : Program} {w : World} {K : PySem.W.Frag} {mg : Str → Option Value} {base : Heap} {CX : CXT} {k : Nat} {f : Addr} {fd : FuncData} {ps : List Str} {sp sp' : Sp} (F : FnOk P w K mg base CX k f fd ps sp)
    (h : ∀ vs H Q E, sp' vs H Q E → sp vs H Q E) : FnOk P w K mg base CX k f fd ps sp' :=
  ⟨fun vs H Q E q => F.len vs H Q E (h _ _ _ _ q), fun A outer s H args us vs Q E hr he hb hv hs => F.run A outer s H args us vs Q E hr he hb hv (h _ _ _ _ hs)⟩

theorem Env0.make {P : Program} {w : World} {K : PySem.W.Frag} {mg : Str → Option Value} {base : Heap} {A : Around} {outer : List Env} {s : Shared} {H : Hp} (e : Env0 P w K mg base A outer s H) (C : Addr) (us : List Value) (kw : List (Str × Value)) :
    Env0 P w K mg base (A.under (.builtin "type.__call__" ⟨.ref C :: us, kw⟩)) outer s H := ⟨by first | exact e.frames | (simpa [Around.under, Code.envs, Code.isFrame, pushEnvs] using e.frames), e.mod, e.bs, e.bsz, e.funs, e.frf, e.hok, e.bare⟩
theorem Env0.in1 {P : Program} {w : World} {K : PySem.W.Frag} {mg : Str → Option Value} {base : Heap} {A : Around} {outer : List Env} {s : Shared} {H : Hp} (e : Env0 P w K mg base A outer s H) :
    Env0 P w K mg base A.in1 outer s H := ⟨e.frames, e.mod, e.bs, e.bsz, e.funs, e.frf, e.hok, e.bare⟩

section
variable {X : Cx} {pins : List (Addr × Obj)} {σ : St} {H : Hp} {s s' : Shared}
/-- from a body: what a callee wants -/
theorem Inv.env0 (I : Inv X pins σ H s) : Env0 X.prog X.w X.K X.mg X.base X.A X.stack s H :=
  ⟨I.ok.frames, I.ok.mod, I.bs, Nat.le_trans I.ok.bsz I.sz, I.stack, I.stkFree, I.hok, I.bare⟩
/-- behind a call -/
theorem Inv.after {Q : VK} {u : Value} (I : Inv X pins σ H s) (h : CE X.stack X.prog X.w H s Q u s') : EP X pins σ Q u s' := by
  obtain ⟨v, H', os, bare, un, hok, r, q⟩ := h
  obtain ⟨hh, g, d, t, os'⟩ := s'
  obtain rfl : os' = s.os := os
  exact ⟨v, H', I.call (h' := hh) (g' := g) (d' := d) (t' := t) (ch := []) un hok bare (fun b z => absurd z (by simp)), r, q⟩
end

/-! ### calls -/
/-- f(..): the written arguments, then the defaults dvs; E: what is wanted of an exception -/
def tCall (sp : Sp) (dvs : List V) (E : XK) (t : TA) : TE := fun σ H Q => t σ H fun vs H1 => sp (vs ++ dvs) H1 Q E
/-- o.m(..) of an instance of the class at C -/
def tMeth (C : Addr) (m : Str) (sp : Sp) (dvs : List V) (E : XK) (ta : TE) (t : TA) : TE := fun σ H Q => ta σ H fun x H1 => ∃ a dx fs, x = .ref a ∧ H1 a = some (.ins C dx fs) ∧ fs.lookup m = none ∧
  t σ H1 fun vs H2 => sp (x :: (vs ++ dvs)) H2 Q E
/-- C(..): a new instance and its dict, then __init__ -/
def tMake (C : Addr) (sp : Sp) (dvs : List V) (E : XK) (t : TA) : TE := fun σ H Q => t σ H fun vs H1 => ∀ x dx, H1 x = none → H1 dx = none → dx ≠ x →
  sp (.ref x :: (vs ++ dvs)) (upd (upd H1 dx (.own x)) x (.ins C dx [])) (fun v H2 => v = .non ∧ Q (.ref x) H2) E

/-- how the parameters are bound: us the positional arguments, kw the keywords' values by name, ds the defaults that fill up -/
def Binds (K : PySem.W.Frag) (fd : FuncData) (ps : List Str) (ds : List Value) : Prop :=
  ∀ (s : Shared) (us : List Value), K.In s.heap → (us ++ ds).length = ps.length → BindsTo s fd ⟨us, []⟩ (ps.zip (us ++ ds))
/-- every parameter is given -/
theorem Binds.all {K : PySem.W.Frag} {fd : FuncData} {ps : List Str} (h : ∀ us : List Value, us.length = ps.length → bindArgs fd ⟨us, []⟩ = pure (ps.zip us)) : Binds K fd ps [] := fun s us _ hl => by
  rw [List.append_nil] at hl ⊢
  exact .of_eq (h us hl)

/-- an exception of a callee reaches what this body wants of exceptions -/
def Passes (CX : CXT) (X : Cx) (E : XK) : Prop := ∀ (pins : List (Addr × Obj)) (σ : St) (H : Hp) (s : Shared) (e : Value) (s' : Shared), Inv X pins σ H s → CX X.stack H s E e s' → X.xe e s'

section
variable {X : Cx} {CX : CXT} {k : Nat} {f C : Addr} {fd : FuncData} {ps : List Str} {sp : Sp} {dvs : List V} {ds : List Value} {E : XK} {x m : Str} {p pos apos : Pos} {e o : Expr} {es : List Expr} {ta : TE} {t : TA}

/-- the callee runs -/
theorem run_fn {pins : List (Addr × Obj)} {σ : St} {H : Hp} {s : Shared} {Q : VK} {us : List Value} {vs : List V} (F : FnOk X.prog X.w X.K X.mg X.base CX k f fd ps sp) (hr : Room k X.A) (hb : Binds X.K fd ps ds) (hd : Vals dvs ds) (hx : Passes CX X E)
    (I : Inv X pins σ H s) (r : Vals vs us) (h : sp (vs ++ dvs) H Q E) : wpAny (model X.prog X.w) X.A (call (.ref f) us) (EP X pins σ Q) X.xe s := by
  have r2 : Vals (vs ++ dvs) (us ++ ds) := r.append hd
  have hl : (us ++ ds).length = ps.length := by rw [← r2.length]; exact F.len _ _ _ _ h
  refine wpAny_call (codeAny_mono (F.run X.A X.stack s H ⟨us, []⟩ (us ++ ds) (vs ++ dvs) Q E hr I.env0 (hb s us I.kIn hl) r2 h) fun r s' hq => ?_)
  cases r with
  | error e => exact hx pins σ H s e s' I hq
  | ok fl =>
    cases fl with
    | ret u => exact I.after hq
    | next => exact False.elim hq
    | brk => exact False.elim hq
    | cont => exact False.elim hq

theorem pe_call (F : FnOk X.prog X.w X.K X.mg X.base CX k f fd ps sp) (hr : Room k X.A) (hg : Gl X x) (hm : X.mg x = some (.ref f)) (hk : PySem.W.keepIn X.K (.ref f) = true) (hb : Binds X.K fd ps ds) (hd : Vals dvs ds) (hx : Passes CX X E)
    (ha : PA X (e :: es) t) (hdb : (x == ("__debug__" : Str)) = false := by decide) (he : starEach (e :: es) X.env = (false, eval e X.env) :: starEach es X.env := by rfl) (hpl : (backTo pos (starEach es X.env)).any (·.1) = false := by rfl) :
    PE X (.Call (.Name x p) (e :: es) [] pos) (tCall sp dvs E t) := by
  intro pins s σ H Q I h
  refine wpAny_Call_Name_kw (ld_glob I hg hm ?_ hdb)
  refine PySem.W.callWith_K (h₀ := X.base) I.ok.mod.kin hk (thn (ha pos pins s σ H _ I h) fun us s1 ⟨vs, H1, I1, r, q⟩ => ⟨I1.kIn, ?_⟩) he hpl
  exact run_fn F hr hb hd hx I1 r q
theorem pe_call0 (F : FnOk X.prog X.w X.K X.mg X.base CX k f fd ps sp) (hr : Room k X.A) (hg : Gl X x) (hm : X.mg x = some (.ref f)) (hk : PySem.W.keepIn X.K (.ref f) = true) (hb : Binds X.K fd ps ds) (hd : Vals dvs ds) (hx : Passes CX X E)
    (hdb : (x == ("__debug__" : Str)) = false := by decide) : PE X (.Call (.Name x p) [] [] pos) (tCall sp dvs E tNil) := by
  intro pins s σ H Q I h
  refine wpAny_Call_Name_kw (ld_glob I hg hm ?_ hdb)
  exact PySem.W.callWith_K0 I.kIn hk (run_fn (us := []) F hr hb hd hx I .nil h)

/-- o.m(e, ..) -/
theorem pe_meth {pl : Sem Bool} (he : PE X o ta) (c : Cls X.K C) (hm : Meth X.K C m f) (F : FnOk X.prog X.w X.K X.mg X.base CX k f fd ps sp) (hr : Room k X.A) (hb : Binds X.K fd ps ds) (hd : Vals dvs ds) (hx : Passes CX X E) (ha : PA X (e :: es) t)
    (hst : starEach (e :: es) X.env = (false, eval e X.env) :: starEach es X.env := by rfl) (hpl : (backTo pos (starEach es X.env)).any (·.1) = false := by rfl)
    (ht : eval (.Call (.Attribute o m apos) (e :: es) [] pos) X.env = (do
      let ov ← eval o X.env
      standAt apos.atName
      let (f, first) ← holding [ov] (getMethod ov m pl)
      callWith pos f first (backTo pos (starEach (e :: es) X.env)) (backToKw pos (keywordEach [] X.env))) := by rfl) :
    PE X (.Call (.Attribute o m apos) (e :: es) [] pos) (tMeth C m sp dvs E ta t) := by
  intro pins s σ H Q I h
  refine PySem.W.methodCall_KW (pl := pl) (thn (he pins s σ H _ I h) fun u s1 ⟨x, H1, I1, rx, a, dx, fs, ex, ea, l, q⟩ => ?_) ht
  subst ex
  obtain rfl : u = Value.ref a := rx
  refine getmeth_ok I1 ea c hm l ?_
  refine PySem.W.callWith_K (first := [.ref a]) (h₀ := X.base) I.ok.mod.kin hm.kp (thn (ha pos pins s1 σ H1 _ I1 q) fun us s2 ⟨vs, H2, I2, r, q2⟩ => ⟨I2.kIn, ?_⟩) hst hpl
  exact run_fn (us := .ref a :: us) (vs := .ref a :: vs) F hr hb hd hx I2 (.cons rfl r) q2
/-- o.m() -/
theorem pe_meth0 {pl : Sem Bool} (he : PE X o ta) (c : Cls X.K C) (hm : Meth X.K C m f) (F : FnOk X.prog X.w X.K X.mg X.base CX k f fd ps sp) (hr : Room k X.A) (hb : Binds X.K fd ps ds) (hd : Vals dvs ds) (hx : Passes CX X E)
    (ht : eval (.Call (.Attribute o m apos) [] [] pos) X.env = (do
      let ov ← eval o X.env
      standAt apos.atName
      let (f, first) ← holding [ov] (getMethod ov m pl)
      callWith pos f first (backTo pos (starEach [] X.env)) (backToKw pos (keywordEach [] X.env))) := by rfl) :
    PE X (.Call (.Attribute o m apos) [] [] pos) (tMeth C m sp dvs E ta tNil) := by
  intro pins s σ H Q I h
  refine PySem.W.methodCall_KW (pl := pl) (thn (he pins s σ H _ I h) fun u s1 ⟨x, H1, I1, rx, a, dx, fs, ex, ea, l, q⟩ => ?_) ht
  subst ex
  obtain rfl : u = Value.ref a := rx
  refine getmeth_ok I1 ea c hm l ?_
  exact PySem.W.callWith_K0 (first := [.ref a]) I1.kIn hm.kp (run_fn (us := [.ref a]) (vs := [.ref a]) F hr hb hd hx I1 (.cons rfl .nil) q)

/-- what a class must have to be made -/
structure Mk (K : PySem.W.Frag) (C f : Addr) : Prop where
  makes : PySem.W.makesIn K C = true
  init : PySem.W.findIn K (.ref C) "__init__" = some (some (.ref f))
  fn : PySem.W.isFn K (.ref f) = true
  kp : PySem.W.keepIn K (.ref C) = true

theorem run_make {pins : List (Addr × Obj)} {σ : St} {H : Hp} {s : Shared} {Q : VK} {us : List Value} {vs : List V} (M : Mk X.K C f) (F : FnOk X.prog X.w X.K X.mg X.base CX k f fd ps sp) (hr : Room (k + 1) X.A) (hb : Binds X.K fd ps ds) (hd : Vals dvs ds)
    (hx : Passes CX X E) (I : Inv X pins σ H s) (r : Vals vs us)
    (h : ∀ x dx, H x = none → H dx = none → dx ≠ x → sp (.ref x :: (vs ++ dvs)) (upd (upd H dx (.own x)) x (.ins C dx [])) (fun v H2 => v = .non ∧ Q (.ref x) H2) E) :
    wpAny (model X.prog X.w) X.A (call (.ref C) us) (EP X pins σ Q) X.xe s := by
  have hq := h (s.heap.objs.size + 1) s.heap.objs.size (I.hok.fresh (Nat.le_succ _)) (I.hok.fresh (Nat.le_refl _)) (Nat.ne_of_lt (Nat.lt_succ_self _))
  have I2 := Inv.made (C := C) I
  have r2 : Vals (V.ref (s.heap.objs.size + 1) :: (vs ++ dvs)) (Value.ref (s.heap.objs.size + 1) :: (us ++ ds)) := .cons rfl (r.append hd)
  have hl : (Value.ref (s.heap.objs.size + 1) :: us ++ ds).length = ps.length := by
    have e := r2.length
    rw [F.len _ _ _ _ hq] at e
    exact e.symm
  refine wpAny_call (make_map (f := f) I.kIn M.makes M.init (beq_iff_eq.mp M.fn) (codeAny_mono (F.run _ X.stack _ _ ⟨Value.ref (s.heap.objs.size + 1) :: us, []⟩ (Value.ref (s.heap.objs.size + 1) :: (us ++ ds)) _ _ E (hr.make C us [])
    (I2.env0.make C us []) (hb _ (Value.ref (s.heap.objs.size + 1) :: us) I2.kIn hl) r2 hq) fun r s' hq' => ?_))
  cases r with
  | error e => exact hx pins σ _ _ e s' I2 hq'
  | ok fl =>
    cases fl with
    | ret u =>
      obtain ⟨v, H', I3, rv, ev, q3⟩ := I2.after hq'
      subst ev
      exact ⟨rv, ⟨V.ref (s.heap.objs.size + 1), H', I3, rfl, q3⟩⟩
    | next => exact False.elim hq'
    | brk => exact False.elim hq'
    | cont => exact False.elim hq'
theorem pe_make (M : Mk X.K C f) (F : FnOk X.prog X.w X.K X.mg X.base CX k f fd ps sp) (hr : Room (k + 1) X.A) (hg : Gl X x) (hm : X.mg x = some (.ref C)) (hb : Binds X.K fd ps ds) (hd : Vals dvs ds) (hx : Passes CX X E)
    (ha : PA X (e :: es) t) (hdb : (x == ("__debug__" : Str)) = false := by decide) (he : starEach (e :: es) X.env = (false, eval e X.env) :: starEach es X.env := by rfl) (hpl : (backTo pos (starEach es X.env)).any (·.1) = false := by rfl) :
    PE X (.Call (.Name x p) (e :: es) [] pos) (tMake C sp dvs E t) := by
  intro pins s σ H Q I h
  refine wpAny_Call_Name_kw (ld_glob I hg hm ?_ hdb)
  refine PySem.W.callWith_K (h₀ := X.base) I.ok.mod.kin M.kp (thn (ha pos pins s σ H _ I h) fun us s1 ⟨vs, H1, I1, r, q⟩ => ⟨I1.kIn, ?_⟩) he hpl
  exact run_make M F hr hb hd hx I1 r q
theorem pe_make0 (M : Mk X.K C f) (F : FnOk X.prog X.w X.K X.mg X.base CX k f fd ps sp) (hr : Room (k + 1) X.A) (hg : Gl X x) (hm : X.mg x = some (.ref C)) (hb : Binds X.K fd ps ds) (hd : Vals dvs ds) (hx : Passes CX X E)
    (hdb : (x == ("__debug__" : Str)) = false := by decide) : PE X (.Call (.Name x p) [] [] pos) (tMake C sp dvs E tNil) := by
  intro pins s σ H Q I h
  refine wpAny_Call_Name_kw (ld_glob I hg hm ?_ hdb)
  exact PySem.W.callWith_K0 I.kIn M.kp (run_make (us := []) M F hr hb hd hx I .nil h)
end

/-! ### keywords -/
/-- the values of the keywords, from the left -/
def PK (X : Cx) (kws : List Keyword) (t : TA) : Prop :=
  ∀ (pos : Pos) (pins : List (Addr × Obj)) (s : Shared) (σ : St) (H : Hp) (Q : List V → Hp → Prop), Inv X pins σ H s → t σ H Q → wpAny (model X.prog X.w) X.A (evalAll ((backToKw pos (keywordEach kws X.env)).map (·.2))) (AP X pins σ Q) X.xe s
section
variable {X : Cx} {CX : CXT} {k : Nat} {f C : Addr} {fd : FuncData} {ps ks : List Str} {sp : Sp} {E : XK} {x m : Str} {p pos apos kpos : Pos} {e o : Expr} {es : List Expr} {kws : List Keyword} {te ta : TE} {t tk : TA} {nm : Option Str}
theorem pk_nil : PK X [] tNil := fun _ _ _ _ H Q I h => wpAny_evalAll_nil ⟨[], H, I, .nil, h⟩
theorem pk_cons (ha : PE X e te) (hr : PK X kws t) : PK X (⟨nm, e, kpos⟩ :: kws) (tCons te t) := by
  intro pos pins s σ H Q I h
  show wpAny _ _ (evalAll ((do let v ← eval e X.env; standAt pos; pure v) :: (backToKw pos (keywordEach kws X.env)).map (·.2))) _ _ s
  refine wpAny_evalAll_cons (wpAny_bind (thn (ha pins s σ H _ I h) fun u s1 ⟨x, H1, I1, r1, q1⟩ => wpAny_bind (wpAny_standAt (wpAny_pure ?_))))
  exact thn (hr pos pins s1 σ H1 _ I1 q1) fun us s2 ⟨xs, H2, I2, r2, q2⟩ => ⟨x :: xs, H2, I2, .cons r1 r2, q2⟩

/-- how a call with keywords binds: g puts the positional values us and the keywords' values ws (names ks) in the parameters' order, defaults among them -/
structure KBinds (K : PySem.W.Frag) (fd : FuncData) (ps ks : List Str) (g : List Value → List Value → List Value) (gV : List V → List V → List V) : Prop where
  to : ∀ (s : Shared) (us ws : List Value), K.In s.heap → (g us ws).length = ps.length → BindsTo s fd ⟨us, ks.zip ws⟩ (ps.zip (g us ws))
  rel : ∀ {vs : List V} {us : List Value} {zs : List V} {ws : List Value}, Vals vs us → Vals zs ws → Vals (gV vs zs) (g us ws)
def tCallK (sp : Sp) (gV : List V → List V → List V) (E : XK) (t tk : TA) : TE := fun σ H Q => t σ H fun vs H1 => tk σ H1 fun zs H2 => sp (gV vs zs) H2 Q E
variable {g : List Value → List Value → List Value} {gV : List V → List V → List V}
theorem run_fnk {pins : List (Addr × Obj)} {σ : St} {H : Hp} {s : Shared} {Q : VK} {us ws : List Value} {vs zs : List V} (F : FnOk X.prog X.w X.K X.mg X.base CX k f fd ps sp) (hr : Room k X.A) (hb : KBinds X.K fd ps ks g gV) (hx : Passes CX X E)
    (I : Inv X pins σ H s) (r : Vals vs us) (rz : Vals zs ws) (h : sp (gV vs zs) H Q E) : wpAny (model X.prog X.w) X.A (call (.ref f) us (ks.zip ws)) (EP X pins σ Q) X.xe s := by
  have r2 := hb.rel r rz
  have hl : (g us ws).length = ps.length := by rw [← r2.length]; exact F.len _ _ _ _ h
  refine wpAny_call (codeAny_mono (F.run X.A X.stack s H ⟨us, ks.zip ws⟩ (g us ws) (gV vs zs) Q E hr I.env0 (hb.to s us ws I.kIn hl) r2 h) fun r s' hq => ?_)
  cases r with
  | error e => exact hx pins σ H s e s' I hq
  | ok fl =>
    cases fl with
    | ret u => exact I.after hq
    | next => exact False.elim hq
    | brk => exact False.elim hq
    | cont => exact False.elim hq
/-- f(e, .., k = v, ..) -/
theorem pe_callK (F : FnOk X.prog X.w X.K X.mg X.base CX k f fd ps sp) (hr : Room k X.A) (hg : Gl X x) (hm : X.mg x = some (.ref f)) (hk : PySem.W.keepIn X.K (.ref f) = true) (hb : KBinds X.K fd ps ks g gV) (hx : Passes CX X E)
    (ha : PA X (e :: es) t) (hkw : PK X kws tk) (hall : (backToKw pos (keywordEach kws X.env)).all (·.1.isSome) = true := by rfl) (hks : (backToKw pos (keywordEach kws X.env)).filterMap (·.1) = ks := by rfl)
    (hdb : (x == ("__debug__" : Str)) = false := by decide) (he : starEach (e :: es) X.env = (false, eval e X.env) :: starEach es X.env := by rfl)
    (hpl : ((backTo pos (starEach (e :: es) X.env)).any (·.1) || (backToKw pos (keywordEach kws X.env)).any (·.1.isNone)) = false := by rfl) :
    PE X (.Call (.Name x p) (e :: es) kws pos) (tCallK sp gV E t tk) := by
  intro pins s σ H Q I h
  refine wpAny_Call_Name_kw (ld_glob I hg hm ?_ hdb)
  refine PySem.W.callWith_KW (h₀ := X.base) I.ok.mod.kin hk hall (thn (ha pos pins s σ H _ I h) fun us s1 ⟨vs, H1, I1, r, q⟩ => ?_) hpl he
  refine thn (hkw pos pins s1 σ H1 _ I1 q) fun ws s2 ⟨zs, H2, I2, rz, q2⟩ => ⟨I2.kIn, ?_⟩
  rw [hks]
  exact run_fnk F hr hb hx I2 r rz q2
end

/-! ### a def's body keeps its promise -/
/-- names: the parameters first -/
structure FnScope (N P : List Str) (sc : Scope) : Prop where
  kind : sc.kind = .function
  co : sc.isCoroutine = false
  gen : sc.isGenerator = false
  nd : N.Nodup
  pre : N.take P.length = P
  par : ∀ x ∈ P, sc.names.lookup x = some .local ∨ sc.names.lookup x = some .cell
  nofree : ∀ y ∈ sc.names, y.2 ≠ .free

theorem bindL_out {kindOf : Str → Option NameKind} {x : Str} : ∀ {binds : List (Str × Value)} {m : Str → Option Value}, (∀ v, (x, v) ∉ binds) → bindL kindOf binds m x = m x
  | [], _, _ => rfl
  | (n, v) :: r, m, h => by
    unfold bindL
    rw [bindL_out fun w hw => h w (List.mem_cons_of_mem _ hw)]
    split
    · have : x ≠ n := by rintro rfl; exact h v List.mem_cons_self
      simp [this]
    · rfl
theorem bindC_out {kindOf : Str → Option NameKind} {x : Str} : ∀ {binds : List (Str × Value)} {m : Str → Option Value}, (∀ v, (x, v) ∉ binds) → bindC kindOf binds m x = m x
  | [], _, _ => rfl
  | (n, v) :: r, m, h => by
    unfold bindC
    rw [bindC_out fun w hw => h w (List.mem_cons_of_mem _ hw)]
    split
    · rfl
    · have : x ≠ n := by rintro rfl; exact h v List.mem_cons_self
      simp [this]
theorem bindL_get {kindOf : Str → Option NameKind} {x : Str} {v : Value} : ∀ {P : List Str} {vs : List Value} {i : Nat} {m : Str → Option Value}, P.Nodup → P[i]? = some x → vs[i]? = some v → kindOf x = some .local →
    bindL kindOf (P.zip vs) m x = some v
  | [], _, _, _, _, h, _, _ => by simp at h
  | _ :: _, [], _, _, _, _, h, _ => by simp at h
  | p :: P, w :: vs, 0, m, nd, h1, h2, hk => by
    simp at h1 h2; subst h1; subst h2
    show bindL kindOf ((p, w) :: P.zip vs) m p = _
    unfold bindL
    rw [bindL_out fun v hv => (List.nodup_cons.mp nd).1 (List.of_mem_zip hv).1, if_pos hk]
    simp
  | p :: P, w :: vs, i + 1, m, nd, h1, h2, hk => by
    show bindL kindOf ((p, w) :: P.zip vs) m x = _
    unfold bindL
    exact bindL_get (i := i) (List.nodup_cons.mp nd).2 (by simpa using h1) (by simpa using h2) hk
theorem bindC_get {kindOf : Str → Option NameKind} {x : Str} {v : Value} : ∀ {P : List Str} {vs : List Value} {i : Nat} {m : Str → Option Value}, P.Nodup → P[i]? = some x → vs[i]? = some v → kindOf x ≠ some .local →
    bindC kindOf (P.zip vs) m x = some v
  | [], _, _, _, _, h, _, _ => by simp at h
  | _ :: _, [], _, _, _, _, h, _ => by simp at h
  | p :: P, w :: vs, 0, m, nd, h1, h2, hk => by
    simp at h1 h2; subst h1; subst h2
    show bindC kindOf ((p, w) :: P.zip vs) m p = _
    unfold bindC
    rw [bindC_out fun v hv => (List.nodup_cons.mp nd).1 (List.of_mem_zip hv).1, if_neg hk]
    simp
  | p :: P, w :: vs, i + 1, m, nd, h1, h2, hk => by
    show bindC kindOf ((p, w) :: P.zip vs) m x = _
    unfold bindC
    exact bindC_get (i := i) (List.nodup_cons.mp nd).2 (by simpa using h1) (by simpa using h2) hk

/-- the names' values at the entry -/
def start (N : List Str) (vs : List V) : St := vs.map some ++ List.replicate (N.length - vs.length) none

/-- the context of a def's body, at its entry; an exception leaves the frame, then lies as CX says -/
def cxOf (CX : CXT) (P : Program) (w : World) (K : PySem.W.Frag) (mg : Str → Option Value) (base : Heap) (N : List Str) (qual : Str) (scope : Scope) (f : Addr) (cd : Value) (A : Around) (outer : List Env) (s : Shared) (H : Hp) (E : XK) : Cx where
  prog := P
  w := w
  K := K
  mg := mg
  base := base
  A := A.deeper (envOfC qual scope s.heap.objs.size f cd)
  N := N
  s₀ := s
  H₀ := H
  env := envOfC qual scope s.heap.objs.size f cd
  outer := outer
  stack := envOfC qual scope s.heap.objs.size f cd :: outer
  ex := []
  calm := true
  fn := fun _ => true
  pn := []
  xe := fun e s' => wpAny (model P w) (A.deeper (envOfC qual scope s.heap.objs.size f cd)) (leaving (envOfC qual scope s.heap.objs.size f cd) e) (fun _ s'' => CX outer H s E e s'') (fun e' s'' => CX outer H s E e' s'') s'

theorem cell_has {sc : Scope} {n : Nat} {x : Str} (h : sc.names.lookup x = some .cell) : ∃ c, (cellsFrom n sc.names []).lookup x = some c := by
  have q := PySem.W.cellsFrom_some sc.names n [] (.inl h)
  exact Option.isSome_iff_exists.mp q

theorem inv_start {CX : CXT} {P : Program} {w : World} {K : PySem.W.Frag} {mg : Str → Option Value} {base : Heap} {N ps : List Str} {qual : Str} {scope : Scope} {f : Addr} {cd : Value} {A : Around} {outer : List Env} {s s1 : Shared} {H : Hp} {E : XK} {us : List Value} {vs : List V}
    (S : FnScope N ps scope) (hd : A.handled = none) (e0 : Env0 P w K mg base A outer s H) (hl : vs.length = ps.length) (r : Vals vs us)
    (x : InCallC s s.heap.objs.size (bindL (envOfC qual scope s.heap.objs.size f cd).kindOf (ps.zip us) fun _ => none) (cellsFrom (s.heap.objs.size + 1) scope.names []) (bindC (envOfC qual scope s.heap.objs.size f cd).kindOf (ps.zip us) fun _ => none) s1) :
    Inv (cxOf CX P w K mg base N qual scope f cd A outer s H E) [] (start N vs) H s1 := by
  have hpl : ps.length ≤ N.length := by have := congrArg List.length S.pre; rw [List.length_take] at this; omega
  obtain ⟨h1, tk, rfl, hk⟩ := x.done
  have noA : ∀ b : Addr, b ∉ (cxOf CX P w K mg base N qual scope f cd A outer s H E).ex := fun b z => absurd (show b ∈ ([] : List Addr) from z) (by simp)
  refine ⟨⟨e0.mod, S.kind, rfl, rfl, Nat.le_refl _, fun y z c h1 h2 => ?_, fun y hy => ?_, fun y c _ h => ?_, fun _ => hd, Around.frames_deeper e0.frames, .inr ⟨rfl, rfl⟩, fun b z => absurd z (noA b), e0.bs, e0.bsz, fun b _ _ => noA b, fun b z => absurd z (noA b), e0.funs, e0.frf⟩,
    rfl, e0.bare, Un.kept hk, ⟨_, x.toInCall.ns, fun i y v h1 h2 h3 => ?_⟩, fun y c h => ⟨_, x.cell y c h⟩, e0.hok.fresh (Nat.le_refl _), fun y c h => ?_, fun p hp => absurd (show p ∈ ([] : List (Addr × Obj)) from hp) (by simp), e0.hok.kept hk, ?_⟩
  · exact name_of_addr x.apart (PySem.mem_of_lookup h1) (PySem.mem_of_lookup h2)
  · have hy : scope.names.lookup y = some .cell ∨ scope.names.lookup y = some .free := hy
    rcases hy with hy | hy
    · exact cell_has hy
    · exact absurd rfl (S.nofree _ (PySem.mem_of_lookup hy))
  · exact Nat.le_of_lt (x.above y c (PySem.mem_of_lookup h))
  · have hi : i < vs.length := by
      unfold start at h2
      by_cases hi : i < vs.length
      · exact hi
      · rw [List.getElem?_append_right (by simpa using hi)] at h2
        rw [List.getElem?_replicate] at h2
        split at h2 <;> cases h2
    have ha : vs[i]? = some v := by
      unfold start at h2
      rw [List.getElem?_append_left (by simpa using hi), List.getElem?_map] at h2
      cases e : vs[i]? with
      | none => rw [e] at h2; cases h2
      | some a => rw [e] at h2; cases h2; rfl
    obtain ⟨u, hu, rv⟩ := r.get ha
    have hp : ps[i]? = some y := by
      rw [← S.pre, List.getElem?_take_of_lt (by omega)]; exact h1
    have ndP : ps.Nodup := by rw [← S.pre]; exact S.nd.sublist (List.take_sublist _ _)
    refine ⟨u, rv, ?_⟩
    rcases S.par y (List.mem_of_getElem? hp) with k | k
    · exact .inl ⟨k, bindL_get ndP hp hu k⟩
    · obtain ⟨c, e⟩ := cell_has (n := s.heap.objs.size + 1) k
      refine .inr ⟨.inl k, c, e, ?_⟩
      have q := x.cell y c e
      rw [bindC_get ndP hp hu (by show scope.names.lookup y ≠ _; rw [k]; decide)] at q
      exact q
  · exact e0.hok.fresh (Nat.le_of_lt (x.above y c (PySem.mem_of_lookup h)))
  · unfold start
    show _ = N.length
    rw [List.length_append, List.length_map, List.length_replicate]
    omega

/-- THE RULE: a def (or a method) of the text, by its body. The body's reading t is chosen for each entry; it is run at the parameters' values -/
theorem fn_of {CX : CXT} {P : Program} {w : World} {K : PySem.W.Frag} {mg : Str → Option Value} {base : Heap} {k : Nat} {f : Addr} {name qual : Str} {params : Arguments} {body : List Stmt} {scope : Scope} {dV kV doc pm cdv ct oc : Value} {an od : Option Addr}
    {osl : Array (Option Value)} {N ps : List Str} {sp : Sp} (lk : K.lookup f = some ⟨oc, od, .func (PySem.W.fnOf name qual params body scope dV kV doc pm an cdv ct), osl⟩) (hcd : PySem.W.codeIn K cdv qual = true) (S : FnScope N ps scope)
    (len : ∀ vs H Q E, sp vs H Q E → vs.length = ps.length)
    (hbody : ∀ (A : Around) (outer : List Env) (s : Shared) (H : Hp) (vs : List V) (Q : VK) (E : XK), Room k (A.deeper (envOfC qual scope s.heap.objs.size f cdv)) → sp vs H Q E →
      ∃ t, PSs (cxOf CX P w K mg base N qual scope f cdv A outer s H E) body t ∧ t { nx := fun _ H' => Q .non H', rt := Q } (start N vs) H) :
    FnOk P w K mg base CX (k + 1) f (PySem.W.fnOf name qual params body scope dV kV doc pm an cdv ct) ps sp := by
  refine ⟨len, fun A outer s H args us vs Q E hr e0 hb r hsp => ?_⟩
  have hl := len _ _ _ _ hsp
  have KX : K.In s.heap := e0.mod.kin.keeps fun b o e => (e0.bs b o e).1
  have lim : s.heap.NoLimit := e0.mod.nolimit.keeps fun b o e => (e0.bs b o e).1
  have hkind : ∀ y ∈ ps.zip us, scope.names.lookup y.1 = some .local ∨ (scope.names.lookup y.1 = some .cell ∧ ((cellsFrom (s.heap.objs.size + 1) scope.names []).lookup y.1).isSome = true) := fun ⟨n, v⟩ hy => by
    rcases S.par n (List.of_mem_zip hy).1 with q | q
    · exact .inl q
    · exact .inr ⟨q, PySem.W.cellsFrom_some _ _ _ (.inl q)⟩
  refine codeAny_call_function hr.depth (KX _ _ lk) rfl S.co S.gen rfl (PySem.W.codeRec_of KX hcd) (hb _ _ _ _ ?_)
  refine wpAny_newFunctionEnv_cells S.kind hkind fun env he s1 x => ?_
  subst he
  refine ⟨lim.keeps x.toInCall.keep, codeAny_func ?_⟩
  obtain ⟨t, ht, hq⟩ := hbody A outer s H vs Q E (hr.deeper _) hsp
  have I : Inv (cxOf CX P w K mg base N qual scope f cdv A outer s H E) [] (start N vs) H s1 := inv_start S hr.hd e0 hl r x
  refine wpAny_mono (ht [] s1 (start N vs) H _ I hq) (fun fl s' hs => ?_) fun e s' hs => hs
  have fin : ∀ {σ' : St} {H' : Hp} {v : V} {u : Value}, Inv (cxOf CX P w K mg base N qual scope f cdv A outer s H E) [] σ' H' s' → RelV v u → Q v H' → CE outer P w H s Q u s' :=
    fun {σ' H' v u} J rv q => ⟨v, H', J.os, J.bare, J.base, J.hok, rv, q⟩
  cases fl with
  | ret u =>
    obtain ⟨v, σ', H', J, rv, q⟩ := hs
    exact fin J rv q
  | next =>
    obtain ⟨σ', H', J, q⟩ := hs
    exact fin (v := V.non) (u := Value.none) J rfl q
  | brk =>
    obtain ⟨_, _, _, q⟩ := hs
    exact False.elim q
  | cont =>
    obtain ⟨_, _, _, q⟩ := hs
    exact False.elim q
end L2

namespace L2
open PySem PySem.Spec PyProof.Rows
section
variable {X : Cx} {x : Str} {p pos : Pos} {e : Expr} {es : List Expr} {t : TA} {id T : String} {r : List V → Hp → VK → Prop}

def tCB (r : List V → Hp → VK → Prop) (t : TA) : TE := fun σ H Q => t σ H fun vs H1 => r vs H1 Q
/-- f(e, ..), f a built-in function -/
theorem pe_callB (hc : CallR X (.builtin id) r) (hg : Gl X x) (hm : X.mg x = none) (hv : bootBuiltins x = some (.builtin id)) (ha : PA X (e :: es) t) (hn : x ≠ "__name__" := by decide) (hdb : (x == ("__debug__" : Str)) = false := by decide)
    (he : starEach (e :: es) X.env = (false, eval e X.env) :: starEach es X.env := by rfl) (hpl : (backTo pos (starEach es X.env)).any (·.1) = false := by rfl) : PE X (.Call (.Name x p) (e :: es) [] pos) (tCB r t) := by
  intro pins s σ H Q I h
  refine wpAny_Call_Name_kw (ld_blt I hg hm hv ?_ hn hdb)
  exact PyProof.Rows.callWith_builtin1 (thn (ha pos pins s σ H _ I h) fun us s1 ⟨vs, H1, I1, r1, q1⟩ => hc pins s1 σ H1 vs us Q I1 r1 q1) he hpl
/-- T(e, ..), T a built-in type -/
theorem pe_callTy (hc : CallR X (.type T) r) (hg : Gl X x) (hm : X.mg x = none) (hv : bootBuiltins x = some (.type T)) (ha : PA X (e :: es) t) (hn : x ≠ "__name__" := by decide) (hdb : (x == ("__debug__" : Str)) = false := by decide)
    (he : starEach (e :: es) X.env = (false, eval e X.env) :: starEach es X.env := by rfl) (hpl : (backTo pos (starEach es X.env)).any (·.1) = false := by rfl) : PE X (.Call (.Name x p) (e :: es) [] pos) (tCB r t) := by
  intro pins s σ H Q I h
  refine wpAny_Call_Name_kw (ld_blt I hg hm hv ?_ hn hdb)
  exact PyProof.Rows.callWith_type1 (thn (ha pos pins s σ H _ I h) fun us s1 ⟨vs, H1, I1, r1, q1⟩ => hc pins s1 σ H1 vs us Q I1 r1 q1) he hpl
/-- T() -/
theorem pe_callTy0 (hc : CallR X (.type T) r) (hg : Gl X x) (hm : X.mg x = none) (hv : bootBuiltins x = some (.type T)) (hn : x ≠ "__name__" := by decide) (hdb : (x == ("__debug__" : Str)) = false := by decide) :
    PE X (.Call (.Name x p) [] [] pos) (tCB r tNil) := by
  intro pins s σ H Q I h
  refine wpAny_Call_Name_kw (ld_blt I hg hm hv ?_ hn hdb)
  exact PyProof.Rows.callWith_type0 (hc pins s σ H [] [] Q I .nil h)
end
end L2

namespace HT
open PySem PyProof.Rows

/-- t < u of tuples of ints -/
def lexLt : List Int → List Int → Bool
  | [], [] => false
  | [], _ :: _ => true
  | _ :: _, [] => false
  | x :: xs, y :: ys => if x = y then lexLt xs ys else decide (x < y)
theorem lexLt_cons (x y : Int) (xs ys : List Int) : lexLt (x :: xs) (y :: ys) = if x = y then lexLt xs ys else decide (x < y) := rfl
theorem lexLt_nil_nil : lexLt [] [] = false := rfl
theorem lexLt_nil_cons (y : Int) (ys : List Int) : lexLt [] (y :: ys) = true := rfl
theorem lexLt_cons_nil (x : Int) (xs : List Int) : lexLt (x :: xs) [] = false := rfl

theorem eqAt_int (A : Around) (s : Shared) (a : Int) (t : Tok) (c : Int) (u : Tok) : ∃ e, SeqAt.EqAt A s (.int a t) (.int c u) e ∧ (e = true ↔ a = c) :=
  ⟨(a == c), SeqAt.EqAt.int_int a t c u, by simp⟩
theorem rcLt_int (A : Around) (s : Shared) (a : Int) (t : Tok) (c : Int) (u : Tok) (prog : Program) (w : World) (E : Value → Shared → Prop) (Q : Value → Shared → Prop) (h : Q (.bool (decide (a < c))) s) :
    wpAny (model prog w) A (richCompare .Lt (.int a t) (.int c u)) Q E s :=
  (PyProof.Rows.lt_int h : wpAny (model prog w) A (compareOp .Lt (.int a t) (.int c u)) Q E s)

section
open PySem.SeqAt
open PySem.AutoSeq1 (wpAny_loadPart')
open PySem.MeetsSeq PySem.MeetsSeq2 PySem.MeetsSeq3

theorem tuple_lt_ints (l b : Addr) (items items2 : Array Value) (n n2 : Nat) (dd dd2 : Option Addr) (sl sl2 : Array (Option Value)) (ns ms : List Int) (hi : IntsAre items.toList ns) (hj : IntsAre items2.toList ms) :
    Meets (Builtin.«tuple.__lt__» ⟨[.ref l, .ref b], []⟩)
      (fun _ R s => s.heap.get? l = some { cls := .type "tuple", dict := dd, data := .seq items n, slots := sl } ∧ s.heap.get? b = some { cls := .type "tuple", dict := dd2, data := .seq items2 n2, slots := sl2 } ∧
        R (.ok (.ret (.bool (lexLt ns ms)))) s) :=
  .of_wp fun prog w A R s h => by
    obtain ⟨hp, g, d, tk, os⟩ := s; obtain ⟨hl, hb, h⟩ := h
    have f2 := AutoSeq1.sub_tuple_tuple
    have z1 : items.size = ns.length := by rw [← hi.length]; simp
    have z2 : items2.size = ms.length := by rw [← hj.length]; simp
    wp_walk using wpAny_loadPart' hl, wpAny_loadPart' hb, wpAny_forIn_list _ (fun rest b s' => b.1 = none ∧ s' = ⟨hp, g, d, tk, os⟩ ∧ ∃ (vs ws : List Value) (ns' ms' : List Int), rest = vs.zip ws ∧
      IntsAre vs ns' ∧ IntsAre ws ms' ∧ ns'.length + items2.size = ms'.length + items.size ∧ R (.ok (.ret (.bool (lexLt ns' ms')))) ⟨hp, g, d, tk, os⟩) _
    case turn =>
      rintro ⟨y, x⟩ rest b s' ⟨hb', rfl, vs, ws, ns', ms', hz, hvi, hwi, hlen, hR⟩
      cases hvi with
      | nil => rw [List.zip_nil_left] at hz; cases hz
      | cons a t hvi' =>
        cases hwi with
        | nil => rw [List.zip_nil_right] at hz; cases hz
        | cons c u hwi' =>
          rw [List.zip_cons_cons] at hz
          injection hz with hyx hrest
          injection hyx with hy hx
          subst hy hx
          rw [lexLt_cons] at hR
          simp only [List.length_cons] at hlen
          obtain ⟨e, he, hiff⟩ := eqAt_int A.in1 ⟨hp, g, d, tk, os⟩ a t c u
          refine wpAny_bind (he prog w _ _ ?_)
          cases e with
          | true =>
            rw [if_pos (hiff.mp rfl)] at hR
            wp_walk
            exact ⟨rfl, rfl, _, _, _, _, hrest, hvi', hwi', by omega, hR⟩
          | false =>
            rw [if_neg (fun q => absurd (hiff.mpr q) Bool.false_ne_true)] at hR
            have hri := rcLt_int A.in1 ⟨hp, g, d, tk, os⟩ a t c u prog w
            wp_walk using hri
            exact ⟨_, rfl, by simpa using hR⟩
    case fin =>
      rintro ⟨b1, b2⟩ s' ⟨hb', rfl, vs, ws, ns', ms', hz, hvi, hwi, hlen, hR⟩
      simp only at hb'
      subst hb'
      have hv : lexLt ns' ms' = decide (items.size < items2.size) := by
        cases hvi with
        | nil =>
          cases hwi with
          | nil =>
            simp only [List.length_nil] at hlen
            rw [lexLt_nil_nil]
            exact (decide_eq_false (by omega)).symm
          | cons c u hw =>
            simp only [List.length_nil, List.length_cons] at hlen
            rw [lexLt_nil_cons]
            exact (decide_eq_true (by omega)).symm
        | cons a t hv =>
          cases hwi with
          | nil =>
            simp only [List.length_nil, List.length_cons] at hlen
            rw [lexLt_cons_nil]
            exact (decide_eq_false (by omega)).symm
          | cons c u hw =>
            rw [List.zip_cons_cons] at hz
            cases hz
      rw [hv] at hR
      wp_walk
      exact ⟨_, rfl, by simpa [Builtin.Tuple.tupleCompareSizes] using hR⟩
    case h =>
      exact ⟨rfl, rfl, items.toList, items2.toList, ns, ms, rfl, hi, hj, by omega, h⟩
end

section
variable {prog : Program} {w : World} {A : Around} {E : Value → Shared → Prop} {s : Shared}

theorem lt_tupInts {l b : Addr} {items items2 : Array Value} {ns ms : List Int} {Q : Value → Shared → Prop} (hl : IsTup s.heap l items) (hb : IsTup s.heap b items2) (hi : IntsAre items.toList ns) (hj : IntsAre items2.toList ms)
    (hu : A.units < cLine) (h : Q (.bool (lexLt ns ms)) s) : wpAny (model prog w) A (compareOp .Lt (.ref l) (.ref b)) Q E s := by
  obtain ⟨⟨cls, dd, data, sl⟩, ho, hc, n, hd⟩ := id hl
  obtain ⟨⟨cls2, dd2, data2, sl2⟩, ho2, hc2, n2, hd2⟩ := id hb
  simp only at hc hd hc2 hd2
  subst hc hd hc2 hd2
  exact richCompare_meets_room (op := .Lt) ⟨_, ho, rfl⟩ ⟨_, ho2, rfl⟩ PySem.F.slot_tuple_lt PySem.F.entry_tuple_lt (PySem.F.args_tuple_lt_2 _ _) (tuple_lt_ints l b items items2 n n2 dd dd2 sl sl2 ns ms hi hj)
    ⟨ho, ho2, show Value.bool (lexLt ns ms) ≠ Value.notImplemented ∧ Q (.bool (lexLt ns ms)) s from ⟨(fun x => nomatch x), h⟩⟩ hu

/-- t + u, t not empty -/
theorem cat_tup {t b : Addr} {vs ws : List Value} {Q : Value → Shared → Prop} (ht : IsTup s.heap t vs.toArray) (hb : IsTup s.heap b ws.toArray) (hv : vs ≠ [])
    (h1 : ws = [] → Q (.ref t) s) (h2 : ws ≠ [] → Q (.ref s.heap.objs.size) { s with heap := s.heap.push { cls := .type "tuple", data := .seq (vs ++ ws).toArray } })
    (hsz : vs.length + ws.length ≤ sizeLine) : wpAny (model prog w) A (binaryOp .Add (.ref t) (.ref b)) Q E s := by
  obtain ⟨⟨cls, dd, data, sl⟩, ho, hc, n, hd⟩ := id ht
  obtain ⟨⟨cls2, dd2, data2, sl2⟩, ho2, hc2, n2, hd2⟩ := id hb
  simp only at hc hd hc2 hd2
  subst hc hd hc2 hd2
  have e : vs.toArray ++ ws.toArray = (vs ++ ws).toArray := by simp
  by_cases hw : ws = []
  · exact concat_meets ⟨_, ho, rfl⟩ ⟨_, ho2, rfl⟩ noFill_tuple_add seq_tuple_add PySem.F.slot_tuple_add PySem.F.entry_tuple_add (PySem.F.args_tuple_add_2 _ _)
      (tuple_addW1 t b vs.toArray ws.toArray n n2 dd dd2 sl sl2 (by simpa using hv) (by simp [hw])) ⟨ho, ho2, h1 hw⟩
  · refine concat_meets ⟨_, ho, rfl⟩ ⟨_, ho2, rfl⟩ noFill_tuple_add seq_tuple_add PySem.F.slot_tuple_add PySem.F.entry_tuple_add (PySem.F.args_tuple_add_2 _ _)
      (tuple_addW2 t b vs.toArray ws.toArray n n2 dd dd2 sl sl2 (by simpa using hv) (by simpa using hw) (by rw [List.size_toArray, List.size_toArray]; exact hsz)) ⟨ho, ho2, ?_⟩
    rw [e]
    exact h2 hw

/-! ### t[a:b], not the whole -/
/-- a slice's bound as a place among n (d where it is left out) -/
def sIx (n d : Nat) : Option Int → Nat
  | none => d
  | some v => if v < 0 then (v + (n : Int)).toNat else min v.toNat n
theorem sIx_none (n d : Nat) : sIx n d none = d := rfl
theorem sIx_nat (n d k : Nat) : sIx n d (some (k : Int)) = min k n := by
  show (if (k : Int) < 0 then ((k : Int) + (n : Int)).toNat else min (k : Int).toNat n) = min k n
  rw [if_neg (by omega), Int.toNat_natCast]
theorem sIx_le (n d : Nat) (hd : d ≤ n) (o : Option Int) : sIx n d o ≤ n := by
  cases o with
  | none => exact hd
  | some v =>
    show (if v < 0 then (v + (n : Int)).toNat else min v.toNat n) ≤ n
    by_cases hv : v < 0
    · rw [if_pos hv]; omega
    · rw [if_neg hv]; exact Nat.min_le_right _ _
theorem clip_eq (v : Int) (n d : Nat) : (if v < 0 then max (v + (n : Int)) 0 else min v (n : Int)) = ((sIx n d (some v) : Nat) : Int) := by
  show (if v < 0 then max (v + (n : Int)) 0 else min v (n : Int)) = (((if v < 0 then (v + (n : Int)).toNat else min v.toNat n) : Nat) : Int)
  by_cases hv : v < 0
  · simp only [if_pos hv]; omega
  · simp only [if_neg hv]; omega
theorem adjust_gen (lo hi : Option Int) (n : Nat) : Builtin.Slice.sliceAdjust lo hi 1 (n : Int) = (((sIx n 0 lo : Nat) : Int), ((sIx n n hi : Nat) : Int)) := by
  have h1 : ¬ ((1 : Int) < 0) := by omega
  unfold Builtin.Slice.sliceAdjust
  simp only [h1, if_false]
  refine Prod.ext ?_ ?_
  · cases lo with
    | none => rfl
    | some v => exact clip_eq v n 0
  · cases hi with
    | none => rfl
    | some v => exact clip_eq v n n
theorem places_gen (i j : Nat) : Builtin.Slice.slicePlaces (i : Int) (j : Int) 1 = j - i := by
  unfold Builtin.Slice.slicePlaces
  have h1 : (1 : Int) > 0 := by omega
  simp only [h1, if_true, Int.ediv_one]
  split <;> omega
theorem slicePart_ {v : Value} {o : Option Int} {Q : Option Int → Shared → Prop} (p : IsPart v o) (h : Q o s) : wpAny (model prog w) A (Builtin.Slice.slicePartIndex v) Q E s := by
  cases p with
  | none => exact slicePart_none h
  | int i t => exact slicePart_int h
theorem sliceApplied_gen {sl : Addr} {vl vu : Value} {lo hi : Option Int} {n : Nat} {Q : Int × Int × Nat → Shared → Prop} (hs : s.heap.IsSliceOf sl vl vu .none) (pl : IsPart vl lo) (pu : IsPart vu hi)
    (h : Q (((sIx n 0 lo : Nat) : Int), 1, sIx n n hi - sIx n 0 lo) s) : wpAny (model prog w) A (Builtin.Slice.sliceApplied (.ref sl) (pure (n : Int))) Q E s := by
  obtain ⟨os, hos, hcs, hds⟩ := id hs
  unfold Builtin.Slice.sliceApplied Builtin.Slice.sliceFields
  refine wpAny_bind (wpAny_bind (wpAny_field hos hds (x := vl) rfl (wpAny_bind (wpAny_field hos hds (x := vu) rfl (wpAny_bind (wpAny_field hos hds (x := .none) rfl (wpAny_pure ?_)))))))
  refine wpAny_bind (slicePart_none ?_)
  show wpAny _ _ (if ((1 : Int) == 0) = true then _ else _) _ _ s
  rw [if_neg (by decide)]
  refine wpAny_bind (slicePart_ pl (wpAny_bind (slicePart_ pu (wpAny_bind (wpAny_pure ?_)))))
  show wpAny _ _ (match Builtin.Slice.sliceAdjust lo hi 1 (n : Int) with | (lo, hi) => pure (lo, (1 : Int), Builtin.Slice.slicePlaces lo hi 1)) _ _ s
  rw [adjust_gen lo hi n]
  show wpAny _ _ (pure (((sIx n 0 lo : Nat) : Int), (1 : Int), Builtin.Slice.slicePlaces ((sIx n 0 lo : Nat) : Int) ((sIx n n hi : Nat) : Int) 1)) _ _ s
  rw [places_gen]
  exact wpAny_pure h
theorem pick_gen (xs : Array Value) (i k : Nat) : ((List.range k).filterMap fun (m : Nat) => xs[((i : Int) + (m : Int) * 1).toNat]?).toArray = ((xs.toList.drop i).take k).toArray := by
  have e : (fun (m : Nat) => xs[((i : Int) + (m : Int) * 1).toNat]?) = fun m => xs[i + m]? := by
    funext m
    have : ((i : Int) + (m : Int) * 1).toNat = i + m := by omega
    rw [this]
  rw [e]
  have := pick_run xs i k
  rw [List.filterMap_map] at this
  have e2 : ((fun x => xs[x]?) ∘ fun x => i + x) = fun m => xs[i + m]? := rfl
  rw [e2] at this
  rw [this]

theorem getItem_tuple_cut {t sl : Addr} {items : Array Value} {vl vu : Value} {lo hi : Option Int} {Q : Value → Shared → Prop} (ht : IsTup s.heap t items) (hs : s.heap.IsSliceOf sl vl vu .none) (pl : IsPart vl lo) (pu : IsPart vu hi)
    (hw : ¬ (sIx items.size 0 lo = 0 ∧ sIx items.size items.size hi = items.size))
    (h : Q (.ref s.heap.objs.size) { s with heap := s.heap.push { cls := .type "tuple", data := .seq ((items.toList.drop (sIx items.size 0 lo)).take (sIx items.size items.size hi - sIx items.size 0 lo)).toArray } })
    (hsz : items.size ≤ sizeLine) : wpAny (model prog w) A (getItem (.ref t) (.ref sl)) Q E s := by
  have htake : sizeOk (.seq ((items.toList.drop (sIx items.size 0 lo)).take (sIx items.size items.size hi - sIx items.size 0 lo)).toArray) := by
    show ((items.toList.drop (sIx items.size 0 lo)).take (sIx items.size items.size hi - sIx items.size 0 lo)).toArray.size ≤ sizeLine
    rw [List.size_toArray, List.length_take, List.length_drop, Array.length_toList]
    omega
  have hj : sIx items.size items.size hi ≤ items.size := sIx_le _ _ (Nat.le_refl _) hi
  obtain ⟨os, hos, hcs, hds⟩ := id hs
  have hTs : s.TypeIs (.ref sl) "slice" := ⟨os, hos, hcs⟩
  unfold getItem
  try with_reducible refine wpAny_holding ?_
  first | refine wpAny_bind (wpAny_pure ?_) | skip
  refine wpAny_bind (wpAny_sequenceKey ht.typeIs (by decide) ?_)
  refine wpAny_bind (wpAny_callSpecial?_slot (name := Str.ofString "__getitem__") ht.typeIs PyProof.Rows.slot_tuple_getitem
    (wpAny_call_entry PyProof.Rows.slot_tuple_getitem ht.typeIs entry_tuple_getitem ?_ (args_tuple_getitem _ _)))
  show wpAny _ _ (Builtin.Tuple.tupleItemsOf (.ref t) >>= _) _ _ s
  refine wpAny_bind (tupleItemsOf_ ht ?_)
  refine wpAny_bind (wpAny_typeOf hTs ?_)
  rw [if_pos (by decide)]
  refine wpAny_bind (sliceApplied_gen hs pl pu ?_)
  have hno : ¬ ((((sIx items.size 0 lo : Nat) : Int) == 0 && (1 : Int) == 1 && (sIx items.size items.size hi - sIx items.size 0 lo) == items.size) = true) := by
    intro q
    rw [Bool.and_eq_true, Bool.and_eq_true] at q
    have q1 : ((sIx items.size 0 lo : Nat) : Int) = 0 := eq_of_beq q.1.1
    have q2 : sIx items.size items.size hi - sIx items.size 0 lo = items.size := eq_of_beq q.2
    exact hw ⟨by omega, by omega⟩
  show wpAny _ _ (if (((sIx items.size 0 lo : Nat) : Int) == 0 && (1 : Int) == 1 && (sIx items.size items.size hi - sIx items.size 0 lo) == items.size) = true then _ else _) _ _ s
  rw [if_neg hno, pick_gen]
  first
    | exact wpAny_bind (m := Builtin.Tuple.tupleExact _) (wpAny_newObj_type (wpAny_pure ⟨_, rfl, wpAny_pure h⟩) htake)
    | exact wpAny_bind (m := Builtin.Tuple.tupleExact _) (wpAny_newObj_type (wpAny_bind (wpAny_pure (wpAny_pure ⟨_, rfl, wpAny_pure h⟩))) htake)
    | exact wpAny_bind (wpAny_bind (m := Builtin.Tuple.tupleExact _) (wpAny_newObj_type (wpAny_pure (wpAny_pure ⟨_, rfl, wpAny_pure h⟩)) htake))
    | exact wpAny_bind (wpAny_bind (m := Builtin.Tuple.tupleExact _) (wpAny_newObj_type (wpAny_pure ⟨_, rfl, wpAny_pure h⟩) htake))
end
end HT

namespace L2
open PySem PySem.Spec PyProof.Rows

/-! ### the parts of a slice -/
abbrev TO := St → Hp → (Option Int → Hp → Prop) → Prop
/-- a slice's part (left out, or an int) -/
def PO (X : Cx) (e : Option Expr) (t : TO) : Prop :=
  ∀ (pins : List (Addr × Obj)) (s : Shared) (σ : St) (H : Hp) (Q : Option Int → Hp → Prop), Inv X pins σ H s → t σ H Q →
    wpAny (model X.prog X.w) X.A (evalPart e X.env) (fun u s' => ∃ o H', Inv X pins σ H' s' ∧ IsPart u o ∧ Q o H') X.xe s
def tNoPart : TO := fun _ H Q => Q none H
def tPart (t : TE) : TO := fun σ H Q => t σ H fun x H1 => ∃ i, x = .int i ∧ Q (some i) H1

theorem intsAre_of {ns : List Int} : ∀ {us : List Value}, Vals (ns.map V.int) us → IntsAre us ns := by
  induction ns with
  | nil => intro us r; rw [List.map_nil] at r; cases r; exact .nil
  | cons n ns ih =>
    intro us r
    rw [List.map_cons] at r
    cases r with
    | cons r1 r2 =>
      obtain ⟨t, e⟩ := r1
      subst e
      exact .cons n t (ih r2)

section
variable {X : Cx} {e : Expr} {te : TE} {lo hi : Option Expr} {tl th : TO} {pos p2 : Pos}

theorem po_none : PO X none tNoPart := by
  intro pins s σ H Q I h
  rw [evalPart_none]
  exact wpAny_pure ⟨none, H, I, .none, h⟩
theorem po_some (h : PE X e te) : PO X (some e) (tPart te) := by
  intro pins s σ H Q I hw
  rw [evalPart_some]
  refine thn (h pins s σ H _ I hw) fun u s1 ⟨x, H1, I1, r1, q1⟩ => ?_
  obtain ⟨i, rfl, q⟩ := q1
  obtain ⟨t, rfl⟩ := r1
  exact ⟨some i, H1, I1, .int i t, q⟩

/-- what a slice of a value is, by values: the slice object stands at sl -/
def SlR (X : Cx) (r : V → Option Int → Option Int → Hp → VK → Prop) : Prop :=
  ∀ (pins : List (Addr × Obj)) (s : Shared) (σ : St) (H : Hp) (x : V) (v vl vu : Value) (lo hi : Option Int) (sl : Addr) (Q : VK), Inv X pins σ H s → RelV x v → s.heap.IsSliceOf sl vl vu .none → IsPart vl lo → IsPart vu hi → r x lo hi H Q →
    ∃ T id, typeLookup (.type T) "__getitem__" = pure (some (.builtin id)) ∧ s.TypeIs v T ∧ wpAny (model X.prog X.w) X.A (getItem v (.ref sl)) (EP X pins σ Q) X.xe s
theorem SlR.or {r r' : V → Option Int → Option Int → Hp → VK → Prop} (h : SlR X r) (h' : SlR X r') : SlR X (fun x lo hi H Q => r x lo hi H Q ∨ r' x lo hi H Q) := by
  intro pins s σ H x v vl vu lo hi sl Q I rx hs pl pu q
  rcases q with q | q
  · exact h pins s σ H x v vl vu lo hi sl Q I rx hs pl pu q
  · exact h' pins s σ H x v vl vu lo hi sl Q I rx hs pl pu q
def tSl (r : V → Option Int → Option Int → Hp → VK → Prop) (te : TE) (tl th : TO) : TE := fun σ H Q => te σ H fun x H1 => tl σ H1 fun l H2 => th σ H2 fun u H3 => r x l u H3 Q
/-- a[lo:hi], any a -/
theorem pe_slice {r : V → Option Int → Option Int → Hp → VK → Prop} (hr : SlR X r) (he : PE X e te) (hl : PO X lo tl) (hu : PO X hi th) : PE X (.Subscript e (.Slice lo hi none p2) pos) (tSl r te tl th) := by
  intro pins s σ H Q I h
  refine Subscript_ (thn (he pins s σ H _ I h) fun v s1 ⟨x, H1, I1, r1, q1⟩ => ?_)
  refine wpAny_Slice (thn (hl pins s1 σ H1 _ I1 q1) fun vl s2 ⟨l, H2, I2, pl, q2⟩ => thn (hu pins s2 σ H2 _ I2 q2) fun vu s3 ⟨u, H3, I3, pu, q3⟩ => ?_)
  rw [evalPart_none]
  refine wpAny_pure ?_
  have I4 : Inv X pins σ H3 { s3 with heap := s3.heap.push { cls := .type "slice", data := .fields #[vl, vu, .none] } } := I3.kept (t' := s3.toks) fun b ob q => Heap.get?_push_of_some _ q
  obtain ⟨T, id, hT, ht, hg⟩ := hr pins { s3 with heap := s3.heap.push { cls := .type "slice", data := .fields #[vl, vu, .none] } } σ H3 x v vl vu l u s3.heap.objs.size Q I4 r1 (Heap.IsSliceOf.new ..) pl pu q3
  show wpAny (model X.prog X.w) X.A (subscriptTail e (.Slice lo hi none p2) v (.ref s3.heap.objs.size)) (EP X pins σ Q) X.xe { s3 with heap := s3.heap.push { cls := .type "slice", data := .fields #[vl, vu, .none] } }
  exact tail_any (ops := [.ref s3.heap.objs.size, v]) ht hT hg (by with_unfolding_all rfl)

/-- the items of xs[lo:hi] -/
def cutV (xs : List V) (lo hi : Option Int) : List V := (xs.drop (HT.sIx xs.length 0 lo)).take (HT.sIx xs.length xs.length hi - HT.sIx xs.length 0 lo)
theorem cutV_length (xs : List V) (lo hi : Option Int) : (cutV xs lo hi).length ≤ xs.length := by
  unfold cutV
  rw [List.length_take, List.length_drop]
  omega
/-- t[lo:hi], not the whole of it (the whole would be t itself) -/
def rSlT (K : PySem.W.Frag) : V → Option Int → Option Int → Hp → VK → Prop := fun x lo hi H Q => ∃ a xs, x = .ref a ∧ SqT K H a xs ∧
  ¬ (HT.sIx xs.length 0 lo = 0 ∧ HT.sIx xs.length xs.length hi = xs.length) ∧ ∀ p, H p = none → Q (.ref p) (upd H p (.tup (cutV xs lo hi)))
theorem sl_tup : SlR X (rSlT X.K) := by
  intro pins s σ H x v vl vu lo hi sl Q I rx hs pl pu h
  obtain ⟨a, xs, rfl, hx, hw, q⟩ := h
  cases rx
  obtain ⟨its, r, ht, hz⟩ := I.tuple hx
  have hlen : its.toArray.size = xs.length := by rw [List.size_toArray]; exact r.length.symm
  refine ⟨"tuple", _, PyProof.Rows.slot_tuple_getitem.lookup, ht.typeIs, ?_⟩
  refine HT.getItem_tuple_cut ht hs pl pu (by rw [hlen]; exact hw) ?_ (by rw [hlen]; exact hz)
  rw [hlen]
  refine ⟨.ref s.heap.objs.size, _, I.laid (t' := s.toks) (o := .tup (cutV xs lo hi)) (fun b ob q => Heap.get?_push_of_some _ q) (Nat.le_refl _) ?_, rfl, q _ (I.hok.fresh (Nat.le_refl _))⟩
  exact ⟨Nat.le_trans (cutV_length xs lo hi) hz, _, (r.drop (HT.sIx xs.length 0 lo)).take (HT.sIx xs.length xs.length hi - HT.sIx xs.length 0 lo), IsTup.new _ _⟩

/-! ### t < u, t + u -/
def rLtT (K : PySem.W.Frag) : R2 := fun x y H Q => ∃ a b ns ms, x = .ref a ∧ y = .ref b ∧ SqT K H a (ns.map V.int) ∧ SqT K H b (ms.map V.int) ∧ Q (.bl (HT.lexLt ns ms)) H
theorem op_ltT (hu : X.A.units < cLine) : OpR X (compareOp .Lt) (rLtT X.K) := by
  intro pins s σ H x y v u Q I rx ry h
  obtain ⟨a, b, ns, ms, rfl, rfl, ha, hb, q⟩ := h
  cases rx
  cases ry
  obtain ⟨its, r1, p1, _⟩ := I.tuple ha
  obtain ⟨its2, r2, p2, _⟩ := I.tuple hb
  have i1 : IntsAre its.toArray.toList ns := intsAre_of r1
  have i2 : IntsAre its2.toArray.toList ms := intsAre_of r2
  exact HT.lt_tupInts p1 p2 i1 i2 hu ⟨.bl (HT.lexLt ns ms), H, I, rfl, q⟩
/-- t + u, t not empty: u empty gives t itself -/
def rCatT (K : PySem.W.Frag) : R2 := fun x y H Q => ∃ a b xs ys, x = .ref a ∧ y = .ref b ∧ SqT K H a xs ∧ SqT K H b ys ∧ xs ≠ [] ∧ xs.length + ys.length ≤ sizeLine ∧
  (ys = [] → Q (.ref a) H) ∧ (ys ≠ [] → ∀ p, H p = none → Q (.ref p) (upd H p (.tup (xs ++ ys))))
theorem Vals.nil_iff {xs : List V} {us : List Value} (r : Vals xs us) : us = [] ↔ xs = [] := by
  cases r with
  | nil => simp
  | cons _ _ => simp
theorem op_catT : OpR X (binaryOp .Add) (rCatT X.K) := by
  intro pins s σ H x y v u Q I rx ry h
  obtain ⟨a, b, xs, ys, rfl, rfl, ha, hb, hx, hz, q1, q2⟩ := h
  cases rx
  cases ry
  obtain ⟨its, r1, p1, _⟩ := I.tuple ha
  obtain ⟨its2, r2, p2, _⟩ := I.tuple hb
  refine HT.cat_tup p1 p2 (fun z => hx (r1.nil_iff.mp z)) (fun z => ⟨.ref a, H, I, rfl, q1 (r2.nil_iff.mp z)⟩) (fun z => ?_) (by rw [← r1.length, ← r2.length]; exact hz)
  refine ⟨.ref s.heap.objs.size, _, I.laid (t' := s.toks) (o := .tup (xs ++ ys)) (fun b ob q => Heap.get?_push_of_some _ q) (Nat.le_refl _) ?_, rfl, q2 (fun w => z (r2.nil_iff.mpr w)) _ (I.hok.fresh (Nat.le_refl _))⟩
  exact ⟨by rw [List.length_append]; exact hz, _, r1.append r2, IsTup.new _ _⟩
/-- tuple(t) -/
theorem call_tupleT : CallR X (.type "tuple") (fun xs H Q => ∃ a ys, xs = [.ref a] ∧ SqT X.K H a ys ∧ Q (.ref a) H) := by
  intro pins s σ H xs us Q I r h
  obtain ⟨a, ys, rfl, ha, q⟩ := h
  obtain ⟨u, rfl, ru⟩ := vals1 r
  cases ru
  obtain ⟨its, _, p1, _⟩ := I.tuple ha
  exact call_tuple_same (items := its.toArray) p1 ⟨.ref a, H, I, rfl, q⟩
end
end L2

namespace L2
open PySem PySem.Spec PyProof.Rows

/-! ### places -/
/-- the place that an index of any sign means -/
def ixN (n : Nat) (i : Int) : Option Nat := if 0 ≤ i then (if i < n then some i.toNat else none) else if -(n : Int) ≤ i then some (i + n).toNat else none
def atI {α : Type} (xs : List α) (i : Int) : Option α := (ixN xs.length i).bind fun j => xs[j]?
theorem ixN_seq {n : Nat} {i : Int} {j : Nat} (h : ixN n i = some j) : seqIndex? i n = some j ∧ j < n ∧ -(n : Int) ≤ i ∧ i < n := by
  unfold ixN at h
  by_cases h0 : 0 ≤ i
  · rw [if_pos h0] at h
    by_cases h1 : i < n
    · rw [if_pos h1] at h
      have e : i.toNat = j := Option.some.inj h
      exact ⟨by rw [seqIndex_of h0 h1, e], by omega, by omega, h1⟩
    · rw [if_neg h1] at h; cases h
  · rw [if_neg h0] at h
    by_cases h1 : -(n : Int) ≤ i
    · rw [if_pos h1] at h
      have e : (i + n).toNat = j := Option.some.inj h
      exact ⟨by rw [seqIndex_neg (by omega) h1, e], by omega, h1, by omega⟩
    · rw [if_neg h1] at h; cases h
theorem atI_get {α : Type} {xs : List α} {i : Int} {v : α} (h : atI xs i = some v) : ∃ j, seqIndex? i xs.length = some j ∧ xs[j]? = some v ∧ j < xs.length ∧ -(xs.length : Int) ≤ i ∧ i < xs.length := by
  unfold atI at h
  cases e : ixN xs.length i with
  | none => rw [e] at h; cases h
  | some j =>
    rw [e] at h
    obtain ⟨h1, h2, h3, h4⟩ := ixN_seq e
    exact ⟨j, h1, h, h2, h3, h4⟩
theorem atI_nat {α : Type} {xs : List α} {j : Nat} {v : α} (h : xs[j]? = some v) : atI xs (j : Int) = some v := by
  have hj : j < xs.length := (List.getElem?_eq_some_iff.mp h).1
  have e : ixN xs.length (j : Int) = some j := by
    unfold ixN
    rw [if_pos (by omega), if_pos (by omega)]; simp
  unfold atI; rw [e]; exact h
theorem atI_last {α : Type} (xs : List α) (v : α) : atI (xs ++ [v]) (-1) = some v := by
  have hl : (xs ++ [v]).length = xs.length + 1 := by simp
  have e : ixN (xs ++ [v]).length (-1) = some xs.length := by
    unfold ixN
    rw [hl, if_neg (by decide), if_pos (by omega)]
    congr 1
    omega
  unfold atI
  rw [e]
  show (xs ++ [v])[xs.length]? = some v
  simp

/-! ### what may be subscripted -/
/-- what stands as an index of a plain subscript -/
def PlainIx (b : Expr) : Prop := ∀ o i, subscripted b false o i = operate [o, i] (getItem o i)
/-- a subscript by values -/
def IxR (X : Cx) (r : R2) : Prop :=
  ∀ (value slice : Expr) (pins : List (Addr × Obj)) (s : Shared) (σ : St) (H : Hp) (x y : V) (v u : Value) (Q : VK), Inv X pins σ H s → RelV x v → RelV y u → r x y H Q →
    subscripted slice false v u = operate [v, u] (getItem v u) → wpAny (model X.prog X.w) X.A (subscriptTail value slice v u) (EP X pins σ Q) X.xe s
/-- a call of a builtin's method by values: the receiver, the arguments -/
def MtR (X : Cx) (id : String) (r : V → List V → Hp → VK → Prop) : Prop :=
  ∀ (pins : List (Addr × Obj)) (s : Shared) (σ : St) (H : Hp) (x : V) (xs : List V) (v : Value) (us : List Value) (Q : VK), Inv X pins σ H s → RelV x v → Vals xs us → r x xs H Q →
    wpAny (model X.prog X.w) X.A (call (.builtin id) (v :: us)) (EP X pins σ Q) X.xe s
section
variable {X : Cx} {a b : Expr} {ta tb : TE} {pos : Pos}
theorem IxR.or {r r' : R2} (h : IxR X r) (h' : IxR X r') : IxR X (fun x y H Q => r x y H Q ∨ r' x y H Q) := by
  intro value slice pins s σ H x y v u Q I rx ry q hs
  rcases q with q | q
  · exact h value slice pins s σ H x y v u Q I rx ry q hs
  · exact h' value slice pins s σ H x y v u Q I rx ry q hs
theorem MtR.or {id : String} {r r' : V → List V → Hp → VK → Prop} (h : MtR X id r) (h' : MtR X id r') : MtR X id (fun x xs H Q => r x xs H Q ∨ r' x xs H Q) := by
  intro pins s σ H x xs v us Q I rx rs q
  rcases q with q | q
  · exact h pins s σ H x xs v us Q I rx rs q
  · exact h' pins s σ H x xs v us Q I rx rs q
/-- a[b] -/
theorem pe_ix {r : R2} (hr : IxR X r) (ha : PE X a ta) (hb : PE X b tb) (hs : PlainIx b) : PE X (.Subscript a b pos) (tOp r ta tb) := by
  intro pins s σ H Q I h
  exact Subscript_ (binT ha hb I h fun v u s2 x y H2 I2 rx ry q => hr a b pins s2 σ H2 x y v u Q I2 rx ry q (hs _ _))

def rIxL (K : PySem.W.Frag) : R2 := fun x y H Q => ∃ p xs i v, x = .ref p ∧ y = .int i ∧ SqL K H p xs ∧ atI xs i = some v ∧ Q v H
def rIxT (K : PySem.W.Frag) : R2 := fun x y H Q => ∃ p xs i v, x = .ref p ∧ y = .int i ∧ SqT K H p xs ∧ atI xs i = some v ∧ Q v H
def rIxS : R2 := fun x y H Q => ∃ z i c, x = .str z ∧ y = .int i ∧ z.length ≤ sizeLine ∧ atI z.cps.toList i = some c ∧ Q (.str ⟨#[c]⟩) H
theorem ix_list : IxR X (rIxL X.K) := by
  intro value slice pins s σ H x y v u Q I rx ry h hs
  obtain ⟨p, xs, i, z, rfl, rfl, hq, he, q⟩ := h
  cases rx
  obtain ⟨t, rfl⟩ := ry
  obtain ⟨its, r, pl, hz⟩ := I.list hq
  obtain ⟨j, h1, h2, h3, h4, h5⟩ := atI_get he
  obtain ⟨w, ew, rw'⟩ := r.get h2
  have hl := r.length
  have hn := line63
  have fin : EP X pins σ Q w s := ⟨z, H, I, rw', q⟩
  by_cases h0 : 0 ≤ i
  · have hj : i.toNat = j := by
      rw [seqIndex_of h0 h5] at h1
      exact Option.some.inj h1
    exact item_listR pl.isList h0 (by omega) (by rw [hj]; simpa using ew) fin hs
  · have hj : (i + (its.toArray.size : Int)).toNat = j := by
      rw [seqIndex_neg (by omega) h4] at h1
      rw [List.size_toArray, ← hl]
      exact Option.some.inj h1
    exact subscriptTail_builtinR (x := w) pl.isList.typeIs slot_list_getitem.lookup
      (wpAny_getItem_list_neg (Q := fun r s' => r = w ∧ EP X pins σ Q r s') pl.isList (by omega) (by rw [List.size_toArray] <;> omega) (by omega) (by rw [hj]; simpa using ew) ⟨rfl, fin⟩) hs
theorem ix_tup : IxR X (rIxT X.K) := by
  intro value slice pins s σ H x y v u Q I rx ry h hs
  obtain ⟨p, xs, i, z, rfl, rfl, hq, he, q⟩ := h
  cases rx
  obtain ⟨t, rfl⟩ := ry
  obtain ⟨its, r, pl, hz⟩ := I.tuple hq
  obtain ⟨j, h1, h2, h3, h4, h5⟩ := atI_get he
  obtain ⟨w, ew, rw'⟩ := r.get h2
  have hl := r.length
  have hn := line63
  have fin : EP X pins σ Q w s := ⟨z, H, I, rw', q⟩
  exact subscriptTail_builtinR (x := w) pl.typeIs slot_tuple_getitem.lookup
    (getItem_tuple (j := j) (Q := fun r s' => r = w ∧ EP X pins σ Q r s') pl (by omega) (by omega) (by rw [List.size_toArray, ← hl]; exact h1) (by simpa using ew) ⟨rfl, fin⟩) hs
theorem ix_str : IxR X rIxS := by
  intro value slice pins s σ H x y v u Q I rx ry h hs
  obtain ⟨z, i, c, rfl, rfl, hz, he, q⟩ := h
  obtain ⟨t, rfl⟩ := rx
  obtain ⟨t', rfl⟩ := ry
  obtain ⟨j, h1, h2, h3, h4, h5⟩ := atI_get he
  have hl : z.cps.toList.length = z.length := by simp [Str.length]
  rw [hl] at h1 h4 h5
  have hn := line63
  exact tail_any (typeIs_str s z t) slot_str_getitem.lookup (getItem_str (c := c) (by
    have e1 : decide (i < -(2 ^ 63 : Int)) = false := decide_eq_false (by omega)
    have e2 : decide (i ≥ 2 ^ 63) = false := decide_eq_false (by omega)
    rw [e1, e2, Bool.or_false]) (by rw [h1]; simpa using h2) ⟨.str ⟨#[c]⟩, H, I.tok _, ⟨_, rfl⟩, q⟩) hs
/-- list, tuple or str -/
def rIx (K : PySem.W.Frag) : R2 := fun x y H Q => rIxL K x y H Q ∨ rIxT K x y H Q ∨ rIxS x y H Q
theorem ix_seq : IxR X (rIx X.K) := ix_list.or (ix_tup.or ix_str)

/-! ### xs[i] = v, any sign -/
/-- the list's object behind a store -/
theorem mapSeq_set (its : List Value) (n j : Nat) (u : Value) : Obj.mapSeq (·.setIfInBounds j u) { cls := .type "list", data := .seq its.toArray n } = { cls := .type "list", data := .seq (its.set j u).toArray n } := by
  simp [Obj.mapSeq]
theorem Inv.lst {pins : List (Addr × Obj)} {σ : St} {H : Hp} {s : Shared} {p : Addr} {xs : List V} (I : Inv X pins σ H s) (h : H p = some (.lst xs)) :
    ∃ (its : List Value) (n : Nat), Vals xs its ∧ s.heap.get? p = some { cls := .type "list", data := .seq its.toArray n } ∧ xs.length ≤ sizeLine := by
  obtain ⟨z, its, n, r, e⟩ := I.hok p _ h
  exact ⟨its, n, r, e, z⟩
/-- the list at p is written by an update of its object -/
theorem Inv.lstUpd {pins : List (Addr × Obj)} {σ : St} {H : Hp} {s : Shared} {p : Addr} {xs ys : List V} {its its' : List Value} {n n' : Nat} {f : Obj → Obj} (I : Inv X pins σ H s) (h : H p = some (.lst xs))
    (ho : s.heap.get? p = some { cls := .type "list", data := .seq its.toArray n }) (hf : f { cls := .type "list", data := .seq its.toArray n } = { cls := .type "list", data := .seq its'.toArray n' }) (r : Vals ys its') (hz : ys.length ≤ sizeLine) (t : Nat) :
    Inv X pins σ (upd H p (.lst ys)) { s with heap := s.heap.update p f, toks := t } := by
  have e : (s.heap.update p f).get? p = some { cls := .type "list", data := .seq its'.toArray n' } := by
    rw [Heap.get?_update_self f ho (by rw [hf] <;> rfl), hf]
  refine I.write (x := p) (e := p) (by rw [h]; trivial) (.inl rfl) (fun b u hb q => (Heap.get?_update_other _ _ (Ne.symm hb)).trans q) ⟨_, e⟩ ?_
  exact ⟨hz, its', n', r, e⟩
def rSetL : V → V → V → Hp → (Hp → Prop) → Prop := fun o i v H Q => ∃ p xs k j, o = .ref p ∧ i = .int k ∧ H p = some (.lst xs) ∧ ixN xs.length k = some j ∧ Q (upd H p (.lst (xs.set j v)))
theorem set_list : PSet X rSetL := by
  intro pins s σ H o i v ov iv u Q I ro ri rv h
  obtain ⟨p, xs, k, j, rfl, rfl, hp, hj, q⟩ := h
  cases ro
  obtain ⟨t, rfl⟩ := ri
  obtain ⟨its, n, r, ho, hz⟩ := I.lst hp
  obtain ⟨h1, h2, h3, h4⟩ := ixN_seq hj
  have hl := r.length
  have hn := line63
  have I' : Inv X pins σ (upd H p (.lst (xs.set j v))) { s with heap := s.heap.update p (Obj.mapSeq (·.setIfInBounds j u)) } :=
    I.lstUpd hp ho (mapSeq_set its n j u) (r.set rv j) (by rw [List.length_set]; exact hz) s.toks
  by_cases h0 : 0 ≤ k
  · have hk : k.toNat = j := by
      rw [seqIndex_of h0 h4] at h1
      exact Option.some.inj h1
    exact PySem.W.ki_setAt ho h0 (by omega) (by rw [List.size_toArray, ← hl]; exact h4) (by rw [hk]; exact ⟨_, I', q⟩)
  · have hk : (k + (its.toArray.size : Int)).toNat = j := by
      rw [seqIndex_neg (by omega) h3] at h1
      rw [List.size_toArray, ← hl]
      exact Option.some.inj h1
    exact PySem.W.ki_setBack ho (by omega) (by rw [List.size_toArray, ← hl]; exact h3) (by omega) (by rw [hk]; exact ⟨_, I', q⟩)

/-! ### slices -/
theorem slice_bounds (lo hi : Option Int) (n : Nat) : (sliceBounds lo hi none n).1 = ((HT.sIx n 0 lo : Nat) : Int) ∧ (sliceBounds lo hi none n).2.1 = ((HT.sIx n n hi : Nat) : Int) ∧ (sliceBounds lo hi none n).2.2 = 1 := by
  refine ⟨?_, ?_, rfl⟩
  · cases lo with
    | none => simp [sliceBounds, HT.sIx]
    | some i =>
      simp only [sliceBounds, HT.sIx, Option.getD_none, show (1 : Int) > 0 by decide, if_true]
      by_cases h : i < 0
      · simp only [h, if_true] <;> omega
      · simp only [h, if_false] <;> omega
  · cases hi with
    | none => simp [sliceBounds, HT.sIx]
    | some i =>
      simp only [sliceBounds, HT.sIx, Option.getD_none, show (1 : Int) > 0 by decide, if_true]
      by_cases h : i < 0
      · simp only [h, if_true] <;> omega
      · simp only [h, if_false] <;> omega
theorem slicePick_cut (its : List Value) (lo hi : Option Int) : slicePick its.toArray lo hi none = ((its.drop (HT.sIx its.length 0 lo)).take (HT.sIx its.length its.length hi - HT.sIx its.length 0 lo)).toArray := by
  obtain ⟨h1, h2, h3⟩ := slice_bounds lo hi its.toArray.size
  unfold slicePick
  rw [h1, h2, h3]
  simp only [sliceRange_one, pick_run, List.size_toArray] <;> rfl
/-- xs[lo:hi] of a list: a new list -/
def rSlL (K : PySem.W.Frag) : V → Option Int → Option Int → Hp → VK → Prop := fun x lo hi H Q => ∃ a xs, x = .ref a ∧ SqL K H a xs ∧ ∀ p, H p = none → Q (.ref p) (upd H p (.lst (cutV xs lo hi)))
theorem sl_list : SlR X (rSlL X.K) := by
  intro pins s σ H x v vl vu lo hi sl Q I rx hs pl pu h
  obtain ⟨a, xs, rfl, hx, q⟩ := h
  cases rx
  obtain ⟨its, r, ht, hz⟩ := I.list hx
  have hlen := r.length
  refine ⟨"list", _, slot_list_getitem.lookup, ht.isList.typeIs, ?_⟩
  refine wpAny_getItem_list_slice ht.isList hs pl pu .none (by simp) ?_ (by rw [List.size_toArray] <;> omega)
  rw [slicePick_cut, ← hlen]
  refine ⟨.ref s.heap.objs.size, _, I.laid (t' := s.toks) (o := .lst (cutV xs lo hi)) (fun b ob q => Heap.get?_push_of_some _ q) (Nat.le_refl _) ?_, rfl, q _ (I.hok.fresh (Nat.le_refl _))⟩
  exact ⟨Nat.le_trans (cutV_length xs lo hi) hz, _, 0, (r.drop (HT.sIx xs.length 0 lo)).take (HT.sIx xs.length xs.length hi - HT.sIx xs.length 0 lo), Heap.get?_push_size _ rfl⟩

/-! ### in, not in: flat items -/
def flatV : V → Bool
  | .non => true
  | .bl _ => true
  | .int _ => true
  | .str _ => true
  | _ => false
/-- == of flat values -/
def eqV : V → V → Bool
  | .non, .non => true
  | .bl a, .bl b => a == b
  | .bl a, .int b => (if a then 1 else 0) == b
  | .int a, .bl b => a == (if b then 1 else 0)
  | .int a, .int b => a == b
  | .str a, .str b => a == b
  | _, _ => false
theorem eqAt_V {A : Around} {s : Shared} {y x : V} {u v : Value} (ry : RelV y u) (rx : RelV x v) (fy : flatV y = true) (fx : flatV x = true) : SeqAt.EqAt A s u v (eqV y x) := by
  cases y with
  | non =>
    cases ry
    cases x with
    | non => cases rx; exact SeqAt.EqAt.same _
    | bl b => cases rx; exact SeqAt.EqAt.none_bool b
    | int b => obtain ⟨t, rfl⟩ := rx; exact SeqAt.EqAt.none_int b t
    | str b => obtain ⟨t, rfl⟩ := rx; exact SeqAt.EqAt.none_str b t
    | _ => exact absurd (show false = true from fx) Bool.false_ne_true
  | bl a =>
    cases ry
    cases x with
    | non => cases rx; exact SeqAt.EqAt.bool_none a
    | bl b => cases rx; exact SeqAt.EqAt.bool_bool a b
    | int b => obtain ⟨t, rfl⟩ := rx; exact SeqAt.EqAt.bool_int a b t
    | str b => obtain ⟨t, rfl⟩ := rx; exact SeqAt.EqAt.bool_str a b t
    | _ => exact absurd (show false = true from fx) Bool.false_ne_true
  | int a =>
    obtain ⟨t', rfl⟩ := ry
    cases x with
    | non => cases rx; exact SeqAt.EqAt.int_none a t'
    | bl b => cases rx; exact SeqAt.EqAt.int_bool a t' b
    | int b => obtain ⟨t, rfl⟩ := rx; exact SeqAt.EqAt.int_int a t' b t
    | str b => obtain ⟨t, rfl⟩ := rx; exact SeqAt.EqAt.int_str a t' b t
    | _ => exact absurd (show false = true from fx) Bool.false_ne_true
  | str a =>
    obtain ⟨t', rfl⟩ := ry
    cases x with
    | non => cases rx; exact SeqAt.EqAt.str_none a t'
    | bl b => cases rx; exact SeqAt.EqAt.str_bool a t' b
    | int b => obtain ⟨t, rfl⟩ := rx; exact SeqAt.EqAt.str_int a t' b t
    | str b => obtain ⟨t, rfl⟩ := rx; exact SeqAt.EqAt.str_str a t' b t
    | _ => exact absurd (show false = true from fx) Bool.false_ne_true
  | _ => exact absurd (show false = true from fy) Bool.false_ne_true
/-- the items' answers, read off the values (a value's own answer does not lean on its token) -/
def eqU (x : V) (u : Value) : Bool := match u with
  | .none => eqV .non x
  | .bool b => eqV (.bl b) x
  | .int i _ => eqV (.int i) x
  | .str z _ => eqV (.str z) x
  | _ => false
theorem eqU_of {x y : V} {u : Value} (r : RelV y u) (f : flatV y = true) : eqU x u = eqV y x := by
  cases y with
  | non => cases r; rfl
  | bl b => cases r; rfl
  | int i => obtain ⟨t, rfl⟩ := r; rfl
  | str z => obtain ⟨t, rfl⟩ := r; rfl
  | _ => exact absurd (show false = true from f) Bool.false_ne_true
theorem any_eqU {x : V} : ∀ {xs : List V} {us : List Value}, Vals xs us → xs.all flatV = true → us.any (eqU x) = xs.any fun y => eqV y x
  | _, _, .nil, _ => rfl
  | y :: xs, u :: us, .cons r t, f => by
    rw [List.all_cons, Bool.and_eq_true] at f
    rw [List.any_cons, List.any_cons, eqU_of r f.1, any_eqU t f.2]
theorem mem_eqAt {A : Around} {s : Shared} {x : V} {v : Value} (rx : RelV x v) (fx : flatV x = true) : ∀ {xs : List V} {us : List Value}, Vals xs us → xs.all flatV = true → ∀ u ∈ us, SeqAt.EqAt A s u v (eqU x u)
  | _, _, .nil, _ => fun u hu => by cases hu
  | y :: xs, u :: us, .cons r t, f => fun u' hu => by
    rw [List.all_cons, Bool.and_eq_true] at f
    rcases List.mem_cons.mp hu with rfl | hu
    · rw [eqU_of r f.1]; exact eqAt_V r rx f.1 fx
    · exact mem_eqAt rx fx t f.2 u' hu
def inV (x : V) (xs : List V) : Bool := xs.any fun y => eqV y x
/-- x in a list or tuple of flat items -/
def rIn (K : PySem.W.Frag) (neg : Bool) : R2 := fun x y H Q => ∃ p xs, y = .ref p ∧ (SqL K H p xs ∨ SqT K H p xs) ∧ flatV x = true ∧ xs.all flatV = true ∧ Q (.bl (if neg then !inV x xs else inV x xs)) H
theorem op_in_seq : OpR X (compareOp .In) (rIn X.K false) := by
  intro pins s σ H x y v u Q I rx ry h
  obtain ⟨p, xs, rfl, hq, fx, fs, q⟩ := h
  cases ry
  rcases hq with hq | hq
  · obtain ⟨its, r, pl, hz⟩ := I.list hq
    refine SeqAt.in_listAt (eqU x) pl.isList (fun w hw => mem_eqAt rx fx r fs w (by simpa using hw)) ⟨.bl _, H, I, rfl, ?_⟩
    rw [show its.toArray.any (eqU x) = its.any (eqU x) by simp, any_eqU r fs]
    exact q
  · obtain ⟨its, r, pl, hz⟩ := I.tuple hq
    refine SeqAt.in_tupleAt (eqU x) pl (fun w hw => mem_eqAt rx fx r fs w (by simpa using hw)) ⟨.bl _, H, I, rfl, ?_⟩
    rw [show its.toArray.any (eqU x) = its.any (eqU x) by simp, any_eqU r fs]
    exact q
theorem op_notIn_seq : OpR X (compareOp .NotIn) (rIn X.K true) := by
  intro pins s σ H x y v u Q I rx ry h
  obtain ⟨p, xs, rfl, hq, fx, fs, q⟩ := h
  cases ry
  rcases hq with hq | hq
  · obtain ⟨its, r, pl, hz⟩ := I.list hq
    refine SeqAt.notIn_listAt (eqU x) pl.isList (fun w hw => mem_eqAt rx fx r fs w (by simpa using hw)) ⟨.bl _, H, I, rfl, ?_⟩
    rw [show its.toArray.any (eqU x) = its.any (eqU x) by simp, any_eqU r fs]
    exact q
  · obtain ⟨its, r, pl, hz⟩ := I.tuple hq
    refine SeqAt.notIn_tupleAt (eqU x) pl (fun w hw => mem_eqAt rx fx r fs w (by simpa using hw)) ⟨.bl _, H, I, rfl, ?_⟩
    rw [show its.toArray.any (eqU x) = its.any (eqU x) by simp, any_eqU r fs]
    exact q
theorem op_notIn_str : OpR X (compareOp .NotIn) (fun x y H Q => ∃ i j, x = .str i ∧ y = .str j ∧ Q (.bl (!(!(Builtin.Str.occurrences j i 0 j.length 1).isEmpty))) H) := by
  intro pins s σ H x y v u Q I rx ry h
  obtain ⟨i, j, rfl, rfl, q⟩ := h
  obtain ⟨t, rfl⟩ := rx
  obtain ⟨t', rfl⟩ := ry
  exact notIn_str ⟨.bl _, H, I, rfl, q⟩

/-! ### len, list(x), tuple(x) of any list or tuple that is read -/
theorem call_len_seq : CallR X (.builtin "len") (fun xs H Q => ∃ p ys, xs = [.ref p] ∧ (SqL X.K H p ys ∨ SqT X.K H p ys) ∧ Q (.int ys.length) H) := by
  intro pins s σ H xs us Q I r h
  obtain ⟨p, ys, rfl, hq, q⟩ := h
  obtain ⟨u, rfl, rx⟩ := vals1 r
  cases rx
  have hn := line63
  rcases hq with hq | hq
  · obtain ⟨its, r', pl, hz⟩ := I.list hq
    have hlen := r'.length
    exact Calls.call_len_list pl.isList (by simp only [List.size_toArray] <;> omega) ⟨.int ys.length, H, I.tok _, ⟨s.toks + 1, by rw [List.size_toArray, hlen]⟩, q⟩
  · obtain ⟨its, r', pl, hz⟩ := I.tuple hq
    have hlen := r'.length
    exact len_tuple pl (by simp only [List.size_toArray] <;> omega) ⟨.int ys.length, H, I.tok _, ⟨s.toks + 1, by rw [List.size_toArray, hlen]⟩, q⟩
theorem call_len_str : CallR X (.builtin "len") (fun xs H Q => ∃ z, xs = [.str z] ∧ z.length ≤ sizeLine ∧ Q (.int z.length) H) := by
  intro pins s σ H xs us Q I r h
  obtain ⟨z, rfl, hz, q⟩ := h
  obtain ⟨u, rfl, t, rfl⟩ := vals1 r
  have hn := line63
  exact len_str (by omega) ⟨.int z.length, H, I.tok _, ⟨_, rfl⟩, q⟩
theorem CallR.or {f : Value} {r r' : List V → Hp → VK → Prop} (h : CallR X f r) (h' : CallR X f r') : CallR X f (fun xs H Q => r xs H Q ∨ r' xs H Q) := by
  intro pins s σ H xs us Q I rs q
  rcases q with q | q
  · exact h pins s σ H xs us Q I rs q
  · exact h' pins s σ H xs us Q I rs q
theorem call_list_of : CallR X (.type "list") (fun xs H Q => ∃ p ys, xs = [.ref p] ∧ (SqL X.K H p ys ∨ SqT X.K H p ys) ∧ ∀ l, H l = none → Q (.ref l) (upd H l (.lst ys))) := by
  intro pins s σ H xs us Q I r h
  obtain ⟨p, ys, rfl, hq, q⟩ := h
  obtain ⟨u, rfl, rx⟩ := vals1 r
  cases rx
  have fin : ∀ (its : List Value), Vals ys its → ys.length ≤ sizeLine → ∀ (h' : Heap) (c' : Nat), (∀ b o', s.heap.get? b = some o' → h'.get? b = some o') →
      h'.get? s.heap.objs.size = some { cls := .type "list", dict := none, data := .seq its.toArray c', slots := #[] } → EP X pins σ Q (.ref s.heap.objs.size) { s with heap := h' } := fun its r' hz h' c' kp e =>
    ⟨.ref s.heap.objs.size, _, I.laid (t' := s.toks) kp (Nat.le_refl _) (show ObjOk X.prog X.w _ h' _ (.lst ys) from ⟨hz, its, c', r', e⟩), rfl, q _ (I.hok.fresh (Nat.le_refl _))⟩
  rcases hq with hq | hq
  · obtain ⟨its, r', pl, hz⟩ := I.list hq
    have hlen := r'.length
    obtain ⟨o, ho, hc, n, hd⟩ := pl.isList
    exact call_list_seq p (.inl rfl) ho hc hd (fun h' c' kp e => fin its r' hz h' c' kp e) (by simp only [List.size_toArray] <;> omega)
  · obtain ⟨its, r', pl, hz⟩ := I.tuple hq
    have hlen := r'.length
    obtain ⟨o, ho, hc, n, hd⟩ := pl
    exact call_list_seq p (.inr rfl) ho hc hd (fun h' c' kp e => fin its r' hz h' c' kp e) (by simp only [List.size_toArray] <;> omega)
theorem call_tuple_of : CallR X (.type "tuple") (fun xs H Q => ∃ p ys, xs = [.ref p] ∧ ((SqL X.K H p ys ∧ ∀ l, H l = none → Q (.ref l) (upd H l (.tup ys))) ∨ (SqT X.K H p ys ∧ Q (.ref p) H))) := by
  intro pins s σ H xs us Q I r h
  obtain ⟨p, ys, rfl, h⟩ := h
  obtain ⟨u, rfl, rx⟩ := vals1 r
  cases rx
  rcases h with ⟨hq, q⟩ | ⟨hq, q⟩
  · obtain ⟨its, r', pl, hz⟩ := I.list hq
    have hlen := r'.length
    refine call_tuple_list pl.isList (fun h' kp => ?_) (by simp only [List.size_toArray] <;> omega)
    have I1 : Inv X pins σ H { s with heap := h' } := I.kept (t' := s.toks) kp
    have I2 : Inv X pins σ (upd H h'.objs.size (.tup ys)) { s with heap := h'.push { cls := .type "tuple", data := .seq its.toArray } } :=
      I1.laid (t' := s.toks) (fun b o e => Heap.get?_push_of_some _ e) (Nat.le_refl _) (show ObjOk X.prog X.w _ _ _ (.tup ys) from ⟨hz, its, r', IsTup.new _ _⟩)
    exact ⟨.ref h'.objs.size, _, I2, rfl, q _ (I1.hok.fresh (Nat.le_refl _))⟩
  · obtain ⟨its, r', pl, hz⟩ := I.tuple hq
    exact call_tuple_same pl ⟨.ref p, H, I, rfl, q⟩

/-! ### the call of a builtin's method: o.m(..) -/
/-- the value is of that builtin type -/
def tyV (K : PySem.W.Frag) (T : String) (x : V) (H : Hp) : Prop := match x with
  | .str _ => T = "str"
  | .int _ => T = "int"
  | .ref p => (T = "list" ∧ ∃ xs, SqL K H p xs) ∨ (T = "tuple" ∧ ∃ o, K.lookup p = some o ∧ o.cls = .type "tuple" ∧ o.dict = none) ∨
      (T = "dict" ∧ ((∃ kvs, H p = some (.dK kvs)) ∨ ∃ kvs, H p = some (.dT kvs))) ∨ (T = "set" ∧ ∃ S n, H p = some (.set S n))
  | _ => False
theorem tyV_is {pins : List (Addr × Obj)} {σ : St} {H : Hp} {s : Shared} {T : String} {x : V} {v : Value} (I : Inv X pins σ H s) (r : RelV x v) (ty : tyV X.K T x H) :
    s.TypeIs v T ∧ ∀ a, v = .ref a → ∃ ob, s.heap.get? a = some ob ∧ ob.dict = none := by
  cases x with
  | str z =>
    obtain ⟨t, rfl⟩ := r
    cases (show T = "str" from ty)
    exact ⟨typeIs_str s z t, fun _ e => nomatch e⟩
  | int i =>
    obtain ⟨t, rfl⟩ := r
    cases (show T = "int" from ty)
    exact ⟨typeIs_int s i t, fun _ e => nomatch e⟩
  | ref p =>
    cases r
    rcases ty with ⟨rfl, xs, hq⟩ | ⟨rfl, o, hk, hc, hd⟩ | ⟨rfl, hk⟩ | ⟨rfl, S, n, hk⟩
    · obtain ⟨its, _, pl, _⟩ := I.list hq
      refine ⟨pl.isList.typeIs, fun a e => ?_⟩
      cases e
      obtain ⟨o, n, e, c, hd, _⟩ := pl
      exact ⟨o, e, hd⟩
    · refine ⟨⟨o, I.kIn p o hk, hc⟩, fun a e => ?_⟩
      cases e
      exact ⟨o, I.kIn _ o hk, hd⟩
    · have z : ∃ o, s.heap.get? p = some o ∧ o.ExactDict := by
        rcases hk with ⟨kvs, hk⟩ | ⟨kvs, hk⟩
        · obtain ⟨_, _, _, _, o, _, _, e, ex, _⟩ := I.hok p _ hk
          exact ⟨o, e, ex⟩
        · obtain ⟨_, _, _, _, o, _, _, e, ex, _⟩ := I.hok p _ hk
          exact ⟨o, e, ex⟩
      obtain ⟨o, e, ex⟩ := z
      refine ⟨⟨o, e, ex.1⟩, fun a e2 => ?_⟩
      cases e2
      exact ⟨o, e, ex.2.1⟩
    · obtain ⟨o, _, _, _, e, ex, _⟩ := I.hok p _ hk
      refine ⟨⟨o, e, ex.1⟩, fun a e2 => ?_⟩
      cases e2
      exact ⟨o, e, ex.2.1⟩
  | _ => exact False.elim ty
def tBM0 (K : PySem.W.Frag) (T : String) (r : V → List V → Hp → VK → Prop) (to : TE) : TE := fun σ H Q => to σ H fun x H1 => tyV K T x H1 ∧ r x [] H1 Q
def tBM (K : PySem.W.Frag) (T : String) (r : V → List V → Hp → VK → Prop) (to : TE) (t : TA) : TE := fun σ H Q => to σ H fun x H1 => tyV K T x H1 ∧ t σ H1 fun xs H2 => r x xs H2 Q
variable {o e : Expr} {es : List Expr} {to : TE} {t : TA} {name : Str} {apos cpos : Pos} {T id : String} {r : V → List V → Hp → VK → Prop}
theorem pe_bm0 (pa : PlainAttrs T) (slot : Slot T name id) (hty : typeOf (.builtin id) = pure (.type "method_descriptor")) (hm : MtR X id r) (ho : PE X o to)
    (hbase : attributeBase o name X.env (eval o X.env) = eval o X.env := by rfl) (hline : (apos.endLine == cpos.line) = true := by rfl) : PE X (.Call (.Attribute o name apos) [] [] cpos) (tBM0 X.K T r to) := by
  intro pins s σ H Q I h
  refine wpAny_Call_method0_late hbase hline (thn (ho pins s σ H _ I h) fun v s1 ⟨x, H1, I1, r1, ty, q1⟩ => ?_)
  obtain ⟨h1, h2⟩ := tyV_is I1 r1 ty
  exact ⟨T, id, pa, slot, hty, h1, h2, Calls.callWith_builtin rfl (PySem.evalArgs_none (hm pins s1 σ H1 x [] v [] Q I1 r1 .nil q1))⟩
theorem pe_bm (pa : PlainAttrs T) (slot : Slot T name id) (hty : typeOf (.builtin id) = pure (.type "method_descriptor")) (hm : MtR X id r) (ho : PE X o to) (ha : PA X (e :: es) t)
    (hbase : attributeBase o name X.env (eval o X.env) = eval o X.env := by rfl)
    (hfew : ((backTo cpos (starEach (e :: es) X.env)).all (fun x => !x.1) && (backToKw cpos (keywordEach [] X.env)).all (fun x => x.1.isSome)
      && decide ((e :: es).length + ([] : List Keyword).length + (if ([] : List Keyword).isEmpty then 0 else 1) < 30)) = true := by rfl)
    (hline : (apos.endLine == cpos.line) = true := by rfl) (hs : starEach (e :: es) X.env = (false, eval e X.env) :: starEach es X.env := by rfl) (hplain : (backTo cpos (starEach es X.env)).any (·.1) = false := by rfl) :
    PE X (.Call (.Attribute o name apos) (e :: es) [] cpos) (tBM X.K T r to t) := by
  intro pins s σ H Q I h
  refine wpAny_Call_method_late hbase hfew hline rfl (thn (ho pins s σ H _ I h) fun v s1 ⟨x, H1, I1, r1, ty, q1⟩ => ?_)
  obtain ⟨h1, h2⟩ := tyV_is I1 r1 ty
  refine ⟨T, id, pa, slot, hty, h1, h2, ?_⟩
  have hA := ha cpos pins s1 σ H1 _ I1 q1
  rw [hs] at hA ⊢
  refine Calls.callWith_builtin (by show (false || (backTo cpos (starEach es X.env)).any (·.1)) = false; rw [hplain] <;> rfl) (Calls.evalArgs_plain ?_)
  exact thn hA fun us s2 ⟨vs, H2, I2, r2, q2⟩ => hm pins s2 σ H2 x vs v us Q I2 r1 r2 q2
/- xs.append(e), list.index on a module's tuple .. are MtR facts of 06m -/
end
end L2

namespace L2
open PySem PySem.Spec PyProof.Rows

def MtM (X : Cx) (id : String) (r : V → List V → Hp → VK → Prop) : Prop :=
  ∀ (pins : List (Addr × Obj)) (s : Shared) (σ : St) (H : Hp) (x : V) (xs : List V) (v : Value) (us : List Value) (Q : VK), Inv X pins σ H s → RelV x v → Vals xs us → r x xs H Q →
    wpAny (model X.prog X.w) X.A (call (.builtin id) (v :: us)) (EP X pins σ Q) X.xe s

/-! ### lists of values -/
theorem Vals.one : ∀ {x : V} {us : List Value}, Vals [x] us → ∃ u, us = [u] ∧ RelV x u
  | _, _, .cons r .nil => ⟨_, rfl, r⟩
theorem Vals.two : ∀ {x y : V} {us : List Value}, Vals [x, y] us → ∃ u v, us = [u, v] ∧ RelV x u ∧ RelV y v
  | _, _, _, .cons r (.cons q .nil) => ⟨_, _, rfl, r, q⟩
theorem Vals.zero : ∀ {us : List Value}, Vals [] us → us = []
  | _, .nil => rfl
theorem Vals.dropLast {xs : List V} {us : List Value} (h : Vals xs us) : Vals xs.dropLast us.dropLast := by
  induction h with
  | nil => exact .nil
  | cons r t ih =>
    cases t with
    | nil => exact .nil
    | cons q t' => exact .cons r ih
theorem Vals.eraseIdx : ∀ {xs : List V} {us : List Value} (i : Nat), Vals xs us → Vals (xs.eraseIdx i) (us.eraseIdx i)
  | _, _, _, .nil => .nil
  | _, _, 0, .cons _ t => t
  | _, _, i + 1, .cons r t => .cons r (Vals.eraseIdx i t)
theorem Vals.reverse {xs : List V} {us : List Value} (h : Vals xs us) : Vals xs.reverse us.reverse := by
  induction h with
  | nil => exact .nil
  | cons r t ih => rw [List.reverse_cons, List.reverse_cons]; exact Vals.append ih (.cons r .nil)
theorem Vals.rep {xs : List V} {us : List Value} (h : Vals xs us) : ∀ k : Nat, Vals (List.replicate k xs).flatten (List.replicate k us).flatten
  | 0 => .nil
  | k + 1 => by
    rw [List.replicate_succ, List.replicate_succ, List.flatten_cons, List.flatten_cons]
    exact Vals.append h (Vals.rep h k)
theorem erase_last {α : Type} (l : List α) : l.eraseIdx (l.length - 1) = l.dropLast := by
  induction l with
  | nil => rfl
  | cons a r ih =>
    cases r with
    | nil => rfl
    | cons b r =>
      have e : (a :: b :: r).length - 1 = ((b :: r).length - 1) + 1 := by
        have h1 : (a :: b :: r).length = r.length + 2 := rfl
        have h2 : (b :: r).length = r.length + 1 := rfl
        omega
      rw [e, List.eraseIdx_cons_succ, ih]
      all_goals rfl
theorem len_erase {α : Type} : ∀ (l : List α) (i : Nat), (l.eraseIdx i).length ≤ l.length
  | [], _ => Nat.le_refl _
  | _ :: _, 0 => Nat.le_succ _
  | _ :: r, i + 1 => Nat.succ_le_succ (len_erase r i)
theorem foldl_rep (its : List Value) : ∀ (k : Nat) (acc : List Value),
    List.foldl (fun x1 x2 => x1 ++ x2) acc.toArray (List.replicate k its.toArray) = (acc ++ (List.replicate k its).flatten).toArray
  | 0, acc => by simp
  | k + 1, acc => by
    have e : acc.toArray ++ its.toArray = (acc ++ its).toArray := by simp
    have e2 : (acc ++ its) ++ (List.replicate k its).flatten = acc ++ (List.replicate (k + 1) its).flatten := by
      rw [List.replicate_succ, List.flatten_cons, List.append_assoc]
    rw [← e2, ← foldl_rep its k (acc ++ its), ← e, List.replicate_succ, List.foldl_cons]

section
variable {X : Cx} {pins : List (Addr × Obj)} {σ : St} {H : Hp} {s : Shared} {l b : Addr} {xs ys zs : List V}

/-! ### the two steps: a tracked list is rewritten, a new list is laid -/
theorem Inv.lset {its its' : List Value} {n : Nat} {f : Array Value → Array Value} {t' : Nat} (I : Inv X pins σ H s) (hH : H l = some (.lst xs))
    (e : s.heap.get? l = some { cls := .type "list", data := .seq its.toArray n }) (hf : f its.toArray = its'.toArray) (hv : Vals ys its') (hz : ys.length ≤ sizeLine) :
    Inv X pins σ (upd H l (.lst ys)) { s with heap := s.heap.update l (Obj.mapSeq f), toks := t' } := by
  have q := PySem.IsL.update e f
  rw [hf] at q
  refine I.write (x := l) (e := l) (by rw [hH]; exact trivial) (.inl rfl) (fun b' u hb hu => (Heap.get?_update_other s.heap (Obj.mapSeq f) (Ne.symm hb)).trans hu) ⟨_, q⟩ ?_
  exact ⟨hz, its', _, hv, q⟩
theorem Inv.lnew {its : List Value} {t' : Nat} (I : Inv X pins σ H s) (hv : Vals ys its) (hz : ys.length ≤ sizeLine) :
    Inv X pins σ (upd H s.heap.objs.size (.lst ys)) { s with heap := s.heap.push { cls := .type "list", data := .seq its.toArray }, toks := t' } :=
  I.laid (fun _ _ q => Heap.get?_push_of_some _ q) (Nat.le_refl _) ⟨hz, its, 0, hv, Heap.get?_push_size _ rfl⟩
theorem Inv.fresh (I : Inv X pins σ H s) : H s.heap.objs.size = none := I.hok.fresh (Nat.le_refl _)
theorem Inv.lstM (I : Inv X pins σ H s) (hH : H l = some (.lst xs)) : xs.length ≤ sizeLine ∧ ∃ (its : List Value) (n : Nat), Vals xs its ∧ xs.length = its.length ∧ s.heap.get? l = some { cls := .type "list", data := .seq its.toArray n } := by
  obtain ⟨z, its, n, r, e⟩ := I.hok l _ hH
  exact ⟨z, its, n, r, r.length, e⟩

theorem notLongL {n : Nat} (h : n ≤ sizeLine) : Builtin.List.listTooLong n = false := by
  unfold Builtin.List.listTooLong
  exact decide_eq_false (by omega)
end

section
variable {X : Cx}

/-! ### methods -/
def rAppend : V → List V → Hp → VK → Prop := fun x vs H Q => ∃ l xs y, x = .ref l ∧ vs = [y] ∧ H l = some (.lst xs) ∧ xs.length < sizeLine ∧ Q .non (upd H l (.lst (xs ++ [y])))
theorem mt_append : MtM X "list.append" rAppend := by
  intro pins s σ H x vs v us Q I rx rv h
  obtain ⟨l, xs, y, rfl, rfl, hH, hz, q⟩ := h
  cases rx
  obtain ⟨u, rfl, ru⟩ := rv.one
  obtain ⟨z, its, n, r, hl, e⟩ := I.lstM hH
  refine call_meets F.slot_list_append ⟨_, e, rfl⟩ F.entry_list_append (F.args_list_append_2 _ _) (PySem.list_append l its.toArray n u (by rw [List.size_toArray]; omega)) ⟨e, ?_⟩
  refine ⟨.non, _, I.lset (its' := its ++ [u]) hH e (by simp) (r.append (.cons ru .nil)) ?_, rfl, q⟩
  rw [List.length_append, List.length_singleton]
  omega

def rExtend : V → List V → Hp → VK → Prop := fun x vs H Q => ∃ l b xs zs, x = .ref l ∧ vs = [.ref b] ∧ H l = some (.lst xs) ∧ H b = some (.lst zs) ∧ xs.length + zs.length ≤ sizeLine ∧ Q .non (upd H l (.lst (xs ++ zs)))
theorem mt_extend : MtM X "list.extend" rExtend := by
  intro pins s σ H x vs v us Q I rx rv h
  obtain ⟨l, b, xs, zs, rfl, rfl, hH, hB, hz, q⟩ := h
  cases rx
  obtain ⟨u, rfl, ru⟩ := rv.one
  cases ru
  obtain ⟨z, its, n, r, hl, e⟩ := I.lstM hH
  obtain ⟨z2, its2, n2, r2, hl2, e2⟩ := I.lstM hB
  have hsz : its.toArray.size + its2.toArray.size ≤ sizeLine := by rw [List.size_toArray, List.size_toArray]; omega
  have hlong : ¬ (!its.toArray.isEmpty && Builtin.List.listTooLong (its.toArray.size + its2.toArray.size)) = true := by
    rw [notLongL hsz, Bool.and_false]
    exact Bool.false_ne_true
  refine call_meets F.slot_list_extend ⟨_, e, rfl⟩ F.entry_list_extend (F.args_list_extend_2 _ _)
    (AutoSeq1.list_extend_list_list_0 l its.toArray n b its2.toArray n2 hlong (by rw [List.size_toArray]; omega) (by omega)) ⟨e, e2, ?_⟩
  refine ⟨.non, _, I.lset (its' := its ++ its2) hH e (by simp) (r.append r2) ?_, rfl, q⟩
  rw [List.length_append]
  omega

def rPop : V → List V → Hp → VK → Prop := fun x vs H Q => ∃ l xs y, x = .ref l ∧ vs = [] ∧ H l = some (.lst xs) ∧ xs[xs.length - 1]? = some y ∧ Q y (upd H l (.lst xs.dropLast))
theorem mt_pop : MtM X "list.pop" rPop := by
  intro pins s σ H x vs v us Q I rx rv h
  obtain ⟨l, xs, y, rfl, rfl, hH, hy, q⟩ := h
  cases rx
  have hus := rv.zero
  subst hus
  obtain ⟨z, its, n, r, hl, e⟩ := I.lstM hH
  obtain ⟨u, hu, ru⟩ := r.get hy
  have hy' : its.toArray[its.toArray.size - 1]? = some u := by
    show its.toArray[its.length - 1]? = some u
    rw [← Array.getElem?_toList, ← hl]
    exact hu
  refine call_meets F.slot_list_pop ⟨_, e, rfl⟩ F.entry_list_pop (F.args_list_pop_1 _) (MeetsSeq.list_pop_last l its.toArray n u hy' (by rw [List.size_toArray]; omega)) ⟨e, ?_⟩
  refine ⟨y, _, I.lset (its' := its.dropLast) hH e ?_ r.dropLast ?_, ru, q⟩
  · show its.toArray.eraseIdxIfInBounds (its.toArray.size - 1) = its.dropLast.toArray
    rw [List.size_toArray, List.eraseIdxIfInBounds_toArray, erase_last]
  · rw [List.length_dropLast]
    omega

def rPopAt : V → List V → Hp → VK → Prop := fun x vs H Q => ∃ l xs i k y, x = .ref l ∧ vs = [.int i] ∧ H l = some (.lst xs) ∧ -(2 ^ 63) ≤ i ∧ i < 2 ^ 63 ∧ seqIndex? i xs.length = some k ∧ xs[k]? = some y ∧ Q y (upd H l (.lst (xs.eraseIdx k)))
theorem mt_popAt : MtM X "list.pop" rPopAt := by
  intro pins s σ H x vs v us Q I rx rv h
  obtain ⟨l, xs, i, k, y, rfl, rfl, hH, h1, h2, hk, hy, q⟩ := h
  cases rx
  obtain ⟨u, rfl, ru⟩ := rv.one
  obtain ⟨t, rfl⟩ := ru
  obtain ⟨z, its, n, r, hl, e⟩ := I.lstM hH
  obtain ⟨w, hw, rw'⟩ := r.get hy
  refine call_meets F.slot_list_pop ⟨_, e, rfl⟩ F.entry_list_pop (F.args_list_pop_2 _ _)
    (MeetsSeq.list_pop_at l its.toArray n i t k w (fitsIndex_both h1 h2) (by rw [List.size_toArray, ← hl]; exact hk) (by rw [← Array.getElem?_toList]; exact hw) (by rw [List.size_toArray]; omega)) ⟨e, ?_⟩
  refine ⟨y, _, I.lset (its' := its.eraseIdx k) hH e ?_ (r.eraseIdx k) ?_, rw', q⟩
  · show its.toArray.eraseIdxIfInBounds k = (its.eraseIdx k).toArray
    rw [List.eraseIdxIfInBounds_toArray]
  · have := len_erase xs k
    omega

def rReverse : V → List V → Hp → VK → Prop := fun x vs H Q => ∃ l xs, x = .ref l ∧ vs = [] ∧ H l = some (.lst xs) ∧ Q .non (upd H l (.lst xs.reverse))
theorem mt_reverse : MtM X "list.reverse" rReverse := by
  intro pins s σ H x vs v us Q I rx rv h
  obtain ⟨l, xs, rfl, rfl, hH, q⟩ := h
  cases rx
  have hus := rv.zero
  subst hus
  obtain ⟨z, its, n, r, hl, e⟩ := I.lstM hH
  refine call_meets F.slot_list_reverse ⟨_, e, rfl⟩ F.entry_list_reverse (F.args_list_reverse_1 _) (AutoSeq1.list_reverse_list_0 l its.toArray n (by rw [List.size_toArray]; omega)) ⟨e, ?_⟩
  refine ⟨.non, _, I.lset (its' := its.reverse) hH e (by simp) r.reverse ?_, rfl, q⟩
  rw [List.length_reverse]
  omega

def rClear : V → List V → Hp → VK → Prop := fun x vs H Q => ∃ l xs, x = .ref l ∧ vs = [] ∧ H l = some (.lst xs) ∧ Q .non (upd H l (.lst []))
theorem mt_clear : MtM X "list.clear" rClear := by
  intro pins s σ H x vs v us Q I rx rv h
  obtain ⟨l, xs, rfl, rfl, hH, q⟩ := h
  cases rx
  have hus := rv.zero
  subst hus
  obtain ⟨z, its, n, r, hl, e⟩ := I.lstM hH
  refine call_meets F.slot_list_clear ⟨_, e, rfl⟩ F.entry_list_clear (F.args_list_clear_1 _) (AutoSeq1.list_clear_list_0 l its.toArray n (by rw [List.size_toArray]; omega)) ⟨e, ?_⟩
  exact ⟨.non, _, I.lset (its' := []) (ys := []) hH e rfl .nil (Nat.zero_le _), rfl, q⟩

/-! ### list + list, list += list, list * int -/
def rCat : R2 := fun x y H Q => ∃ l b xs zs, x = .ref l ∧ y = .ref b ∧ H l = some (.lst xs) ∧ H b = some (.lst zs) ∧ xs.length + zs.length ≤ sizeLine ∧ ∀ p, H p = none → Q (.ref p) (upd H p (.lst (xs ++ zs)))
theorem op_cat : OpR X (binaryOp .Add) rCat := by
  intro pins s σ H x y v u Q I rx ry h
  obtain ⟨l, b, xs, zs, rfl, rfl, hH, hB, hz, q⟩ := h
  cases rx
  cases ry
  obtain ⟨z, its, n, r, hl, e⟩ := I.lstM hH
  obtain ⟨z2, its2, n2, r2, hl2, e2⟩ := I.lstM hB
  refine PySem.P.add_list e e2 ?_ (by rw [List.size_toArray, List.size_toArray]; omega)
  have ea : its.toArray ++ its2.toArray = (its ++ its2).toArray := by simp
  rw [ea]
  exact ⟨.ref _, _, I.lnew (t' := s.toks) (r.append r2) (by rw [List.length_append]; omega), rfl, q _ I.fresh⟩
/-- a list times an int (a negative one is nothing) -/
def rRep : R2 := fun x y H Q => ∃ l k xs, x = .ref l ∧ y = .int k ∧ H l = some (.lst xs) ∧ -(2 ^ 63) ≤ k ∧ k < 2 ^ 63 ∧ xs.length * k.toNat ≤ sizeLine ∧
  ∀ p, H p = none → Q (.ref p) (upd H p (.lst (List.replicate k.toNat xs).flatten))
theorem len_rep {α : Type} (xs : List α) (k : Nat) : (List.replicate k xs).flatten.length = k * xs.length := by
  induction k with
  | zero => simp
  | succ k ih => rw [List.replicate_succ, List.flatten_cons, List.length_append, ih, Nat.succ_mul, Nat.add_comm]
theorem op_rep : OpR X (binaryOp .Mult) rRep := by
  intro pins s σ H x y v u Q I rx ry h
  obtain ⟨l, k, xs, rfl, rfl, hH, h1, h2, hz, q⟩ := h
  cases rx
  obtain ⟨t, rfl⟩ := ry
  obtain ⟨z, its, n, r, hl, e⟩ := I.lstM hH
  have hlen : its.toArray.size * k.toNat ≤ sizeLine := by rw [List.size_toArray, ← hl]; exact hz
  have hcap : ¬ its.toArray.size * k.toNat > (2 ^ 63 - 1) / 8 := by
    have : (sizeLine : Nat) ≤ (2 ^ 63 - 1) / 8 := by decide
    omega
  have hfit : ¬ (!Builtin.List.listFitsIndex k) = true := by
    rw [fitsIndex_both h1 h2]
    exact Bool.false_ne_true
  have hlong : ¬ Builtin.List.listTooLong (its.toArray.size * k.toNat) = true := by
    rw [notLongL hlen]
    exact Bool.false_ne_true
  have hnew : List.foldl (fun x1 x2 => x1 ++ x2) #[] (List.replicate (if its.toArray.isEmpty = true then 0 else k.toNat) its.toArray) = (List.replicate k.toNat its).flatten.toArray := by
    have f0 : ∀ m : Nat, List.foldl (fun x1 x2 => x1 ++ x2) #[] (List.replicate m its.toArray) = (List.replicate m its).flatten.toArray := fun m => by
      have := foldl_rep its m []
      rw [List.nil_append] at this
      exact this
    rw [f0]
    cases its with
    | nil => simp
    | cons a r' => rw [if_neg (by simp)]
  refine wpAny_binaryOp_repeat_ref (T := "list") (U := "int") (by decide) ⟨_, e, rfl⟩ (fun s' => typeIs_int s' k t) noFill_list_mul F.fills_int_mul F.slot_int_rmul repeat_list F.slot_int_index.lookup
    (call_meets F.slot_int_rmul (typeIs_int s k t) F.entry_int_rmul (F.args_int_rmul_2 _ _) (int___rmul___int_list k t l its.toArray n)
      ⟨e, rfl, ⟨_, e, rfl⟩, call_meets F.slot_list_mul ⟨_, e, rfl⟩ F.entry_list_mul (F.args_list_mul_2 _ _) (AutoListH.list___mul___list_int_3 l its.toArray n k t hfit hcap hlong) ⟨e, ?_⟩⟩)
  rw [hnew]
  exact ⟨.ref _, _, I.lnew (t' := s.toks) (r.rep k.toNat) (by rw [len_rep, Nat.mul_comm]; exact hz), rfl, q _ I.fresh⟩

/-! ### del xs[i] -/
theorem del_list {pins : List (Addr × Obj)} {s : Shared} {σ : St} {H : Hp} {l : Addr} {xs : List V} {i : Int} {t : Tok} {k : Nat} {Q : Unit → Shared → Prop} (I : Inv X pins σ H s) (hH : H l = some (.lst xs))
    (h1 : -(2 ^ 63) ≤ i) (h2 : i < 2 ^ 63) (hk : seqIndex? i xs.length = some k) (h : ∀ s', Inv X pins σ (upd H l (.lst (xs.eraseIdx k))) s' → Q () s') :
    wpAny (model X.prog X.w) X.A (delItem (.ref l) (.int i t)) Q X.xe s := by
  obtain ⟨z, its, n, r, hl, e⟩ := I.lstM hH
  refine PySem.P.delItem_list (k := k) e (fitsIndex_both h1 h2) (by rw [List.size_toArray, ← hl]; exact hk) (h _ ?_) (by rw [List.size_toArray]; omega)
  refine I.lset (its' := its.eraseIdx k) (t' := s.toks) hH e ?_ (r.eraseIdx k) ?_
  · show its.toArray.eraseIdxIfInBounds k = (its.eraseIdx k).toArray
    rw [List.eraseIdxIfInBounds_toArray]
  · have := len_erase xs k
    omega
end

/-! ### xs[a:b] = ys -/
section
variable {prog : Program} {w : World} {A : Around} {E : Value → Shared → Prop} {s : Shared}
theorem splice_eq (its its2 : List Value) (a c : Nat) : its.toArray.extract 0 a ++ its2.toArray ++ its.toArray.extract c its.toArray.size = (its.take a ++ its2 ++ its.drop c).toArray := by
  apply Array.toList_inj.mp
  first
    | (simp
       exact List.take_of_length_le (by simp))
    | simp [List.take_of_length_le]
    | simp
theorem bounds_run {a c n : Nat} (hac : a ≤ c) (hc : c ≤ n) : sliceBounds (some (a : Int)) (some (c : Int)) none n = ((a : Int), (c : Int), 1) := by
  simp only [sliceBounds, Option.getD_none]
  have h1 : ¬ ((a : Int) < 0) := by omega
  have h2 : ¬ ((c : Int) < 0) := by omega
  simp only [h1, h2, if_false, show (1 : Int) > 0 by decide, if_true]
  congr 1
  · omega
  · congr 1; omega
set_option maxRecDepth 100000 in
/-- list.__setitem__ with a slice of step one and another list -/
theorem setItem_slice {l b sl : Addr} {items new : Array Value} {n n2 : Nat} {vl vu : Value} {a c : Nat} {Q : Unit → Shared → Prop}
    (e : s.heap.get? l = some { cls := .type "list", data := .seq items n }) (e2 : s.heap.get? b = some { cls := .type "list", data := .seq new n2 }) (hne : l ≠ b)
    (hs : s.heap.IsSliceOf sl vl vu .none) (pl : IsPart vl (some (a : Int))) (pu : IsPart vu (some (c : Int))) (hac : a ≤ c) (hc : c ≤ items.size)
    (hsz : items.size + new.size ≤ sizeLine) (h : Q () { s with heap := s.heap.update l (Obj.mapSeq fun xs => xs.extract 0 a ++ new ++ xs.extract c xs.size) }) :
    wpAny (model prog w) A (setItem (.ref l) (.ref sl) (.ref b)) Q E s := by
  have hl : s.heap.IsList l items := PySem.IsL.isList e
  have hb : s.heap.IsList b new := PySem.IsL.isList e2
  obtain ⟨os, hos, hcs, hds⟩ := id hs
  have hTs : s.TypeIs (.ref sl) "slice" := ⟨os, hos, hcs⟩
  have hstep : ¬ ((rawPart none == rawInt 0) = true) := Bool.false_ne_true
  have hsame : Builtin.List.listSameRef (.ref l) (.ref b) = false := by
    unfold Builtin.List.listSameRef
    exact beq_eq_false_iff_ne.mpr hne
  have hmax : (max (a : Int) (c : Int)).toNat = c := by omega
  have hz' : ((fun xs : Array Value => xs.extract 0 a ++ new ++ xs.extract c xs.size) items).size ≤ sizeLine + 1 := by
    simp only [Array.size_append, Array.size_extract]
    omega
  unfold setItem
  try with_reducible refine wpAny_holding ?_
  first | refine wpAny_bind (wpAny_pure ?_) | skip
  refine wpAny_bind (wpAny_sequenceKey hl.typeIs (by decide) ?_)
  refine wpAny_bind (wpAny_callSpecial?_slot (name := Str.ofString "__setitem__") hl.typeIs slot_list_setitem
    (wpAny_call_entry slot_list_setitem hl.typeIs entry_list_setitem ?_ (args_list_setitem _ _ _)))
  show wpAny _ _ (Builtin.List.listSubscript? (.ref sl) >>= _) _ _ s
  refine wpAny_bind ?_
  unfold Builtin.List.listSubscript?
  refine wpAny_bind (wpAny_specialOf hTs slice_no_index ?_)
  simp only [Option.isNone_none, if_true]
  refine wpAny_pure ?_
  show wpAny _ _ (typeOf (.ref sl) >>= _) _ _ s
  refine wpAny_bind (wpAny_typeOf hTs ?_)
  first
    | rw [if_neg (by decide)]
    | refine PySem.W.KFB.if_not (by decide) ?_
  rw [listSliceParts_eq]
  refine wpAny_bind (wpAny_bind (wpAny_field hos hds (x := .none) rfl (wpAny_bind (wpAny_listPart .none ?_))))
  rw [if_neg hstep]
  refine wpAny_bind (wpAny_field hos hds (x := vl) rfl (wpAny_bind (wpAny_listPart pl ?_)))
  refine wpAny_bind (wpAny_field hos hds (x := vu) rfl (wpAny_bind (wpAny_listPart pu (wpAny_pure ?_))))
  first
    | simp only [hsame, Bool.false_eq_true, if_false]
    | refine PySem.W.KFB.if_not hsame ?_
    | (dsimp only
       rw [if_neg (by rw [hsame]; exact Bool.false_ne_true)])
  refine wpAny_bind (m := Builtin.List.listAllItems (.ref b) "must assign iterable to extended slice") ?_
  unfold Builtin.List.listAllItems
  refine wpAny_bind (wpAny_typeOf hb.typeIs ?_)
  first
    | refine PySem.W.KFB.if_so (by decide) ?_
    | rw [if_pos (by decide)]
    | simp only [beq_self_eq_true, Bool.true_or, if_true]
  unfold Builtin.List.listItems
  refine wpAny_bind (wpAny_seqItems e2 rfl (wpAny_pure ?_))
  refine wpAny_bind (wpAny_bind (wpAny_seqItems e rfl (wpAny_pure ?_)))
  refine wpAny_bind (wpAny_of_eq ((sliceIndices_raw (some (a : Int)) (some (c : Int)) none items.size (by simp)).trans (congrArg (pure : Int × Int × Int → Sem (Int × Int × Int)) (bounds_run hac hc))) ?_)
  show wpAny _ _ (if ((1 : Int) == 1) = true then _ else _) _ _ s
  rw [if_pos (by decide)]
  refine wpAny_bind (wpAny_rule ?_)
  first
    | simp only [notLongL hsz, Bool.false_eq_true, if_false]
    | refine PySem.W.KFB.if_not (notLongL hsz) ?_
  first | refine wpAny_bind (wpAny_pure ?_) | skip
  show wpAny _ _ (updateSeq l (fun xs => xs.extract 0 ((a : Int)).toNat ++ new ++ xs.extract (max (a : Int) (c : Int)).toNat xs.size) >>= _) _ _ s
  rw [hmax, Int.toNat_natCast]
  refine wpAny_bind (wpAny_updateSeq (hz := Nat.le_trans (Nat.le_add_right _ _) hsz) (_hz' := hz') e rfl ?_)
  refine wpAny_bind (wpAny_letGo ?_)
  first
    | exact wpAny_bind (wpAny_pure (wpAny_pure ⟨.none, rfl, wpAny_pure h⟩))
    | exact wpAny_pure ⟨.none, rfl, wpAny_pure h⟩
end

section
variable {X : Cx}
/-- xs[a:c] = ys of another list, at the value level: sl is the slice object that was just made -/
theorem set_slice {pins : List (Addr × Obj)} {s : Shared} {σ : St} {H : Hp} {l b sl : Addr} {xs ys : List V} {a c : Int} {vl vu : Value} {Q : Unit → Shared → Prop} (I : Inv X pins σ H s)
    (hH : H l = some (.lst xs)) (hB : H b = some (.lst ys)) (hne : l ≠ b) (hs : s.heap.IsSliceOf sl vl vu .none) (ra : RelV (.int a) vl) (rc : RelV (.int c) vu) (h0 : 0 ≤ a) (hac : a ≤ c) (hc : c ≤ xs.length)
    (hz : xs.length + ys.length ≤ sizeLine) (h : ∀ s', Inv X pins σ (upd H l (.lst (xs.take a.toNat ++ ys ++ xs.drop c.toNat))) s' → Q () s') :
    wpAny (model X.prog X.w) X.A (setItem (.ref l) (.ref sl) (.ref b)) Q X.xe s := by
  obtain ⟨ta, rfl⟩ := ra
  obtain ⟨tc, rfl⟩ := rc
  obtain ⟨z, its, n, r, hl, e⟩ := I.lstM hH
  obtain ⟨z2, its2, n2, r2, hl2, e2⟩ := I.lstM hB
  obtain ⟨a', rfl⟩ := Int.eq_ofNat_of_zero_le h0
  obtain ⟨c', rfl⟩ := Int.eq_ofNat_of_zero_le (Int.le_trans h0 hac)
  simp only [Int.toNat_natCast] at h
  refine setItem_slice (a := a') (c := c') e e2 hne hs (.int _ _) (.int _ _) (by omega) (by rw [List.size_toArray]; omega) (by rw [List.size_toArray, List.size_toArray]; omega) (h _ ?_)
  refine I.lset (its' := its.take a' ++ its2 ++ its.drop c') (t' := s.toks) hH e ?_ (Vals.append (Vals.append (r.take _) r2) (r.drop _)) ?_
  · exact splice_eq its its2 a' c'
  · rw [List.length_append, List.length_append, List.length_take, List.length_drop]
    omega
end
end L2

namespace Att
open PySem PySem.W PySem.Calls PyProof.Rows

/-! ### the script -/
theorem ints_of_wellAll {P : Params} {h : Heap} : ∀ (ns : List Int) (vs : List Value), WellAll P h vs (ns.map WData.int) → IntsAre vs ns := by
  intro ns
  induction ns with
  | nil =>
    intro vs w
    rw [List.map_nil] at w
    cases w
    exact .nil
  | cons n ns ih =>
    intro vs w
    rw [List.map_cons] at w
    cases w with
    | cons a b =>
      cases a
      exact .cons _ _ (ih _ b)

theorem script_of {l : OpenLaw} {n : Nat} (hn : l.most = some n) {P : Params} {h : Heap} {args : List WData} {vals : List Value}
    (hpre : l.row.toRowW.claim.pre args = true) (hwl : WellAll P h vals args) :
    ∃ a vs ns, vals = [Value.ref a] ∧ args = [WData.list (ns.map WData.int)] ∧ h.get? a = some { cls := .type "list", data := .seq vs.toArray } ∧ IntsAre vs ns ∧ ns.length ≤ n := by
  have hsh : WShape.hasAll [] args [.list .int] = true := (pre_splitW hpre).1
  have hc : l.pre.holds [] { args := args } = true := (pre_splitW hpre).2
  obtain ⟨d, r, rfl, h1, h2⟩ := hasAllW_cons hsh
  obtain rfl := hasAllW_nil h2
  obtain ⟨xs, rfl, h3⟩ := hasW_list h1
  obtain ⟨ns, rfl⟩ := items_int h3
  have hlen : ns.length ≤ n := by
    unfold OpenLaw.pre at hc
    have h4 : (WTm.not (.lt (.lit (.int (n : Int))) (.len (.arg 0)))).holds [] { args := [.list (ns.map .int)] } = true := by
      have h4 := (holds_andW hc).1
      rw [hn] at h4
      exact h4
    have h5 := condW_of h4 (w_not (w_lt w_lit (w_len_list (w_arg rfl))))
    rw [List.length_map] at h5
    refine Nat.le_of_not_lt fun q => ?_
    have q' : (n : Int) < ((ns.length : Nat) : Int) := by omega
    first
      | (rw [decide_eq_true q'] at h5; exact absurd h5 (by decide))
      | (simp at h5; omega)
  cases hwl with
  | cons w1 w2 =>
    cases w2
    cases w1 with
    | list ho hall => exact ⟨_, _, ns, rfl, rfl, ho, ints_of_wellAll ns _ hall, hlen⟩

theorem post_true (l : OpenLaw) (args : List WData) : l.row.toRowW.claim.post args (.bool true) args = true :=
  postW_of (r := l.row.toRowW) (X := (true == true))
    (show WShape.has [] (.bool true) .bool = true by first | rfl | decide | simp [WShape.has, WShape.arms, WShape.armsAll])
    (show (WTm.eq .res (.lit (.bool true))).value [] { args := args, res := some (.bool true), after := args } = some (.bool (true == true)) from w_eq_bool (w_res rfl) w_lit) rfl

/-! ### the attachment: holds_open's last premise (the goal 'hc' behind k_head) from a wpAny of the law's body -/
theorem attach {l : OpenLaw} {n : Nat} {q : Program} {loose : List Str} {XP : (Str → Option Value) → Heap → Prop} {YP : World → Heap → Prop} {d : DefRec} {x : Str}
    (hn : l.most = some n) (hdf : d.params.defaults = [])
    (hbind : ∀ pm cd doc v : Value, bindArgs (docDef d.name d.params d.body d.scope pm cd doc) ⟨[v], []⟩ = pure [(x, v)])
    (hx : d.scope.names.lookup x = some .local ∨ d.scope.names.lookup x = some .cell)
    (hk : d.scope.kind = .function) (hco : d.scope.isCoroutine = false) (hgen : d.scope.isGenerator = false)
    (body : ∀ (w : World) (s₀ s₁ s : Shared) (mg mb : Str → Option Value) (fa : Addr) (o : Obj) (pm cd doc : Value) (a : Addr) (vs : List Value) (ns : List Int),
      Ground q loose [] XP w s₀ mg mb s₁.heap → YP w s₁.heap →
      s₁.heap.get? fa = some o → o.data = .func (docDef d.name d.params d.body d.scope pm cd doc) → s₁.heap.CodeRec cd d.name → mg d.name = some (.ref fa) →
      s₁.heap.get? a = some { cls := .type "list", data := .seq vs.toArray } → IntsAre vs ns → ns.length ≤ n →
      s.gens = #[] → s.os = s₁.os →
      Fr s₁.heap s₁.heap.objs.size s.heap (bindL (envOfC d.name d.scope s₁.heap.objs.size fa cd).kindOf [(x, .ref a)] fun _ => none) →
      Cl s₁.heap.objs.size (cellsFrom (s₁.heap.objs.size + 1) d.scope.names []) s.heap (bindC (envOfC d.name d.scope s₁.heap.objs.size fa cd).kindOf [(x, .ref a)] fun _ => none) →
      wpAny (model l.prog w) (callerA.deeper (envOfC d.name d.scope s₁.heap.objs.size fa cd)) (execs d.body (envOfC d.name d.scope s₁.heap.objs.size fa cd))
        (fun f s' => f = .ret (.bool true) ∧ OldK s₁.heap s'.heap ∧ s'.os = s₁.os ∧ AllBare s'.gens) (fun _ _ => False) s) :
    WalkO q loose XP YP l.row.toRowW d [] (fun f vs => PySem.call f vs) := by
  intro w s₀ s₁ mg mb G Y fa o pm cd doc dV kV ho hd hcd hD hmg hg args vals as hpre hlay hrd hwl hlo
  obtain rfl : dV = .none := Dflts.none hD hdf
  obtain rfl : kV = .none := Dflts.noKw hD
  obtain ⟨a, vs, ns, rfl, rfl, hobj, hints, hlen⟩ := script_of hn hpre hwl
  refine enter_call ?_
  refine call_cells_ret (o := o) (by rw [depth_caller]; decide) ho (fd_plain hd) G.T.nolimit hcd (hbind pm cd doc (.ref a)) (fun y hy => ?_) (fun h₁ tk F X => ?_) hco hgen hk
  · obtain rfl : y = (x, Value.ref a) := List.mem_singleton.mp hy
    rcases hx with e | e
    · exact .inl e
    · exact .inr ⟨e, cellsFrom_some _ _ _ (.inl e)⟩
  · refine wpAny_mono (body w s₀ s₁ { s₁ with heap := h₁, toks := tk } mg mb fa o pm cd doc a vs ns G Y ho (fd_plain hd) hcd hmg hobj hints hlen hg rfl F X) (fun f s' hq => ?_) (fun _ _ hq => hq)
    obtain ⟨rfl, h2, h3, h4⟩ := hq
    exact ⟨.inl ⟨.bool true, .bool true, [], rfl, fun _ => rfl, .bool true, post_true l _, fun _ => ⟨List.Pairwise.nil, fun _ hm => (nomatch hm)⟩⟩, h2, h3, h4⟩

/-- the same from a codeAny of the CALL (for a layer whose function contracts speak of calls) -/
theorem attach_call {l : OpenLaw} {n : Nat} {q : Program} {loose : List Str} {XP : (Str → Option Value) → Heap → Prop} {YP : World → Heap → Prop} {d : DefRec}
    (hn : l.most = some n) (hdf : d.params.defaults = [])
    (call : ∀ (w : World) (s₀ s₁ : Shared) (mg mb : Str → Option Value) (fa : Addr) (o : Obj) (pm cd doc : Value) (a : Addr) (vs : List Value) (ns : List Int),
      Ground q loose [] XP w s₀ mg mb s₁.heap → YP w s₁.heap →
      s₁.heap.get? fa = some o → o.data = .func (docDef d.name d.params d.body d.scope pm cd doc) → s₁.heap.CodeRec cd d.name → mg d.name = some (.ref fa) →
      s₁.heap.get? a = some { cls := .type "list", data := .seq vs.toArray } → IntsAre vs ns → ns.length ≤ n → s₁.gens = #[] →
      codeAny (model l.prog w) callerA (.call (.ref fa) ⟨[.ref a], []⟩) (fun r s' => r = .ok (.ret (.bool true)) ∧ OldK s₁.heap s'.heap ∧ s'.os = s₁.os ∧ AllBare s'.gens) s₁) :
    WalkO q loose XP YP l.row.toRowW d [] (fun f vs => PySem.call f vs) := by
  intro w s₀ s₁ mg mb G Y fa o pm cd doc dV kV ho hd hcd hD hmg hg args vals as hpre hlay hrd hwl hlo
  obtain rfl : dV = .none := Dflts.none hD hdf
  obtain rfl : kV = .none := Dflts.noKw hD
  obtain ⟨a, vs, ns, rfl, rfl, hobj, hints, hlen⟩ := script_of hn hpre hwl
  refine enter_call (codeAny_mono (call w s₀ s₁ mg mb fa o pm cd doc a vs ns G Y ho (fd_plain hd) hcd hmg hobj hints hlen hg) fun r s' hq => ?_)
  obtain ⟨rfl, h2, h3, h4⟩ := hq
  exact ⟨.inl ⟨.bool true, .bool true, [], rfl, fun _ => rfl, .bool true, post_true l _, fun _ => ⟨List.Pairwise.nil, fun _ hm => (nomatch hm)⟩⟩, h2, h3, h4⟩

/-- the same where the top left finished generators (o_head chose holds_openN): nothing may have changed at all and no generator may be left -/
theorem attachN {l : OpenLaw} {n : Nat} {q : Program} {loose : List Str} {XP : (Str → Option Value) → Heap → Prop} {YP : World → Heap → Prop} {d : DefRec} {x : Str}
    (hn : l.most = some n) (hdf : d.params.defaults = [])
    (hbind : ∀ pm cd doc v : Value, bindArgs (docDef d.name d.params d.body d.scope pm cd doc) ⟨[v], []⟩ = pure [(x, v)])
    (hx : d.scope.names.lookup x = some .local ∨ d.scope.names.lookup x = some .cell)
    (hk : d.scope.kind = .function) (hco : d.scope.isCoroutine = false) (hgen : d.scope.isGenerator = false)
    (body : ∀ (w : World) (s₀ s₁ s : Shared) (mg mb : Str → Option Value) (fa : Addr) (o : Obj) (pm cd doc : Value) (a : Addr) (vs : List Value) (ns : List Int),
      Ground q loose [] XP w s₀ mg mb s₁.heap → YP w s₁.heap →
      s₁.heap.get? fa = some o → o.data = .func (docDef d.name d.params d.body d.scope pm cd doc) → s₁.heap.CodeRec cd d.name → mg d.name = some (.ref fa) →
      s₁.heap.get? a = some { cls := .type "list", data := .seq vs.toArray } → IntsAre vs ns → ns.length ≤ n →
      s.gens = #[] → s.os = s₁.os →
      Fr s₁.heap s₁.heap.objs.size s.heap (bindL (envOfC d.name d.scope s₁.heap.objs.size fa cd).kindOf [(x, .ref a)] fun _ => none) →
      Cl s₁.heap.objs.size (cellsFrom (s₁.heap.objs.size + 1) d.scope.names []) s.heap (bindC (envOfC d.name d.scope s₁.heap.objs.size fa cd).kindOf [(x, .ref a)] fun _ => none) →
      wpAny (model l.prog w) (callerA.deeper (envOfC d.name d.scope s₁.heap.objs.size fa cd)) (execs d.body (envOfC d.name d.scope s₁.heap.objs.size fa cd))
        (fun f s' => f = .ret (.bool true) ∧ (∀ b o, s₁.heap.get? b = some o → s'.heap.get? b = some o) ∧ s'.os = s₁.os ∧ s'.gens = #[]) (fun _ _ => False) s) :
    WalkN q loose XP YP l.row.toRowW d [] (fun f vs => PySem.call f vs) := by
  intro w s₀ s₁ mg mb G Y fa o pm cd doc dV kV ho hd hcd hD hmg hg args vals as hpre hlay hrd hwl hlo
  obtain rfl : dV = .none := Dflts.none hD hdf
  obtain rfl : kV = .none := Dflts.noKw hD
  obtain ⟨a, vs, ns, rfl, rfl, hobj, hints, hlen⟩ := script_of hn hpre hwl
  refine enter_callW ?_
  refine call_cells_ret (o := o) (by rw [depth_caller]; decide) ho (fd_plain hd) G.T.nolimit hcd (hbind pm cd doc (.ref a)) (fun y hy => ?_) (fun h₁ tk F X => ?_) hco hgen hk
  · obtain rfl : y = (x, Value.ref a) := List.mem_singleton.mp hy
    rcases hx with e | e
    · exact .inl e
    · exact .inr ⟨e, cellsFrom_some _ _ _ (.inl e)⟩
  · refine wpAny_mono (body w s₀ s₁ { s₁ with heap := h₁, toks := tk } mg mb fa o pm cd doc a vs ns G Y ho (fd_plain hd) hcd hmg hobj hints hlen hg rfl F X) (fun f s' hq => ?_) (fun _ _ hq => hq)
    obtain ⟨rfl, h2, h3, h4⟩ := hq
    exact ⟨.inl ⟨.bool true, .bool true, [], rfl, fun _ => rfl, .bool true, post_true l _, fun _ => ⟨List.Pairwise.nil, fun _ hm => (nomatch hm)⟩⟩, h2, h3, h4⟩

/-! ### rules over ANY heap (no ledger) from facts about the written part K: the library's own take a ledger (News) for what they write -/
section
variable {prog : Program} {w : World} {A : Around} {E : Value → Shared → Prop} {s : Shared} {K : Frag}

/-- a def of the module, or a method (qual 'C.m'), entered: the frame is the next address; cells behind it -/
theorem call_fn {R : Result → Shared → Prop} {name qual : Str} {params : Arguments} {body : List Stmt} {scope : Scope} {dV kV doc pm cdv ct oc : Value} {an od : Option Addr} {osl : Array (Option Value)} {f : Addr} {args : Args} {binds : List (Str × Value)}
    (X : K.In s.heap) (hlim : s.heap.NoLimit) (ho : K.lookup f = some ⟨oc, od, .func (fnOf name qual params body scope dV kV doc pm an cdv ct), osl⟩) (hcd : codeIn K cdv qual = true) (hroom : A.depth < recursionLimit)
    (hbind : BindsTo s (fnOf name qual params body scope dV kV doc pm an cdv ct) args binds)
    (hkind : (binds.all fun y => scope.names.lookup y.1 == some .local || scope.names.lookup y.1 == some .cell) = true)
    (h : ∀ s₁, InCallC s s.heap.objs.size (bindL (envOfC qual scope s.heap.objs.size f cdv).kindOf binds fun _ => none) (cellsFrom (s.heap.objs.size + 1) scope.names [])
        (bindC (envOfC qual scope s.heap.objs.size f cdv).kindOf binds fun _ => none) s₁ →
      wpAny (model prog w) (A.deeper (envOfC qual scope s.heap.objs.size f cdv)) (execs body (envOfC qual scope s.heap.objs.size f cdv))
        (fun fl s' => R (.ok (.ret (match fl with | .ret v => v | _ => .none))) s')
        (fun e s' => wpAny (model prog w) (A.deeper (envOfC qual scope s.heap.objs.size f cdv)) (leaving (envOfC qual scope s.heap.objs.size f cdv) e) (fun _ s'' => R (.error e) s'') (fun e' s'' => R (.error e') s'') s') s₁)
    (hco : scope.isCoroutine = false) (hgen : scope.isGenerator = false) (hk : scope.kind = .function) : codeAny (model prog w) A (.call (.ref f) args) R s := by
  refine codeAny_call_function hroom (X _ _ ho) rfl hco hgen rfl (codeRec_of X hcd) (hbind _ _ _ _ ?_)
  refine wpAny_newFunctionEnv_cells hk (kindsX hkind _) fun env he s₁ x => ?_
  subst he
  exact ⟨hlim.keeps x.toInCall.keep, codeAny_func (h s₁ x)⟩

/-- C(..): dict at size, instance at size + 1, then __init__ -/
theorem make_obj {R : Result → Shared → Prop} {C fI : Addr} {rest : List Value} {kw : List (Str × Value)}
    (X : K.In s.heap) (hm : makesIn K C = true) (hi : findIn K (.ref C) "__init__" = some (some (.ref fI))) (hf : isFn K (.ref fI) = true)
    (h : codeAny (model prog w) (A.under (.builtin "type.__call__" ⟨.ref C :: rest, kw⟩)) (.call (.ref fI) ⟨.ref (s.heap.objs.size + 1) :: rest, kw⟩) (InitBack (s.heap.objs.size + 1) R)
      { s with heap := (s.heap.push emptyDict).push (instObj C s.heap.objs.size) }) : codeAny (model prog w) A (.call (.ref C) ⟨rest, kw⟩) R s := by
  obtain ⟨hh, g, d, t, os⟩ := s
  exact make_core (makes_of X hm) (looks_findIn X hi) (fun self => bind_fn X self (beq_iff_eq.mp hf)) (.inl rfl) h

/-- x.name where the instance's dict holds the name and the class does not -/
theorem get_field {x C : Addr} {ox : Obj} {es : List DictEntry} {n : Nat} {name : Str} {expr : Bool} {v : Value} {Q : Value → Shared → Prop}
    (X : K.In s.heap) (I : PySem.W.InstAt s.heap x ox C (some (dictOf es n))) (hg : plainGet K C name = true) (hh : hasDictIn K C = true) (ha : findIn K (.ref C) name = some none)
    (hl : getL name es = some (some v)) (hv : handedIn v = true) (h : Q v { s with toks := s.toks + 1 }) : wpAny (model prog w) A (getAttr (.ref x) name expr) Q E s :=
  get_value X I (plainGet_of hg).1 (findObj_own hh ha rfl hl) hv h

/-- x.m(..): the method found in the class -/
theorem get_method {x C f : Addr} {ox : Obj} {es : List DictEntry} {n : Nat} {name : Str} {pl : Sem Bool} {Q : Value × List Value → Shared → Prop}
    (X : K.In s.heap) (I : PySem.W.InstAt s.heap x ox C (some (dictOf es n))) (hg : plainGet K C name = true) (hf : findIn K (.ref C) name = some (some (.ref f))) (ht : isFn K (.ref f) = true)
    (hl : getL name es = some none) (h : Q (.ref f, [.ref x]) s) : wpAny (model prog w) A (getMethod (.ref x) name pl) Q E s :=
  method_fn X I (plainGet_of hg).1 (plainGet_of hg).2 hf (beq_iff_eq.mp ht) (by show (lookIn name (dictOf es n)).map _ = _; rw [lookIn_dict, hl]; rfl) h

/-! the whole heap as the ledger: makes every rule that writes through a ledger a rule over any heap -/
def noObjs (h : Heap) : Heap := { h with objs := #[] }
theorem noObjs_get (h : Heap) (b : Addr) : (noObjs h).get? b = none := by
  cases e : (noObjs h).get? b with
  | none => rfl
  | some o => exact absurd (Heap.lt_size e) (Nat.not_lt_zero _)
def ledger (h : Heap) (L d : Addr) : List (Addr × Obj) := (List.range h.objs.size).filterMap fun a => if a = L ∨ a = d then none else (h.get? a).map fun o => (a, o)
theorem mem_ledger {h : Heap} {L d a : Addr} {o : Obj} : (a, o) ∈ ledger h L d ↔ a ≠ L ∧ a ≠ d ∧ h.get? a = some o := by
  unfold ledger
  rw [List.mem_filterMap]
  constructor
  · rintro ⟨b, _, e⟩
    split at e
    · cases e
    · rename_i hb
      obtain ⟨o', ho, e'⟩ := Option.map_eq_some_iff.mp e
      cases e'
      exact ⟨fun q => hb (.inl q), fun q => hb (.inr q), ho⟩
  · rintro ⟨n1, n2, ho⟩
    refine ⟨a, List.mem_range.mpr (Heap.lt_size ho), ?_⟩
    rw [if_neg (show ¬ (a = L ∨ a = d) from fun q => q.elim n1 n2), ho] <;> rfl
theorem news_ledger {h : Heap} {L d : Addr} {od : Obj} (hne : d ≠ L) (ho : h.get? d = some od) : News (noObjs h) L h ([] ++ (d, od) :: ledger h L d) := by
  rintro ⟨a, o⟩ hp
  rcases List.mem_cons.mp hp with e | hp
  · cases e
    exact ⟨ho, hne, noObjs_get _ _⟩
  · obtain ⟨n1, n2, e⟩ := mem_ledger.mp hp
    exact ⟨e, n1, noObjs_get _ _⟩
theorem fr_all {h : Heap} {L : Addr} {m : Str → Option Value} (n : h.Ns L m) : Fr (noObjs h) L h m :=
  ⟨n, fun b o e => (by rw [noObjs_get] at e; cases e), Nat.zero_le _⟩
/-- Upd of the head entry (for append_K, setItem_K ..) -/
theorem upd_ledger {h : Heap} {L d : Addr} {o o' : Obj} : Upd d o o' ((d, o) :: ledger h L d) ((d, o') :: ledger h L d) :=
  .head fun ⟨_, _⟩ hp => (mem_ledger.mp hp).2.1

/-- x.name = v over any heap: L is any namespace of the heap (the frame's, say): its map stays, its object is not told; all else but the dict stays -/
theorem set_field {x C dx L : Addr} {ox : Obj} {m : Str → Option Value} {es es' : List DictEntry} {n n' : Nat} {name : Str} {v : Value} {Q : Unit → Shared → Prop}
    (X : K.In s.heap) (I : PySem.W.InstAt s.heap x ox C (some (dictOf es n))) (hd : ox.dict = some dx) (hL : s.heap.Ns L m) (hne : dx ≠ L)
    (hs : findIn K (.ref C) "__setattr__" = some (some (.builtin "object.__setattr__"))) (hp : plainOver K C = true) (ht : takerIn K C name = some none) (hh : hasDictIn K C = true) (hl : (getL name es).isSome = true)
    (e : (putL name (PyData.keyHash w.params name) (.str name (s.toks + 1)) v es, putN name es n) = (es', n')) (hz : es'.length ≤ 1000)
    (h : ∀ h' : Heap, h'.Ns L m → h'.get? dx = some (dictOf es' n') → (∀ b o, b ≠ dx → b ≠ L → s.heap.get? b = some o → h'.get? b = some o) → Q () { s with heap := h', toks := s.toks + 2 }) :
    wpAny (model prog w) A (setAttr (.ref x) name v) Q E s := by
  obtain ⟨e1, e2⟩ := Prod.mk.inj e
  have hdx : s.heap.get? dx = some (dictOf es n) := by
    have := I.dict
    rw [hd] at this
    exact this
  refine set_plain X I hs (osa_dict (s := { s with toks := s.toks + 1 }) (h₀ := noObjs s.heap) (L := L) (m := m) (od := dictOf es n) (od' := dictOf es' n') (es := es') (n := n') (pre := []) (post := ledger s.heap L dx)
    (fr_all hL) (news_ledger hne hdx) X I hd hp ht hh hl (fun _ q => nomatch q) (fun ⟨_, _⟩ q => (mem_ledger.mp q).2.1) (by rw [putName_dict, e1, e2]) rfl hz fun h' F' N' => ?_)
  exact h h' F'.ns (N'.get (List.Mem.head _)) fun b o n1 n2 ho => N'.get (List.Mem.tail _ (mem_ledger.mpr ⟨n2, n1, ho⟩))
end
end Att

namespace L2
open PySem PySem.Spec PyProof.Rows

theorem vals_ints : ∀ {vs : List Value} {ns : List Int}, IntsAre vs ns → Vals (ns.map V.int) vs
  | _, _, .nil => .nil
  | _, _, .cons n t h => .cons ⟨t, rfl⟩ (vals_ints h)

/-- nothing is tracked but the script, known to the object (or it is an object of the module) -/
def Only (H : Hp) : Prop := ∀ b, H b = none ∨ ∃ o xs, H b = some (.frz o (.lst xs))

/-- THE HEAD: the law's promise, at the heap behind the top. F, the promise of the law's def, may use that base is part of the heap (so K.In base, base.Ns mainGlobals mg stand in Mod) -/
theorem law_call {P : Program} {w : World} {K : PySem.W.Frag} {mg mb : Str → Option Value} {CX : CXT} {k : Nat} {fa a : Addr} {fd : FuncData} {x : Str} {sp : Sp} {s₁ : Shared} {vs : List Value} {ns : List Int}
    (KX : K.In s₁.heap) (hns : s₁.heap.Ns mainGlobals mg) (hb : s₁.heap.Ns builtinsNs mb) (hbb : ∀ x : Str, x ≠ "__name__" → mb x = bootBuiltins x) (hlim : s₁.heap.NoLimit) (hg : s₁.gens = #[])
    (ha : s₁.heap.get? a = some { cls := .type "list", data := .seq vs.toArray }) (hi : IntsAre vs ns) (hl : ns.length ≤ sizeLine) (hr : Room k callerA)
    (F : ∀ base : Heap, K.In base → base.Ns mainGlobals mg → FnOk P w K mg base CX k fa fd [x] sp) (hbind : ∀ (s : Shared) (u : Value), BindsTo s fd ⟨[u], []⟩ [(x, u)])
    (hsp : ∀ H : Hp, Only H → SqL K H a (ns.map V.int) → sp [.ref a] H (fun v _ => v = .bl true) fun _ _ _ => False)
    (hCX : ∀ H e s', CX [] H s₁ (fun _ _ _ => False) e s' → False) :
    codeAny (model P w) callerA (.call (.ref fa) ⟨[.ref a], []⟩) (fun r s' => r = .ok (.ret (.bool true)) ∧ OldK s₁.heap s'.heap ∧ s'.os = s₁.os ∧ AllBare s'.gens) s₁ := by
  have rv := vals_ints hi
  have lenV := hi.length
  -- from an abstract heap in which nothing but the script may be tracked
  have core : ∀ H : Hp, Only H → SqL K H a (ns.map V.int) → HOk P w H s₁.heap → (∀ b, H b ≠ none → b = a) → (H a ≠ none → K.lookup a = none) →
      codeAny (model P w) callerA (.call (.ref fa) ⟨[.ref a], []⟩) (fun r s' => r = .ok (.ret (.bool true)) ∧ OldK s₁.heap s'.heap ∧ s'.os = s₁.os ∧ AllBare s'.gens) s₁ := by
    intro H hO hS hok hA hK
    have base_of : ∀ {b : Addr} {o : Obj}, s₁.heap.get? b = some o → H b = none → (hidT s₁.heap H).get? b = some o := fun e n => hidT_get e n
    have noA : ∀ {b : Addr} {o : Obj} {es : Array DictEntry} {ep : Nat}, s₁.heap.get? b = some o → o.data = .dict es ep → H b = none := fun {b o es ep} e d => by
      cases q : H b with
      | none => rfl
      | some u =>
        have e' : b = a := hA b (by rw [q]; simp)
        subst e'
        rw [ha] at e; cases e
        have d' : Data.seq vs.toArray _ = Data.dict es ep := d
        cases d'
    have nsK : ∀ {b : Addr} {m : Str → Option Value}, s₁.heap.Ns b m → (hidT s₁.heap H).Ns b m := fun {b m} ⟨o, es, ep, e, d, r⟩ => ⟨o, es, ep, base_of e (noA e d), d, r⟩
    have hKb : K.In (hidT s₁.heap H) := fun b o e => base_of (KX b o e) (by
      cases q : H b with
      | none => rfl
      | some u =>
        have e' : b = a := hA b (by rw [q]; simp)
        subst e'
        rw [hK (by rw [q]; simp)] at e; cases e)
    have hM : Mod K mg (hidT s₁.heap H) := ⟨hKb, nsK hns, ⟨mb, nsK hb, hbb⟩, let ⟨mc, h1, h2⟩ := hlim; ⟨mc, nsK h1, h2⟩⟩
    have e0 : Env0 P w K mg (hidT s₁.heap H) callerA [] s₁ H := ⟨rfl, hM, fun b o e => of_hidT e, Nat.le_of_eq (hidT_size _ _), trivial, fun b hb => absurd (show b ∈ ([] : List Addr) from hb) (by simp), hok, .of_eq hg⟩
    refine codeAny_mono ((F _ hKb (nsK hns)).run callerA [] s₁ H ⟨[.ref a], []⟩ [.ref a] [.ref a] _ _ hr e0 (hbind s₁ (.ref a)) (.cons rfl .nil) (hsp H hO hS)) fun r s' h => ?_
    cases r with
    | error e => exact (hCX H e s' h).elim
    | ok fl =>
      cases fl with
      | next => exact False.elim h
      | brk => exact False.elim h
      | cont => exact False.elim h
      | ret u =>
        obtain ⟨v, H', os, bare, un, hok', r', q⟩ := h
        have q' : v = .bl true := q
        subst q'
        obtain rfl : u = Value.bool true := r'
        refine ⟨rfl, OldK.of_keep fun b o e => ?_, os, bare⟩
        cases q : H b with
        | none => exact un.keep b o e q (by intro z; exact absurd (show b ∈ ([] : List Addr) from z) (by simp)) (by simp)
        | some u =>
          rcases hO b with z | ⟨ob, xs, z⟩
          · rw [q] at z; cases z
          · have z2 := un.frzs b ob _ z
            obtain ⟨e1, _⟩ := hok b _ z
            obtain ⟨e2, _⟩ := hok' b _ z2
            rw [e] at e1; cases e1
            exact e2
  cases hk : K.lookup a with
  | some o =>
    -- the script is one of the module's own objects
    have e := KX a o hk
    rw [ha] at e
    cases e
    refine core (fun _ => none) (fun _ => .inl rfl) (.inr ⟨_, vs.toArray, _, hk, rfl, rfl, rfl, by rw [List.size_toArray, lenV]; exact hl, by simpa using rv⟩) (fun b u z => by have z' : (none : Option HO) = some u := z; cases z') (fun b z => absurd rfl z) fun z => absurd rfl z
  | none =>
    refine core (fun b => if b = a then some (.frz { cls := .type "list", data := .seq vs.toArray } (.lst (ns.map V.int))) else none) (fun b => ?_) (.inl (.inr ⟨{ cls := .type "list", data := .seq vs.toArray }, if_pos rfl⟩)) (fun b u z => ?_) (fun b z => ?_) fun _ => hk
    · by_cases hb : b = a
      · exact .inr ⟨_, _, if_pos hb⟩
      · exact .inl (if_neg hb)
    · by_cases hb : b = a
      · have z' := (if_pos hb).symm.trans z
        cases z'
        subst hb
        exact ⟨ha, by rw [List.length_map]; exact hl, vs, _, rv, ha⟩
      · have z' := (if_neg hb).symm.trans z
        cases z'
    · by_cases hb : b = a
      · exact hb
      · exact absurd (if_neg hb) z
end L2

namespace L2
open PySem PySem.Spec PyProof.Rows

abbrev KOf {K : PySem.W.Frag} {h : Heap} (_ : K.In h) : PySem.W.Frag := K

/-- the goal that k_head leaves (case hc), from the law's promise. F gives the function object fd (K's own) once, then the promise over every base -/
theorem walk_of {l : PySem.W.OpenLaw} {n k : Nat} {q : Program} {loose : List Str} {XP : (Str → Option Value) → Heap → Prop} {YP : World → Heap → Prop} {d : DefRec} {K : Params → PySem.W.Frag} {CX : World → CXT} {sp : World → Sp} {x : Str}
    (hn : l.most = some n) (hn2 : n ≤ sizeLine) (hdf : d.params.defaults = []) (hr : Room k callerA)
    (hY : ∀ (w : World) (h : Heap), YP w h → (K w.params).In h)
    (F : ∀ (w : World) (mg : Str → Option Value) (fa : Addr) (h : Heap), (K w.params).In h → h.Ns mainGlobals mg → mg d.name = some (.ref fa) →
      ∃ fd : FuncData, (∀ (s : Shared) (u : Value), BindsTo s fd ⟨[u], []⟩ [(x, u)]) ∧
        ∀ base : Heap, (K w.params).In base → base.Ns mainGlobals mg → FnOk l.prog w (K w.params) mg base (CX w) k fa fd [x] (sp w))
    (hsp : ∀ (w : World) (H : Hp) (a : Addr) (ns : List Int), ns.length ≤ n → Only H → SqL (K w.params) H a (ns.map V.int) → sp w [.ref a] H (fun v _ => v = .bl true) fun _ _ _ => False)
    (hCX : ∀ (w : World) (H : Hp) (s : Shared) (e : Value) (s' : Shared), CX w [] H s (fun _ _ _ => False) e s' → False) :
    PySem.W.WalkO q loose XP YP l.row.toRowW d [] (fun f vs => PySem.call f vs) := by
  refine Att.attach_call hn hdf fun w s₀ s₁ mg mb fa o pm cd doc a vs ns G Y ho hd hcd hmg hobj hints hlen hg => ?_
  have KX := hY w _ Y
  obtain ⟨fd, hb, hF⟩ := F w mg fa _ KX G.T.g hmg
  exact law_call KX G.T.g G.T.b G.T.builtins G.T.nolimit hg hobj hints (Nat.le_trans hlen hn2) hr hF hb (fun H hO hS => hsp w H a ns hlen hO hS) fun H e s' => hCX w H s₁ e s'
/-- the same where the promise hangs on the written part alone: (sp := My.sp_law), no hole under a binder -/
theorem walk_ofK {l : PySem.W.OpenLaw} {n k : Nat} {q : Program} {loose : List Str} {XP : (Str → Option Value) → Heap → Prop} {YP : World → Heap → Prop} {d : DefRec} {K : Params → PySem.W.Frag} {CX : CXT} {sp : PySem.W.Frag → Sp} {x : Str}
    (hn : l.most = some n) (hn2 : n ≤ sizeLine) (hdf : d.params.defaults = []) (hr : Room k callerA)
    (hY : ∀ (w : World) (h : Heap), YP w h → (K w.params).In h)
    (F : ∀ (w : World) (mg : Str → Option Value) (fa : Addr) (h : Heap), (K w.params).In h → h.Ns mainGlobals mg → mg d.name = some (.ref fa) →
      ∃ fd : FuncData, (∀ (s : Shared) (u : Value), BindsTo s fd ⟨[u], []⟩ [(x, u)]) ∧
        ∀ base : Heap, (K w.params).In base → base.Ns mainGlobals mg → FnOk l.prog w (K w.params) mg base CX k fa fd [x] (sp (K w.params)))
    (hsp : ∀ (K : PySem.W.Frag) (H : Hp) (a : Addr) (ns : List Int), ns.length ≤ n → Only H → SqL K H a (ns.map V.int) → sp K [.ref a] H (fun v _ => v = .bl true) fun _ _ _ => False)
    (hCX : ∀ (H : Hp) (s : Shared) (e : Value) (s' : Shared), CX [] H s (fun _ _ _ => False) e s' → False) :
    PySem.W.WalkO q loose XP YP l.row.toRowW d [] (fun f vs => PySem.call f vs) :=
  walk_of (K := K) (CX := fun _ => CX) (sp := fun w => sp (K w.params)) hn hn2 hdf hr hY F (fun w H a ns h1 h2 h3 => hsp (K w.params) H a ns h1 h2 h3) fun _ H s e s' => hCX H s e s'
end L2

/- THE LAST THEOREM (shape; LID, My.* are yours):
   My.Adr: a structure of the addresses that your layer names (classes, functions); My.Txt K t: a structure (Prop) of the equations over K;
   My.txt_mk : {K} {implicit addresses ..} (e1 : nsIn K mainGlobals "law" = some (some (.ref f))) (e2 : K.lookup f = some ⟨oc, od, .func (fnOf "law" "law" params body scope dV kV doc pm an cdv ct), sl⟩) (e3 : codeIn K cdv "law" = true) .. : ∃ t, My.Txt K t

set_option maxRecDepth 100000 in
set_option maxHeartbeats 0 in
theorem PySem.Challenge.cw_LID_holds : PySem.Challenge.rw_LID.Holds := by
  w_on; o_law; k_head; (case hw => w_witness2)
  k_fill
  refine L2.walk_of (l := PySem.Challenge.rw_LID) (n := 63) (k := 40) (x := "script") (CX := fun w => ..) (sp := fun _ => My.sp_law) rfl (by decide) rfl ⟨rfl, by decide, by decide⟩ (fun w h Y => PySem.W.kIn_of Y) ?F ?S ?C
  case F =>
    intro w mg fa h KX G hmg
    have T : ∃ t, My.Txt (L2.KOf KX) t := by
      dsimp only [L2.KOf]                          -- K must stand as «<heap const> w.params» for k_is
      refine' My.txt_mk ?e1 ?e2 ?e3 ..
      (case e1 => PySem.W.k_is)                    -- in the order: a name -> its address -> its object -> its parts
      (case e2 => PySem.W.k_is)
      ..
    obtain ⟨t, T⟩ := T
    have e0 := hmg.symm.trans (PySem.W.mg_of KX G T.law)
    cases e0                                       -- fa is the law's own address
    exact ⟨_, fun s u => .of_eq rfl, fun base kb nb => My.law_fn T kb nb⟩     -- if «.of_eq rfl» comes too early: refine' ⟨_, ?b, fun base kb nb => My.law_fn T kb nb⟩; exact fun s u => .of_eq rfl
  case S => exact fun w H a ns hl hO hS => ..
  case C => exact ..
(the tactic k_is has no namespace: write k_is) -/

/-! SHORT WORDS over the layer: a def of the text, its body, what a loop and a test want. -/
namespace L2
open PySem PySem.Spec PyProof.Rows

/-! ### the text by places -/
/-- the j-th statement of a class's body -/
def inClass (s : Stmt) (j : Nat) : Stmt := match s with
  | .ClassDef _ _ _ body _ _ _ _ _ _ _ => body.getD j (.Pass ⟨0, 0, 0, 0⟩)
  | _ => .Pass ⟨0, 0, 0, 0⟩
def defArgs (s : Stmt) : Arguments := match s with
  | .FunctionDef _ a _ _ _ _ _ _ _ _ => a
  | _ => { posonlyargs := [], args := [], vararg := none, kwonlyargs := [], kw_defaults := [], kwarg := none, defaults := [] }
def defBody (s : Stmt) : List Stmt := match s with
  | .FunctionDef _ _ b _ _ _ _ _ _ _ => b
  | _ => []
def defScope (s : Stmt) : Scope := match s with
  | .FunctionDef _ _ _ _ _ _ sc _ _ _ => sc
  | _ => { kind := .function, names := [], isGenerator := false, isCoroutine := false }

/-! ### no exception leaves a def -/
abbrev CX0 : CXT := fun _ _ _ _ _ _ => False
abbrev E0 : XK := fun _ _ _ => False
theorem pass0 {X : Cx} : Passes CX0 X E0 := fun _ _ _ _ _ _ _ h => h.elim

/-! ### a def (or method) of the text as it stands behind the top -/
structure Fun (K : PySem.W.Frag) (x qual : Str) (st : Stmt) (f : Addr) (fd : FuncData) : Prop where
  ex : ∃ (oc : Value) (od : Option Addr) (kV doc pm : Value) (an : Option Addr) (cdv ct : Value) (osl : Array (Option Value)),
    fd = PySem.W.fnOf x qual (defArgs st) (defBody st) (defScope st) .none kV doc pm an cdv ct ∧ K.lookup f = some ⟨oc, od, .func fd, osl⟩ ∧ PySem.W.codeIn K cdv qual = true
  kp : PySem.W.keepIn K (.ref f) = true
section
variable {P : Program} {w : World} {K : PySem.W.Frag} {mg : Str → Option Value} {base : Heap}
/-- THE RULE for a def: its body as a term of rules, and the reading of that term -/
theorem Fun.ok {x qual : Str} {st : Stmt} {f : Addr} {fd : FuncData} {N ps : List Str} {k : Nat} {sp : Sp} (F : Fun K x qual st f fd) (S : FnScope N ps (defScope st)) (len : ∀ vs H Q E, sp vs H Q E → vs.length = ps.length)
    (hbody : ∀ (cdv : Value) (A : Around) (outer : List Env) (s : Shared) (H : Hp) (vs : List V) (Q : VK) (E : XK), Room k (A.deeper (envOfC qual (defScope st) s.heap.objs.size f cdv)) → sp vs H Q E →
      ∃ t, PSs (cxOf CX0 P w K mg base N qual (defScope st) f cdv A outer s H E).nox (defBody st) t ∧ t { nx := fun _ H' => Q .non H', rt := Q } (start N vs) H) : FnOk P w K mg base CX0 (k + 1) f fd ps sp := by
  obtain ⟨oc, od, kV, doc, pm, an, cdv, ct, osl, rfl, lk, hcd⟩ := F.ex
  refine fn_of lk hcd S len fun A outer s H vs Q E hr hsp => ?_
  obtain ⟨t, h, q⟩ := hbody cdv A outer s H vs Q E hr hsp
  exact ⟨t, h.nox, q⟩
/-- how its arguments bind (no defaults): h is «fun _ _ _ _ _ _ us hl => match us, hl with | [_, _], _ => rfl», one _ a parameter -/
theorem Fun.binds {x qual : Str} {st : Stmt} {f : Addr} {fd : FuncData} {ps : List Str} (F : Fun K x qual st f fd)
    (h : ∀ (kV doc pm : Value) (an : Option Addr) (cdv ct : Value) (us : List Value), us.length = ps.length → bindArgs (PySem.W.fnOf x qual (defArgs st) (defBody st) (defScope st) .none kV doc pm an cdv ct) ⟨us, []⟩ = pure (ps.zip us)) : Binds K fd ps [] := by
  obtain ⟨oc, od, kV, doc, pm, an, cdv, ct, osl, rfl, lk, hcd⟩ := F.ex
  exact .all (h kV doc pm an cdv ct)
theorem fun_mk {x qual : Str} {st : Stmt} {f : Addr} {oc : Value} {od an : Option Addr} {osl : Array (Option Value)} {kV doc pm cdv ct : Value} (l : K.lookup f = some ⟨oc, od, .func (PySem.W.fnOf x qual (defArgs st) (defBody st) (defScope st) .none kV doc pm an cdv ct), osl⟩)
    (c : PySem.W.codeIn K cdv qual = true) (k : PySem.W.keepIn K (.ref f) = true) : Fun K x qual st f (PySem.W.fnOf x qual (defArgs st) (defBody st) (defScope st) .none kV doc pm an cdv ct) := ⟨⟨oc, od, kV, doc, pm, an, cdv, ct, osl, rfl, l, c⟩, k⟩
end
theorem hu_of {A : Around} {k : Nat} (hr : Room k A) : A.units + 1 < cLine := Nat.lt_of_le_of_lt (Nat.add_le_add_left (by decide : 1 ≤ 64) _) hr.units
theorem small1000 {n : Nat} (h : n ≤ 1000) : n < sizeLine := Nat.lt_of_le_of_lt h (by decide)

/-! ### expressions in short: the name that stands in the i-th slot -/
section
variable {X : Cx}
theorem pv (i : Nat) {x : Str} {pos : Pos} (hN : X.N[i]? = some x := by rfl) (hv : Vis X.env.scope x := by first | exact Or.inl rfl | exact Or.inr (Or.inl rfl) | exact Or.inr (Or.inr rfl)) (hd : (x == ("__debug__" : Str)) = false := by decide)
    (hcd : (x == ("__classdict__" : Str)) = false := by decide) : PE X (.Name x pos) (tVar i) := pe_var hN hv hd hcd
end

/-! ### tests -/
theorem iteF {A B : Prop} (h : B) : if false = true then A else B := by
  rw [if_neg Bool.false_ne_true]
  exact h
theorem iteT {A B : Prop} (h : A) : if true = true then A else B := by
  rw [if_pos rfl]
  exact h
theorem ite2 {c A B : Prop} [Decidable c] (h1 : c → A) (h2 : ¬ c → B) : if c then A else B := by
  by_cases h : c
  · rw [if_pos h]
    exact h1 h
  · rw [if_neg h]
    exact h2 h
theorem iteNS {c A B : Prop} [Decidable c] (hc : c) (h : B) : if (!decide c) = true then A else B := by
  rw [decide_eq_true hc]
  exact iteF h

/-! ### heaps -/
/-- all that was tracked is as it was -/
def Same (H H' : Hp) : Prop := ∀ b o, H b = some o → H' b = some o
theorem Same.refl (H : Hp) : Same H H := fun _ _ h => h
theorem Same.trans {H H1 H2 : Hp} (a : Same H H1) (b : Same H1 H2) : Same H H2 := fun c o h => b c o (a c o h)
theorem Same.free {H H' : Hp} (e : Same H H') {l : Addr} (h : H' l = Option.none) : H l = Option.none := by
  cases q : H l with
  | none => rfl
  | some o =>
    rw [e l o q] at h
    cases h
theorem Same.seq {K : PySem.W.Frag} {H H' : Hp} {a : Addr} {xs : List V} (e : Same H H') (h : SqL K H a xs) : SqL K H' a xs := by
  rcases h with (h | ⟨o, h⟩) | h
  · exact .inl (.inl (e _ _ h))
  · exact .inl (.inr ⟨o, e _ _ h⟩)
  · exact .inr h

end L2

set_option Elab.async false
set_option linter.all false
set_option maxRecDepth 100000
namespace L2
open PySem PySem.Spec PyProof.Rows

/-! ### comprehensions: [elt for tg in iter if test] -/
def compCx (X : Cx) (N' : List Str) (scope : Scope) (cl : List (Str × Addr)) (s₂ : Shared) (H₂ : Hp) (fp : List Addr) (C : Addr) : Cx :=
  { X with N := N', s₀ := s₂, H₀ := H₂, env := compEnvC scope cl C X.env, outer := X.stack, ex := fp, fn := fun _ => false, pn := [], xe := fun _ _ => False }

def lobj (ys : List Value) (k : Nat) : Obj := { cls := .type "list", data := .seq ys.toArray k }

section
variable {prog : Program} {w : World} {A : Around} {R : Result → Shared → Prop} {s : Shared}
theorem codeAny_compLoop_own {elt target iter : Expr} {ifs : List Expr} {scope : Scope} {pos : Pos} {it acc : Value} {env : Env} (I : Nat → Shared → Prop)
    (turn : ∀ n s, I n s → wpAny (model prog w) A (pyNext it) (fun r s₁ => match r with
      | none => R (.ok .next) s₁
      | some v => wpAny (model prog w) A (letOwnedTupleGo target it v) (fun _ s₁' => wpAny (model prog w) A (assign target env v) (fun _ s₂ =>
          wpAny (model prog w) A (forIn ifs true fun c r => if r = true then do let ok ← isTrue c env (eval c env); pure (ForInStep.yield ok) else pure (ForInStep.yield r)) (fun ok s₃ =>
            if ok = true then wpAny (model prog w) A (eval elt env) (fun x s₄ =>
              wpAny (model prog w) A (call (.builtin "list.append") [acc, x]) (fun _ s₅ => ∃ m, m < n ∧ I m s₅) (fun _ _ => False) s₄) (fun _ _ => False) s₃
            else ∃ m, m < n ∧ I m s₃) (fun _ _ => False) s₂) (fun _ _ => False) s₁') (fun _ _ => False) s₁) (fun _ _ => False) s)
    (n : Nat) (h : I n s) :
    codeAny (model prog w) A (.compLoop (.ListComp elt [⟨target, iter, ifs, 0⟩] scope pos) 0 it acc env) R s := by
  refine codeAny_loop rfl I (fun n s hI => ?_) n h
  show wpAny _ A ((compTurn (.ListComp elt [⟨target, iter, ifs, 0⟩] scope pos) 0 it acc env).onRaise (fun x => do noteFrame x env; theTreesLotGoes x)) _ _ s
  refine wpAny_noted ?_
  rw [compTurn_list]
  refine wpAny_bind (wpAny_standAt (wpAny_bind (wpAny_mono (turn n s hI) (fun r s₁ h₁ => ?_) fun _ _ h' => h'.elim)))
  cases r with
  | none => exact wpAny_pure h₁
  | some v =>
    refine wpAny_bind (wpAny_mono h₁ (fun _ s₁' h₁' => ?_) fun _ _ h' => h'.elim)
    refine wpAny_bind (wpAny_mono h₁' (fun _ s₂ h₂ => wpAny_bind (wpAny_mono h₂ (fun ok s₃ h₃ => ?_) fun _ _ h' => h'.elim)) fun _ _ h' => h'.elim)
    cases ok with
    | false => exact wpAny_pure ⟨rfl, h₃⟩
    | true =>
      exact wpAny_bind (wpAny_bind (wpAny_mono h₃ (fun x s₄ h₄ => wpAny_bind (wpAny_mono h₄ (fun _ s₅ h₅ => wpAny_pure (wpAny_pure ⟨rfl, h₅⟩)) fun _ _ h' => h'.elim)) fun _ _ h' => h'.elim))
end

/-- the tests of a comprehension -/
def PTs (X : Cx) (ifs : List Expr) (t : TT) : Prop :=
  ∀ (pins : List (Addr × Obj)) (s : Shared) (σ : St) (H : Hp) (Q : Bool → Hp → Prop), Inv X pins σ H s → t σ H Q →
    wpAny (model X.prog X.w) X.A (forIn ifs true fun c r => if r = true then do let ok ← isTrue c X.env (eval c X.env); pure (ForInStep.yield ok) else pure (ForInStep.yield r)) (TP X pins σ Q) X.xe s
theorem pts_nil {X : Cx} : PTs X [] (fun _ H Q => Q true H) := fun _ _ _ H _ I h => wpAny_tests_nil ⟨H, I, h⟩
theorem pts_one {X : Cx} {c : Expr} {t : TT} (h : PT X c t) : PTs X [c] t := fun pins s σ H Q I q => wpAny_tests_one (h pins s σ H Q I q)

theorem lookup_relabel {env : Env} : ∀ {names : List (Str × NameKind)} {x : Str},
    (names.map fun (n, k) => if (k == NameKind.free && env.scope.kind == .function && env.kindOf n == some .cell) then (n, NameKind.cell) else (n, k)).lookup x
      = (names.lookup x).map fun k => if (k == NameKind.free && env.scope.kind == .function && env.kindOf x == some .cell) then NameKind.cell else k
  | [], _ => rfl
  | (n, k) :: r, x => by
    have ih := @lookup_relabel env r x
    show List.lookup x ((if (k == NameKind.free && env.scope.kind == .function && env.kindOf n == some .cell) = true then (n, NameKind.cell) else (n, k)) :: _) = _
    cases hx : x == n with
    | true =>
      have e : x = n := by simpa using hx
      subst e
      by_cases hc : (k == NameKind.free && env.scope.kind == .function && env.kindOf x == some .cell) = true
      · rw [if_pos hc]; simp only [List.lookup_cons, hx, Option.map_some, if_pos hc]
      · rw [if_neg hc]; simp only [List.lookup_cons, hx, Option.map_some, if_neg hc]
    | false =>
      by_cases hc : (k == NameKind.free && env.scope.kind == .function && env.kindOf n == some .cell) = true
      · rw [if_pos hc]; simp only [List.lookup_cons, hx]; exact ih
      · rw [if_neg hc]; simp only [List.lookup_cons, hx]; exact ih

/-- the cells that the block takes with it -/
theorem closure_of {env : Env} : ∀ (names : List (Str × NameKind)) (acc : List (Str × Addr)), (∀ x ∈ names, x.2 = .free → ∃ c, env.cells.lookup x.1 = some c) →
    (∀ x c, acc.lookup x = some c → env.cells.lookup x = some c) →
    ∃ cl, (forIn names acc fun (x : Str × NameKind) (cs : List (Str × Addr)) => (if (x.2 == NameKind.free) = true then (do let c ← cellOf env x.1; pure (ForInStep.yield ((x.1, c) :: cs))) else pure (ForInStep.yield cs) : Sem (ForInStep (List (Str × Addr))))) = pure cl ∧
      (∀ x c, cl.lookup x = some c → env.cells.lookup x = some c) ∧ (∀ x, (acc.lookup x).isSome → (cl.lookup x).isSome) ∧ ∀ x ∈ names, x.2 = .free → (cl.lookup x.1).isSome
  | [], acc, _, ha => ⟨acc, rfl, ha, fun _ h => h, fun _ h => nomatch h⟩
  | (n, k) :: r, acc, hn, ha => by
    cases hk : (k == NameKind.free) with
    | true =>
      obtain ⟨c, hc⟩ := hn (n, k) List.mem_cons_self (by simpa using hk)
      have ha' : ∀ x d, ((n, c) :: acc).lookup x = some d → env.cells.lookup x = some d := fun x d e => by
        rw [List.lookup_cons] at e
        cases q : x == n with
        | true => rw [q] at e; have : x = n := by simpa using q
                  subst this; exact hc.trans e
        | false => rw [q] at e; exact ha x d e
      obtain ⟨cl, e, h1, h2, h3⟩ := closure_of r ((n, c) :: acc) (fun x hx => hn x (List.mem_cons_of_mem _ hx)) ha'
      have grow : ∀ x, (acc.lookup x).isSome → (((n, c) :: acc).lookup x).isSome := fun x hx => by
        rw [List.lookup_cons]
        cases q : x == n with
        | true => rfl
        | false => exact hx
      refine ⟨cl, ?_, h1, fun x hx => h2 x (grow x hx), fun x hx hf => ?_⟩
      · rw [List.forIn_cons]
        have q : cellOf env n = pure c := by
          unfold cellOf
          rw [hc]
        simp only [hk, if_true, q]
        exact e
      · rcases List.mem_cons.mp hx with rfl | hx
        · exact h2 _ (by simp [List.lookup_cons])
        · exact h3 x hx hf
    | false =>
      obtain ⟨cl, e, h1, h2, h3⟩ := closure_of r acc (fun x hx => hn x (List.mem_cons_of_mem _ hx)) ha
      refine ⟨cl, ?_, h1, h2, fun x hx hf => ?_⟩
      · rw [List.forIn_cons]
        simp only [hk, Bool.false_eq_true, if_false]
        exact e
      · rcases List.mem_cons.mp hx with rfl | hx
        · exfalso; have : k = .free := hf; subst this; simp at hk
        · exact h3 x hx hf
theorem closure_ex {env : Env} {scope : Scope} (h : ∀ x ∈ scope.names, x.2 = .free → ∃ c, env.cells.lookup x.1 = some c) :
    ∃ cl, closureFor scope env = pure cl ∧ (∀ x c, cl.lookup x = some c → env.cells.lookup x = some c) ∧ ∀ x ∈ scope.names, x.2 = .free → (cl.lookup x.1).isSome := by
  obtain ⟨cl, e, h1, _, h3⟩ := closure_of (env := env) scope.names [] h (fun x c e => by simp at e)
  refine ⟨cl, ?_, h1, h3⟩
  unfold closureFor
  have q : (forIn scope.names [] fun (x : Str × NameKind) (cs : List (Str × Addr)) => (match x with | (name, kind) => if (kind == NameKind.free) = true then (do let c ← cellOf env name; pure (ForInStep.yield ((name, c) :: cs))) else pure (ForInStep.yield cs) : Sem (ForInStep (List (Str × Addr))))) = pure cl := e
  first
    | (simp only [] ; rw [q]; rfl)
    | (show (do let cs ← _; pure cs) = _; rw [q]; rfl)
    | (rw [show (forIn scope.names [] _) = pure cl from q]; rfl)

/-- what is asked of a comprehension's scope; N': the names in the block, those of the def first -/
structure CompOk (X : Cx) (N' : List Str) (k : Nat) (scope : Scope) : Prop where
  kind : scope.kind = .function
  len : N'.length = X.N.length + k
  nocell : ∀ y ∈ scope.names, y.2 ≠ .cell
  names : ∀ y ∈ scope.names, y.2 = .local → scope.names.lookup y.1 = some .local
  outer : ∀ (i : Nat) x, i < X.N.length → N'[i]? = some x → (scope.names.lookup x).isSome → (scope.names.lookup x = some .free ∨ scope.names.lookup x = some .local ∨ scope.names.lookup x = some .cell) → X.N[i]? = some x ∧ scope.names.lookup x = some .free
  free : ∀ y ∈ scope.names, y.2 = .free → X.env.kindOf y.1 = some .cell ∨ X.env.kindOf y.1 = some .free
end L2

set_option Elab.async false
set_option linter.all false
set_option maxRecDepth 100000
namespace L2
open PySem PySem.Spec PyProof.Rows

/-- the reading of a comprehension: W by the turn, a measure, the list so far -/
def tComp (wi : TI) (k : Nat) (g : TG) (tc : TT) (te : TE) : TE := fun σ H Q => wi σ H fun J H1 => ∃ W : Nat → Nat → List V → St → Hp → Prop, (∃ m, W 0 m [] (σ ++ List.replicate k none) H1) ∧
  ∀ i m vs σ' H', W i m vs σ' H' → vs.length ≤ sizeLine ∧
    ((J.stop i H' ∧ ∀ p, H' p = none → Q (.ref p) (upd H' p (.lst vs))) ∨
     (J.go i H' ∧ ∀ x H2, J.yld i H' x H2 → g x σ' H2 fun σ3 H3 => tc σ3 H3 fun b H4 => if b = true then te σ3 H4 fun y H5 => ∃ m', m' < m ∧ W (i + 1) m' (vs ++ [y]) σ3 H5 else ∃ m', m' < m ∧ W (i + 1) m' vs σ3 H4))

section
variable {X : Cx} {pins : List (Addr × Obj)} {σ : St} {H2 : Hp} {s2 : Shared}
/-- an untracked list becomes tracked -/
theorem HOk.track {P : Program} {w : World} {H : Hp} {h : Heap} {D : Addr} {vs : List V} {ys : List Value} {k : Nat} (x : HOk P w H h) (hn : H D = none) (hl : vs.length ≤ sizeLine) (r : Vals vs ys) (e : h.get? D = some (lobj ys k)) :
    HOk P w (upd H D (.lst vs)) h := fun b u q => by
  by_cases hb : b = D
  · subst hb
    rw [upd_same] at q
    cases q
    exact ⟨hl, ys, k, r, e⟩
  · rw [upd_ne hb] at q
    exact (x b u q).stay (fun _ _ _ z => z) (fun c z => by rw [upd_ne (ne_of_none z hn)]; exact z) fun c xs z => by rw [upd_ne (ne_of_none z hn)]; exact z

theorem comp_core {elt tg iter : Expr} {ifs : List Expr} {scope : Scope} {pos : Pos} {N' : List Str} {k : Nat} {cl : List (Str × Addr)} {J : It} {fp : List Addr} {it : Addr} {tn : Nat → Heap → Prop} {g : TG} {tc : TT} {te : TE} {E : Value → Shared → Prop}
    {RR : Value → Addr → Result → Shared → Prop} {Q : VK}
    (hc : X.calm = true) (S : CompOk X N' k scope) (hcl : ∀ x c, cl.lookup x = some c → X.env.cells.lookup x = some c) (hcf : ∀ x ∈ scope.names, x.2 = .free → (cl.lookup x.1).isSome)
    (I : Inv X pins σ H2 s2) (T : Turn X.prog X.w X.K tg J fp it tn) (st : tn 0 s2.heap) (ff : ∀ b ∈ fp, FpOk X pins H2 b)
    (hg : ∀ C, PG (compCx X N' scope cl s2 H2 fp C) tg g) (ht : ∀ C, PTs (compCx X N' scope cl s2 H2 fp C) ifs tc) (he : ∀ C, PE (compCx X N' scope cl s2 H2 fp C) elt te)
    (rd : ∃ W : Nat → Nat → List V → St → Hp → Prop, (∃ m, W 0 m [] (σ ++ List.replicate k none) H2) ∧
      ∀ i m vs σ' H', W i m vs σ' H' → vs.length ≤ sizeLine ∧
        ((J.stop i H' ∧ ∀ p, H' p = none → Q (.ref p) (upd H' p (.lst vs))) ∨
         (J.go i H' ∧ ∀ x H2, J.yld i H' x H2 → g x σ' H2 fun σ3 H3 => tc σ3 H3 fun b H4 => if b = true then te σ3 H4 fun y H5 => ∃ m', m' < m ∧ W (i + 1) m' (vs ++ [y]) σ3 H5 else ∃ m', m' < m ∧ W (i + 1) m' vs σ3 H4)))
    (hRR : ∀ D C s' H', Inv X pins σ H' s' → (∃ m, s'.heap.Ns C m) → FpOk X pins H' C → Q (.ref D) H' → RR (.ref D) C (.ok .next) s') :
    wpAny (model X.prog X.w) X.A (newList []) (fun acc s₃ => wpAny (model X.prog X.w) X.A (newFunctionEnv scope X.env.globals cl [] X.env.qual none .none (some X.env)) (fun cenv s₄ =>
      codeAny (model X.prog X.w) X.A (.compStart (.ListComp elt [⟨tg, iter, ifs, 0⟩] scope pos) 0 (.ref it) acc { cenv with scope := relabel scope X.env }) (RR acc cenv.locals) s₄) E s₃) E s2 := by
  obtain ⟨W, ⟨m0, w0⟩, turn⟩ := rd
  refine wpAny_newObj_type (wpAny_newFunctionEnv S.nocell (by intro y hy; simp at hy) (fun h₁ hns₁ hsb₁ => ?_) S.kind)
  dsimp only at hns₁ hsb₁ ⊢
  generalize hH2 : s2.heap.push { cls := .type "list", dict := none, data := .seq ([] : List Value).toArray } = G2 at hns₁ hsb₁ ⊢
  have hCs : G2.objs.size = s2.heap.objs.size + 1 := by rw [← hH2, Heap.size_push]
  have hDC : s2.heap.objs.size ≠ G2.objs.size := by rw [hCs]; exact Nat.ne_of_lt (Nat.lt_succ_self _)
  have hCle : s2.heap.objs.size ≤ G2.objs.size := by rw [hCs]; exact Nat.le_succ _
  have below : ∀ b, b < s2.heap.objs.size → b ≠ G2.objs.size ∧ b ≠ s2.heap.objs.size := fun b hb => ⟨by rw [hCs]; exact Nat.ne_of_lt (Nat.lt_succ_of_lt hb), Nat.ne_of_lt hb⟩
  have old : ∀ b o, s2.heap.get? b = some o → h₁.get? b = some o := fun b o e => hsb₁.extBut b o (below b (Heap.lt_size e)).1 (Heap.get?_push_of_some _ (hH2 ▸ Heap.get?_push_of_some _ e))
  have hacc : h₁.get? s2.heap.objs.size = some (lobj [] 0) := hsb₁.extBut _ _ hDC (Heap.get?_push_of_some _ (hH2 ▸ Heap.get?_push_size _ rfl))
  generalize hDe : s2.heap.objs.size = D at *
  generalize hCe : G2.objs.size = C at *
  have fpD : FpOk X pins H2 D := I.fpOk (by rw [hDe]; exact Nat.le_refl _) (I.hok.fresh (by rw [hDe]; exact Nat.le_refl _))
  have fpC : ∀ H', H' C = none → FpOk X pins H' C := fun H' hn => I.fpOk (by rw [hDe]; exact hCle) hn
  have hfpD : ∀ b ∈ fp, b < D := fun b hb => by
    obtain ⟨o, e, _⟩ := T.obj _ _ st b hb
    rw [← hDe]; exact Heap.lt_size e
  have nofr : ∀ b, D ≤ b → b ∉ frs X.stack := fun b hb hm => by
    rcases List.mem_cons.mp (I.stkSub b hm) with e | hm
    · have := I.lt; rw [hDe] at this; rw [e] at hb; exact absurd (Nat.lt_of_lt_of_le this hb) (Nat.lt_irrefl _)
    · exact I.nofs (by rw [hDe]; exact hb) hm
  let X' := compCx X N' scope cl s2 H2 fp C
  have cellLt : ∀ x c, cl.lookup x = some c → c < D := fun x c e => by
    obtain ⟨v, z⟩ := I.cell x c (hcl x c e)
    rw [← hDe]; exact z.lt
  have ok' : X'.Ok := by
    refine ⟨I.ok.mod, S.kind, I.ok.glob, I.ok.blt, ?_, fun x y c e1 e2 => I.ok.inj x y c (hcl _ _ e1) (hcl _ _ e2), fun x hx => ?_, fun x c hf _ => (nomatch hf), I.ok.hd, I.ok.frames, .inl rfl, fun b hb => ⟨?_, fun x c e z => ?_⟩, I.bs, ?_, fun b o e hb => ?_, fun b hb hm => ?_, I.stack, I.stkFree⟩
    · show s2.heap.objs.size ≤ C
      rw [hDe]; exact hCle
    · have hx' : (relabel scope X.env).names.lookup x = some .cell ∨ (relabel scope X.env).names.lookup x = some .free := hx
      have e := lookup_relabel (env := X.env) (names := scope.names) (x := x)
      have e' : (relabel scope X.env).names.lookup x = (scope.names.lookup x).map fun k => if (k == NameKind.free && X.env.scope.kind == .function && X.env.kindOf x == some .cell) then NameKind.cell else k := e
      rw [e'] at hx'
      cases q : scope.names.lookup x with
      | none => rw [q] at hx'; rcases hx' with z | z <;> cases z
      | some kd =>
        have hmem := PySem.mem_of_lookup q
        rw [q] at hx'
        have hkd : kd = .free := by
          by_cases hz : kd = .free
          · exact hz
          · exfalso
            have hb : (kd == NameKind.free) = false := by simpa using hz
            simp only [hb, Bool.false_and, Bool.false_eq_true, if_false, Option.map_some] at hx'
            rcases hx' with z | z
            · exact S.nocell _ hmem (Option.some.inj z)
            · exact hz (Option.some.inj z)
        exact Option.isSome_iff_exists.mp (hcf _ hmem hkd)
    · exact Nat.ne_of_lt (Nat.lt_of_lt_of_le (hfpD b hb) hCle)
    · exact (ff b hb).2.2.2.2.1 x c (hcl x c e) z
    · exact Nat.le_trans I.ok.bsz I.sz
    · obtain ⟨_, _, _, hx, _⟩ := ff b hb
      rcases hx with hx | hx
      · exact I.ok.noex b o e hx
      · exact absurd (Nat.lt_of_lt_of_le (Heap.lt_size (I.ok.bs b o e).1) hx) (Nat.lt_irrefl _)
    · obtain ⟨_, hl, hfs, _⟩ := ff b hb
      rcases List.mem_cons.mp (I.stkSub b hm) with e | hm
      · exact hl e
      · exact hfs hm
  have lenσ : (σ ++ List.replicate k none).length = N'.length := by rw [List.length_append, List.length_replicate, I.len, S.len]
  have I0 : Inv X' [(D, lobj [] 0)] (σ ++ List.replicate k none) H2 { s2 with heap := h₁, toks := s2.toks + ([] : List (Str × Value)).length } := by
    refine ⟨ok', rfl, I.bare, Un.kept old, ⟨_, hns₁, fun i x v e1 e2 e3 => ?_⟩, fun x c e => ?_, I.hok.fresh (by rw [hDe]; exact hCle), fun x c e => I.freeC x c (hcl x c e), fun p hp => ?_, I.hok.kept old, lenσ⟩
    · have hi : i < σ.length := by
        by_cases hi : i < σ.length
        · exact hi
        · rw [List.getElem?_append_right (Nat.not_lt.mp hi), List.getElem?_replicate] at e2
          split at e2 <;> cases e2
      rw [List.getElem?_append_left hi] at e2
      have e' : (relabel scope X.env).names.lookup x = (scope.names.lookup x).map fun k => if (k == NameKind.free && X.env.scope.kind == .function && X.env.kindOf x == some .cell) then NameKind.cell else k := lookup_relabel (env := X.env) (names := scope.names) (x := x)
      have hsome : ∃ kd, scope.names.lookup x = some kd ∧ (kd = .free ∨ kd = .local ∨ kd = .cell) := by
        have e3' : (relabel scope X.env).names.lookup x = some .local ∨ (relabel scope X.env).names.lookup x = some .cell ∨ (relabel scope X.env).names.lookup x = some .free := e3
        rw [e'] at e3'
        cases q : scope.names.lookup x with
        | none => rw [q] at e3'; rcases e3' with z | z | z <;> cases z
        | some kd =>
          refine ⟨kd, rfl, ?_⟩
          rw [q] at e3'
          by_cases hz : kd = .free
          · exact .inl hz
          · have hb : (kd == NameKind.free) = false := by simpa using hz
            simp only [hb, Bool.false_and, Bool.false_eq_true, if_false, Option.map_some, Option.some.injEq] at e3'
            rcases e3' with z | z | z
            · exact .inr (.inl z)
            · exact .inr (.inr z)
            · exact .inl z
      obtain ⟨kd, hk1, hk2⟩ := hsome
      obtain ⟨hN, hfree⟩ := S.outer i x (by rw [← I.len]; exact hi) e1 (by rw [hk1]; rfl) (by rcases hk2 with z | z | z <;> subst z <;> simp [hk1])
      have hmem := PySem.mem_of_lookup hfree
      have hko := S.free _ hmem rfl
      have hkx : X.env.kindOf x = some .cell ∨ X.env.kindOf x = some .free := hko
      obtain ⟨m, hn, hl⟩ := I.loc
      obtain ⟨u, r, lk⟩ := hl i x v hN e2 (by rcases hkx with z | z; exact .inr (.inl z); exact .inr (.inr z))
      refine ⟨u, r, .inr ⟨?_, ?_⟩⟩
      · show (relabel scope X.env).names.lookup x = some .cell ∨ (relabel scope X.env).names.lookup x = some .free
        rw [e', hfree, Option.map_some]
        split
        · exact .inl rfl
        · exact .inr rfl
      · rcases lk with ⟨kl, _⟩ | ⟨_, c, ec, hcell⟩
        · rcases hkx with z | z <;> (rw [z] at kl; cases kl)
        · obtain ⟨c', ec'⟩ := Option.isSome_iff_exists.mp (hcf _ hmem rfl)
          have q := hcl _ _ ec'
          rw [ec] at q
          cases q
          exact ⟨c, ec', hcell.keeps old⟩
    · obtain ⟨v, z⟩ := I.cell x c (hcl x c e)
      exact ⟨v, z.keeps old⟩
    · have hp' : p ∈ ([] : List (Addr × Obj)) ++ [(D, lobj [] 0)] := hp
      have ep : p = (D, lobj [] 0) := by simpa using hp'
      subst ep
      exact ⟨hacc, fpD.1, hDC, nofr D (Nat.le_refl _), fun v z => nomatch z⟩
  have stat : ∀ {H' : Hp} {o : Obj}, (∀ b ∈ fp, H' b = none) → ∀ b ∈ fp, FpOk X' [(D, o)] H' b := fun {H' o} hn b hb => by
    refine ⟨hn b hb, Nat.ne_of_lt (Nat.lt_of_lt_of_le (hfpD b hb) hCle), ok'.exfs b hb, .inl hb, fun x c e z => (ff b hb).2.2.2.2.1 x c (hcl x c e) z, fun p hp => ?_⟩
    have hp' : p ∈ ([] : List (Addr × Obj)) ++ [(D, o)] := hp
    have ep : p = (D, o) := by simpa using hp'
    subst ep
    exact Nat.ne_of_gt (hfpD b hb)
  have loop : ∀ s₃ : Shared, s₃ = { s2 with heap := h₁, toks := s2.toks + ([] : List (Str × Value)).length } →
      codeAny (model X.prog X.w) X.A (.compLoop (.ListComp elt [⟨tg, iter, ifs, 0⟩] scope pos) 0 (.ref it) (.ref D) (compEnvC scope cl C X.env)) (RR (.ref D) C) s₃ := by
    rintro s₃ rfl
    refine codeAny_compLoop_own (fun n s' => ∃ i vs ys kk σ' H', Inv X' [(D, lobj ys kk)] σ' H' s' ∧ tn i s'.heap ∧ (∀ b ∈ fp, H' b = none) ∧ Vals vs ys ∧ W i n vs σ' H') ?_ m0
      ⟨0, [], [], 0, _, H2, I0, T.keep _ _ _ st fun b _ o e => old b o e, fun b hb => (ff b hb).1, .nil, w0⟩
    rintro n s3 ⟨i, vs, ys, kk, σ3, H3, I3, st3, fr3, rv, w3⟩
    obtain ⟨hvl, hcase⟩ := turn i n vs σ3 H3 w3
    have pinD : ∀ {o : Obj} {σ' H' s'}, Inv X' [(D, o)] σ' H' s' → s'.heap.get? D = some o ∧ H' D = none := fun J => ⟨(J.pin _ (List.mem_append_right _ List.mem_cons_self)).1, (J.pin _ (List.mem_append_right _ List.mem_cons_self)).2.1⟩
    rcases hcase with ⟨stop, qn⟩ | ⟨go, step⟩
    · refine thn (T.done X' rfl rfl rfl hc i _ s3 σ3 H3 (fun _ _ => False) I3 (stat fr3) st3 stop) fun r s4 ⟨hr, I4⟩ => ?_
      subst hr
      obtain ⟨gD, nD⟩ := pinD I4
      obtain ⟨m', hm', _⟩ := I4.loc
      have hC4 : H3 C = none := I4.free
      have u0 : Un (frs X.stack) fp H2 H3 s2.heap s4.heap := I4.base
      have neD : ∀ b o, s2.heap.get? b = some o → b ≠ D := fun b o e => by rw [← hDe]; exact Nat.ne_of_lt (Heap.lt_size e)
      have u1 : Un (frs X.stack) fp H2 (upd H3 D (.lst vs)) s2.heap s4.heap :=
        ⟨u0.keep, u0.slot, fun b o e n hx => by rw [upd_ne (neD b o e)]; exact u0.free b o e n hx, u0.there,
          fun b xs e => by have q := u0.tups b xs e; rw [upd_ne (ne_of_none q nD)]; exact q,
          fun b o u e => by have q := u0.frzs b o u e; rw [upd_ne (ne_of_none q nD)]; exact q,
          fun b ps e => by obtain ⟨more, q⟩ := u0.tbls b ps e; exact ⟨more, by rw [upd_ne (ne_of_none q nD)]; exact q⟩⟩
      have I5 : Inv X pins σ (upd H3 D (.lst vs)) s4 := I.call' I4.os u1 (I4.hok.track nD hvl rv gD) I4.bare fun b hb => ⟨(ff b hb).2.2.2.1, (ff b hb).2.1, (ff b hb).2.2.2.2.1, (ff b hb).2.2.2.2.2⟩
      exact hRR D C s4 _ I5 ⟨m', hm'⟩ (fpC _ (by rw [upd_ne (Ne.symm hDC)]; exact hC4)) (qn D nD)
    · refine thn (T.item X' rfl rfl rfl hc i _ s3 σ3 H3 (fun _ _ => False) I3 (stat fr3) st3 go) fun r s4 ⟨u, hr, h4⟩ => ?_
      subst hr
      refine thn h4 fun _ s5 ⟨x, H5, I5, r5, y5, st5, fr5⟩ => ?_
      have I5' := I5.pinned (stat fr5) (T.obj _ _ st5)
      refine thn (hg C _ s5 σ3 H5 x u _ I5' r5 (step x H5 y5)) fun _ s6 ⟨σ6, H6, I6, q6⟩ => ?_
      refine thn (ht C _ s6 σ6 H6 _ I6 q6) fun ok s7 ⟨H7, I7, q7⟩ => ?_
      have unpin : ∀ {σ' H' s'}, Inv X' ([(D, lobj ys kk)] ++ pinsAt fp s5.heap) σ' H' s' → Inv X' [(D, lobj ys kk)] σ' H' s' ∧ tn (i + 1) s'.heap ∧ ∀ b ∈ fp, H' b = none := fun {σ' H' s'} J =>
        ⟨J.unpinned, T.keep _ _ _ st5 fun b hb o e => (J.pin (b, o) (List.mem_append_right _ (List.mem_append_right _ (mem_pinsAt hb e)))).1, fun b hb => by
          obtain ⟨o, e, d⟩ := T.obj _ _ st5 b hb
          exact (J.pin (b, o) (List.mem_append_right _ (List.mem_append_right _ (mem_pinsAt hb e)))).2.1⟩
      cases ok with
      | false =>
        rw [if_neg Bool.false_ne_true]
        rw [if_neg Bool.false_ne_true] at q7
        obtain ⟨m', hm', w7⟩ := q7
        obtain ⟨J1, J2, J3⟩ := unpin I7
        exact ⟨m', hm', i + 1, vs, ys, kk, σ6, H7, J1, J2, J3, rv, w7⟩
      | true =>
        rw [if_pos rfl]
        rw [if_pos rfl] at q7
        refine thn (he C _ s7 σ6 H7 _ I7 q7) fun uy s8 ⟨y, H8, I8, r8, m', hm', w8⟩ => ?_
        obtain ⟨J1, J2, J3⟩ := unpin I8
        obtain ⟨gD, nD⟩ := pinD J1
        refine append_at (hsz := by show ys.toArray.size ≤ sizeLine; rw [List.size_toArray, ← rv.length]; exact hvl) gD fun h9 hs9 hD9 => ?_
        have J1' : Inv X' [] σ6 H8 s8 := J1.pins_of fun p hp => nomatch hp
        have J9 : Inv X' [] σ6 H8 { s8 with heap := h9 } := J1'.turned (t' := s8.toks) (it := D) (fun b o hb e => hs9.extBut b o hb e) nD hDC (.inr (by show s2.heap.objs.size ≤ D; rw [hDe]; exact Nat.le_refl _)) (fun x c e => Nat.ne_of_lt (cellLt x c e)) fun p hp => nomatch hp
        have eo : ({ cls := .type "list", data := .seq (ys.toArray.push uy) (kk + 1) } : Obj) = lobj (ys ++ [uy]) (kk + 1) := by
          unfold lobj
          rw [List.push_toArray]
        refine ⟨m', hm', i + 1, vs ++ [y], ys ++ [uy], kk + 1, σ6, H8, J9.pins_of fun p hp => ?_, T.keep _ _ _ J2 fun b hb o e => hs9.extBut b o (Nat.ne_of_lt (hfpD b hb)) e, J3, rv.append (.cons r8 .nil), w8⟩
        have ep : p = (D, lobj (ys ++ [uy]) (kk + 1)) := by simpa using hp
        subst ep
        exact ⟨by show h9.get? D = _; rw [hD9, eo], nD, hDC, nofr D (Nat.le_refl _), fun v z => nomatch z⟩
  exact codeAny_compStart_list (loop _ rfl) (T.self _ 0 _ _ _ (T.keep _ _ _ st fun b _ o e => old b o e) (loop _ rfl))
end

section
variable {X : Cx}
theorem pe_comp {elt tg iter : Expr} {ifs : List Expr} {scope : Scope} {pos : Pos} {N' : List Str} {k : Nat} {wi : TI} {g : TG} {tc : TT} {te : TE}
    (hc : X.calm = true) (S : CompOk X N' k scope) (hcells : ∀ x ∈ scope.names, x.2 = .free → ∃ c, X.env.cells.lookup x.1 = some c) (hi : PI X tg iter wi)
    (hg : ∀ cl s H fp C, PG (compCx X N' scope cl s H fp C) tg g) (ht : ∀ cl s H fp C, PTs (compCx X N' scope cl s H fp C) ifs tc) (he : ∀ cl s H fp C, PE (compCx X N' scope cl s H fp C) elt te)
    (hs : ∀ x, foldedSetIterable iter X.env x = pure x := by intro _; rfl) :
    PE X (.ListComp elt [⟨tg, iter, ifs, 0⟩] scope pos) (tComp wi k g tc te) := by
  intro pins s σ H Q I h
  obtain ⟨cl, hclos, h1, h2⟩ := closure_ex (env := X.env) (scope := scope) hcells
  rw [eval_ListComp]
  refine wpAny_comprehension_free (use := none) rfl hs hclos S.kind S.names (thn (hi pins s σ H _ I h) fun xv s1 h1' => thn h1' fun itv s2 h2' => ?_)
  obtain ⟨it, fp, tn, J, H2, e, I2, T, st2, f2, rd⟩ := h2'
  subst e
  refine comp_core hc S h1 h2 I2 T st2 f2 (fun C => hg _ _ _ _ C) (fun C => ht _ _ _ _ C) (fun C => he _ _ _ _ C) rd fun D C s' H' I' ⟨m, hm⟩ fC q => ?_
  refine ⟨m, hm, fun h' hs' => ⟨.ref D, H', ?_, rfl, q⟩⟩
  exact I'.turned (t' := s'.toks) (it := C) (fun b o hb e => hs'.extBut b o hb e) fC.1 fC.2.1 fC.2.2.2.1 fC.2.2.2.2.1 fC.2.2.2.2.2
/-- y = [..], where the store comes ahead of the letting go -/
theorem ps_setComp {elt tg iter : Expr} {ifs : List Expr} {scope : Scope} {pos pos' spos : Pos} {N' : List Str} {k i : Nat} {y : Str} {wi : TI} {g : TG} {tc : TT} {te : TE}
    (hN : X.N.Nodup) (hy : X.N[i]? = some y) (hly : Loc X.env.scope y) (hfn : X.fn y = true ∨ X.env.scope.names.lookup y = some .local)
    (hc : X.calm = true) (S : CompOk X N' k scope) (hcells : ∀ x ∈ scope.names, x.2 = .free → ∃ c, X.env.cells.lookup x.1 = some c) (hi : PI X tg iter wi)
    (hg : ∀ cl s H fp C, PG (compCx X N' scope cl s H fp C) tg g) (ht : ∀ cl s H fp C, PTs (compCx X N' scope cl s H fp C) ifs tc) (he : ∀ cl s H fp C, PE (compCx X N' scope cl s H fp C) elt te)
    (hsw : swapsWith (.ListComp elt [⟨tg, iter, ifs, 0⟩] scope pos) (some (.Name y pos')) spos.line X.env = pure true)
    (hs : ∀ x, foldedSetIterable iter X.env x = pure x := by intro _; rfl) :
    PS X (.Assign [.Name y pos'] (.ListComp elt [⟨tg, iter, ifs, 0⟩] scope pos) spos) (tAsg (tComp wi k g tc te) (gName i)) := by
  intro pins s σ H D₀ I h
  obtain ⟨cl, hclos, h1, h2⟩ := closure_ex (env := X.env) (scope := scope) hcells
  rw [exec_Assign_Name_used _ _ _ _ hsw]
  refine wpAny_bind (wpAny_standAt (wpAny_bind ?_))
  show wpAny _ X.A (do let _ ← comprehension (.ListComp elt [⟨tg, iter, ifs, 0⟩] scope pos) scope X.env _ (newList []) false (eval iter X.env) (some (assign (.Name y pos') X.env))) _ _ s
  refine wpAny_bind (wpAny_mono (wpAny_comprehension_free (use := some (assign (.Name y pos') X.env)) (Q := fun _ s' => SP X pins D₀ .next s') rfl hs hclos S.kind S.names
    (thn (hi pins s σ H _ I h) fun xv s1 h1' => thn h1' fun itv s2 h2' => ?_)) (fun _ s' hq => wpAny_pure (wpAny_pure hq)) fun _ _ e => e)
  obtain ⟨it, fp, tn, J, H2, e, I2, T, st2, f2, rd⟩ := h2'
  subst e
  refine comp_core (Q := fun x H1 => gName i x σ H1 D₀.nx) hc S h1 h2 I2 T st2 f2 (fun C => hg _ _ _ _ C) (fun C => ht _ _ _ _ C) (fun C => he _ _ _ _ C) rd fun D C s' H' I' ⟨m, hm⟩ fC q => ?_
  show wpAny _ X.A (assign (.Name y pos') X.env (.ref D)) _ _ _
  refine wpAny_assign_Name (store_ok2 I' hN hy hly (show RelV (.ref D) (.ref D) from rfl) (fun s'' I'' ⟨a, hsb, ha⟩ => ?_) hfn)
  have hCa : C ≠ a := by
    rcases ha with rfl | ha
    · exact fC.2.1
    · exact fun z => fC.2.2.2.2.1 y a ha z.symm
  refine ⟨m, hm.sameBut hsb hCa, fun h' hs' => ⟨_, H', ?_, q⟩⟩
  exact I''.turned (t' := s''.toks) (it := C) (fun b o hb e => hs'.extBut b o hb e) fC.1 fC.2.1 fC.2.2.2.1 fC.2.2.2.2.1 fC.2.2.2.2.2
end
end L2

set_option Elab.async false
set_option linter.all false
set_option maxRecDepth 100000
namespace L3
open PySem PySem.Spec PyProof.Rows L2

abbrev D := PyData
abbrev Fg := PySem.W.Frag

/-! ### data as trees over the tracked heap -/
mutual
inductive Rep (K : Fg) (F : Hp) : V → D → Prop
  | non : Rep K F .non .none
  | bl (b) : Rep K F (.bl b) (.bool b)
  | int (i) : Rep K F (.int i) (.int i)
  | str (x) : Rep K F (.str x) (.str x)
  | tup {a vs ds} : SqT K F a vs → RepL K F vs ds → Rep K F (.ref a) (.tuple ds)
  | lst {a vs ds} : SqL K F a vs → RepL K F vs ds → Rep K F (.ref a) (.list ds)
inductive RepL (K : Fg) (F : Hp) : List V → List D → Prop
  | nil : RepL K F [] []
  | cons {v d vs ds} : Rep K F v d → RepL K F vs ds → RepL K F (v :: vs) (d :: ds)
end

theorem sqT_mono {K : Fg} {F F' : Hp} {a : Addr} {xs : List V} (e : Same F F') (h : SqT K F a xs) : SqT K F' a xs := by
  rcases h with (h | ⟨o, h⟩) | h
  · exact .inl (.inl (e _ _ h))
  · exact .inl (.inr ⟨o, e _ _ h⟩)
  · exact .inr h
mutual
theorem Rep.mono {K : Fg} {F F' : Hp} (e : Same F F') : ∀ {v d}, Rep K F v d → Rep K F' v d
  | _, _, .non => .non
  | _, _, .bl b => .bl b
  | _, _, .int b => .int b
  | _, _, .str b => .str b
  | _, _, .tup h r => .tup (sqT_mono e h) (RepL.mono e r)
  | _, _, .lst h r => .lst (e.seq h) (RepL.mono e r)
theorem RepL.mono {K : Fg} {F F' : Hp} (e : Same F F') : ∀ {vs ds}, RepL K F vs ds → RepL K F' vs ds
  | _, _, .nil => .nil
  | _, _, .cons h r => .cons (Rep.mono e h) (RepL.mono e r)
end
theorem RepL.length {K : Fg} {F : Hp} : ∀ {vs ds}, RepL K F vs ds → vs.length = ds.length
  | _, _, .nil => rfl
  | _, _, .cons _ r => by simp [RepL.length r]
theorem RepL.get {K : Fg} {F : Hp} : ∀ {vs ds} {i : Nat} {d : D}, RepL K F vs ds → ds[i]? = some d → ∃ v, vs[i]? = some v ∧ Rep K F v d
  | _, _, _, _, .nil, e => by simp at e
  | _, _, 0, _, .cons h _, e => by simp at e; subst e; exact ⟨_, rfl, h⟩
  | _, _, i + 1, d, .cons _ r, e => by
    obtain ⟨v, h1, h2⟩ := RepL.get (i := i) (d := d) r (by simpa using e)
    exact ⟨v, by simpa using h1, h2⟩
theorem RepL.getV {K : Fg} {F : Hp} : ∀ {vs ds} {i : Nat} {v : V}, RepL K F vs ds → vs[i]? = some v → ∃ d, ds[i]? = some d ∧ Rep K F v d
  | _, _, _, _, .nil, e => by simp at e
  | _, _, 0, _, .cons h _, e => by simp at e; subst e; exact ⟨_, rfl, h⟩
  | _, _, i + 1, d, .cons _ r, e => by
    obtain ⟨v, h1, h2⟩ := RepL.getV (i := i) (v := d) r (by simpa using e)
    exact ⟨v, by simpa using h1, h2⟩
theorem RepL.append {K : Fg} {F : Hp} : ∀ {vs ds us es}, RepL K F vs ds → RepL K F us es → RepL K F (vs ++ us) (ds ++ es)
  | _, _, _, _, .nil, s => s
  | _, _, _, _, .cons h r, s => .cons h (RepL.append r s)
theorem RepL.take {K : Fg} {F : Hp} : ∀ {vs ds} (n : Nat), RepL K F vs ds → RepL K F (vs.take n) (ds.take n)
  | _, _, 0, _ => .nil
  | _, _, _ + 1, .nil => .nil
  | _, _, n + 1, .cons h r => .cons h (RepL.take n r)
theorem RepL.drop {K : Fg} {F : Hp} : ∀ {vs ds} (n : Nat), RepL K F vs ds → RepL K F (vs.drop n) (ds.drop n)
  | _, _, 0, r => r
  | _, _, _ + 1, .nil => .nil
  | _, _, n + 1, .cons _ r => RepL.drop n r
theorem RepL.set {K : Fg} {F : Hp} {v : V} {d : D} (h : Rep K F v d) : ∀ {vs ds} (i : Nat), RepL K F vs ds → RepL K F (vs.set i v) (ds.set i d)
  | _, _, _, .nil => .nil
  | _, _, 0, .cons _ r => .cons h r
  | _, _, i + 1, .cons q r => .cons q (RepL.set h i r)
theorem RepL.reverse {K : Fg} {F : Hp} {vs ds} (h : RepL K F vs ds) : RepL K F vs.reverse ds.reverse := by
  induction vs generalizing ds with
  | nil => cases h; exact .nil
  | cons v vs ih => cases h with
    | cons a b => rw [List.reverse_cons, List.reverse_cons]; exact (ih b).append (.cons a .nil)
theorem RepL.ints {K : Fg} {F : Hp} : ∀ (ns : List Int), RepL K F (ns.map V.int) (ns.map PyData.int)
  | [] => .nil
  | n :: r => .cons (.int n) (RepL.ints r)

/-- what is read off the heap itself -/
theorem reads_of {X : Cx} {pins : List (Addr × Obj)} {σ : L2.St} {H : Hp} {s : Shared} (I : Inv X pins σ H s) :
    (∀ {v d}, Rep X.K H v d → ∀ {u}, RelV v u → ∃ as, Reads s.heap u d as) ∧ (∀ {vs ds}, RepL X.K H vs ds → ∀ {us}, Vals vs us → ∃ as, ReadsAll s.heap us ds as) := by
  suffices hh : ∀ n, (∀ {v d}, sizeOf d < n → Rep X.K H v d → ∀ {u}, RelV v u → ∃ as, Reads s.heap u d as) ∧ (∀ {vs ds}, sizeOf ds < n → RepL X.K H vs ds → ∀ {us}, Vals vs us → ∃ as, ReadsAll s.heap us ds as) by
    exact ⟨fun {v d} h {u} r => (hh (sizeOf d + 1)).1 (Nat.lt_succ_self _) h r, fun {vs ds} h {us} r => (hh (sizeOf ds + 1)).2 (Nat.lt_succ_self _) h r⟩
  intro n
  induction n with
  | zero => exact ⟨fun h => absurd h (Nat.not_lt_zero _), fun h => absurd h (Nat.not_lt_zero _)⟩
  | succ n ih =>
    refine ⟨fun {v d} hn h {u} r => ?_, fun {vs ds} hn h {us} r => ?_⟩
    · cases h with
      | non => cases r; exact ⟨_, .none⟩
      | bl b => cases r; exact ⟨_, .bool b⟩
      | int i => obtain ⟨t, rfl⟩ := r; exact ⟨_, .int i t⟩
      | str x => obtain ⟨t, rfl⟩ := r; exact ⟨_, .str x t⟩
      | @tup a vs ds hq rl =>
        cases r
        obtain ⟨its, rv, ⟨o, e1, e2, n', e3⟩, hz⟩ := I.tuple hq
        obtain ⟨as, ra⟩ := ih.2 (by simp at hn ⊢; omega) rl rv
        exact ⟨_, .tuple e1 e2 e3 (by simpa using ra)⟩
      | @lst a vs ds hq rl =>
        cases r
        obtain ⟨its, rv, ⟨o, n', e1, e2, e3, e4⟩, hz⟩ := I.list hq
        obtain ⟨as, ra⟩ := ih.2 (by simp at hn ⊢; omega) rl rv
        exact ⟨_, .list e1 e2 e4 (by simpa using ra)⟩
    · cases h with
      | nil => cases r; exact ⟨_, .nil⟩
      | cons h t =>
        cases r with
        | cons r rr =>
          obtain ⟨as, ra⟩ := ih.1 (by simp at hn ⊢; omega) h r
          obtain ⟨bs, rb⟩ := ih.2 (by simp at hn ⊢; omega) t rr
          exact ⟨_, .cons ra rb⟩

/-! ### states: slots that hold frozen data or an own list -/
inductive OC where
  | l (ds : List D)
inductive AV where
  | fz (d : D)
  | ol (c : OC)
  | op (c : OC)
abbrev En := List (Option AV)
/-- the value of an expression: data, a fresh own thing, or the own thing of a slot -/
inductive RV where
  | fz (d : D)
  | fr (c : OC)
  | bor (i : Nat)
structure Gh where
  P : Nat → Option Addr
  O : Hp
def Held (K : Fg) (F H : Hp) (a : Addr) : OC → Prop
  | .l ds => ∃ vs, H a = some (.lst vs) ∧ RepL K F vs ds
structure OwnAt (K : Fg) (G : Gh) (F H : Hp) (a : Addr) (c : OC) : Prop where
  nf : F a = none
  no : G.O a = none
  he : Held K F H a c
def own (ρ : En) (i : Nat) (c : OC) : Prop := ρ[i]? = some (some (.ol c)) ∨ ρ[i]? = some (some (.op c))
structure StOk (K : Fg) (G : Gh) (F : Hp) (σ : L2.St) (H : Hp) (ρ : En) : Prop where
  fh : Same F H
  oh : Same G.O H
  fo : ∀ b o, G.O b = some o → F b = none
  ln : σ.length = ρ.length
  fz : ∀ (i : Nat) (d : D), ρ[i]? = some (some (AV.fz d)) → ∃ v, σ[i]? = some (some v) ∧ Rep K F v d
  ow : ∀ (i : Nat) (c : OC), own ρ i c → ∃ a : Addr, σ[i]? = some (some (V.ref a)) ∧ OwnAt K G F H a c
  dj : ∀ (i j : Nat) (c e : OC) (a : Addr), own ρ i c → own ρ j e → σ[i]? = some (some (V.ref a)) → σ[j]? = some (some (V.ref a)) → i = j
  pp : ∀ (i : Nat) (a : Addr), G.P i = some a → σ[i]? = some (some (V.ref a)) ∧ ∃ c, ρ[i]? = some (some (AV.op c))
  pq : ∀ (i : Nat) (c : OC), ρ[i]? = some (some (AV.op c)) → ∃ a, G.P i = some a
def RVR (K : Fg) (G : Gh) (F : Hp) (σ : L2.St) (H : Hp) (ρ : En) (v : V) : RV → Prop
  | .fz d => Rep K F v d
  | .fr c => ∃ a, v = .ref a ∧ OwnAt K G F H a c ∧ ∀ (i : Nat) (e : OC), own ρ i e → σ[i]? ≠ some (some (V.ref a))
  | .bor i => ∃ c, own ρ i c ∧ σ[i]? = some (some v)

theorem Held.mono {K : Fg} {F F' H : Hp} {a : Addr} {c : OC} (e : Same F F') (h : Held K F H a c) : Held K F' H a c := by
  cases c with
  | l ds => obtain ⟨vs, h1, h2⟩ := h; exact ⟨vs, h1, h2.mono e⟩
theorem Held.some {K : Fg} {F H : Hp} {a : Addr} {c : OC} (h : Held K F H a c) : ∃ o, H a = some o := by
  cases c with
  | l ds => obtain ⟨vs, h1, h2⟩ := h; exact ⟨_, h1⟩
theorem Held.at {K : Fg} {F H H' : Hp} {a : Addr} {c : OC} (h : Held K F H a c) (e : H' a = H a) : Held K F H' a c := by
  cases c with
  | l ds => obtain ⟨vs, h1, h2⟩ := h; exact ⟨vs, e.trans h1, h2⟩
theorem same_upd {F : Hp} {p : Addr} {o : HO} (h : F p = none) : Same F (upd F p o) := fun b u e => by
  rw [upd_ne (ne_of_none e h)]
  exact e
theorem same_upd2 {F H : Hp} {p : Addr} {o : HO} (s : Same F H) (h : F p = none) : Same F (upd H p o) := fun b u e => by
  rw [upd_ne (ne_of_none e h)]
  exact s b u e

section
variable {K : Fg} {G : Gh} {F H : Hp} {σ : L2.St} {ρ : En}
/-- a new untracked thing is laid -/
theorem StOk.lay (S : StOk K G F σ H ρ) {p : Addr} {o : HO} (hp : H p = none) : StOk K G F σ (upd H p o) ρ := by
  have fp : F p = none := S.fh.free hp
  have op : G.O p = none := S.oh.free hp
  refine ⟨same_upd2 S.fh fp, same_upd2 S.oh op, S.fo, S.ln, S.fz, fun i c h => ?_, S.dj, S.pp, S.pq⟩
  obtain ⟨a, e, oa⟩ := S.ow i c h
  refine ⟨a, e, oa.nf, oa.no, oa.he.at ?_⟩
  obtain ⟨u, hu⟩ := oa.he.some
  exact upd_ne (ne_of_none hu hp)
theorem StOk.fresh_ne (S : StOk K G F σ H ρ) {p : Addr} (hp : H p = none) : ∀ (i : Nat) (e : OC), own ρ i e → σ[i]? ≠ some (some (V.ref p)) := fun i e h q => by
  obtain ⟨a, e1, oa⟩ := S.ow i e h
  rw [e1] at q
  injection q with q; injection q with q; injection q with q
  subst q
  obtain ⟨u, hu⟩ := oa.he.some
  rw [hp] at hu; cases hu
/-- what stands there and is nobody's becomes frozen -/
theorem StOk.freeze (S : StOk K G F σ H ρ) {a : Addr} {o : HO} (ha : H a = some o) (fa : F a = none) (oa : G.O a = none) (ne : ∀ (i : Nat) (e : OC), own ρ i e → σ[i]? ≠ some (some (V.ref a))) : StOk K G (upd F a o) σ H ρ := by
  have sm : Same F (upd F a o) := same_upd fa
  refine ⟨fun b u e => ?_, S.oh, fun b u e => ?_, S.ln, fun i d h => ?_, fun i c h => ?_, S.dj, S.pp, S.pq⟩
  · by_cases hb : b = a
    · subst hb; rw [upd_same] at e; cases e; exact ha
    · rw [upd_ne hb] at e; exact S.fh b u e
  · rw [upd_ne (ne_of_none e oa)]; exact S.fo b u e
  · obtain ⟨v, e, r⟩ := S.fz i d h; exact ⟨v, e, r.mono sm⟩
  · obtain ⟨b, e, ob⟩ := S.ow i c h
    refine ⟨b, e, ?_, ob.no, ob.he.mono sm⟩
    rw [upd_ne (fun z => ne i c h (by rw [e, z]))]
    exact ob.nf
/-- a new tuple -/
theorem StOk.newTup (S : StOk K G F σ H ρ) {p : Addr} {vs : List V} {ds : List D} (hp : H p = none) (r : RepL K F vs ds) :
    Same F (upd F p (.tup vs)) ∧ StOk K G (upd F p (.tup vs)) σ (upd H p (.tup vs)) ρ ∧ Rep K (upd F p (.tup vs)) (.ref p) (.tuple ds) := by
  have fp : F p = none := S.fh.free hp
  refine ⟨same_upd fp, (S.lay hp).freeze upd_same fp (S.oh.free hp) (S.fresh_ne hp), ?_⟩
  exact .tup (.inl (.inl upd_same)) (r.mono (same_upd fp))
/-- a new list -/
theorem StOk.newLst (S : StOk K G F σ H ρ) {p : Addr} {vs : List V} {ds : List D} (hp : H p = none) (r : RepL K F vs ds) :
    StOk K G F σ (upd H p (.lst vs)) ρ ∧ RVR K G F σ (upd H p (.lst vs)) ρ (.ref p) (.fr (.l ds)) :=
  ⟨S.lay hp, p, rfl, ⟨S.fh.free hp, S.oh.free hp, vs, upd_same, r⟩, S.fresh_ne hp⟩
/-- a fresh list becomes data -/
theorem StOk.settle (S : StOk K G F σ H ρ) {v : V} {ds : List D} (r : RVR K G F σ H ρ v (.fr (.l ds))) :
    ∃ F', Same F F' ∧ StOk K G F' σ H ρ ∧ Rep K F' v (.list ds) := by
  obtain ⟨a, rfl, oa, ne⟩ := r
  obtain ⟨vs, h1, h2⟩ := oa.he
  exact ⟨upd F a (.lst vs), same_upd oa.nf, S.freeze h1 oa.nf oa.no ne, .lst (.inl (.inl upd_same)) (h2.mono (same_upd oa.nf))⟩
/-- an own list of a slot (no parameter's) becomes data -/
theorem getElem?_set_eq {α : Type} (l : List α) (i : Nat) (x y : α) (h : l[i]? = some y) : (l.set i x)[i]? = some x := by
  rw [List.getElem?_set_self (List.getElem?_eq_some_iff.mp h).1]
theorem StOk.settleB (S : StOk K G F σ H ρ) {i : Nat} {ds : List D} (hi : ρ[i]? = some (some (.ol (.l ds)))) {v : V} (hv : σ[i]? = some (some v)) :
    ∃ F', Same F F' ∧ StOk K G F' σ H (ρ.set i (some (.fz (.list ds)))) ∧ Rep K F' v (.list ds) := by
  obtain ⟨a, e, oa⟩ := S.ow i _ (.inl hi)
  rw [hv] at e
  injection e with e; injection e with e
  subst e
  obtain ⟨vs, h1, h2⟩ := oa.he
  have sm : Same F (upd F a (.lst vs)) := same_upd oa.nf
  have rp : Rep K (upd F a (.lst vs)) (.ref a) (.list ds) := .lst (.inl (.inl upd_same)) (h2.mono sm)
  have ne : ∀ j, j ≠ i → (ρ.set i (some (.fz (.list ds))))[j]? = ρ[j]? := fun j hj => List.getElem?_set_ne (Ne.symm hj)
  have at_i : (ρ.set i (some (.fz (.list ds))))[i]? = some (some (.fz (.list ds))) := getElem?_set_eq _ _ _ _ hi
  have ownj : ∀ j c, own (ρ.set i (some (.fz (.list ds)))) j c → j ≠ i ∧ own ρ j c := fun j c h => by
    have hj : j ≠ i := by
      rintro rfl
      rcases h with h | h <;> (rw [at_i] at h; cases h)
    refine ⟨hj, ?_⟩
    rcases h with h | h
    · exact .inl (by rw [← ne j hj]; exact h)
    · exact .inr (by rw [← ne j hj]; exact h)
  refine ⟨upd F a (.lst vs), sm, ⟨fun b u e => ?_, S.oh, fun b u e => ?_, by simpa using S.ln, fun j d h => ?_, fun j c h => ?_, fun j k c e b h1 h2 => S.dj j k c e b (ownj j c h1).2 (ownj k e h2).2, fun j b h => ?_, fun j c h => ?_⟩, rp⟩
  · by_cases hb : b = a
    · subst hb; rw [upd_same] at e; cases e; exact h1
    · rw [upd_ne hb] at e; exact S.fh b u e
  · rw [upd_ne (ne_of_none e oa.no)]; exact S.fo b u e
  · by_cases hj : j = i
    · subst hj
      rw [at_i] at h
      cases h
      exact ⟨_, hv, rp⟩
    · rw [ne j hj] at h
      obtain ⟨w, e, r⟩ := S.fz j d h
      exact ⟨w, e, r.mono sm⟩
  · obtain ⟨hj, h'⟩ := ownj j c h
    obtain ⟨b, e, ob⟩ := S.ow j c h'
    refine ⟨b, e, ?_, ob.no, ob.he.mono sm⟩
    rw [upd_ne (fun z => hj (S.dj j i _ _ a h' (.inl hi) (by rw [e, z]) hv))]
    exact ob.nf
  · obtain ⟨q, c, q'⟩ := S.pp j b h
    refine ⟨q, c, ?_⟩
    have hj : j ≠ i := by rintro rfl; rw [hi] at q'; cases q'
    rw [ne j hj]; exact q'
  · have hj : j ≠ i := by rintro rfl; rw [at_i] at h; cases h
    rw [ne j hj] at h
    exact S.pq j c h
/-- a name is stored -/
theorem StOk.store (S : StOk K G F σ H ρ) {j : Nat} {v : V} {av : AV} (hj : ∀ c, ρ[j]? ≠ some (some (.op c))) (hl : j < ρ.length)
    (h : (∃ d, av = .fz d ∧ Rep K F v d) ∨ ∃ c, av = .ol c ∧ RVR K G F σ H ρ v (.fr c)) : StOk K G F (σ.set j (some v)) H (ρ.set j (some av)) := by
  have hls : j < σ.length := by rw [S.ln]; exact hl
  have ne : ∀ i, i ≠ j → (ρ.set j (some av))[i]? = ρ[i]? := fun i hi => List.getElem?_set_ne (Ne.symm hi)
  have nes : ∀ i, i ≠ j → (σ.set j (some v))[i]? = σ[i]? := fun i hi => List.getElem?_set_ne (Ne.symm hi)
  have atj : (ρ.set j (some av))[j]? = some (some av) := List.getElem?_set_self hl
  have atjs : (σ.set j (some v))[j]? = some (some v) := List.getElem?_set_self hls
  have owni : ∀ i c, i ≠ j → own (ρ.set j (some av)) i c → own ρ i c := fun i c hi h => by
    unfold own at h ⊢
    rw [ne i hi] at h
    exact h
  refine ⟨S.fh, S.oh, S.fo, by simpa using S.ln, fun i d q => ?_, fun i c q => ?_, fun i k c e a q1 q2 e1 e2 => ?_, fun i a q => ?_, fun i c q => ?_⟩
  · by_cases hi : i = j
    · subst hi
      rw [atj] at q
      rcases h with ⟨d', rfl, r⟩ | ⟨c, rfl, _⟩
      · cases q; exact ⟨v, atjs, r⟩
      · cases q
    · rw [ne i hi] at q
      obtain ⟨w, e, r⟩ := S.fz i d q
      exact ⟨w, by rw [nes i hi]; exact e, r⟩
  · by_cases hi : i = j
    · subst hi
      rcases h with ⟨d', rfl, r⟩ | ⟨c', rfl, a, rfl, oa, _⟩
      · rcases q with q | q <;> (rw [atj] at q; cases q)
      · rcases q with q | q
        · rw [atj] at q; cases q; exact ⟨a, atjs, oa⟩
        · rw [atj] at q; cases q
    · obtain ⟨a, e, oa⟩ := S.ow i c (owni i c hi q)
      exact ⟨a, by rw [nes i hi]; exact e, oa⟩
  · by_cases hi : i = j
    · by_cases hk : k = j
      · rw [hi, hk]
      · exfalso
        subst hi
        rw [nes k hk] at e2
        rw [atjs] at e1
        injection e1 with e1; injection e1 with e1
        subst e1
        rcases h with ⟨d', rfl, r⟩ | ⟨c', rfl, a', e, oa, nn⟩
        · rcases q1 with q | q <;> (rw [atj] at q; cases q)
        · injection e with e; subst e
          exact nn k _ (owni k _ hk q2) e2
    · by_cases hk : k = j
      · exfalso
        subst hk
        rw [nes i hi] at e1
        rw [atjs] at e2
        injection e2 with e2; injection e2 with e2
        subst e2
        rcases h with ⟨d', rfl, r⟩ | ⟨c', rfl, a', e, oa, nn⟩
        · rcases q2 with q | q <;> (rw [atj] at q; cases q)
        · injection e with e; subst e
          exact nn i _ (owni i _ hi q1) e1
      · rw [nes i hi] at e1
        rw [nes k hk] at e2
        exact S.dj i k _ _ a (owni i _ hi q1) (owni k _ hk q2) e1 e2
  · obtain ⟨q1, c, q2⟩ := S.pp i a q
    have hi : i ≠ j := by rintro rfl; exact hj c q2
    exact ⟨by rw [nes i hi]; exact q1, c, by rw [ne i hi]; exact q2⟩
  · have hi : i ≠ j := by
      rintro rfl
      rw [atj] at q
      rcases h with ⟨d', rfl, r⟩ | ⟨c', rfl, _⟩ <;> cases q
    rw [ne i hi] at q
    exact S.pq i c q
/-- an own thing is changed in its place -/
theorem StOk.change (S : StOk K G F σ H ρ) {j : Nat} {a : Addr} {c c' : OC} {o : HO} (hj : own ρ j c) (ha : σ[j]? = some (some (.ref a))) (hh : Held K F (upd H a o) a c') :
    StOk K G F σ (upd H a o) (ρ.set j ((ρ[j]?.join).map fun | .op _ => .op c' | _ => .ol c')) := by
  obtain ⟨b, e, ob⟩ := S.ow j c hj
  rw [ha] at e
  injection e with e; injection e with e; injection e with e
  subst e
  have hl : j < ρ.length := by rcases hj with h | h <;> exact (List.getElem?_eq_some_iff.mp h).1
  generalize hav : ((ρ[j]?.join).map fun (x : AV) => match x with | .op _ => AV.op c' | _ => AV.ol c') = av
  have ne : ∀ i, i ≠ j → (ρ.set j av)[i]? = ρ[i]? := fun i hi => List.getElem?_set_ne (Ne.symm hi)
  have atj : (ρ.set j av)[j]? = some av := List.getElem?_set_self hl
  have owni : ∀ i e, i ≠ j → own (ρ.set j av) i e → own ρ i e := fun i c hi h => by
    unfold own at h ⊢
    rw [ne i hi] at h
    exact h
  have kind : (ρ[j]? = some (some (.ol c)) ∧ av = some (.ol c')) ∨ (ρ[j]? = some (some (.op c)) ∧ av = some (.op c')) := by
    rcases hj with h | h
    · exact .inl ⟨h, by rw [← hav, h]; rfl⟩
    · exact .inr ⟨h, by rw [← hav, h]; rfl⟩
  have ownj : ∀ e, own (ρ.set j av) j e → e = c' := fun e h => by
    unfold own at h
    rw [atj] at h
    rcases kind with ⟨_, k⟩ | ⟨_, k⟩ <;> rw [k] at h <;> rcases h with h | h <;> cases h <;> rfl
  refine ⟨same_upd2 S.fh ob.nf, same_upd2 S.oh ob.no, S.fo, by simpa using S.ln, fun i d q => ?_, fun i e q => ?_, fun i k c1 e1 b q1 q2 => ?_, fun i b q => ?_, fun i e q => ?_⟩
  · by_cases hi : i = j
    · subst hi
      rw [atj] at q
      rcases kind with ⟨_, k⟩ | ⟨_, k⟩ <;> rw [k] at q <;> cases q
    · rw [ne i hi] at q; exact S.fz i d q
  · by_cases hi : i = j
    · subst hi
      have := ownj e q
      subst this
      exact ⟨a, ha, ob.nf, ob.no, hh⟩
    · have q' := owni i e hi q
      obtain ⟨b', e', ob'⟩ := S.ow i e q'
      refine ⟨b', e', ob'.nf, ob'.no, ob'.he.at (upd_ne fun z => hi (S.dj i j _ _ a q' hj (by rw [e', z]) ha))⟩
  · have o1 : ∃ e, own ρ i e := by
      by_cases hi : i = j
      · exact ⟨c, hi ▸ hj⟩
      · exact ⟨_, owni i _ hi q1⟩
    have o2 : ∃ e, own ρ k e := by
      by_cases hk : k = j
      · exact ⟨c, hk ▸ hj⟩
      · exact ⟨_, owni k _ hk q2⟩
    exact S.dj i k _ _ b o1.choose_spec o2.choose_spec
  · obtain ⟨q1, e, q2⟩ := S.pp i b q
    refine ⟨q1, ?_⟩
    by_cases hi : i = j
    · subst hi
      rcases kind with ⟨k1, k⟩ | ⟨k1, k⟩
      · rw [k1] at q2; cases q2
      · exact ⟨c', by rw [atj, k]⟩
    · exact ⟨e, by rw [ne i hi]; exact q2⟩
  · by_cases hi : i = j
    · subst hi
      rcases kind with ⟨k1, k⟩ | ⟨k1, k⟩
      · rw [atj, k] at q; cases q
      · exact S.pq i c k1
    · rw [ne i hi] at q; exact S.pq i e q
end
end L3

set_option Elab.async false
set_option linter.all false
set_option maxRecDepth 100000
namespace L3
open PySem PySem.Spec PyProof.Rows L2

abbrev Ev (α : Type) := En → Option (α × En)

def tOf (K : Fg) (m : Ev RV) : TE := fun σ H Q => ∃ G F ρ r ρ', StOk K G F σ H ρ ∧ m ρ = some (r, ρ') ∧
  ∀ v F' H', Same F F' → StOk K G F' σ H' ρ' → RVR K G F' σ H' ρ' v r → Q v H'
def tOfT (K : Fg) (m : Ev Bool) : TT := fun σ H Q => ∃ G F ρ b ρ', StOk K G F σ H ρ ∧ m ρ = some (b, ρ') ∧
  ∀ F' H', Same F F' → StOk K G F' σ H' ρ' → Q b H'
/-- a value that stays readable while others are reckoned -/
def VL (K : Fg) (F : Hp) (σ : L2.St) (v : V) : RV → Prop
  | .fz d => Rep K F v d
  | .bor i => σ[i]? = some (some v)
  | .fr _ => False
inductive VLs (K : Fg) (F : Hp) (σ : L2.St) : List V → List RV → Prop
  | nil : VLs K F σ [] []
  | cons {v r vs rs} : VL K F σ v r → VLs K F σ vs rs → VLs K F σ (v :: vs) (r :: rs)
def tOfA (K : Fg) (m : Ev (List RV)) : TA := fun σ H Q => ∃ G F ρ rs ρ', StOk K G F σ H ρ ∧ m ρ = some (rs, ρ') ∧
  ∀ vs F' H', Same F F' → StOk K G F' σ H' ρ' → VLs K F' σ vs rs → Q vs H'
def AE (X : Cx) (e : Expr) (m : Ev RV) : Prop := PE X e (tOf X.K m)
def AT (X : Cx) (e : Expr) (m : Ev Bool) : Prop := PT X e (tOfT X.K m)
def AA (X : Cx) (es : List Expr) (m : Ev (List RV)) : Prop := PA X es (tOfA X.K m)

theorem pe_weak {X : Cx} {e : Expr} {t t' : TE} (h : PE X e t) (w : ∀ σ H Q, t' σ H Q → t σ H Q) : PE X e t' := fun pins s σ H Q I q => h pins s σ H Q I (w σ H Q q)
theorem pt_weak {X : Cx} {e : Expr} {t t' : TT} (h : PT X e t) (w : ∀ σ H Q, t' σ H Q → t σ H Q) : PT X e t' := fun pins s σ H Q I q => h pins s σ H Q I (w σ H Q q)
theorem pa_weak {X : Cx} {e : List Expr} {t t' : TA} (h : PA X e t) (w : ∀ σ H Q, t' σ H Q → t σ H Q) : PA X e t' := fun pos pins s σ H Q I q => h pos pins s σ H Q I (w σ H Q q)

theorem VL.mono {K : Fg} {F F' : Hp} {σ : L2.St} {v : V} {r : RV} (e : Same F F') (h : VL K F σ v r) : VL K F' σ v r := by
  cases r with
  | fz d => exact Rep.mono e h
  | bor i => exact h
  | fr c => exact h
theorem VLs.mono {K : Fg} {F F' : Hp} {σ : L2.St} (e : Same F F') : ∀ {vs rs}, VLs K F σ vs rs → VLs K F' σ vs rs
  | _, _, .nil => .nil
  | _, _, .cons h t => .cons (h.mono e) (t.mono e)

/-! ### operands -/
/-- a fresh list is settled; an own one stays borrowed -/
def mO (m : Ev RV) : Ev RV := fun ρ => match m ρ with
  | some (.fr (.l ds), ρ') => some (.fz (.list ds), ρ')
  | x => x
/-- .. and an own one of a name too -/
def mD (m : Ev RV) : Ev RV := fun ρ => match m ρ with
  | some (.fr (.l ds), ρ') => some (.fz (.list ds), ρ')
  | some (.bor i, ρ') => match ρ'[i]? with
    | some (some (.ol (.l ds))) => some (.fz (.list ds), ρ'.set i (some (.fz (.list ds))))
    | _ => none
  | x => x
section
variable {K : Fg} {G : Gh} {F H : Hp} {σ : L2.St} {ρ ρ' : En} {m : Ev RV}
theorem tOf_mO {Q : VK} (h : tOf K (mO m) σ H Q) : tOf K m σ H Q := by
  obtain ⟨G, F, ρ, r, ρ', S, e, k⟩ := h
  unfold mO at e
  split at e
  · rename_i ds ρ1 e1
    cases e
    refine ⟨G, F, ρ, .fr (.l ds), ρ', S, e1, fun v F' H' s1 S1 r1 => ?_⟩
    obtain ⟨F2, s2, S2, r2⟩ := S1.settle r1
    exact k v F2 H' (s1.trans s2) S2 r2
  · exact ⟨G, F, ρ, r, ρ', S, e, k⟩
theorem tOf_mD {Q : VK} (h : tOf K (mD m) σ H Q) : tOf K m σ H Q := by
  obtain ⟨G, F, ρ, r, ρ', S, e, k⟩ := h
  unfold mD at e
  split at e
  · rename_i ds ρ1 e1
    cases e
    refine ⟨G, F, ρ, .fr (.l ds), ρ', S, e1, fun v F' H' s1 S1 r1 => ?_⟩
    obtain ⟨F2, s2, S2, r2⟩ := S1.settle r1
    exact k v F2 H' (s1.trans s2) S2 r2
  · rename_i i ρ1 e1
    split at e
    · rename_i ds hi
      cases e
      refine ⟨G, F, ρ, .bor i, ρ1, S, e1, fun v F' H' s1 S1 r1 => ?_⟩
      obtain ⟨c, _, hv⟩ := r1
      obtain ⟨F2, s2, S2, r2⟩ := S1.settleB hi hv
      exact k v F2 H' (s1.trans s2) S2 r2
    · cases e
  · exact ⟨G, F, ρ, r, ρ', S, e, k⟩
theorem mO_notfr {r : RV} (e : mO m ρ = some (r, ρ')) : ∀ c, r ≠ .fr c := by
  unfold mO at e
  split at e
  · cases e; intro c; exact RV.noConfusion
  · rename_i h
    intro c z
    subst z
    cases c with
    | l ds => exact h ds ρ' e
theorem mD_isfz {r : RV} (e : mD m ρ = some (r, ρ')) : ∃ d, r = .fz d := by
  unfold mD at e
  split at e
  · cases e; exact ⟨_, rfl⟩
  · split at e
    · cases e; exact ⟨_, rfl⟩
    · cases e
  · rename_i h1 h2
    cases r with
    | fz d => exact ⟨d, rfl⟩
    | fr c => cases c with | l ds => exact absurd e (h1 ds ρ')
    | bor i => exact absurd e (h2 i ρ')
theorem RVR.vl {v : V} {r : RV} (h : RVR K G F σ H ρ v r) (nf : ∀ c, r ≠ .fr c) : VL K F σ v r := by
  cases r with
  | fz d => exact h
  | bor i => obtain ⟨c, _, e⟩ := h; exact e
  | fr c => exact absurd rfl (nf c)
end

def look (ρ : En) : RV → Option D
  | .fz d => some d
  | .bor i => match ρ[i]? with
    | some (some (.ol (.l ds))) => some (.list ds)
    | some (some (.op (.l ds))) => some (.list ds)
    | some (some (.fz d)) => some d
    | _ => none
  | .fr _ => none
def looks (ρ : En) : List RV → Option (List D)
  | [] => some []
  | r :: rs => match look ρ r, looks ρ rs with
    | some d, some ds => some (d :: ds)
    | _, _ => none
/-- an operand as it stands: data, or an own list of data -/
def OR (K : Fg) (F H : Hp) (v : V) (d : D) : Prop := Rep K F v d ∨ ∃ a vs ds, v = .ref a ∧ d = .list ds ∧ H a = some (.lst vs) ∧ RepL K F vs ds
inductive ORs (K : Fg) (F H : Hp) : List V → List D → Prop
  | nil : ORs K F H [] []
  | cons {v d vs ds} : OR K F H v d → ORs K F H vs ds → ORs K F H (v :: vs) (d :: ds)
theorem look_or {K : Fg} {G : Gh} {F H : Hp} {σ : L2.St} {ρ : En} {v : V} {r : RV} {d : D} (S : StOk K G F σ H ρ) (h : VL K F σ v r) (e : look ρ r = some d) : OR K F H v d := by
  cases r with
  | fz d' => cases e; exact .inl h
  | fr c => cases e
  | bor i =>
    have hv : σ[i]? = some (some v) := h
    dsimp only [look] at e
    have go : ∀ ds, own ρ i (.l ds) → d = .list ds → OR K F H v d := fun ds ho hd => by
      obtain ⟨a, e1, oa⟩ := S.ow i _ ho
      rw [hv] at e1
      injection e1 with e1; injection e1 with e1
      obtain ⟨vs, h1, h2⟩ := oa.he
      exact .inr ⟨a, vs, ds, e1, hd, h1, h2⟩
    split at e
    · rename_i ds q; cases e; exact go ds (.inl q) rfl
    · rename_i ds q; cases e; exact go ds (.inr q) rfl
    · rename_i d' q
      cases e
      obtain ⟨w, e1, r1⟩ := S.fz i _ q
      rw [hv] at e1
      injection e1 with e1; injection e1 with e1
      subst e1
      exact .inl r1
    · cases e
theorem looks_or {K : Fg} {G : Gh} {F H : Hp} {σ : L2.St} {ρ : En} (S : StOk K G F σ H ρ) : ∀ {vs rs ds}, VLs K F σ vs rs → looks ρ rs = some ds → ORs K F H vs ds
  | _, _, _, .nil, e => by cases e; exact .nil
  | _, _, _, .cons h t, e => by
    unfold looks at e
    split at e
    · rename_i d ds e1 e2
      cases e
      exact .cons (look_or S h e1) (looks_or S t e2)
    · cases e
section
variable {K : Fg} {F H : Hp} {v : V} {ds : List D}
theorem OR.rep {d : D} (s : Same F H) (h : OR K F H v d) : Rep K H v d := by
  rcases h with h | ⟨a, vs, ds, rfl, rfl, h1, h2⟩
  · exact h.mono s
  · exact .lst (.inl (.inl h1)) (h2.mono s)
theorem OR.list (s : Same F H) (h : OR K F H v (.list ds)) : ∃ a vs, v = .ref a ∧ SqL K H a vs ∧ RepL K F vs ds := by
  rcases h with h | ⟨a, vs, ds', e, e2, h1, h2⟩
  · cases h with
    | lst h1 h2 => exact ⟨_, _, rfl, s.seq h1, h2⟩
  · cases e2; exact ⟨a, vs, e, .inl (.inl h1), h2⟩
theorem OR.tuple (s : Same F H) (h : OR K F H v (.tuple ds)) : ∃ a vs, v = .ref a ∧ SqT K H a vs ∧ RepL K F vs ds := by
  rcases h with h | ⟨a, vs, ds', e, e2, h1, h2⟩
  · cases h with
    | tup h1 h2 => exact ⟨_, _, rfl, sqT_mono s h1, h2⟩
  · cases e2
theorem OR.int {i : Int} (h : OR K F H v (.int i)) : v = .int i := by
  rcases h with h | ⟨a, vs, ds', e, e2, h1, h2⟩
  · cases h; rfl
  · cases e2
theorem OR.bool {i : Bool} (h : OR K F H v (.bool i)) : v = .bl i := by
  rcases h with h | ⟨a, vs, ds', e, e2, h1, h2⟩
  · cases h; rfl
  · cases e2
theorem OR.str {i : Str} (h : OR K F H v (.str i)) : v = .str i := by
  rcases h with h | ⟨a, vs, ds', e, e2, h1, h2⟩
  · cases h; rfl
  · cases e2
theorem OR.none (h : OR K F H v .none) : v = .non := by
  rcases h with h | ⟨a, vs, ds', e, e2, h1, h2⟩
  · cases h; rfl
  · cases e2
end

/-- what a two-place operation does to data -/
def OpOk (K : Fg) (r : R2) (f : D → D → Option RV) : Prop :=
  ∀ (G : Gh) (F : Hp) (σ : L2.St) (H : Hp) (ρ : En) (x y : V) (dx dy : D) (res : RV) (Q : VK), StOk K G F σ H ρ → OR K F H x dx → OR K F H y dy → f dx dy = some res →
    (∀ v F' H', Same F F' → StOk K G F' σ H' ρ → RVR K G F' σ H' ρ v res → Q v H') → r x y H Q
def CallOk (K : Fg) (r : List V → Hp → VK → Prop) (f : List D → Option RV) : Prop :=
  ∀ (G : Gh) (F : Hp) (σ : L2.St) (H : Hp) (ρ : En) (xs : List V) (ds : List D) (res : RV) (Q : VK), StOk K G F σ H ρ → ORs K F H xs ds → f ds = some res →
    (∀ v F' H', Same F F' → StOk K G F' σ H' ρ → RVR K G F' σ H' ρ v res → Q v H') → r xs H Q

/-! ### expressions -/
def mVar (i : Nat) : Ev RV := fun ρ => match ρ[i]? with
  | some (some (.fz d)) => some (.fz d, ρ)
  | some (some (.ol _)) => some (.bor i, ρ)
  | some (some (.op _)) => some (.bor i, ρ)
  | _ => none
def mCon (d : D) : Ev RV := fun ρ => some (.fz d, ρ)
def mBin (f : D → D → Option RV) (ma mb : Ev RV) : Ev RV := fun ρ => match mO ma ρ with
  | some (a, ρ1) => match mO mb ρ1 with
    | some (b, ρ2) => match look ρ2 a, look ρ2 b with
      | some x, some y => match f x y with
        | some r => some (r, ρ2)
        | _ => none
      | _, _ => none
    | _ => none
  | _ => none
def mUn (f : D → Option RV) (ma : Ev RV) : Ev RV := fun ρ => match mO ma ρ with
  | some (a, ρ1) => match look ρ1 a with
    | some x => match f x with
      | some r => some (r, ρ1)
      | _ => none
    | _ => none
  | _ => none
def mNil : Ev (List RV) := fun ρ => some ([], ρ)
/-- one more operand (borrowed, if it is an own list) -/
def mCons (m : Ev RV) (ms : Ev (List RV)) : Ev (List RV) := fun ρ => match mO m ρ with
  | some (a, ρ1) => match ms ρ1 with
    | some (as, ρ2) => some (a :: as, ρ2)
    | _ => none
  | _ => none
/-- one more thing that is kept: data -/
def mConsD (m : Ev RV) (ms : Ev (List RV)) : Ev (List RV) := fun ρ => match mD m ρ with
  | some (a, ρ1) => match ms ρ1 with
    | some (as, ρ2) => some (a :: as, ρ2)
    | _ => none
  | _ => none
def dats : List RV → Option (List D)
  | [] => some []
  | .fz d :: r => match dats r with
    | some ds => some (d :: ds)
    | _ => none
  | _ => none
def mTup (ms : Ev (List RV)) : Ev RV := fun ρ => match ms ρ with
  | some (rs, ρ1) => match dats rs with
    | some ds => if ds.length ≤ sizeLine then some (.fz (.tuple ds), ρ1) else none
    | _ => none
  | _ => none
def mLst (ms : Ev (List RV)) : Ev RV := fun ρ => match ms ρ with
  | some (rs, ρ1) => match dats rs with
    | some ds => if ds.length ≤ sizeLine then some (.fr (.l ds), ρ1) else none
    | _ => none
  | _ => none
def mCall (f : List D → Option RV) (ms : Ev (List RV)) : Ev RV := fun ρ => match ms ρ with
  | some (rs, ρ1) => match looks ρ1 rs with
    | some ds => match f ds with
      | some r => some (r, ρ1)
      | _ => none
    | _ => none
  | _ => none

section
variable {X : Cx} {e a b : Expr} {es : List Expr} {m ma mb : Ev RV} {ms : Ev (List RV)} {pos : Pos}
theorem ae_var {i : Nat} {x : Str} (hN : X.N[i]? = some x) (hv : Vis X.env.scope x) (hd : (x == ("__debug__" : Str)) = false := by decide) (hcd : (x == ("__classdict__" : Str)) = false := by decide) : AE X (.Name x pos) (mVar i) :=
  pe_weak (pe_var hN hv hd hcd) fun σ H Q ⟨G, F, ρ, r, ρ', S, e, k⟩ => by
    unfold mVar at e
    split at e
    · rename_i d q
      cases e
      obtain ⟨v, e1, r1⟩ := S.fz i d q
      exact ⟨v, e1, k v F H (Same.refl _) S r1⟩
    · rename_i c q
      cases e
      obtain ⟨a, e1, oa⟩ := S.ow i c (.inl q)
      exact ⟨_, e1, k _ F H (Same.refl _) S ⟨c, .inl q, e1⟩⟩
    · rename_i c q
      cases e
      obtain ⟨a, e1, oa⟩ := S.ow i c (.inr q)
      exact ⟨_, e1, k _ F H (Same.refl _) S ⟨c, .inr q, e1⟩⟩
    · cases e
theorem ae_con {v : V} {d : D} (h : PE X e (tC v)) (r : ∀ F, Rep X.K F v d) : AE X e (mCon d) :=
  pe_weak h fun σ H Q ⟨G, F, ρ, r', ρ', S, e, k⟩ => by
    cases e
    exact k v F H (Same.refl _) S (r F)
theorem ae_int {i j} : AE X (.Constant (.int i) j pos) (mCon (.int i)) := ae_con pe_int fun _ => .int _
theorem ae_bl {i j} : AE X (.Constant (.bool i) j pos) (mCon (.bool i)) := ae_con pe_bl fun _ => .bl _
theorem ae_str {i j} : AE X (.Constant (.str i) j pos) (mCon (.str i)) := ae_con pe_str fun _ => .str _
theorem ae_non {j} : AE X (.Constant .none j pos) (mCon .none) := ae_con pe_non fun _ => .non

theorem tOf_bin {K : Fg} {r : R2} {f : D → D → Option RV} (ho : OpOk K r f) {σ : L2.St} {H : Hp} {Q : VK} (h : tOf K (mBin f ma mb) σ H Q) : tOp r (tOf K ma) (tOf K mb) σ H Q := by
  obtain ⟨G, F, ρ, res, ρ', S, e, k⟩ := h
  unfold mBin at e
  split at e
  case h_2 => cases e
  rename_i ra ρ1 e1
  split at e
  case h_2 => cases e
  rename_i rb ρ2 e2
  split at e
  case h_2 => cases e
  rename_i x y hx hy
  split at e
  case h_2 => cases e
  rename_i r' hr
  cases e
  refine tOf_mO ⟨G, F, ρ, ra, ρ1, S, e1, fun v F' H' s1 S1 r1 => ?_⟩
  have va := r1.vl (mO_notfr e1)
  refine tOf_mO ⟨G, F', ρ1, rb, ρ', S1, e2, fun u F2 H2 s2 S2 r2 => ?_⟩
  have vb := r2.vl (mO_notfr e2)
  exact ho G F2 σ H2 ρ' v u x y res Q S2 (look_or S2 (va.mono s2) hx) (look_or S2 vb hy) hr fun w F3 H3 s3 S3 r3 => k w F3 H3 ((s1.trans s2).trans s3) S3 r3
theorem ae_bin {op : Operator} {r : R2} {f : D → D → Option RV} (ho : OpR X (binaryOp op) r) (hf : OpOk X.K r f) (ha : AE X a ma) (hb : AE X b mb) : AE X (.BinOp a op b pos) (mBin f ma mb) :=
  pe_weak (pe_op ho ha hb) fun σ H Q h => tOf_bin hf h
theorem ae_cmp {op : CmpOp} {r : R2} {f : D → D → Option RV} (ho : OpR X (compareOp op) r) (hf : OpOk X.K r f) (ha : AE X a ma) (hb : AE X b mb) (hm : behindInMarks op b = false) : AE X (.Compare a [op] [b] pos) (mBin f ma mb) :=
  pe_weak (pe_cmpR ho ha hb hm) fun σ H Q h => tOf_bin hf h
theorem ae_ix {r : R2} {f : D → D → Option RV} (hr : IxR X r) (hf : OpOk X.K r f) (ha : AE X a ma) (hb : AE X b mb) (hs : PlainIx b) : AE X (.Subscript a b pos) (mBin f ma mb) :=
  pe_weak (pe_ix hr ha hb hs) fun σ H Q h => tOf_bin hf h
def UnOk (K : Fg) (r : V → Hp → VK → Prop) (f : D → Option RV) : Prop :=
  ∀ (G : Gh) (F : Hp) (σ : L2.St) (H : Hp) (ρ : En) (x : V) (dx : D) (res : RV) (Q : VK), StOk K G F σ H ρ → OR K F H x dx → f dx = some res →
    (∀ v F' H', Same F F' → StOk K G F' σ H' ρ → RVR K G F' σ H' ρ v res → Q v H') → r x H Q
theorem tOf_un {K : Fg} {r : V → Hp → VK → Prop} {f : D → Option RV} (ho : UnOk K r f) {σ : L2.St} {H : Hp} {Q : VK} (h : tOf K (mUn f ma) σ H Q) : tUn r (tOf K ma) σ H Q := by
  obtain ⟨G, F, ρ, res, ρ', S, e, k⟩ := h
  unfold mUn at e
  split at e
  case h_2 => cases e
  rename_i ra ρ1 e1
  split at e
  case h_2 => cases e
  rename_i x hx
  split at e
  case h_2 => cases e
  rename_i r' hr
  cases e
  refine tOf_mO ⟨G, F, ρ, ra, ρ', S, e1, fun v F' H' s1 S1 r1 => ?_⟩
  have va := r1.vl (mO_notfr e1)
  exact ho G F' σ H' ρ' v x res Q S1 (look_or S1 va hx) hr fun w F3 H3 s3 S3 r3 => k w F3 H3 (s1.trans s3) S3 r3
theorem ae_un {op : UnaryOp} {r : V → Hp → VK → Prop} {f : D → Option RV} (ho : UnR X (unaryOp op) r) (hf : UnOk X.K r f) (ha : AE X a ma) : AE X (.UnaryOp op a pos) (mUn f ma) :=
  pe_weak (pe_un ho ha) fun σ H Q h => tOf_un hf h
theorem aa_nil : AA X [] mNil := pa_weak pa_nil fun σ H Q ⟨G, F, ρ, r, ρ', S, e, k⟩ => by cases e; exact k [] F H (Same.refl _) S .nil
theorem aa_cons (h : AE X e m) (hr : AA X es ms) (hs : starEach (e :: es) X.env = (false, eval e X.env) :: starEach es X.env) : AA X (e :: es) (mCons m ms) :=
  pa_weak (pa_cons h hr hs) fun σ H Q ⟨G, F, ρ, r, ρ', S, e, k⟩ => by
    unfold mCons at e
    split at e
    case h_2 => cases e
    rename_i ra ρ1 e1
    split at e
    case h_2 => cases e
    rename_i rb ρ2 e2
    cases e
    refine tOf_mO ⟨G, F, ρ, ra, ρ1, S, e1, fun v F' H' s1 S1 r1 => ?_⟩
    have va := r1.vl (mO_notfr e1)
    exact ⟨G, F', ρ1, rb, ρ', S1, e2, fun vs F2 H2 s2 S2 r2 => k (v :: vs) F2 H2 (s1.trans s2) S2 (.cons (va.mono s2) r2)⟩
theorem aa_consD (h : AE X e m) (hr : AA X es ms) (hs : starEach (e :: es) X.env = (false, eval e X.env) :: starEach es X.env) : AA X (e :: es) (mConsD m ms) :=
  pa_weak (pa_cons h hr hs) fun σ H Q ⟨G, F, ρ, r, ρ', S, e, k⟩ => by
    unfold mConsD at e
    split at e
    case h_2 => cases e
    rename_i ra ρ1 e1
    split at e
    case h_2 => cases e
    rename_i rb ρ2 e2
    cases e
    refine tOf_mD ⟨G, F, ρ, ra, ρ1, S, e1, fun v F' H' s1 S1 r1 => ?_⟩
    obtain ⟨d, rfl⟩ := mD_isfz e1
    have va : VL X.K F' σ v (.fz d) := r1
    exact ⟨G, F', ρ1, rb, ρ', S1, e2, fun vs F2 H2 s2 S2 r2 => k (v :: vs) F2 H2 (s1.trans s2) S2 (.cons (va.mono s2) r2)⟩
theorem dats_rep {K : Fg} {F : Hp} {σ : L2.St} : ∀ {vs rs ds}, VLs K F σ vs rs → dats rs = some ds → RepL K F vs ds
  | _, _, _, .nil, e => by cases e; exact .nil
  | _, _, _, @VLs.cons _ _ _ v r vs rs h t, e => by
    cases r with
    | fz d =>
      unfold dats at e
      split at e
      · rename_i ds q
        cases e
        exact .cons h (dats_rep t q)
      · cases e
    | bor i => cases e
    | fr c => cases e
theorem ae_tup {x1} (h : AA X es ms) : AE X (.Tuple es x1 pos) (mTup ms) :=
  pe_weak (pe_tup h) fun σ H Q ⟨G, F, ρ, r, ρ', S, e, k⟩ => by
    unfold mTup at e
    split at e
    case h_2 => cases e
    rename_i rs ρ1 e1
    split at e
    case h_2 => cases e
    rename_i ds hd
    split at e
    case isFalse => cases e
    rename_i hl
    cases e
    refine ⟨G, F, ρ, rs, ρ', S, e1, fun vs F' H' s1 S1 r1 => ?_⟩
    have rp := dats_rep r1 hd
    refine ⟨by rw [rp.length]; exact hl, fun p hp => ?_⟩
    obtain ⟨s2, S2, r2⟩ := S1.newTup hp rp
    exact k _ _ _ (s1.trans s2) S2 r2
theorem ae_lst (h : AA X es ms) : AE X (.List es pos) (mLst ms) :=
  pe_weak (pe_lst h) fun σ H Q ⟨G, F, ρ, r, ρ', S, e, k⟩ => by
    unfold mLst at e
    split at e
    case h_2 => cases e
    rename_i rs ρ1 e1
    split at e
    case h_2 => cases e
    rename_i ds hd
    split at e
    case isFalse => cases e
    rename_i hl
    cases e
    refine ⟨G, F, ρ, rs, ρ', S, e1, fun vs F' H' s1 S1 r1 => ?_⟩
    have rp := dats_rep r1 hd
    refine ⟨by rw [rp.length]; exact hl, fun p hp => ?_⟩
    obtain ⟨S2, r2⟩ := S1.newLst hp rp
    exact k _ _ _ s1 S2 r2
theorem tOf_call {K : Fg} {r : List V → Hp → VK → Prop} {f : List D → Option RV} (hf : CallOk K r f) {σ : L2.St} {H : Hp} {Q : VK} (h : tOf K (mCall f ms) σ H Q) : tCB r (tOfA K ms) σ H Q := by
  obtain ⟨G, F, ρ, res, ρ', S, e, k⟩ := h
  unfold mCall at e
  split at e
  case h_2 => cases e
  rename_i rs ρ1 e1
  split at e
  case h_2 => cases e
  rename_i ds hd
  split at e
  case h_2 => cases e
  rename_i r' hr
  cases e
  refine ⟨G, F, ρ, rs, ρ', S, e1, fun vs F' H' s1 S1 r1 => ?_⟩
  exact hf G F' σ H' ρ' vs ds res Q S1 (looks_or S1 r1 hd) hr fun w F3 H3 s3 S3 r3 => k w F3 H3 (s1.trans s3) S3 r3
/-- f(..), f a built-in function -/
theorem ae_callB {x : Str} {p : Pos} {id : String} {r : List V → Hp → VK → Prop} {f : List D → Option RV} (hc : CallR X (.builtin id) r) (hf : CallOk X.K r f) (hg : Gl X x) (hm : X.mg x = none) (hv : bootBuiltins x = some (.builtin id)) (ha : AA X (e :: es) ms)
    (hn : x ≠ "__name__") (hdb : (x == ("__debug__" : Str)) = false) (he : starEach (e :: es) X.env = (false, eval e X.env) :: starEach es X.env) (hpl : (backTo pos (starEach es X.env)).any (·.1) = false) : AE X (.Call (.Name x p) (e :: es) [] pos) (mCall f ms) :=
  pe_weak (pe_callB hc hg hm hv ha hn hdb he hpl) fun σ H Q h => tOf_call hf h
theorem ae_callTy {x : Str} {p : Pos} {T : String} {r : List V → Hp → VK → Prop} {f : List D → Option RV} (hc : CallR X (.type T) r) (hf : CallOk X.K r f) (hg : Gl X x) (hm : X.mg x = none) (hv : bootBuiltins x = some (.type T)) (ha : AA X (e :: es) ms)
    (hn : x ≠ "__name__") (hdb : (x == ("__debug__" : Str)) = false) (he : starEach (e :: es) X.env = (false, eval e X.env) :: starEach es X.env) (hpl : (backTo pos (starEach es X.env)).any (·.1) = false) : AE X (.Call (.Name x p) (e :: es) [] pos) (mCall f ms) :=
  pe_weak (pe_callTy hc hg hm hv ha hn hdb he hpl) fun σ H Q h => tOf_call hf h
end
end L3

set_option Elab.async false
set_option linter.all false
set_option maxRecDepth 100000
namespace L3
open PySem PySem.Spec PyProof.Rows L2

/-! ### tests -/
def mTest (m : Ev RV) : Ev Bool := fun ρ => match m ρ with
  | some (.fz (.bool b), ρ') => some (b, ρ')
  | _ => none
def truD : D → Option Bool
  | .none => some false
  | .bool b => some b
  | .int i => some (i != 0)
  | .str x => if x.length ≤ sizeLine then some ((x.length : Int) != 0) else none
  | .list ds => some (!ds.isEmpty)
  | .tuple ds => some (!ds.isEmpty)
  | .dict _ => none
def mTru (m : Ev RV) : Ev Bool := fun ρ => match mO m ρ with
  | some (a, ρ1) => match look ρ1 a with
    | some x => match truD x with
      | some b => some (b, ρ1)
      | _ => none
    | _ => none
  | _ => none
def mAndT (ma mb : Ev Bool) : Ev Bool := fun ρ => match ma ρ with
  | some (true, ρ1) => mb ρ1
  | some (false, ρ1) => some (false, ρ1)
  | none => none
def mOrT (ma mb : Ev Bool) : Ev Bool := fun ρ => match ma ρ with
  | some (true, ρ1) => some (true, ρ1)
  | some (false, ρ1) => mb ρ1
  | none => none
def mNotT (ma : Ev Bool) : Ev Bool := fun ρ => match ma ρ with
  | some (b, ρ1) => some (!b, ρ1)
  | none => none
def mAndV (ma mb : Ev RV) : Ev RV := fun ρ => match ma ρ with
  | some (.fz (.bool true), ρ1) => mb ρ1
  | some (.fz (.bool false), ρ1) => some (.fz (.bool false), ρ1)
  | _ => none
def mOrV (ma mb : Ev RV) : Ev RV := fun ρ => match ma ρ with
  | some (.fz (.bool true), ρ1) => some (.fz (.bool true), ρ1)
  | some (.fz (.bool false), ρ1) => mb ρ1
  | _ => none
def mNotV (ma : Ev RV) : Ev RV := fun ρ => match ma ρ with
  | some (.fz (.bool b), ρ1) => some (.fz (.bool (!b)), ρ1)
  | _ => none
def mIf (mc : Ev Bool) (ma mb : Ev RV) : Ev RV := fun ρ => match mc ρ with
  | some (true, ρ1) => ma ρ1
  | some (false, ρ1) => mb ρ1
  | none => none
def AW (X : Cx) (e : Expr) (m : Ev Bool) : Prop := PW X e (tOfT X.K m)

section
variable {X : Cx} {e a b c : Expr} {es rest : List Expr} {m ma mb : Ev RV} {ta tb tc : Ev Bool} {ms : Ev (List RV)} {pos : Pos}
theorem isEmpty_repL {K : Fg} {F : Hp} {vs : List V} {ds : List D} (h : RepL K F vs ds) : (!vs.isEmpty) = !ds.isEmpty := by cases h <;> rfl
theorem test_of {K : Fg} {σ : L2.St} {H : Hp} {Q : Bool → Hp → Prop} (h : tOfT K (mTest m) σ H Q) : tOf K m σ H fun x H' => ∃ k, x = .bl k ∧ Q k H' := by
  obtain ⟨G, F, ρ, bb, ρ', S, e, k⟩ := h
  unfold mTest at e
  split at e
  · rename_i b' ρ1 e1
    cases e
    refine ⟨G, F, ρ, _, _, S, e1, fun v F' H' s1 S1 r1 => ?_⟩
    have r1' : Rep K F' v (.bool bb) := r1
    cases r1'
    exact ⟨_, rfl, k F' H' s1 S1⟩
  · cases e
theorem at_cmp {op : CmpOp} {r : R2} {f : D → D → Option RV} (ho : OpR X (compareOp op) r) (hf : OpOk X.K r f) (ha : AE X a ma) (hb : AE X b mb) (hm : behindInMarks op b = false) : AT X (.Compare a [op] [b] pos) (mTest (mBin f ma mb)) :=
  pt_weak (pt_cmpR ho ha hb hm) fun σ H Q h => tOf_bin hf (test_of h)
theorem at_tru (ha : AE X a ma) (he : ∀ whole, isTrue a X.env whole = (do let v ← whole; standAt a.pos; holding [v] (truthy v))) : AT X a (mTru ma) :=
  pt_weak (pt_truth ha he) fun σ H Q ⟨G, F, ρ, bb, ρ', S, e, k⟩ => by
    unfold mTru at e
    split at e
    case h_2 => cases e
    rename_i ra ρ1 e1
    split at e
    case h_2 => cases e
    rename_i x hx
    split at e
    case h_2 => cases e
    rename_i b' hb
    cases e
    refine tOf_mO ⟨G, F, ρ, ra, ρ', S, e1, fun v F' H' s1 S1 r1 => ⟨bb, ?_, k F' H' s1 S1⟩⟩
    have o := look_or S1 (r1.vl (mO_notfr e1)) hx
    cases x with
    | none => rw [o.none]; cases hb; exact rfl
    | bool i => rw [o.bool]; cases hb; exact rfl
    | int i => rw [o.int]; cases hb; exact rfl
    | str i =>
      rw [o.str]
      unfold truD at hb
      dsimp only at hb
      split at hb
      · rename_i hl; cases hb; exact ⟨hl, rfl⟩
      · cases hb
    | list ds => obtain ⟨a, vs, rfl, h1, h2⟩ := o.list S1.fh; cases hb; exact .inl ⟨vs, h1, (isEmpty_repL h2).symm⟩
    | tuple ds => obtain ⟨a, vs, rfl, h1, h2⟩ := o.tuple S1.fh; cases hb; exact .inr (.inl ⟨vs, h1, (isEmpty_repL h2).symm⟩)
    | dict ds => cases hb
theorem and_of {K : Fg} {σ : L2.St} {H : Hp} {Q : Bool → Hp → Prop} (h : tOfT K (mAndT ta tb) σ H Q) : tAnd (tOfT K ta) (tOfT K tb) σ H Q := by
  obtain ⟨G, F, ρ, bb, ρ', S, e, k⟩ := h
  unfold mAndT at e
  split at e
  · rename_i ρ1 e1
    exact ⟨G, F, ρ, true, ρ1, S, e1, fun F' H' s1 S1 => by refine iteT ?_; exact ⟨G, F', ρ1, bb, ρ', S1, e, fun F2 H2 s2 S2 => k F2 H2 (s1.trans s2) S2⟩⟩
  · rename_i ρ1 e1
    cases e
    exact ⟨G, F, ρ, false, ρ', S, e1, fun F' H' s1 S1 => by refine iteF ?_; exact k F' H' s1 S1⟩
  · cases e
theorem or_of {K : Fg} {σ : L2.St} {H : Hp} {Q : Bool → Hp → Prop} (h : tOfT K (mOrT ta tb) σ H Q) : tOr (tOfT K ta) (tOfT K tb) σ H Q := by
  obtain ⟨G, F, ρ, bb, ρ', S, e, k⟩ := h
  unfold mOrT at e
  split at e
  · rename_i ρ1 e1
    cases e
    exact ⟨G, F, ρ, true, ρ', S, e1, fun F' H' s1 S1 => by refine iteT ?_; exact k F' H' s1 S1⟩
  · rename_i ρ1 e1
    exact ⟨G, F, ρ, false, ρ1, S, e1, fun F' H' s1 S1 => by refine iteF ?_; exact ⟨G, F', ρ1, bb, ρ', S1, e, fun F2 H2 s2 S2 => k F2 H2 (s1.trans s2) S2⟩⟩
  · cases e
theorem aw_and1 (ha : AT X a ta) : AW X (.BoolOp .And [a] pos) ta := pw_and1 ha
theorem aw_or1 (ha : AT X a ta) : AW X (.BoolOp .Or [a] pos) ta := pw_or1 ha
theorem aw_and (ha : AT X a ta) (hb : AW X (.BoolOp .And (b :: rest) pos) tb) : AW X (.BoolOp .And (a :: b :: rest) pos) (mAndT ta tb) :=
  fun wh pins s σ H Q I h => pw_and ha hb wh pins s σ H Q I (and_of h)
theorem aw_or (ha : AT X a ta) (hb : AW X (.BoolOp .Or (b :: rest) pos) tb) : AW X (.BoolOp .Or (a :: b :: rest) pos) (mOrT ta tb) :=
  fun wh pins s σ H Q I h => pw_or ha hb wh pins s σ H Q I (or_of h)
theorem at_aw (h : AW X e ta) : AT X e ta := PW.pt h
theorem at_not (ha : AT X a ta) : AT X (.UnaryOp .Not a pos) (mNotT ta) :=
  pt_weak (pt_not ha) fun σ H Q ⟨G, F, ρ, bb, ρ', S, e, k⟩ => by
    unfold mNotT at e
    split at e
    · rename_i b' ρ1 e1
      cases e
      exact ⟨G, F, ρ, b', ρ', S, e1, k⟩
    · cases e
/-- not of a test's value -/
theorem ae_one {op} (h : AE X a m) : AE X (.BoolOp op [a] pos) m := pe_one h
theorem ae_and (ha : AE X a ma) (hb : AE X (.BoolOp .And (b :: rest) pos) mb) : AE X (.BoolOp .And (a :: b :: rest) pos) (mAndV ma mb) :=
  pe_weak (pe_and ha hb) fun σ H Q ⟨G, F, ρ, r, ρ', S, e, k⟩ => by
    unfold mAndV at e
    split at e
    · rename_i ρ1 e1
      refine ⟨G, F, ρ, _, ρ1, S, e1, fun v F' H' s1 S1 r1 => ?_⟩
      have r1' : Rep X.K F' v (.bool true) := r1
      cases r1'
      exact ⟨true, rfl, by refine iteT ?_; exact ⟨G, F', ρ1, r, ρ', S1, e, fun v2 F2 H2 s2 S2 r2 => k v2 F2 H2 (s1.trans s2) S2 r2⟩⟩
    · rename_i ρ1 e1
      cases e
      refine ⟨G, F, ρ, _, ρ', S, e1, fun v F' H' s1 S1 r1 => ?_⟩
      have r1' : Rep X.K F' v (.bool false) := r1
      cases r1'
      exact ⟨false, rfl, by refine iteF ?_; exact k _ F' H' s1 S1 r1⟩
    · cases e
theorem ae_or (ha : AE X a ma) (hb : AE X (.BoolOp .Or (b :: rest) pos) mb) : AE X (.BoolOp .Or (a :: b :: rest) pos) (mOrV ma mb) :=
  pe_weak (pe_or ha hb) fun σ H Q ⟨G, F, ρ, r, ρ', S, e, k⟩ => by
    unfold mOrV at e
    split at e
    · rename_i ρ1 e1
      cases e
      refine ⟨G, F, ρ, _, ρ', S, e1, fun v F' H' s1 S1 r1 => ?_⟩
      have r1' : Rep X.K F' v (.bool true) := r1
      cases r1'
      exact ⟨true, rfl, by refine iteT ?_; exact k _ F' H' s1 S1 r1⟩
    · rename_i ρ1 e1
      refine ⟨G, F, ρ, _, ρ1, S, e1, fun v F' H' s1 S1 r1 => ?_⟩
      have r1' : Rep X.K F' v (.bool false) := r1
      cases r1'
      exact ⟨false, rfl, by refine iteF ?_; exact ⟨G, F', ρ1, r, ρ', S1, e, fun v2 F2 H2 s2 S2 r2 => k v2 F2 H2 (s1.trans s2) S2 r2⟩⟩
    · cases e
theorem ae_not (ha : AE X a ma) : AE X (.UnaryOp .Not a pos) (mNotV ma) :=
  pe_weak (pe_not ha) fun σ H Q ⟨G, F, ρ, r, ρ', S, e, k⟩ => by
    unfold mNotV at e
    split at e
    · rename_i bb ρ1 e1
      cases e
      refine ⟨G, F, ρ, _, ρ', S, e1, fun v F' H' s1 S1 r1 => ?_⟩
      have r1' : Rep X.K F' v (.bool bb) := r1
      cases r1'
      exact ⟨bb, rfl, k _ F' H' s1 S1 (show Rep X.K F' _ _ from .bl _)⟩
    · cases e
theorem ae_if (hc : AT X c tc) (ha : AE X a ma) (hb : AE X b mb) : AE X (.IfExp c a b pos) (mIf tc ma mb) :=
  pe_weak (pe_ifExp hc ha hb) fun σ H Q ⟨G, F, ρ, r, ρ', S, e, k⟩ => by
    unfold mIf at e
    split at e
    · rename_i ρ1 e1
      exact ⟨G, F, ρ, true, ρ1, S, e1, fun F' H' s1 S1 => by refine iteT ?_; exact ⟨G, F', ρ1, r, ρ', S1, e, fun v2 F2 H2 s2 S2 r2 => k v2 F2 H2 (s1.trans s2) S2 r2⟩⟩
    · rename_i ρ1 e1
      exact ⟨G, F, ρ, false, ρ1, S, e1, fun F' H' s1 S1 => by refine iteF ?_; exact ⟨G, F', ρ1, r, ρ', S1, e, fun v2 F2 H2 s2 S2 r2 => k v2 F2 H2 (s1.trans s2) S2 r2⟩⟩
    · cases e
end

/-! ### what is walked -/
structure Walk (K : Fg) (J : It) (ds : List D) (F : Hp) : Prop where
  go : ∀ (i : Nat) (G : Gh) (F2 : Hp) (σ : L2.St) (H2 : Hp) (ρ : En), Same F F2 → StOk K G F2 σ H2 ρ → i < ds.length → J.go i H2
  yld : ∀ (i : Nat) (G : Gh) (F2 : Hp) (σ : L2.St) (H2 : Hp) (ρ : En) (x : V) (H3 : Hp) (d : D), Same F F2 → StOk K G F2 σ H2 ρ → ds[i]? = some d → J.yld i H2 x H3 → ∃ F3, Same F2 F3 ∧ StOk K G F3 σ H3 ρ ∧ Rep K F3 x d
  stop : ∀ (G : Gh) (F2 : Hp) (σ : L2.St) (H2 : Hp) (ρ : En), Same F F2 → StOk K G F2 σ H2 ρ → J.stop ds.length H2
def tOfI (K : Fg) (m : Ev (List D)) : TI := fun σ H R => ∃ G F ρ ds ρ', StOk K G F σ H ρ ∧ m ρ = some (ds, ρ') ∧
  ∀ J F' H', Same F F' → StOk K G F' σ H' ρ' → Walk K J ds F' → R J H'
def AI (X : Cx) (tg iter : Expr) (m : Ev (List D)) : Prop := PI X tg iter (tOfI X.K m)
theorem pi_weak {X : Cx} {tg e : Expr} {t t' : TI} (h : PI X tg e t) (w : ∀ σ H Q, t' σ H Q → t σ H Q) : PI X tg e t' := fun pins s σ H Q I q => h pins s σ H Q I (w σ H Q q)
theorem walk_list {K : Fg} {F : Hp} {a : Addr} {vs : List V} {ds : List D} (h : SqL K F a vs) (r : RepL K F vs ds) : Walk K (Itl K a) ds F where
  go := fun i G F2 σ H2 ρ s S hi => by
    have hi' : i < vs.length := by rw [r.length]; exact hi
    exact ⟨vs, vs[i], S.fh.seq (s.seq h), by simp [hi']⟩
  yld := fun i G F2 σ H2 ρ x H3 d s S hd ⟨e, q⟩ => by
    subst e
    obtain ⟨v, e1, e2⟩ := r.get hd
    have := q vs (S.fh.seq (s.seq h))
    rw [e1] at this
    cases this
    exact ⟨F2, Same.refl _, S, e2.mono s⟩
  stop := fun G F2 σ H2 ρ s S => ⟨vs, S.fh.seq (s.seq h), by rw [r.length]; exact Nat.le_refl _⟩
theorem walk_tup {K : Fg} {F : Hp} {a : Addr} {vs : List V} {ds : List D} (h : SqT K F a vs) (r : RepL K F vs ds) : Walk K (Itt K a) ds F where
  go := fun i G F2 σ H2 ρ s S hi => by
    have hi' : i < vs.length := by rw [r.length]; exact hi
    exact ⟨vs, vs[i], sqT_mono S.fh (sqT_mono s h), by simp [hi']⟩
  yld := fun i G F2 σ H2 ρ x H3 d s S hd ⟨e, q⟩ => by
    subst e
    obtain ⟨v, e1, e2⟩ := r.get hd
    have := q vs (sqT_mono S.fh (sqT_mono s h))
    rw [e1] at this
    cases this
    exact ⟨F2, Same.refl _, S, e2.mono s⟩
  stop := fun G F2 σ H2 ρ s S => ⟨vs, sqT_mono S.fh (sqT_mono s h), by rw [r.length]; exact Nat.le_refl _⟩
def rangeD (lo : Int) (n : Nat) : List D := (List.range n).map fun (i : Nat) => PyData.int (lo + (i : Int))
theorem rangeD_length (lo : Int) (n : Nat) : (rangeD lo n).length = n := by simp [rangeD]
theorem walk_range {K : Fg} {F : Hp} (lo : Int) (n : Nat) : Walk K (Itr lo n) (rangeD lo n) F where
  go := fun i G F2 σ H2 ρ s S hi => by rw [rangeD_length] at hi; exact hi
  yld := fun i G F2 σ H2 ρ x H3 d s S hd ⟨e, q⟩ => by
    subst e q
    have e' : (rangeD lo n)[i]? = some d := hd
    unfold rangeD at e'
    rw [List.getElem?_map] at e'
    have hi : i < n := by
      have := (List.getElem?_eq_some_iff.mp hd).1
      rw [rangeD_length] at this; exact this
    rw [List.getElem?_range hi] at e'
    cases e'
    exact ⟨F2, Same.refl _, S, .int _⟩
  stop := fun G F2 σ H2 ρ s S => by rw [rangeD_length]; exact Nat.le_refl _
/-- over a list or a tuple: it is settled -/
def mIter (m : Ev RV) : Ev (List D) := fun ρ => match mD m ρ with
  | some (.fz (.list ds), ρ1) => some (ds, ρ1)
  | _ => none
def mIterT (m : Ev RV) : Ev (List D) := fun ρ => match mD m ρ with
  | some (.fz (.tuple ds), ρ1) => some (ds, ρ1)
  | _ => none
def small62 (i : Int) : Bool := decide (-(2 ^ 62) ≤ i) && decide (i < 2 ^ 62)
def mRange1 (ms : Ev (List RV)) : Ev (List D) := fun ρ => match ms ρ with
  | some (rs, ρ1) => match looks ρ1 rs with
    | some [.int j] => if small62 j then some (rangeD 0 j.toNat, ρ1) else none
    | _ => none
  | _ => none
def mRange2 (ms : Ev (List RV)) : Ev (List D) := fun ρ => match ms ρ with
  | some (rs, ρ1) => match looks ρ1 rs with
    | some [.int i, .int j] => if small62 i && small62 j then some (rangeD i (j - i).toNat, ρ1) else none
    | _ => none
  | _ => none
section
variable {X : Cx} {tg e a b : Expr} {m : Ev RV} {ms : Ev (List RV)} {p pos : Pos}
theorem ai_list (h : AE X e m) : AI X tg e (mIter m) :=
  pi_weak (pi_list h) fun σ H R ⟨G, F, ρ, ds, ρ', S, e, k⟩ => by
    unfold mIter at e
    split at e
    · rename_i ds' ρ1 e1
      cases e
      refine tOf_mD ⟨G, F, ρ, _, ρ', S, e1, fun v F' H' s1 S1 r1 => ?_⟩
      have r1' : Rep X.K F' v (.list ds) := r1
      cases r1' with
      | lst h1 h2 => exact ⟨_, rfl, ⟨_, S1.fh.seq h1⟩, k _ F' H' s1 S1 (walk_list h1 h2)⟩
    · cases e
theorem ai_tup (h : AE X e m) : AI X tg e (mIterT m) :=
  pi_weak (pi_tup h) fun σ H R ⟨G, F, ρ, ds, ρ', S, e, k⟩ => by
    unfold mIterT at e
    split at e
    · rename_i ds' ρ1 e1
      cases e
      refine tOf_mD ⟨G, F, ρ, _, ρ', S, e1, fun v F' H' s1 S1 r1 => ?_⟩
      have r1' : Rep X.K F' v (.tuple ds) := r1
      cases r1' with
      | tup h1 h2 => exact ⟨_, rfl, ⟨_, sqT_mono S1.fh h1⟩, k _ F' H' s1 S1 (walk_tup h1 h2)⟩
    · cases e
theorem small62_of {i : Int} (h : small62 i = true) : -(2 ^ 62) ≤ i ∧ i < 2 ^ 62 := by
  unfold small62 at h
  simp only [Bool.and_eq_true, decide_eq_true_eq] at h
  exact h
theorem ors_cons {K : Fg} {F H : Hp} {vs : List V} {d : D} {ds : List D} (h : ORs K F H vs (d :: ds)) : ∃ v r, vs = v :: r ∧ OR K F H v d ∧ ORs K F H r ds := by
  cases h with | cons a b => exact ⟨_, _, rfl, a, b⟩
theorem ors_nil {K : Fg} {F H : Hp} {vs : List V} (h : ORs K F H vs []) : vs = [] := by cases h; rfl
theorem ai_range1 (hg : Gl X "range") (hm : X.mg "range" = none) (ha : AA X [a] ms) (hs : starEach [a] X.env = [(false, eval a X.env)]) : AI X tg (.Call (.Name "range" p) [a] [] pos) (mRange1 ms) :=
  pi_weak (pi_range1 hg hm ha hs) fun σ H R ⟨G, F, ρ, ds, ρ', S, e, k⟩ => by
    unfold mRange1 at e
    split at e
    case h_2 => cases e
    rename_i rs ρ1 e1
    split at e
    case h_2 => cases e
    rename_i j hj
    split at e
    case isFalse => cases e
    rename_i hsm
    cases e
    refine ⟨G, F, ρ, rs, ρ', S, e1, fun vs F' H' s1 S1 r1 => ?_⟩
    obtain ⟨v, r, rfl, ho, hr⟩ := ors_cons (looks_or S1 r1 hj)
    obtain rfl := ors_nil hr
    rw [ho.int]
    exact ⟨j, rfl, (small62_of hsm).1, (small62_of hsm).2, k _ F' H' s1 S1 (walk_range 0 j.toNat)⟩
theorem ai_range2 (hg : Gl X "range") (hm : X.mg "range" = none) (ha : AA X [a, b] ms) (hs : starEach [a, b] X.env = [(false, eval a X.env), (false, eval b X.env)]) (hs2 : starEach [b] X.env = [(false, eval b X.env)]) : AI X tg (.Call (.Name "range" p) [a, b] [] pos) (mRange2 ms) :=
  pi_weak (pi_range2 hg hm ha hs hs2) fun σ H R ⟨G, F, ρ, ds, ρ', S, e, k⟩ => by
    unfold mRange2 at e
    split at e
    case h_2 => cases e
    rename_i rs ρ1 e1
    split at e
    case h_2 => cases e
    rename_i i j hj
    split at e
    case isFalse => cases e
    rename_i hsm
    cases e
    rw [Bool.and_eq_true] at hsm
    refine ⟨G, F, ρ, rs, ρ', S, e1, fun vs F' H' s1 S1 r1 => ?_⟩
    obtain ⟨v, r, rfl, ho, hr⟩ := ors_cons (looks_or S1 r1 hj)
    obtain ⟨v2, r2, rfl, ho2, hr2⟩ := ors_cons hr
    obtain rfl := ors_nil hr2
    rw [ho.int, ho2.int]
    exact ⟨i, j, rfl, ⟨(small62_of hsm.1).1, (small62_of hsm.1).2, (small62_of hsm.2).1, (small62_of hsm.2).2⟩, k _ F' H' s1 S1 (walk_range i (j - i).toNat)⟩
end

/-! ### targets: data is stored at names of slots from n on -/
abbrev TgM := D → En → Option En
def tOfG (K : Fg) (n : Nat) (st : TgM) : TG := fun v σ H Q => ∃ G F ρ d ρ', StOk K G F σ H ρ ∧ Rep K F v d ∧ st d ρ = some ρ' ∧
  ∀ σ', StOk K G F σ' H ρ' → (∀ j, j < n → σ'[j]? = σ[j]?) → σ'.length = σ.length → Q σ' H
def AG (X : Cx) (n : Nat) (tg : Expr) (st : TgM) : Prop := PG X tg (tOfG X.K n st)
def tOfGs (K : Fg) (n : Nat) (st : List D → En → Option En) : TGs := fun vs σ H Q => ∃ G F ρ ds ρ', StOk K G F σ H ρ ∧ RepL K F vs ds ∧ st ds ρ = some ρ' ∧
  ∀ σ', StOk K G F σ' H ρ' → (∀ j, j < n → σ'[j]? = σ[j]?) → σ'.length = σ.length → Q σ' H
def AGs (X : Cx) (n : Nat) (tgs : List Expr) (st : List D → En → Option En) : Prop := PGs X tgs (tOfGs X.K n st)
def isOp (ρ : En) (i : Nat) : Bool := match ρ[i]? with
  | some (some (.op _)) => true
  | _ => false
def gSet (i : Nat) : TgM := fun d ρ => if i < ρ.length then (if isOp ρ i then none else some (ρ.set i (some (.fz d)))) else none
def gsNil : List D → En → Option En
  | [], ρ => some ρ
  | _, _ => none
def gsCons (st : TgM) (sts : List D → En → Option En) : List D → En → Option En
  | d :: ds, ρ => match st d ρ with
    | some ρ1 => sts ds ρ1
    | none => none
  | [], _ => none
def gTupM (n : Nat) (sts : List D → En → Option En) : TgM := fun d ρ => match d with
  | .tuple ds => if ds.length = n then sts ds ρ else none
  | _ => none
theorem isOp_of {ρ : En} {i : Nat} (h : isOp ρ i = false) : ∀ c, ρ[i]? ≠ some (some (.op c)) := fun c e => by
  unfold isOp at h
  rw [e] at h
  cases h
section
variable {X : Cx} {pos : Pos} {n : Nat}
theorem ag_name {i : Nat} {x : Str} (hn : n ≤ i) (hN : X.N.Nodup) (hi : X.N[i]? = some x) (hx : Loc X.env.scope x) (hf : X.fn x = true ∨ X.env.scope.names.lookup x = some .local) : AG X n (.Name x pos) (gSet i) := by
  intro pins s σ H v u Q I r ⟨G, F, ρ, d, ρ', S, rp, e, k⟩
  unfold gSet at e
  split at e
  · rename_i hl
    split at e
    · cases e
    · rename_i ho
      cases e
      refine pg_name hN hi hx hf pins s σ H v u Q I r ?_
      exact k _ (S.store (isOp_of (by simpa using ho)) hl (.inl ⟨d, rfl, rp⟩)) (fun j hj => List.getElem?_set_ne (by omega)) (by simp)
  · cases e
theorem ags_nil : AGs X n [] gsNil := by
  intro pins s σ H vs us Q I r ⟨G, F, ρ, ds, ρ', S, rp, e, k⟩
  cases ds with
  | nil =>
    cases rp
    cases e
    exact pgs_nil pins s σ H [] us Q I r ⟨rfl, k σ S (fun _ _ => rfl) rfl⟩
  | cons d ds => cases e
theorem ags_cons {e : Expr} {es : List Expr} {st : TgM} {sts : List D → En → Option En} (h1 : AG X n e st) (h2 : AGs X n es sts)
    (hs : (assignEach (e :: es) X.env).map (·.2) = assign e X.env :: (assignEach es X.env).map (·.2)) : AGs X n (e :: es) (gsCons st sts) := by
  intro pins s σ H vs us Q I r ⟨G, F, ρ, ds, ρ', S, rp, eq, k⟩
  cases ds with
  | nil => cases eq
  | cons d ds =>
    cases rp with
    | cons rv rr =>
      dsimp only [gsCons] at eq
      split at eq
      · rename_i ρ1 e1
        refine pgs_cons h1 h2 hs pins s σ H _ us Q I r ⟨_, _, rfl, ⟨G, F, ρ, d, ρ1, S, rv, e1, fun σ' S' kp hl => ?_⟩⟩
        exact ⟨G, F, ρ1, ds, ρ', S', rr, eq, fun σ2 S2 kp2 hl2 => k σ2 S2 (fun j hj => (kp2 j hj).trans (kp j hj)) (hl2.trans hl)⟩
      · cases eq
theorem ag_tup {es : List Expr} {kk : Nat} {sts : List D → En → Option En} {l : Nat} (hc : X.calm = true) (h : AGs X n es sts) (hn : (assignEach es X.env).length = l) (hst : (assignEach es X.env).findIdx? (·.1) = none) : AG X n (.Tuple es kk pos) (gTupM l sts) := by
  intro pins s σ H v u Q I r ⟨G, F, ρ, d, ρ', S, rp, eq, k⟩
  cases d <;> try (cases eq)
  rename_i ds
  dsimp only [gTupM] at eq
  split at eq
  · rename_i hl
    cases rp with
    | tup h1 h2 =>
      refine pg_tup hc h hn hst pins s σ H _ u Q I r ⟨_, _, rfl, sqT_mono S.fh h1, by rw [h2.length]; exact hl, ?_⟩
      exact ⟨G, F, ρ, ds, ρ', S, h2, eq, k⟩
  · cases eq
end

/-! ### comprehensions -/
def compGo (st : TgM) (mt : Ev Bool) (me : Ev RV) : List D → En → List D → Option (List D × En)
  | [], ρ, acc => some (acc, ρ)
  | d :: r, ρ, acc => match st d ρ with
    | some ρ1 => match mt ρ1 with
      | some (true, ρ2) => match mD me ρ2 with
        | some (.fz x, ρ3) => if acc.length < sizeLine then compGo st mt me r ρ3 (acc ++ [x]) else none
        | _ => none
      | some (false, ρ2) => compGo st mt me r ρ2 acc
      | none => none
    | none => none
def mComp (k : Nat) (mi : Ev (List D)) (st : TgM) (mt : Ev Bool) (me : Ev RV) : Ev RV := fun ρ => match mi ρ with
  | some (ds, ρ1) => match compGo st mt me ds (ρ1 ++ List.replicate k none) [] with
    | some (out, ρ2) => some (.fr (.l out), ρ2.take ρ1.length)
    | none => none
  | none => none
def mTrue : Ev Bool := fun ρ => some (true, ρ)
def ATs (X : Cx) (ifs : List Expr) (m : Ev Bool) : Prop := PTs X ifs (tOfT X.K m)
theorem ats_nil {X : Cx} : ATs X [] mTrue := fun pins s σ H Q I ⟨G, F, ρ, b, ρ', S, e, k⟩ => by
  cases e
  exact pts_nil pins s σ H Q I (k F H (Same.refl _) S)
theorem ats_one {X : Cx} {c : Expr} {m : Ev Bool} (h : AT X c m) : ATs X [c] m := pts_one h

section
variable {K : Fg} {G : Gh} {F H : Hp} {σ : L2.St} {ρ : En}
theorem app_none {ρ : En} {k : Nat} {i : Nat} {av : AV} (h : (ρ ++ List.replicate k none)[i]? = some (some av)) : ρ[i]? = some (some av) := by
  by_cases hi : i < ρ.length
  · rw [List.getElem?_append_left hi] at h; exact h
  · rw [List.getElem?_append_right (Nat.not_lt.mp hi), List.getElem?_replicate] at h
    split at h <;> cases h
theorem StOk.grow (S : StOk K G F σ H ρ) (k : Nat) : StOk K G F (σ ++ List.replicate k none) H (ρ ++ List.replicate k none) := by
  have ap : ∀ {i : Nat} {v : V}, σ[i]? = some (some v) → (σ ++ List.replicate k none)[i]? = some (some v) := fun {i v} e => by
    rw [List.getElem?_append_left (List.getElem?_eq_some_iff.mp e).1]; exact e
  have apr : ∀ {i : Nat} {v : AV}, ρ[i]? = some (some v) → (ρ ++ List.replicate k none)[i]? = some (some v) := fun {i v} e => by
    rw [List.getElem?_append_left (List.getElem?_eq_some_iff.mp e).1]; exact e
  have ow' : ∀ i c, own (ρ ++ List.replicate k none) i c → own ρ i c := fun i c h => by
    rcases h with h | h
    · exact .inl (app_none h)
    · exact .inr (app_none h)
  refine ⟨S.fh, S.oh, S.fo, by simp [S.ln], fun i d h => ?_, fun i c h => ?_, fun i j c e a h1 h2 e1 e2 => ?_, fun i a h => ?_, fun i c h => S.pq i c (app_none h)⟩
  · obtain ⟨v, e, r⟩ := S.fz i d (app_none h); exact ⟨v, ap e, r⟩
  · obtain ⟨a, e, oa⟩ := S.ow i c (ow' i c h); exact ⟨a, ap e, oa⟩
  · have o1 := ow' i c h1
    have o2 := ow' j e h2
    obtain ⟨a1, q1, _⟩ := S.ow i c o1
    obtain ⟨a2, q2, _⟩ := S.ow j e o2
    rw [ap q1] at e1; rw [ap q2] at e2
    injection e1 with e1; injection e2 with e2
    exact S.dj i j c e a o1 o2 (by rw [q1, e1]) (by rw [q2, e2])
  · obtain ⟨e, c, q⟩ := S.pp i a h; exact ⟨ap e, c, apr q⟩
/-- the block's own names go -/
theorem StOk.shrink (S : StOk K G F σ H ρ) {n : Nat} (hn : n ≤ ρ.length) (hp : ∀ i a, G.P i = some a → i < n) : StOk K G F (σ.take n) H (ρ.take n) := by
  have tk : ∀ {i : Nat} {v : AV}, (ρ.take n)[i]? = some (some v) → i < n ∧ ρ[i]? = some (some v) := fun {i v} e => by
    have hi : i < n := by
      have := (List.getElem?_eq_some_iff.mp e).1
      rw [List.length_take] at this; omega
    rw [List.getElem?_take_of_lt hi] at e
    exact ⟨hi, e⟩
  have ow' : ∀ i c, own (ρ.take n) i c → i < n ∧ own ρ i c := fun i c h => by
    rcases h with h | h
    · exact ⟨(tk h).1, .inl (tk h).2⟩
    · exact ⟨(tk h).1, .inr (tk h).2⟩
  refine ⟨S.fh, S.oh, S.fo, by simp [S.ln], fun i d h => ?_, fun i c h => ?_, fun i j c e a h1 h2 e1 e2 => ?_, fun i a h => ?_, fun i c h => S.pq i c (tk h).2⟩
  · obtain ⟨v, e, r⟩ := S.fz i d (tk h).2; exact ⟨v, by rw [List.getElem?_take_of_lt (tk h).1]; exact e, r⟩
  · obtain ⟨a, e, oa⟩ := S.ow i c (ow' i c h).2; exact ⟨a, by rw [List.getElem?_take_of_lt (ow' i c h).1]; exact e, oa⟩
  · rw [List.getElem?_take_of_lt (ow' i c h1).1] at e1
    rw [List.getElem?_take_of_lt (ow' j e h2).1] at e2
    exact S.dj i j c e a (ow' i c h1).2 (ow' j e h2).2 e1 e2
  · obtain ⟨e, c, q⟩ := S.pp i a h
    exact ⟨by rw [List.getElem?_take_of_lt (hp i a h)]; exact e, c, by rw [List.getElem?_take_of_lt (hp i a h)]; exact q⟩
end
theorem take_eq_of {α : Type} {l l' : List α} {n : Nat} (h : ∀ j, j < n → l'[j]? = l[j]?) (hl : l.length = n) : l'.take n = l := by
  apply List.ext_getElem?
  intro i
  by_cases hi : i < n
  · rw [List.getElem?_take_of_lt hi, h i hi]
  · rw [List.getElem?_eq_none_iff.mpr (by rw [List.length_take]; omega), List.getElem?_eq_none_iff.mpr (by omega)]
theorem comp_rd {K : Fg} {k : Nat} {mi : Ev (List D)} {st : TgM} {mt : Ev Bool} {me : Ev RV} {σ : L2.St} {H : Hp} {Q : VK} (h : tOf K (mComp k mi st mt me) σ H Q) :
    tComp (tOfI K mi) k (tOfG K σ.length st) (tOfT K mt) (tOf K me) σ H Q := by
  obtain ⟨G, F, ρ, r, ρ', S, e, kk⟩ := h
  unfold mComp at e
  split at e
  case h_2 => cases e
  rename_i ds ρ1 e1
  split at e
  case h_2 => cases e
  rename_i out ρ2 e2
  cases e
  refine ⟨G, F, ρ, ds, ρ1, S, e1, fun J F1 H1 s1 S1 wk => ?_⟩
  have hP : ∀ i a, G.P i = some a → i < σ.length := fun i a h => (List.getElem?_eq_some_iff.mp (S1.pp i a h).1).1
  have hln : σ.length = ρ1.length := S1.ln
  refine ⟨fun i m vs σ' H' => ∃ F' ρ' acc, m = ds.length - i ∧ i ≤ ds.length ∧ Same F1 F' ∧ StOk K G F' σ' H' ρ' ∧ (∀ j, j < σ.length → σ'[j]? = σ[j]?) ∧ ρ'.length = ρ1.length + k ∧ RepL K F' vs acc ∧ acc.length ≤ sizeLine ∧ compGo st mt me (ds.drop i) ρ' acc = some (out, ρ2),
    ⟨ds.length, F1, _, [], rfl, Nat.zero_le _, Same.refl _, S1.grow k, fun j hj => by rw [List.getElem?_append_left hj], by simp, .nil, Nat.zero_le _, e2⟩, ?_⟩
  rintro i m vs σ' H' ⟨F', ρ', acc, rfl, hi, s2, S2, kp, hlen, rp, hz, go⟩
  refine ⟨by rw [rp.length]; exact hz, ?_⟩
  by_cases hlt : i < ds.length
  · refine .inr ⟨wk.go i G F' σ' H' ρ' s2 S2 hlt, fun x H2 y => ?_⟩
    have hd : ds[i]? = some ds[i] := by simp [hlt]
    obtain ⟨F3, s3, S3, r3⟩ := wk.yld i G F' σ' H' ρ' x H2 ds[i] s2 S2 hd y
    have ed : ds.drop i = ds[i] :: ds.drop (i + 1) := List.drop_eq_getElem_cons hlt
    rw [ed] at go
    dsimp only [compGo] at go
    split at go
    case h_2 => cases go
    rename_i ρ3 e3
    refine ⟨G, F3, ρ', ds[i], ρ3, S3, r3, e3, fun σ3 S4 kp3 hl3 => ?_⟩
    have kp' : ∀ j, j < σ.length → σ3[j]? = σ[j]? := fun j hj => (kp3 j hj).trans (kp j hj)
    split at go
    case h_3 => cases go
    · rename_i ρ4 e4
      refine ⟨G, F3, ρ3, true, ρ4, S4, e4, fun F5 H5 s5 S5 => ?_⟩
      refine iteT ?_
      split at go
      case h_2 => cases go
      rename_i xd ρ5 e5
      split at go
      case isFalse => cases go
      rename_i hz'
      refine tOf_mD ⟨G, F5, ρ4, _, ρ5, S5, e5, fun v F6 H6 s6 S6 r6 => ?_⟩
      have r6' : Rep K F6 v xd := r6
      refine ⟨ds.length - (i + 1), by omega, F6, ρ5, acc ++ [xd], rfl, hlt, ((s2.trans s3).trans s5).trans s6, S6, kp', ?_, (rp.mono ((s3.trans s5).trans s6)).append (.cons r6' .nil), by rw [List.length_append, List.length_singleton]; exact hz', go⟩
      have := S6.ln; have := S2.ln; have := S4.ln; have := S5.ln
      omega
    · rename_i ρ4 e4
      refine ⟨G, F3, ρ3, false, ρ4, S4, e4, fun F5 H5 s5 S5 => ?_⟩
      refine iteF ?_
      refine ⟨ds.length - (i + 1), by omega, F5, ρ4, acc, rfl, hlt, (s2.trans s3).trans s5, S5, kp', ?_, rp.mono (s3.trans s5), hz, go⟩
      have := S5.ln; have := S2.ln; have := S4.ln
      omega
  · have e : i = ds.length := by omega
    subst e
    have ed : ds.drop ds.length = [] := List.drop_length
    rw [ed] at go
    cases go
    refine .inl ⟨wk.stop G F' σ' H' ρ2 s2 S2, fun p hp => ?_⟩
    have S3 : StOk K G F' (σ'.take σ.length) H' (ρ2.take ρ1.length) := by
      rw [← hln]
      exact S2.shrink (by omega) hP
    rw [take_eq_of kp rfl] at S3
    obtain ⟨S4, r4⟩ := S3.newLst hp rp
    exact kk _ F' _ (s1.trans s2) S4 r4
section
variable {X : Cx}
theorem ae_comp {elt tg iter : Expr} {ifs : List Expr} {scope : Scope} {pos : Pos} {N' : List Str} {k : Nat} {mi : Ev (List D)} {st : TgM} {mt : Ev Bool} {me : Ev RV}
    (hc : X.calm = true) (S : CompOk X N' k scope) (hcells : ∀ x ∈ scope.names, x.2 = .free → ∃ c, X.env.cells.lookup x.1 = some c) (hi : AI X tg iter mi)
    (hg : ∀ cl s H fp C, AG (compCx X N' scope cl s H fp C) X.N.length tg st) (ht : ∀ cl s H fp C, ATs (compCx X N' scope cl s H fp C) ifs mt) (he : ∀ cl s H fp C, AE (compCx X N' scope cl s H fp C) elt me)
    (hs : ∀ x, foldedSetIterable iter X.env x = pure x) :
    AE X (.ListComp elt [⟨tg, iter, ifs, 0⟩] scope pos) (mComp k mi st mt me) := by
  intro pins s σ H Q I h
  have hl : σ.length = X.N.length := I.len
  refine pe_comp (g := tOfG X.K X.N.length st) (tc := tOfT X.K mt) (te := tOf X.K me) hc S hcells hi hg ht he hs pins s σ H Q I ?_
  have := comp_rd h
  rw [hl] at this
  exact this
end
end L3

set_option Elab.async false
set_option linter.all false
set_option maxRecDepth 100000
namespace L3
open PySem PySem.Spec PyProof.Rows L2

/-! ### statements -/
inductive Fl where
  | nx | bk | ct
  | rt (r : RV)
abbrev SM := En → Option (Fl × En)
def Wish (K : Fg) (G : Gh) (E : Ends) (F : Hp) (σ : L2.St) (H : Hp) (ρ : En) : Fl → Prop
  | .nx => E.nx σ H
  | .bk => E.bk σ H
  | .ct => E.ct σ H
  | .rt r => ∀ v, RVR K G F σ H ρ v r → E.rt v H
def tOfS (K : Fg) (m : SM) : TS := fun E σ H => ∃ G F ρ fl ρ', StOk K G F σ H ρ ∧ m ρ = some (fl, ρ') ∧
  ∀ F' σ' H', Same F F' → StOk K G F' σ' H' ρ' → Wish K G E F' σ' H' ρ' fl
def AS (X : Cx) (st : Stmt) (m : SM) : Prop := PS X st (tOfS X.K m)
def ASs (X : Cx) (st : List Stmt) (m : SM) : Prop := PSs X st (tOfS X.K m)
theorem ps_weak {X : Cx} {e : Stmt} {t t' : TS} (h : PS X e t) (w : ∀ E σ H, t' E σ H → t E σ H) : PS X e t' := fun pins s σ H E I q => h pins s σ H E I (w E σ H q)
theorem pss_weak {X : Cx} {e : List Stmt} {t t' : TS} (h : PSs X e t) (w : ∀ E σ H, t' E σ H → t E σ H) : PSs X e t' := fun pins s σ H E I q => h pins s σ H E I (w E σ H q)

def mNext : SM := fun ρ => some (.nx, ρ)
def mSeq (m n : SM) : SM := fun ρ => match m ρ with
  | some (.nx, ρ1) => n ρ1
  | x => x
def mIfS (mc : Ev Bool) (m n : SM) : SM := fun ρ => match mc ρ with
  | some (true, ρ1) => m ρ1
  | some (false, ρ1) => n ρ1
  | none => none
/-- a name's own list is settled; a fresh one stays -/
def mF (m : Ev RV) : Ev RV := fun ρ => match m ρ with
  | some (.bor i, ρ') => match ρ'[i]? with
    | some (some (.ol (.l ds))) => some (.fz (.list ds), ρ'.set i (some (.fz (.list ds))))
    | _ => none
  | x => x
/-- handed back: a name's own list goes along -/
def mRet (m : Ev RV) : SM := fun ρ => match m ρ with
  | some (.bor i, ρ') => match ρ'[i]? with
    | some (some (.ol c)) => some (.rt (.fr c), ρ'.set i none)
    | _ => none
  | some (r, ρ') => some (.rt r, ρ')
  | none => none
def mRetN : SM := fun ρ => some (.rt (.fz .none), ρ)
def mSet (i : Nat) (m : Ev RV) : SM := fun ρ => match mF m ρ with
  | some (.fz d, ρ1) => if i < ρ1.length then (if isOp ρ1 i then none else some (.nx, ρ1.set i (some (.fz d)))) else none
  | some (.fr c, ρ1) => if i < ρ1.length then (if isOp ρ1 i then none else some (.nx, ρ1.set i (some (.ol c)))) else none
  | _ => none
def mAsg (st : TgM) (m : Ev RV) : SM := fun ρ => match mD m ρ with
  | some (.fz d, ρ1) => match st d ρ1 with
    | some ρ2 => some (.nx, ρ2)
    | none => none
  | _ => none
def mDrop (m : Ev RV) : SM := fun ρ => match m ρ with
  | some (_, ρ1) => some (.nx, ρ1)
  | none => none
def ownL (ρ : En) (j : Nat) : Option (List D) := match ρ[j]? with
  | some (some (.ol (.l ds))) => some ds
  | some (some (.op (.l ds))) => some ds
  | _ => none
def setL (ρ : En) (j : Nat) (ds : List D) : En := ρ.set j ((ρ[j]?.join).map fun | .op _ => .op (.l ds) | _ => .ol (.l ds))
/-- xs.append(e) -/
def mApp (mo me : Ev RV) : SM := fun ρ => match mo ρ with
  | some (.bor j, ρ1) => match mD me ρ1 with
    | some (.fz d, ρ2) => match ownL ρ2 j with
      | some ds => if ds.length < sizeLine then some (.nx, setL ρ2 j (ds ++ [d])) else none
      | none => none
    | _ => none
  | _ => none
/-- xs[i] = e -/
def mPut (mo mi me : Ev RV) : SM := fun ρ => match mD me ρ with
  | some (.fz d, ρ1) => match mo ρ1 with
    | some (.bor j, ρ2) => match mO mi ρ2 with
      | some (a, ρ3) => match look ρ3 a, ownL ρ3 j with
        | some (.int k), some ds => match ixN ds.length k with
          | some q => some (.nx, setL ρ3 j (ds.set q d))
          | none => none
        | _, _ => none
      | _ => none
    | _ => none
  | _ => none
def forGo (st : TgM) (mb : SM) : List D → SM
  | [], ρ => some (.nx, ρ)
  | d :: r, ρ => match st d ρ with
    | some ρ1 => match mb ρ1 with
      | some (.nx, ρ2) => forGo st mb r ρ2
      | some (.ct, ρ2) => forGo st mb r ρ2
      | some (.bk, ρ2) => some (.nx, ρ2)
      | some (.rt v, ρ2) => some (.rt v, ρ2)
      | none => none
    | none => none
def mFor (mi : Ev (List D)) (st : TgM) (mb : SM) : SM := fun ρ => match mi ρ with
  | some (ds, ρ1) => forGo st mb ds ρ1
  | none => none

section
variable {K : Fg} {G : Gh} {F H : Hp} {σ : L2.St} {ρ ρ' : En} {m : Ev RV}
theorem tOf_mF {Q : VK} (h : tOf K (mF m) σ H Q) : tOf K m σ H Q := by
  obtain ⟨G, F, ρ, r, ρ', S, e, k⟩ := h
  unfold mF at e
  split at e
  · rename_i i ρ1 e1
    split at e
    · rename_i ds hi
      cases e
      refine ⟨G, F, ρ, .bor i, ρ1, S, e1, fun v F' H' s1 S1 r1 => ?_⟩
      obtain ⟨c, _, hv⟩ := r1
      obtain ⟨F2, s2, S2, r2⟩ := S1.settleB hi hv
      exact k v F2 H' (s1.trans s2) S2 r2
    · cases e
  · exact ⟨G, F, ρ, r, ρ', S, e, k⟩
/-- a slot is let go -/
theorem StOk.drop (S : StOk K G F σ H ρ) {i : Nat} (hi : ∀ c, ρ[i]? ≠ some (some (.op c))) : StOk K G F σ H (ρ.set i none) := by
  have back : ∀ {j : Nat} {av : AV}, (ρ.set i none)[j]? = some (some av) → ρ[j]? = some (some av) ∧ j ≠ i := fun {j av} e => by
    by_cases hj : j = i
    · subst hj
      exfalso
      by_cases hl : j < ρ.length
      · rw [List.getElem?_set_self hl] at e; cases e
      · rw [List.getElem?_eq_none_iff.mpr (by simp; omega)] at e; cases e
    · rw [List.getElem?_set_ne (Ne.symm hj)] at e; exact ⟨e, hj⟩
  have ow' : ∀ j c, own (ρ.set i none) j c → own ρ j c := fun j c h => by
    rcases h with h | h
    · exact .inl (back h).1
    · exact .inr (back h).1
  refine ⟨S.fh, S.oh, S.fo, by simpa using S.ln, fun j d h => S.fz j d (back h).1, fun j c h => S.ow j c (ow' j c h), fun j k c e a h1 h2 => S.dj j k c e a (ow' j c h1) (ow' k e h2), fun j a h => ?_, fun j c h => S.pq j c (back h).1⟩
  obtain ⟨q, c, q'⟩ := S.pp j a h
  have hj : j ≠ i := by rintro rfl; exact hi c q'
  exact ⟨q, c, by rw [List.getElem?_set_ne (Ne.symm hj)]; exact q'⟩
theorem own_set_ne {i j : Nat} {c : OC} {x : Option AV} (h : own (ρ.set i x) j c) (hj : j ≠ i) : own ρ j c := by
  unfold own at h ⊢
  rw [List.getElem?_set_ne (Ne.symm hj)] at h
  exact h
theorem ownL_own {j : Nat} {ds : List D} (h : ownL ρ j = some ds) : own ρ j (.l ds) := by
  unfold ownL at h
  split at h
  · rename_i q; cases h; exact .inl q
  · rename_i q; cases h; exact .inr q
  · cases h
end

section
variable {X : Cx} {e a b c : Expr} {es : List Expr} {st : Stmt} {rest sa sb : List Stmt} {m ma mb mo mi me : Ev RV} {tc : Ev Bool} {ms : Ev (List RV)} {n1 n2 : SM} {pos : Pos}
theorem ass_nil : ASs X [] mNext := pss_weak pss_nil fun E σ H ⟨G, F, ρ, fl, ρ', S, e, k⟩ => by
  cases e
  exact k F σ H (Same.refl _) S
theorem as_pass : AS X (.Pass pos) mNext := ps_weak ps_pass fun E σ H ⟨G, F, ρ, fl, ρ', S, e, k⟩ => by
  cases e
  exact k F σ H (Same.refl _) S
theorem seq_of {K : Fg} {E : Ends} {σ : L2.St} {H : Hp} (h : tOfS K (mSeq n1 n2) E σ H) : tSeq (tOfS K n1) (tOfS K n2) E σ H := by
  obtain ⟨G, F, ρ, fl, ρ', S, e, k⟩ := h
  unfold mSeq at e
  split at e
  · rename_i ρ1 e1
    exact ⟨G, F, ρ, .nx, ρ1, S, e1, fun F' σ' H' s1 S1 => ⟨G, F', ρ1, fl, ρ', S1, e, fun F2 σ2 H2 s2 S2 => k F2 σ2 H2 (s1.trans s2) S2⟩⟩
  · rename_i hne
    refine ⟨G, F, ρ, fl, ρ', S, e, fun F' σ' H' s1 S1 => ?_⟩
    have := k F' σ' H' s1 S1
    cases fl with
    | nx => exact absurd e (hne ρ')
    | bk => exact this
    | ct => exact this
    | rt r => exact this
theorem ass_cons (h1 : AS X st n1) (h2 : ASs X rest n2) : ASs X (st :: rest) (mSeq n1 n2) := pss_weak (pss_cons h1 h2) fun E σ H h => seq_of h
theorem ass_one (h1 : AS X st n1) : ASs X [st] n1 := pss_one h1
theorem as_if (hc : AT X c tc) (ha : ASs X sa n1) (hb : ASs X sb n2) : AS X (.If c sa sb pos) (mIfS tc n1 n2) :=
  ps_weak (ps_if hc ha hb) fun E σ H ⟨G, F, ρ, fl, ρ', S, e, k⟩ => by
    unfold mIfS at e
    split at e
    · rename_i ρ1 e1
      exact ⟨G, F, ρ, true, ρ1, S, e1, fun F' H' s1 S1 => iteT ⟨G, F', ρ1, fl, ρ', S1, e, fun F2 σ2 H2 s2 S2 => k F2 σ2 H2 (s1.trans s2) S2⟩⟩
    · rename_i ρ1 e1
      exact ⟨G, F, ρ, false, ρ1, S, e1, fun F' H' s1 S1 => iteF ⟨G, F', ρ1, fl, ρ', S1, e, fun F2 σ2 H2 s2 S2 => k F2 σ2 H2 (s1.trans s2) S2⟩⟩
    · cases e
theorem as_ret (h : AE X e m) : AS X (.Return (some e) pos) (mRet m) :=
  ps_weak (ps_ret h) fun E σ H ⟨G, F, ρ, fl, ρ', S, e, k⟩ => by
    unfold mRet at e
    split at e
    · rename_i i ρ1 e1
      split at e
      · rename_i c hi
        cases e
        refine ⟨G, F, ρ, .bor i, ρ1, S, e1, fun v F' H' s1 S1 r1 => ?_⟩
        obtain ⟨c', ho, hv⟩ := r1
        obtain ⟨a, ea, oa⟩ := S1.ow i c (.inl hi)
        rw [hv] at ea
        injection ea with ea; injection ea with ea
        subst ea
        refine k F' σ H' s1 (S1.drop fun c'' q => by rw [hi] at q; cases q) (.ref a) ⟨a, rfl, oa, fun j d hj q => ?_⟩
        have hne : j ≠ i := by
          rintro rfl
          have hl : j < ρ1.length := (List.getElem?_eq_some_iff.mp hi).1
          unfold own at hj
          rw [List.getElem?_set_self hl] at hj
          rcases hj with hj | hj <;> cases hj
        exact hne (S1.dj j i d c a (own_set_ne hj hne) (.inl hi) q hv)
      · cases e
    · rename_i r ρ1 hne e1
      cases e
      exact ⟨G, F, ρ, _, _, S, e1, fun v F' H' s1 S1 r1 => k F' σ H' s1 S1 v r1⟩
    · cases e
theorem as_retN : AS X (.Return none pos) mRetN := ps_weak ps_retN fun E σ H ⟨G, F, ρ, fl, ρ', S, e, k⟩ => by
  cases e
  exact k F σ H (Same.refl _) S .non .non
theorem set_of {K : Fg} {E : Ends} {σ : L2.St} {H : Hp} {i : Nat} (h : tOfS K (mSet i m) E σ H) : tAsg (tOf K m) (gName i) E σ H := by
  obtain ⟨G, F, ρ, fl, ρ', S, e, k⟩ := h
  unfold mSet at e
  split at e
  · rename_i d ρ1 e1
    split at e
    case isFalse => cases e
    rename_i hl
    split at e
    · cases e
    rename_i ho
    cases e
    refine tOf_mF ⟨G, F, ρ, .fz d, ρ1, S, e1, fun v F' H' s1 S1 r1 => ?_⟩
    exact k F' _ H' s1 (S1.store (isOp_of (by simpa using ho)) hl (.inl ⟨d, rfl, r1⟩))
  · rename_i c ρ1 e1
    split at e
    case isFalse => cases e
    rename_i hl
    split at e
    · cases e
    rename_i ho
    cases e
    refine tOf_mF ⟨G, F, ρ, .fr c, ρ1, S, e1, fun v F' H' s1 S1 r1 => ?_⟩
    exact k F' _ H' s1 (S1.store (isOp_of (by simpa using ho)) hl (.inr ⟨c, rfl, r1⟩))
  · cases e
theorem as_set {i : Nat} {x : Str} {pos' : Pos} (hN : X.N.Nodup) (hi : X.N[i]? = some x) (hx : Loc X.env.scope x) (he : AE X e m) (hs : swapsWith e (some (.Name x pos')) pos.line X.env = pure false)
    (hf : X.fn x = true ∨ X.env.scope.names.lookup x = some .local) : AS X (.Assign [.Name x pos'] e pos) (mSet i m) :=
  ps_weak (ps_set hN hi hx he hs hf) fun E σ H h => set_of h
theorem as_setComp {elt tg iter : Expr} {ifs : List Expr} {scope : Scope} {pos' spos : Pos} {N' : List Str} {k i : Nat} {y : Str} {mi : Ev (List D)} {st : TgM} {mt : Ev Bool} {me : Ev RV}
    (hN : X.N.Nodup) (hy : X.N[i]? = some y) (hly : Loc X.env.scope y) (hfn : X.fn y = true ∨ X.env.scope.names.lookup y = some .local)
    (hc : X.calm = true) (S : CompOk X N' k scope) (hcells : ∀ x ∈ scope.names, x.2 = .free → ∃ c, X.env.cells.lookup x.1 = some c) (hi : AI X tg iter mi)
    (hg : ∀ cl s H fp C, AG (compCx X N' scope cl s H fp C) X.N.length tg st) (ht : ∀ cl s H fp C, ATs (compCx X N' scope cl s H fp C) ifs mt) (he : ∀ cl s H fp C, AE (compCx X N' scope cl s H fp C) elt me)
    (hsw : swapsWith (.ListComp elt [⟨tg, iter, ifs, 0⟩] scope pos) (some (.Name y pos')) spos.line X.env = pure true) (hs : ∀ x, foldedSetIterable iter X.env x = pure x) :
    AS X (.Assign [.Name y pos'] (.ListComp elt [⟨tg, iter, ifs, 0⟩] scope pos) spos) (mSet i (mComp k mi st mt me)) := by
  intro pins s σ H E I h
  have hl : σ.length = X.N.length := I.len
  refine ps_setComp (g := tOfG X.K X.N.length st) (tc := tOfT X.K mt) (te := tOf X.K me) hN hy hly hfn hc S hcells hi hg ht he hsw hs pins s σ H E I ?_
  have := comp_rd (set_of h)
  rw [hl] at this
  exact this
theorem as_asg {tg : Expr} {st : TgM} (he : AE X e m) (hg : AG X 0 tg st) (hs : swapsWithSole [tg] e pos.line X.env = pure false) (hw : swappedStores [tg] e X.env = pure none)
    (h1 : (assignEach [tg] X.env).map (·.2) = [assign tg X.env]) : AS X (.Assign [tg] e pos) (mAsg st m) :=
  ps_weak (ps_asg he hg hs hw h1) fun E σ H ⟨G, F, ρ, fl, ρ', S, e, k⟩ => by
    unfold mAsg at e
    split at e
    · rename_i d ρ1 e1
      split at e
      · rename_i ρ2 e2
        cases e
        refine tOf_mD ⟨G, F, ρ, .fz d, ρ1, S, e1, fun v F' H' s1 S1 r1 => ?_⟩
        exact ⟨G, F', ρ1, d, ρ', S1, r1, e2, fun σ' S2 _ _ => k F' σ' H' s1 S2⟩
      · cases e
    · cases e
theorem as_drop (he : AE X e m) (hs : swapsWith e none pos.line X.env = pure false) : AS X (.Expr e pos) (mDrop m) :=
  ps_weak (ps_expr he hs) fun E σ H ⟨G, F, ρ, fl, ρ', S, e, k⟩ => by
    unfold mDrop at e
    split at e
    · rename_i r ρ1 e1
      cases e
      exact ⟨G, F, ρ, r, ρ', S, e1, fun v F' H' s1 S1 r1 => k F' σ H' s1 S1⟩
    · cases e
theorem as_doc {x j pos pos'} : AS X (.Expr (.Constant (.str x) j pos) pos') mNext := ps_weak ps_doc fun E σ H ⟨G, F, ρ, fl, ρ', S, e, k⟩ => by
  cases e
  exact k F σ H (Same.refl _) S
/-- o[i] = e, o an own list -/
theorem as_put {tpos : Pos} (ho : AE X a mo) (hi : AE X b mi) (he : AE X e me) (ha : ∀ v, assign (.Subscript a b tpos) X.env v = (do
      let ov ← holding [v] (eval a X.env)
      let iv ← holding [v, ov] (eval b X.env)
      standAt tpos
      holding [v, ov, iv] (setItem ov iv v)
      release [v, ov, iv] []))
    (hs : swapsWithSole [.Subscript a b tpos] e pos.line X.env = pure false) (hw : swappedStores [.Subscript a b tpos] e X.env = pure none)
    (h1 : (assignEach [.Subscript a b tpos] X.env).map (·.2) = [assign (.Subscript a b tpos) X.env]) : AS X (.Assign [.Subscript a b tpos] e pos) (mPut mo mi me) :=
  ps_weak (ps_asg he (pg_sub ho hi set_list ha) hs hw h1) fun E σ H ⟨G, F, ρ, fl, ρ', S, e, k⟩ => by
    unfold mPut at e
    split at e
    case h_2 => cases e
    rename_i d ρ1 e1
    split at e
    case h_2 => cases e
    rename_i j ρ2 e2
    split at e
    case h_2 => cases e
    rename_i ri ρ3 e3
    split at e
    case h_2 => cases e
    rename_i kx ds hk hds
    split at e
    case h_2 => cases e
    rename_i q hq
    cases e
    refine tOf_mD ⟨G, F, ρ, .fz d, ρ1, S, e1, fun v F' H' s1 S1 r1 => ?_⟩
    have r1' : Rep X.K F' v d := r1
    refine ⟨G, F', ρ1, .bor j, ρ2, S1, e2, fun o F2 H2 s2 S2 r2 => ?_⟩
    obtain ⟨c0, _, hvo⟩ := r2
    refine tOf_mO ⟨G, F2, ρ2, ri, ρ3, S2, e3, fun iv F3 H3 s3 S3 r3 => ?_⟩
    have hint := (look_or S3 (r3.vl (mO_notfr e3)) hk).int
    obtain ⟨ad, ea, oa⟩ := S3.ow j _ (ownL_own hds)
    rw [hvo] at ea
    injection ea with ea; injection ea with ea
    subst ea
    obtain ⟨vs, h1, h2⟩ := oa.he
    refine ⟨ad, vs, kx, q, rfl, hint, h1, by rw [h2.length]; exact hq, ?_⟩
    exact k F3 σ _ ((s1.trans s2).trans s3) (S3.change (ownL_own hds) hvo (c' := .l (ds.set q d)) ⟨_, upd_same, RepL.set (r1'.mono (s2.trans s3)) q h2⟩)
/-- xs.append(e) -/
theorem as_app {apos cpos : Pos} (ho : AE X a mo) (he : AE X e me)
    (hbase : attributeBase a "append" X.env (eval a X.env) = eval a X.env)
    (hfew : ((backTo cpos (starEach [e] X.env)).all (fun x => !x.1) && (backToKw cpos (keywordEach [] X.env)).all (fun x => x.1.isSome)
      && decide ([e].length + ([] : List Keyword).length + (if ([] : List Keyword).isEmpty then 0 else 1) < 30)) = true)
    (hline : (apos.endLine == cpos.line) = true) (hs : starEach [e] X.env = (false, eval e X.env) :: starEach [] X.env) (hplain : (backTo cpos (starEach [] X.env)).any (·.1) = false)
    (hsw : swapsWith (.Call (.Attribute a "append" apos) [e] [] cpos) none pos.line X.env = pure false) :
    AS X (.Expr (.Call (.Attribute a "append" apos) [e] [] cpos) pos) (mApp mo me) :=
  ps_weak (ps_expr (pe_bm PySem.F.plainAttrs_list PySem.F.slot_list_append PySem.F.type_list_append mt_append ho (pa_cons he pa_nil hs) hbase hfew hline hs hplain) hsw) fun E σ H ⟨G, F, ρ, fl, ρ', S, e, k⟩ => by
    unfold mApp at e
    split at e
    case h_2 => cases e
    rename_i j ρ1 e1
    split at e
    case h_2 => cases e
    rename_i d ρ2 e2
    split at e
    case h_2 => cases e
    rename_i ds hds
    split at e
    case isFalse => cases e
    rename_i hz
    cases e
    refine ⟨G, F, ρ, .bor j, ρ1, S, e1, fun o F1 H1 s1 S1 r1 => ?_⟩
    obtain ⟨c0, hc0, hvo⟩ := r1
    obtain ⟨ad, ea, oa⟩ := S1.ow j _ hc0
    rw [hvo] at ea
    injection ea with ea; injection ea with ea
    subst ea
    cases c0 with
    | l ds0 =>
      obtain ⟨vs0, g1, g2⟩ := oa.he
      refine ⟨.inl ⟨rfl, vs0, .inl (.inl g1)⟩, ?_⟩
      refine tOf_mD ⟨G, F1, ρ1, .fz d, ρ2, S1, e2, fun v F2 H2 s2 S2 r2 => ?_⟩
      have r2' : Rep X.K F2 v d := r2
      obtain ⟨ad', ea', oa'⟩ := S2.ow j _ (ownL_own hds)
      rw [hvo] at ea'
      injection ea' with ea'; injection ea' with ea'; injection ea' with ea'
      subst ea'
      obtain ⟨vs, h1, h2⟩ := oa'.he
      refine ⟨ad, vs, v, rfl, rfl, h1, by rw [h2.length]; exact hz, ?_⟩
      exact k F2 σ _ (s1.trans s2) (S2.change (ownL_own hds) hvo (c' := .l (ds ++ [d])) ⟨_, upd_same, h2.append (.cons r2' .nil)⟩)
theorem for_rd {K : Fg} {E : Ends} {σ : L2.St} {H : Hp} {mi : Ev (List D)} {st : TgM} {mb : SM} (h : tOfS K (mFor mi st mb) E σ H) : tFor (tOfI K mi) (tOfG K 0 st) (tOfS K mb) E σ H := by
  obtain ⟨G, F, ρ, fl, ρ', S, e, k⟩ := h
  unfold mFor at e
  split at e
  case h_2 => cases e
  rename_i ds ρ1 e1
  refine ⟨G, F, ρ, ds, ρ1, S, e1, fun J F1 H1 s1 S1 wk => ?_⟩
  refine ⟨fun i m σ' H' => ∃ F' ρ2, m = ds.length - i ∧ i ≤ ds.length ∧ Same F1 F' ∧ StOk K G F' σ' H' ρ2 ∧ forGo st mb (ds.drop i) ρ2 = some (fl, ρ'), ⟨ds.length, F1, ρ1, rfl, Nat.zero_le _, Same.refl _, S1, e⟩, ?_⟩
  rintro i m σ' H' ⟨F', ρ2, rfl, hi, s2, S2, go⟩
  by_cases hlt : i < ds.length
  · have ed : ds.drop i = ds[i] :: ds.drop (i + 1) := List.drop_eq_getElem_cons hlt
    rw [ed] at go
    dsimp only [forGo] at go
    split at go
    case h_2 => cases go
    rename_i ρ3 e3
    refine .inr ⟨wk.go i G F' σ' H' ρ2 s2 S2 hlt, fun σ4 H4 => ∃ m', m' < ds.length - i ∧ ∃ F' ρ2, m' = ds.length - (i + 1) ∧ i + 1 ≤ ds.length ∧ Same F1 F' ∧ StOk K G F' σ4 H4 ρ2 ∧ forGo st mb (ds.drop (i + 1)) ρ2 = some (fl, ρ'), fun σ4 H4 h4 => h4, fun x H2 y => ?_⟩
    obtain ⟨F3, s3, S3, r3⟩ := wk.yld i G F' σ' H' ρ2 x H2 ds[i] s2 S2 (by simp [hlt]) y
    refine ⟨G, F3, ρ2, ds[i], ρ3, S3, r3, e3, fun σ3 S4 _ _ => ?_⟩
    split at go
    · rename_i ρ4 e4
      exact ⟨G, F3, ρ3, .nx, ρ4, S4, e4, fun F5 σ5 H5 s5 S5 => ⟨ds.length - (i + 1), by omega, F5, ρ4, rfl, hlt, (s2.trans s3).trans s5, S5, go⟩⟩
    · rename_i ρ4 e4
      exact ⟨G, F3, ρ3, .ct, ρ4, S4, e4, fun F5 σ5 H5 s5 S5 => ⟨ds.length - (i + 1), by omega, F5, ρ4, rfl, hlt, (s2.trans s3).trans s5, S5, go⟩⟩
    · rename_i ρ4 e4
      cases go
      exact ⟨G, F3, ρ3, .bk, ρ', S4, e4, fun F5 σ5 H5 s5 S5 => k F5 σ5 H5 ((s1.trans (s2.trans s3)).trans s5) S5⟩
    · rename_i v ρ4 e4
      cases go
      exact ⟨G, F3, ρ3, .rt v, ρ', S4, e4, fun F5 σ5 H5 s5 S5 => k F5 σ5 H5 ((s1.trans (s2.trans s3)).trans s5) S5⟩
    · cases go
  · have ei : i = ds.length := by omega
    subst ei
    rw [List.drop_length] at go
    cases go
    exact .inl ⟨wk.stop G F' σ' H' ρ' s2 S2, k F' σ' H' (s1.trans s2) S2⟩
theorem as_for {tg iter : Expr} {body : List Stmt} {mi : Ev (List D)} {st : TgM} {mb : SM} (hp : PassesOwn (model X.prog X.w) X.A X.env X.xe) (hc : X.calm = true) (hi : AI X tg iter mi) (hg : AG X 0 tg st) (hb : ASs X body mb)
    (hs : ∀ x, foldedSetIterable iter X.env x = pure x) : AS X (.For tg iter body [] pos) (mFor mi st mb) :=
  ps_weak (ps_for hp hc hi hg hb hs) fun E σ H h => for_rd h
end

/-! ### defs -/
/-- what a def is worth: its arguments, and what they are behind it -/
abbrev MF := List AV → Option (RV × List AV)
def spF (K : Fg) (n : Nat) (mf : MF) : Sp := fun vs H Q _ => ∃ G F avs r avs', vs.length = n ∧ avs.length = n ∧ StOk K G F (vs.map some) H (avs.map some) ∧ mf avs = some (r, avs') ∧
  ∀ v F' H', Same F F' → StOk K G F' (vs.map some) H' (avs'.map some) → RVR K G F' (vs.map some) H' (avs'.map some) v r → Q v H'
/-- the arguments behind the body -/
def behind : List AV → En → Option (List AV)
  | [], _ => some []
  | .fz d :: r, _ :: ρ => match behind r ρ with
    | some l => some (.fz d :: l)
    | none => none
  | .op _ :: r, some (.op c) :: ρ => match behind r ρ with
    | some l => some (.op c :: l)
    | none => none
  | _, _ => none
def noBor : RV → Bool
  | .bor _ => false
  | _ => true
def fnOf (n k : Nat) (mb : SM) : MF := fun avs => if avs.length = n then
    match mb (avs.map some ++ List.replicate k none) with
    | some (.rt r, ρ') => if noBor r then (match behind avs ρ' with
      | some l => some (r, l)
      | none => none) else none
    | some (.nx, ρ') => match behind avs ρ' with
      | some l => some (.fz .none, l)
      | none => none
    | _ => none
  else none
theorem behind_get : ∀ {avs : List AV} {ρ : En} {l : List AV}, behind avs ρ = some l → l.length = avs.length ∧ ∀ (i : Nat) (av : AV), l[i]? = some av → (∃ d, av = AV.fz d ∧ avs[i]? = some (AV.fz d)) ∨ ∃ c c', av = AV.op c ∧ avs[i]? = some (AV.op c') ∧ ρ[i]? = some (some (AV.op c))
  | [], ρ, l, h => by cases h; exact ⟨rfl, fun i av e => by simp at e⟩
  | .fz d :: r, [], l, h => by cases h
  | .fz d :: r, x :: ρ, l, h => by
    dsimp only [behind] at h
    split at h
    · rename_i l' e
      cases h
      obtain ⟨h1, h2⟩ := behind_get e
      refine ⟨by simp [h1], fun i av q => ?_⟩
      cases i with
      | zero => simp at q; exact .inl ⟨d, q.symm, rfl⟩
      | succ i => simpa using h2 i av (by simpa using q)
    · cases h
  | .op c0 :: r, [], l, h => by cases h
  | .op c0 :: r, none :: ρ, l, h => by cases h
  | .op c0 :: r, some (.fz _) :: ρ, l, h => by cases h
  | .op c0 :: r, some (.ol _) :: ρ, l, h => by cases h
  | .op c0 :: r, some (.op c) :: ρ, l, h => by
    dsimp only [behind] at h
    split at h
    · rename_i l' e
      cases h
      obtain ⟨h1, h2⟩ := behind_get e
      refine ⟨by simp [h1], fun i av q => ?_⟩
      cases i with
      | zero => simp at q; exact .inr ⟨c, c0, q.symm, rfl, rfl⟩
      | succ i => simpa using h2 i av (by simpa using q)
    · cases h
  | .ol c0 :: r, ρ, l, h => by cases ρ <;> cases h
theorem map_some_get {α : Type} {l : List α} {i : Nat} {x : α} : (l.map some)[i]? = some (some x) ↔ l[i]? = some x := by
  rw [List.getElem?_map]
  cases l[i]? <;> simp
section
variable {K : Fg} {G : Gh} {F F' H H' : Hp} {vs : List V} {avs l : List AV} {σ : L2.St} {ρ : En}
theorem own_map {i : Nat} {c : OC} (h : own (l.map some) i c) : l[i]? = some (.ol c) ∨ l[i]? = some (.op c) := by
  rcases h with h | h
  · exact .inl (map_some_get.mp h)
  · exact .inr (map_some_get.mp h)
theorem StOk.behind (S : StOk K G F (vs.map some) H (avs.map some)) (s1 : Same F F') (S1 : StOk K G F' σ H' ρ) (h : behind avs ρ = some l) : StOk K G F' (vs.map some) H' (l.map some) := by
  obtain ⟨hl, hg⟩ := behind_get h
  have ow1 : ∀ i c, own (l.map some) i c → ∃ a, vs[i]? = some (.ref a) ∧ σ[i]? = some (some (.ref a)) ∧ ρ[i]? = some (some (.op c)) := fun i c ho => by
    rcases own_map ho with q | q
    · rcases hg i _ q with ⟨d, z, _⟩ | ⟨c1, c2, z, _⟩ <;> cases z
    · rcases hg i _ q with ⟨d, z, _⟩ | ⟨c1, c2, z, q1, q2⟩
      · cases z
      · cases z
        obtain ⟨a, ha⟩ := S1.pq i c q2
        obtain ⟨e1, _⟩ := S1.pp i a ha
        obtain ⟨e2, _⟩ := S.pp i a ha
        exact ⟨a, map_some_get.mp e2, e1, q2⟩
  refine ⟨S1.fh, S1.oh, S1.fo, by have := S.ln; simp at this ⊢; omega, fun i d q => ?_, fun i c q => ?_, fun i j c e a q1 q2 e1 e2 => ?_, fun i a q => ?_, fun i c q => ?_⟩
  · rcases hg i _ (map_some_get.mp q) with ⟨d', z, q1⟩ | ⟨c1, c2, z, _⟩
    · cases z
      obtain ⟨v, e, r⟩ := S.fz i d (map_some_get.mpr q1)
      exact ⟨v, e, r.mono s1⟩
    · cases z
  · obtain ⟨a, h1, h2, h3⟩ := ow1 i c q
    obtain ⟨a', e, oa⟩ := S1.ow i c (.inr h3)
    rw [h2] at e
    injection e with e; injection e with e; injection e with e
    subst e
    exact ⟨a, map_some_get.mpr h1, oa⟩
  · obtain ⟨a1, h1, h2, h3⟩ := ow1 i c q1
    obtain ⟨a2, g1, g2, g3⟩ := ow1 j e q2
    rw [map_some_get] at e1 e2
    rw [h1] at e1; rw [g1] at e2
    cases e1; cases e2
    exact S1.dj i j c e _ (.inr h3) (.inr g3) h2 g2
  · obtain ⟨e, c, q'⟩ := S.pp i a q
    obtain ⟨_, c', q2⟩ := S1.pp i a q
    refine ⟨e, ?_⟩
    have hi : i < avs.length := (List.getElem?_eq_some_iff.mp (map_some_get.mp q')).1
    obtain ⟨av, hav⟩ : ∃ av, l[i]? = some av := ⟨l[i]'(by omega), by simp [show i < l.length by omega]⟩
    rcases hg i av hav with ⟨d, rfl, z⟩ | ⟨c1, c2, rfl, z, z2⟩
    · rw [map_some_get.mp q'] at z; cases z
    · exact ⟨c1, map_some_get.mpr hav⟩
  · rcases hg i _ (map_some_get.mp q) with ⟨d', z, q1⟩ | ⟨c1, c2, z, q1, q2⟩
    · cases z
    · cases z
      exact S.pq i c2 (map_some_get.mpr q1)
theorem RVR.behind {v : V} {r : RV} (S : StOk K G F (vs.map some) H (avs.map some)) (S1 : StOk K G F' σ H' ρ) (h : L3.behind avs ρ = some l) (hr : RVR K G F' σ H' ρ v r) (nb : noBor r = true) : RVR K G F' (vs.map some) H' (l.map some) v r := by
  cases r with
  | fz d => exact hr
  | bor i => cases nb
  | fr c =>
    obtain ⟨a, rfl, oa, ne⟩ := hr
    refine ⟨a, rfl, oa, fun i e ho q => ?_⟩
    obtain ⟨hl, hg⟩ := behind_get h
    rcases own_map ho with z | z
    · rcases hg i _ z with ⟨d, z', _⟩ | ⟨c1, c2, z', _⟩ <;> cases z'
    · rcases hg i _ z with ⟨d, z', _⟩ | ⟨c1, c2, z', q1, q2⟩
      · cases z'
      · cases z'
        obtain ⟨a', ha'⟩ := S1.pq i e q2
        obtain ⟨e1, _⟩ := S1.pp i a' ha'
        obtain ⟨e2, _⟩ := S.pp i a' ha'
        rw [q] at e2
        injection e2 with e2; injection e2 with e2; injection e2 with e2
        subst e2
        exact ne i e (.inr q2) e1
end
/-- THE RULE for a def -/
theorem fn_ok {P : Program} {w : World} {K : Fg} {mg : Str → Option Value} {base : Heap} {x qual : Str} {st : Stmt} {f : Addr} {fd : FuncData} {N ps : List Str} {k : Nat} {mb : SM} (F : Fun K x qual st f fd) (S : FnScope N ps (defScope st))
    (hb : ∀ (cdv : Value) (A : Around) (outer : List Env) (s : Shared) (H : Hp) (E : XK), Room k (A.deeper (envOfC qual (defScope st) s.heap.objs.size f cdv)) →
      ASs (cxOf CX0 P w K mg base N qual (defScope st) f cdv A outer s H E).nox (defBody st) mb) : FnOk P w K mg base CX0 (k + 1) f fd ps (spF K ps.length (fnOf ps.length (N.length - ps.length) mb)) := by
  refine F.ok S (fun vs H Q E h => ?_) (fun cdv A outer s H vs Q E hr h => ?_)
  · obtain ⟨_, _, _, _, _, h1, _⟩ := h; exact h1
  · obtain ⟨G, F0, avs, r, avs', h1, h2, S0, e, kk⟩ := h
    refine ⟨_, hb cdv A outer s H E hr, ?_⟩
    unfold fnOf at e
    rw [if_pos h2] at e
    have e0 : L2.start N vs = vs.map some ++ List.replicate (N.length - ps.length) none := by unfold L2.start; rw [h1]
    rw [e0]
    split at e
    · rename_i r' ρ' eb
      split at e
      case isFalse => cases e
      rename_i nb
      split at e
      case h_2 => cases e
      rename_i l hl
      cases e
      exact ⟨G, F0, _, .rt r, ρ', S0.grow _, eb, fun F' σ' H' s1 S1 v rv => kk v F' H' s1 (S0.behind s1 S1 hl) (rv.behind S0 S1 hl nb)⟩
    · rename_i ρ' eb
      split at e
      case h_2 => cases e
      rename_i l hl
      cases e
      exact ⟨G, F0, _, .nx, ρ', S0.grow _, eb, fun F' σ' H' s1 S1 => kk .non F' H' s1 (S0.behind s1 S1 hl) (show Rep K F' .non .none from .non)⟩
    · cases e
end L3

set_option Elab.async false
set_option linter.all false
set_option maxRecDepth 100000
namespace L3
open PySem PySem.Spec PyProof.Rows L2

/-! ### calls of defs -/
open Classical in
noncomputable def calleeO (G : Gh) (σ : L2.St) (ρ : En) (H : Hp) (ex : Option Addr) : Hp := fun b => if (∃ (i : Nat) (c : OC), own ρ i c ∧ σ[i]? = some (some (V.ref b))) ∧ some b ≠ ex then H b else G.O b
def mFnD (mf : MF) (ms : Ev (List RV)) : Ev RV := fun ρ => match ms ρ with
  | some (rs, ρ1) => match dats rs with
    | some ds => match mf (ds.map AV.fz) with
      | some (r, _) => if noBor r then some (r, ρ1) else none
      | none => none
    | none => none
  | none => none
def ownC (ρ : En) (j : Nat) : Option OC := match ρ[j]? with
  | some (some (.ol c)) => some c
  | some (some (.op c)) => some c
  | _ => none
def setC (ρ : En) (j : Nat) (c : OC) : En := ρ.set j ((ρ[j]?.join).map fun | .op _ => .op c | _ => .ol c)
def mFn1 (mf : MF) (ms : Ev (List RV)) : Ev RV := fun ρ => match ms ρ with
  | some (.bor j :: rs, ρ1) => match dats rs, ownC ρ1 j with
    | some ds, some c => match mf (.op c :: ds.map AV.fz) with
      | some (r, .op c' :: _) => if noBor r then some (r, setC ρ1 j c') else none
      | _ => none
    | _, _ => none
  | _ => none
theorem ownC_own {ρ : En} {j : Nat} {c : OC} (h : ownC ρ j = some c) : own ρ j c := by
  unfold ownC at h
  split at h
  · rename_i q; cases h; exact .inl q
  · rename_i q; cases h; exact .inr q
  · cases h
section
variable {K : Fg} {G : Gh} {F F' H H' : Hp} {σ : L2.St} {ρ : En} {vs : List V} {ds : List D}
theorem calleeO_of {ex : Option Addr} (S : StOk K G F σ H ρ) {b : Addr} {o : HO} (h : G.O b = some o) : calleeO G σ ρ H ex b = some o := by
  unfold calleeO
  rw [if_neg]
  · exact h
  · rintro ⟨⟨i, c, ho, e⟩, _⟩
    obtain ⟨a, e', oa⟩ := S.ow i c ho
    rw [e] at e'
    injection e' with e'; injection e' with e'; injection e' with e'
    subst e'
    rw [oa.no] at h; cases h
theorem calleeO_own {ex : Option Addr} {b : Addr} {i : Nat} {c : OC} (ho : own ρ i c) (e : σ[i]? = some (some (V.ref b))) (hx : some b ≠ ex) : calleeO G σ ρ H ex b = H b := by
  unfold calleeO
  rw [if_pos ⟨⟨i, c, ho, e⟩, hx⟩]
theorem calleeO_h {ex : Option Addr} (S : StOk K G F σ H ρ) : Same (calleeO G σ ρ H ex) H := fun b o h => by
  unfold calleeO at h
  split at h
  · exact h
  · exact S.oh b o h
theorem calleeO_f {ex : Option Addr} (S : StOk K G F σ H ρ) : ∀ b o, calleeO G σ ρ H ex b = some o → F b = none := fun b o h => by
  unfold calleeO at h
  split at h
  · rename_i hc
    obtain ⟨⟨i, c, ho, e⟩, _⟩ := hc
    obtain ⟨a, e', oa⟩ := S.ow i c ho
    rw [e] at e'
    injection e' with e'; injection e' with e'; injection e' with e'
    subst e'
    exact oa.nf
  · exact S.fo b o h
theorem fz_get {i : Nat} {av : AV} (h : ((ds.map AV.fz).map some)[i]? = some (some av)) : ∃ d, av = .fz d ∧ ds[i]? = some d := by
  rw [map_some_get, List.getElem?_map] at h
  cases q : ds[i]? with
  | none => rw [q] at h; cases h
  | some d => rw [q] at h; cases h; exact ⟨d, rfl, rfl⟩
theorem no_own {i : Nat} {c : OC} (h : own ((ds.map AV.fz).map some) i c) : False := by
  rcases h with h | h <;> (obtain ⟨d, z, _⟩ := fz_get h; cases z)
theorem call_preD (S : StOk K G F σ H ρ) (r : RepL K F vs ds) : StOk K ⟨fun _ => none, calleeO G σ ρ H none⟩ F (vs.map some) H ((ds.map AV.fz).map some) := by
  refine ⟨S.fh, calleeO_h S, calleeO_f S, by simp [r.length], fun i d h => ?_, fun i c h => (no_own h).elim, fun i j c e a h => (no_own h).elim, fun i a h => (nomatch h), fun i c h => ?_⟩
  · obtain ⟨d', z, e⟩ := fz_get h
    cases z
    obtain ⟨v, e1, e2⟩ := r.get e
    exact ⟨v, map_some_get.mpr e1, e2⟩
  · obtain ⟨d', z, e⟩ := fz_get h; cases z
/-- behind a call to which no own thing was handed -/
theorem call_postD {avs' : List AV} (S : StOk K G F σ H ρ) (s1 : Same F F') (S1 : StOk K ⟨fun _ => none, calleeO G σ ρ H none⟩ F' (vs.map some) H' (avs'.map some)) :
    StOk K G F' σ H' ρ ∧ ∀ v r, noBor r = true → RVR K ⟨fun _ => none, calleeO G σ ρ H none⟩ F' (vs.map some) H' (avs'.map some) v r → RVR K G F' σ H' ρ v r := by
  have oo : ∀ b, calleeO G σ ρ H none b = none → G.O b = none := fun b h => by
    cases q : G.O b with
    | none => rfl
    | some o => rw [calleeO_of S q] at h; cases h
  refine ⟨⟨S1.fh, fun b o h => S1.oh b o (calleeO_of S h), fun b o h => S1.fo b o (calleeO_of S h), S.ln, fun i d h => ?_, fun i c h => ?_, S.dj, S.pp, S.pq⟩, fun v r nb h => ?_⟩
  · obtain ⟨v, e, r⟩ := S.fz i d h; exact ⟨v, e, r.mono s1⟩
  · obtain ⟨a, e, oa⟩ := S.ow i c h
    obtain ⟨o, ho⟩ := oa.he.some
    have q : calleeO G σ ρ H none a = some o := by rw [calleeO_own h e (by simp)]; exact ho
    exact ⟨a, e, S1.fo a o q, oa.no, (oa.he.mono s1).at (by rw [S1.oh a o q, ho])⟩
  · cases r with
    | fz d => exact h
    | bor i => cases nb
    | fr c =>
      obtain ⟨a, rfl, oa, _⟩ := h
      refine ⟨a, rfl, ⟨oa.nf, oo a oa.no, oa.he⟩, fun i e ho q => ?_⟩
      obtain ⟨a', e', oa'⟩ := S.ow i e ho
      rw [q] at e'
      injection e' with e'; injection e' with e'; injection e' with e'
      subst e'
      obtain ⟨o, hh⟩ := oa'.he.some
      have := oa.no
      rw [show (⟨fun _ => none, calleeO G σ ρ H none⟩ : Gh).O a = calleeO G σ ρ H none a from rfl, calleeO_own ho q (by simp), hh] at this
      cases this
def P1 (a : Addr) : Nat → Option Addr
  | 0 => some a
  | _ => none
theorem call_pre1 {j : Nat} {c : OC} {a : Addr} (S : StOk K G F σ H ρ) (hj : own ρ j c) (ha : σ[j]? = some (some (V.ref a))) (r : RepL K F vs ds) :
    StOk K ⟨P1 a, calleeO G σ ρ H (some a)⟩ F ((V.ref a :: vs).map some) H ((AV.op c :: ds.map AV.fz).map some) := by
  obtain ⟨a', e', oa⟩ := S.ow j c hj
  rw [ha] at e'
  injection e' with e'; injection e' with e'; injection e' with e'
  subst e'
  have at0 : ∀ i d, own ((AV.op c :: ds.map AV.fz).map some) i d → i = 0 ∧ d = c := fun i d h => by
    cases i with
    | zero => rcases h with h | h <;> (simp at h); exact ⟨rfl, h.symm⟩
    | succ i => exact (no_own (ds := ds) (i := i) (c := d) (by unfold own at h ⊢; simpa using h)).elim
  refine ⟨S.fh, calleeO_h S, calleeO_f S, by simp [r.length], fun i d h => ?_, fun i d h => ?_, fun i k d e b h1 h2 _ _ => ?_, fun i b h => ?_, fun i d h => ?_⟩
  · cases i with
    | zero => simp at h
    | succ i =>
      obtain ⟨d', z, e⟩ := fz_get (ds := ds) (i := i) (av := .fz d) (by simpa using h)
      cases z
      obtain ⟨v, e1, e2⟩ := r.get e
      exact ⟨v, by simpa using e1, e2⟩
  · obtain ⟨rfl, rfl⟩ := at0 i d h
    refine ⟨a, rfl, oa.nf, ?_, oa.he⟩
    show calleeO G σ ρ H (some a) a = none
    unfold calleeO
    rw [if_neg (by simp)]
    exact oa.no
  · rw [(at0 i d h1).1, (at0 k e h2).1]
  · cases i with
    | zero => cases h; exact ⟨rfl, c, rfl⟩
    | succ i => cases h
  · cases i with
    | zero => exact ⟨a, rfl⟩
    | succ i =>
      obtain ⟨d', z, e⟩ := fz_get (ds := ds) (i := i) (av := .op d) (by simpa using h)
      cases z
theorem call_post1 {j : Nat} {c c' : OC} {a : Addr} {l : List AV} (S : StOk K G F σ H ρ) (hj : own ρ j c) (ha : σ[j]? = some (some (V.ref a))) (s1 : Same F F')
    (S1 : StOk K ⟨P1 a, calleeO G σ ρ H (some a)⟩ F' ((V.ref a :: vs).map some) H' ((AV.op c' :: l).map some)) :
    StOk K G F' σ H' (setC ρ j c') ∧ ∀ v r, noBor r = true → RVR K ⟨P1 a, calleeO G σ ρ H (some a)⟩ F' ((V.ref a :: vs).map some) H' ((AV.op c' :: l).map some) v r → RVR K G F' σ H' (setC ρ j c') v r := by
  have oo : ∀ b, calleeO G σ ρ H (some a) b = none → G.O b = none := fun b h => by
    cases q : G.O b with
    | none => rfl
    | some o => rw [calleeO_of S q] at h; cases h
  obtain ⟨a', e', oa⟩ := S.ow j c hj
  rw [ha] at e'
  injection e' with e'; injection e' with e'; injection e' with e'
  subst e'
  have hl : j < ρ.length := by rcases hj with h | h <;> exact (List.getElem?_eq_some_iff.mp h).1
  generalize hav : ((ρ[j]?.join).map fun (x : AV) => match x with | .op _ => AV.op c' | _ => AV.ol c') = av
  have hset : setC ρ j c' = ρ.set j av := by rw [← hav]; rfl
  rw [hset]
  have ne : ∀ i, i ≠ j → (ρ.set j av)[i]? = ρ[i]? := fun i hi => List.getElem?_set_ne (Ne.symm hi)
  have atj : (ρ.set j av)[j]? = some av := List.getElem?_set_self hl
  have kind : (ρ[j]? = some (some (.ol c)) ∧ av = some (.ol c')) ∨ (ρ[j]? = some (some (.op c)) ∧ av = some (.op c')) := by
    rcases hj with h | h
    · exact .inl ⟨h, by rw [← hav, h]; rfl⟩
    · exact .inr ⟨h, by rw [← hav, h]; rfl⟩
  have owni : ∀ i e, own (ρ.set j av) i e → (i = j ∧ e = c') ∨ (i ≠ j ∧ own ρ i e) := fun i e h => by
    by_cases hi : i = j
    · subst hi
      unfold own at h
      rw [atj] at h
      rcases kind with ⟨_, k⟩ | ⟨_, k⟩ <;> rw [k] at h <;> rcases h with h | h <;> cases h <;> exact .inl ⟨rfl, rfl⟩
    · unfold own at h ⊢
      rw [ne i hi] at h
      exact .inr ⟨hi, h⟩
  have nea : ∀ i e b, i ≠ j → own ρ i e → σ[i]? = some (some (V.ref b)) → b ≠ a := fun i e b hi ho q z => by
    subst z
    exact hi (S.dj i j e c b ho hj q ha)
  have own1 : OwnAt K ⟨P1 a, calleeO G σ ρ H (some a)⟩ F' H' a c' := by
    obtain ⟨b, e1, ob⟩ := S1.ow 0 c' (.inr rfl)
    have : V.ref a = V.ref b := by simpa using e1
    injection this with this
    subst this
    exact ob
  refine ⟨⟨S1.fh, fun b o h => S1.oh b o (calleeO_of S h), fun b o h => S1.fo b o (calleeO_of S h), by simpa using S.ln, fun i d h => ?_, fun i e h => ?_, fun i k d e b h1 h2 => ?_, fun i b h => ?_, fun i d h => ?_⟩, fun v r nb h => ?_⟩
  · by_cases hi : i = j
    · subst hi
      rw [atj] at h
      rcases kind with ⟨_, k⟩ | ⟨_, k⟩ <;> rw [k] at h <;> cases h
    · rw [ne i hi] at h
      obtain ⟨v, e, r⟩ := S.fz i d h; exact ⟨v, e, r.mono s1⟩
  · rcases owni i e h with ⟨rfl, rfl⟩ | ⟨hi, ho⟩
    · exact ⟨a, ha, own1.nf, oa.no, own1.he⟩
    · obtain ⟨b, eb, ob⟩ := S.ow i e ho
      obtain ⟨o, hh⟩ := ob.he.some
      have q : calleeO G σ ρ H (some a) b = some o := by rw [calleeO_own ho eb (fun z => nea i e b hi ho eb (Option.some.inj z))]; exact hh
      exact ⟨b, eb, S1.fo b o q, ob.no, (ob.he.mono s1).at (by rw [S1.oh b o q, hh])⟩
  · have f : ∀ i e, own (ρ.set j av) i e → ∃ d, own ρ i d := fun i e h => by
      rcases owni i e h with ⟨rfl, _⟩ | ⟨_, ho⟩
      · exact ⟨c, hj⟩
      · exact ⟨e, ho⟩
    exact S.dj i k _ _ b (f i d h1).choose_spec (f k e h2).choose_spec
  · obtain ⟨q1, e, q2⟩ := S.pp i b h
    refine ⟨q1, ?_⟩
    by_cases hi : i = j
    · subst hi
      rcases kind with ⟨k1, k⟩ | ⟨k1, k⟩
      · rw [k1] at q2; cases q2
      · exact ⟨c', by rw [atj, k]⟩
    · exact ⟨e, by rw [ne i hi]; exact q2⟩
  · by_cases hi : i = j
    · subst hi
      rcases kind with ⟨k1, k⟩ | ⟨k1, k⟩
      · rw [atj, k] at h; cases h
      · exact S.pq i c k1
    · rw [ne i hi] at h; exact S.pq i d h
  · cases r with
    | fz d => exact h
    | bor i => cases nb
    | fr cc =>
      obtain ⟨b, rfl, ob, nn⟩ := h
      refine ⟨b, rfl, ⟨ob.nf, oo b ob.no, ob.he⟩, fun i e ho q => ?_⟩
      rcases owni i e ho with ⟨rfl, _⟩ | ⟨hi, ho'⟩
      · rw [ha] at q
        injection q with q; injection q with q; injection q with q
        subst q
        exact nn 0 c' (.inr rfl) rfl
      · obtain ⟨b', eb, ob'⟩ := S.ow i e ho'
        rw [q] at eb
        injection eb with eb; injection eb with eb; injection eb with eb
        subst eb
        obtain ⟨o, hh⟩ := ob'.he.some
        have := ob.no
        rw [show (⟨P1 a, calleeO G σ ρ H (some a)⟩ : Gh).O b = calleeO G σ ρ H (some a) b from rfl, calleeO_own ho' q (fun z => nea i e b hi ho' q (Option.some.inj z)), hh] at this
        cases this
end
section
variable {X : Cx} {k : Nat} {f : Addr} {fd : FuncData} {ps : List Str} {mf : MF} {x : Str} {p pos : Pos} {e : Expr} {es : List Expr} {ms : Ev (List RV)}
theorem ae_fnD {n : Nat} (F : FnOk X.prog X.w X.K X.mg X.base CX0 k f fd ps (spF X.K n mf)) (hr : Room k X.A) (hg : Gl X x) (hm : X.mg x = some (.ref f)) (hk : PySem.W.keepIn X.K (.ref f) = true) (hb : Binds X.K fd ps [])
    (ha : AA X (e :: es) ms) (hn : (e :: es).length = n) (hms : ∀ ρ rs ρ', ms ρ = some (rs, ρ') → rs.length = n) (hdb : (x == ("__debug__" : Str)) = false) (he : starEach (e :: es) X.env = (false, eval e X.env) :: starEach es X.env) (hpl : (backTo pos (starEach es X.env)).any (·.1) = false) :
    AE X (.Call (.Name x p) (e :: es) [] pos) (mFnD mf ms) :=
  pe_weak (pe_call F hr hg hm hk hb .nil pass0 ha hdb he hpl) fun σ H Q ⟨G, F0, ρ, r, ρ', S, eq, kk⟩ => by
    unfold mFnD at eq
    split at eq
    case h_2 => cases eq
    rename_i rs ρ1 e1
    split at eq
    case h_2 => cases eq
    rename_i ds hd
    split at eq
    case h_2 => cases eq
    rename_i r' l er
    split at eq
    case isFalse => cases eq
    rename_i nb
    cases eq
    refine ⟨G, F0, ρ, rs, ρ', S, e1, fun vs F' H' s1 S1 r1 => ?_⟩
    have rp := dats_rep r1 hd
    have hvl : vs.length = n := by
      have : vs.length = rs.length := by
        clear rp hd er e1
        induction r1 with
        | nil => rfl
        | cons _ _ ih => simp [ih]
      rw [this]; exact hms ρ rs ρ' e1
    show spF X.K n mf (vs ++ []) H' Q E0
    rw [List.append_nil]
    refine ⟨_, F', _, r, l, hvl, by simp [← rp.length, hvl], call_preD S1 rp, er, fun v F2 H2 s2 S2 r2 => ?_⟩
    obtain ⟨S3, t3⟩ := call_postD S1 s2 S2
    exact kk v F2 H2 (s1.trans s2) S3 (t3 v r nb r2)
theorem ae_fn1 {n : Nat} (F : FnOk X.prog X.w X.K X.mg X.base CX0 k f fd ps (spF X.K n mf)) (hr : Room k X.A) (hg : Gl X x) (hm : X.mg x = some (.ref f)) (hk : PySem.W.keepIn X.K (.ref f) = true) (hb : Binds X.K fd ps [])
    (ha : AA X (e :: es) ms) (hn : (e :: es).length = n) (hms : ∀ ρ rs ρ', ms ρ = some (rs, ρ') → rs.length = n) (hdb : (x == ("__debug__" : Str)) = false) (he : starEach (e :: es) X.env = (false, eval e X.env) :: starEach es X.env) (hpl : (backTo pos (starEach es X.env)).any (·.1) = false) :
    AE X (.Call (.Name x p) (e :: es) [] pos) (mFn1 mf ms) :=
  pe_weak (pe_call F hr hg hm hk hb .nil pass0 ha hdb he hpl) fun σ H Q ⟨G, F0, ρ, r, ρ', S, eq, kk⟩ => by
    unfold mFn1 at eq
    split at eq
    case h_2 => cases eq
    rename_i j rs ρ1 e1
    split at eq
    case h_2 => cases eq
    rename_i ds c hd hc
    split at eq
    case h_2 => cases eq
    rename_i r' c' l er
    split at eq
    case isFalse => cases eq
    rename_i nb
    cases eq
    refine ⟨G, F0, ρ, _, ρ1, S, e1, fun vs F' H' s1 S1 r1 => ?_⟩
    have hlen := hms ρ _ _ e1
    cases r1 with
    | @cons v0 _ vs _ h0 h1 =>
      have rp := dats_rep h1 hd
      have hvl : vs.length = rs.length := by
        clear rp hd er e1 hlen
        induction h1 with
        | nil => rfl
        | cons _ _ ih => simp [ih]
      have hj := ownC_own hc
      have hv0 : σ[j]? = some (some v0) := h0
      obtain ⟨a, ea, oa⟩ := S1.ow j c hj
      rw [hv0] at ea
      injection ea with ea; injection ea with ea
      subst ea
      show spF X.K n mf ((V.ref a :: vs) ++ []) H' Q E0
      rw [List.append_nil]
      refine ⟨_, F', _, r, _, by simp [hvl]; simpa using hlen, by simp [← rp.length, hvl]; simpa using hlen, call_pre1 S1 hj hv0 rp, er, fun v F2 H2 s2 S2 r2 => ?_⟩
      obtain ⟨S3, t3⟩ := call_post1 S1 hj hv0 s2 S2
      exact kk v F2 H2 (s1.trans s2) S3 (t3 v r nb r2)
end
theorem len_nil : ∀ (ρ : En) rs ρ', mNil ρ = some (rs, ρ') → rs.length = 0 := fun ρ rs ρ' h => by cases h; rfl
theorem len_cons {m : Ev RV} {ms : Ev (List RV)} {n : Nat} (h : ∀ ρ rs ρ', ms ρ = some (rs, ρ') → rs.length = n) : ∀ ρ rs ρ', mCons m ms ρ = some (rs, ρ') → rs.length = n + 1 := fun ρ rs ρ' e => by
  unfold mCons at e
  split at e
  case h_2 => cases e
  split at e
  case h_2 => cases e
  rename_i e2
  cases e
  simp [h _ _ _ e2]
theorem len_consD {m : Ev RV} {ms : Ev (List RV)} {n : Nat} (h : ∀ ρ rs ρ', ms ρ = some (rs, ρ') → rs.length = n) : ∀ ρ rs ρ', mConsD m ms ρ = some (rs, ρ') → rs.length = n + 1 := fun ρ rs ρ' e => by
  unfold mConsD at e
  split at e
  case h_2 => cases e
  split at e
  case h_2 => cases e
  rename_i e2
  cases e
  simp [h _ _ _ e2]
end L3

set_option Elab.async false
set_option linter.all false
set_option maxRecDepth 100000
namespace L3
open PySem PySem.Spec PyProof.Rows L2

/-! ### ints -/
def opAdd : D → D → Option RV
  | .int i, .int j => some (.fz (.int (i + j)))
  | .list a, .list b => if a.length + b.length ≤ sizeLine then some (.fr (.l (a ++ b))) else none
  | _, _ => none
def opSub : D → D → Option RV
  | .int i, .int j => some (.fz (.int (i - j)))
  | _, _ => none
def mulOk (i j : Int) : Bool := (decide (-(2 ^ 64) < i) && decide (i < 2 ^ 64)) || (decide (-(2 ^ 64) < j) && decide (j < 2 ^ 64))
def opMul : D → D → Option RV
  | .int i, .int j => if mulOk i j then some (.fz (.int (i * j))) else none
  | .list a, .int k => if decide (-(2 ^ 63) ≤ k) && decide (k < 2 ^ 63) && decide (a.length * k.toNat ≤ sizeLine) then some (.fr (.l (List.replicate k.toNat a).flatten)) else none
  | _, _ => none
def opDiv : D → D → Option RV
  | .int i, .int j => if decide (0 < j) && decide (j < 1073741824) then some (.fz (.int (i / j))) else none
  | _, _ => none
def opMod : D → D → Option RV
  | .int i, .int j => if 0 < j then some (.fz (.int (i % j))) else none
  | _, _ => none
def opPow : D → D → Option RV
  | .int i, .int j => if decide (0 ≤ j) && decide (j ≤ 1000000) && decide (i.natAbs < 2 ^ 64) then some (.fz (.int (i ^ j.toNat))) else none
  | _, _ => none
def opLt : D → D → Option RV
  | .int i, .int j => some (.fz (.bool (decide (i < j))))
  | _, _ => none
def opLe : D → D → Option RV
  | .int i, .int j => some (.fz (.bool (decide (i ≤ j))))
  | _, _ => none
def opGt : D → D → Option RV
  | .int i, .int j => some (.fz (.bool (decide (j < i))))
  | _, _ => none
def opGe : D → D → Option RV
  | .int i, .int j => some (.fz (.bool (decide (j ≤ i))))
  | _, _ => none

section
variable {K : Fg} {G : Gh} {F H : Hp} {σ : L2.St} {ρ : En}
/-- ints in, an int or bool out -/
theorem okI {C : Int → Int → Prop} {g : Int → Int → V} {f : D → D → Option RV} (h : ∀ dx dy res, f dx dy = some res → ∃ i j d, dx = .int i ∧ dy = .int j ∧ C i j ∧ res = .fz d ∧ ∀ K F, Rep K F (g i j) d) : OpOk K (rI C g) f := by
  intro G F σ H ρ x y dx dy res Q S ox oy e k
  obtain ⟨i, j, d, rfl, rfl, hc, rfl, hr⟩ := h dx dy res e
  exact ⟨i, j, ox.int, oy.int, hc, k _ F H (Same.refl _) S (hr K F)⟩
theorem okI0 {g : Int → Int → V} {f : D → D → Option RV} (h : ∀ dx dy res, f dx dy = some res → ∃ i j d, dx = .int i ∧ dy = .int j ∧ res = .fz d ∧ ∀ K F, Rep K F (g i j) d) : OpOk K (rI0 g) f := by
  intro G F σ H ρ x y dx dy res Q S ox oy e k
  obtain ⟨i, j, d, rfl, rfl, rfl, hr⟩ := h dx dy res e
  exact ⟨i, j, ox.int, oy.int, k _ F H (Same.refl _) S (hr K F)⟩
theorem ok_sub : OpOk K (rI0 fun i j => .int (i - j)) opSub := okI0 fun dx dy res e => by
  cases dx <;> cases dy <;> cases e
  exact ⟨_, _, _, rfl, rfl, rfl, fun _ _ => .int _⟩
theorem ok_lt : OpOk K (rI0 fun i j => .bl (decide (i < j))) opLt := okI0 fun dx dy res e => by
  cases dx <;> cases dy <;> cases e
  exact ⟨_, _, _, rfl, rfl, rfl, fun _ _ => .bl _⟩
theorem ok_le : OpOk K (rI0 fun i j => .bl (decide (i ≤ j))) opLe := okI0 fun dx dy res e => by
  cases dx <;> cases dy <;> cases e
  exact ⟨_, _, _, rfl, rfl, rfl, fun _ _ => .bl _⟩
theorem ok_gt : OpOk K (rI0 fun i j => .bl (decide (j < i))) opGt := okI0 fun dx dy res e => by
  cases dx <;> cases dy <;> cases e
  exact ⟨_, _, _, rfl, rfl, rfl, fun _ _ => .bl _⟩
theorem ok_ge : OpOk K (rI0 fun i j => .bl (decide (j ≤ i))) opGe := okI0 fun dx dy res e => by
  cases dx <;> cases dy <;> cases e
  exact ⟨_, _, _, rfl, rfl, rfl, fun _ _ => .bl _⟩
theorem ok_div : OpOk K (rI CDiv fun i j => .int (i / j)) opDiv := okI fun dx dy res e => by
  cases dx <;> cases dy <;> try (cases e)
  rename_i i j
  dsimp only [opDiv] at e
  split at e
  · rename_i hc
    cases e
    simp only [Bool.and_eq_true, decide_eq_true_eq] at hc
    exact ⟨i, j, _, rfl, rfl, hc, rfl, fun _ _ => .int _⟩
  · cases e
theorem ok_mod : OpOk K (rI (fun _ j => 0 < j) fun i j => .int (i % j)) opMod := okI fun dx dy res e => by
  cases dx <;> cases dy <;> try (cases e)
  rename_i i j
  dsimp only [opMod] at e
  split at e
  · rename_i hc
    cases e
    exact ⟨i, j, _, rfl, rfl, hc, rfl, fun _ _ => .int _⟩
  · cases e
theorem ok_pow : OpOk K (rI CPow fun i j => .int (i ^ j.toNat)) opPow := okI fun dx dy res e => by
  cases dx <;> cases dy <;> try (cases e)
  rename_i i j
  dsimp only [opPow] at e
  split at e
  · rename_i hc
    cases e
    simp only [Bool.and_eq_true, decide_eq_true_eq] at hc
    exact ⟨i, j, _, rfl, rfl, ⟨hc.1.1, hc.1.2, hc.2⟩, rfl, fun _ _ => .int _⟩
  · cases e
def rAddI : R2 := rI0 fun i j => .int (i + j)
def opAddI : D → D → Option RV
  | .int i, .int j => some (.fz (.int (i + j)))
  | _, _ => none
theorem ok_addI : OpOk K (rI0 fun i j => .int (i + j)) opAddI := okI0 fun dx dy res e => by
  cases dx <;> cases dy <;> cases e
  exact ⟨_, _, _, rfl, rfl, rfl, fun _ _ => .int _⟩
def opMulI : D → D → Option RV
  | .int i, .int j => if mulOk i j then some (.fz (.int (i * j))) else none
  | _, _ => none
theorem ok_mulI : OpOk K (rI CMul fun i j => .int (i * j)) opMulI := okI fun dx dy res e => by
  cases dx <;> cases dy <;> try (cases e)
  rename_i i j
  dsimp only [opMulI] at e
  split at e
  · rename_i hc
    cases e
    unfold mulOk at hc
    simp only [Bool.or_eq_true, Bool.and_eq_true, decide_eq_true_eq] at hc
    exact ⟨i, j, _, rfl, rfl, hc, rfl, fun _ _ => .int _⟩
  · cases e
/-- [x] * n -/
def opRepL : D → D → Option RV
  | .list a, .int k => if decide (-(2 ^ 63) ≤ k) && decide (k < 2 ^ 63) && decide (a.length * k.toNat ≤ sizeLine) then some (.fr (.l (List.replicate k.toNat a).flatten)) else none
  | _, _ => none
end

/-! ### equality, membership: by the data -/
def eqOk (d e : D) : Bool := d.canLay0 && e.canLay0 && decide (d.depth ≤ 1000)
def opEq (d e : D) : Option RV := if eqOk d e then some (.fz (.bool (PyData.eqv d e))) else none
def opNe (d e : D) : Option RV := if eqOk d e then some (.fz (.bool (!PyData.eqv d e))) else none
def opIn (d c : D) : Option RV := match c with
  | .list xs => if PyData.canLayAll0 xs && d.canLay0 && decide (d.depth ≤ 1000) then some (.fz (.bool (xs.any fun y => PyData.eqv y d))) else none
  | .tuple xs => if PyData.canLayAll0 xs && d.canLay0 && decide (d.depth ≤ 1000) then some (.fz (.bool (xs.any fun y => PyData.eqv y d))) else none
  | _ => none
def opNotIn (d c : D) : Option RV := match c with
  | .list xs => if PyData.canLayAll0 xs && d.canLay0 && decide (d.depth ≤ 1000) then some (.fz (.bool (!xs.any fun y => PyData.eqv y d))) else none
  | .tuple xs => if PyData.canLayAll0 xs && d.canLay0 && decide (d.depth ≤ 1000) then some (.fz (.bool (!xs.any fun y => PyData.eqv y d))) else none
  | _ => none
def rD2 (K : Fg) (f : D → D → Option RV) : R2 := fun x y H Q => ∃ d e b, Rep K H x d ∧ Rep K H y e ∧ f d e = some (.fz (.bool b)) ∧ Q (.bl b) H
theorem ok_D2 {K : Fg} {f : D → D → Option RV} (hb : ∀ d e res, f d e = some res → ∃ b, res = .fz (.bool b)) : OpOk K (rD2 K f) f := by
  intro G F σ H ρ x y dx dy res Q S ox oy e k
  obtain ⟨b, rfl⟩ := hb _ _ _ e
  exact ⟨dx, dy, b, ox.rep S.fh, oy.rep S.fh, e, k _ F H (Same.refl _) S (show Rep K F _ _ from .bl b)⟩
theorem eq_b : ∀ d e res, opEq d e = some res → ∃ b, res = .fz (.bool b) := fun d e res h => by
  unfold opEq at h
  split at h <;> cases h
  exact ⟨_, rfl⟩
theorem ne_b : ∀ d e res, opNe d e = some res → ∃ b, res = .fz (.bool b) := fun d e res h => by
  unfold opNe at h
  split at h <;> cases h
  exact ⟨_, rfl⟩
theorem in_b : ∀ d e res, opIn d e = some res → ∃ b, res = .fz (.bool b) := fun d e res h => by
  unfold opIn at h
  split at h
  · split at h <;> cases h; exact ⟨_, rfl⟩
  · split at h <;> cases h; exact ⟨_, rfl⟩
  · cases h
theorem notIn_b : ∀ d e res, opNotIn d e = some res → ∃ b, res = .fz (.bool b) := fun d e res h => by
  unfold opNotIn at h
  split at h
  · split at h <;> cases h; exact ⟨_, rfl⟩
  · split at h <;> cases h; exact ⟨_, rfl⟩
  · cases h
section
variable {X : Cx}
theorem opr_eq (hu : X.A.units + 1100 < cLine) : OpR X (compareOp .Eq) (rD2 X.K opEq) := by
  intro pins s σ H x y v u Q I rx ry ⟨d, e, b, r1, r2, ho, q⟩
  obtain ⟨as, ra⟩ := (reads_of I).1 r1 rx
  obtain ⟨bs, rb⟩ := (reads_of I).1 r2 ry
  unfold opEq at ho
  split at ho
  case isFalse => cases ho
  rename_i hc
  cases ho
  simp only [eqOk, Bool.and_eq_true, decide_eq_true_eq] at hc
  exact SeqAt.compareEq_reads ra rb hc.1.1 hc.1.2 (by have := Nat.min_le_left d.depth e.depth; omega) ⟨.bl _, H, I, rfl, q⟩
theorem opr_ne (hu : X.A.units + 1100 < cLine) : OpR X (compareOp .NotEq) (rD2 X.K opNe) := by
  intro pins s σ H x y v u Q I rx ry ⟨d, e, b, r1, r2, ho, q⟩
  obtain ⟨as, ra⟩ := (reads_of I).1 r1 rx
  obtain ⟨bs, rb⟩ := (reads_of I).1 r2 ry
  unfold opNe at ho
  split at ho
  case isFalse => cases ho
  rename_i hc
  cases ho
  simp only [eqOk, Bool.and_eq_true, decide_eq_true_eq] at hc
  exact SeqAt.compareNe_reads ra rb hc.1.1 hc.1.2 (by have := Nat.min_le_left d.depth e.depth; omega) ⟨.bl _, H, I, rfl, q⟩
theorem opr_in (hu : X.A.units + 1100 < cLine) : OpR X (compareOp .In) (rD2 X.K opIn) := by
  intro pins s σ H x y v u Q I rx ry ⟨d, e, b, r1, r2, ho, q⟩
  obtain ⟨as, ra⟩ := (reads_of I).1 r1 rx
  obtain ⟨bs, rb⟩ := (reads_of I).1 r2 ry
  unfold opIn at ho
  split at ho
  · rename_i xs
    split at ho
    case isFalse => cases ho
    rename_i hc
    cases ho
    simp only [Bool.and_eq_true, decide_eq_true_eq] at hc
    exact SeqAt.in_list_reads rb ra hc.1.1 hc.1.2 (by have := Nat.min_le_right (PyData.depthAll xs) d.depth; omega) ⟨.bl _, H, I, rfl, q⟩
  · rename_i xs
    split at ho
    case isFalse => cases ho
    rename_i hc
    cases ho
    simp only [Bool.and_eq_true, decide_eq_true_eq] at hc
    exact SeqAt.in_tuple_reads rb ra hc.1.1 hc.1.2 (by have := Nat.min_le_right (PyData.depthAll xs) d.depth; omega) ⟨.bl _, H, I, rfl, q⟩
  · cases ho
theorem opr_notIn (hu : X.A.units + 1100 < cLine) : OpR X (compareOp .NotIn) (rD2 X.K opNotIn) := by
  intro pins s σ H x y v u Q I rx ry ⟨d, e, b, r1, r2, ho, q⟩
  obtain ⟨as, ra⟩ := (reads_of I).1 r1 rx
  obtain ⟨bs, rb⟩ := (reads_of I).1 r2 ry
  unfold opNotIn at ho
  split at ho
  · rename_i xs
    split at ho
    case isFalse => cases ho
    rename_i hc
    cases ho
    simp only [Bool.and_eq_true, decide_eq_true_eq] at hc
    exact SeqAt.notIn_list_reads rb ra hc.1.1 hc.1.2 (by have := Nat.min_le_right (PyData.depthAll xs) d.depth; omega) ⟨.bl _, H, I, rfl, q⟩
  · rename_i xs
    split at ho
    case isFalse => cases ho
    rename_i hc
    cases ho
    simp only [Bool.and_eq_true, decide_eq_true_eq] at hc
    exact SeqAt.notIn_tuple_reads rb ra hc.1.1 hc.1.2 (by have := Nat.min_le_right (PyData.depthAll xs) d.depth; omega) ⟨.bl _, H, I, rfl, q⟩
  · cases ho
end

/-! ### index, slices -/
def opIx : D → D → Option RV
  | .list ds, .int i => match atI ds i with
    | some d => some (.fz d)
    | none => none
  | .tuple ds, .int i => match atI ds i with
    | some d => some (.fz d)
    | none => none
  | _, _ => none
theorem atI_rep {K : Fg} {F : Hp} {vs : List V} {ds : List D} {i : Int} {d : D} (r : RepL K F vs ds) (h : atI ds i = some d) : ∃ v, atI vs i = some v ∧ Rep K F v d := by
  unfold atI at h ⊢
  rw [r.length]
  cases q : ixN ds.length i with
  | none => rw [q] at h; cases h
  | some j =>
    rw [q] at h
    exact r.get (i := j) h
def rIxLT (K : Fg) : R2 := fun x y H Q => rIxL K x y H Q ∨ rIxT K x y H Q
theorem ok_ix {K : Fg} : OpOk K (rIxLT K) opIx := by
  intro G F σ H ρ x y dx dy res Q S ox oy e k
  cases dy <;> try (cases dx <;> cases e)
  rename_i i
  cases dx <;> try (cases e)
  · rename_i ds
    dsimp only [opIx] at e
    split at e
    · rename_i d hd
      cases e
      obtain ⟨a, vs, rfl, h1, h2⟩ := ox.list S.fh
      obtain ⟨v, e1, e2⟩ := atI_rep h2 hd
      exact .inl ⟨a, vs, i, v, rfl, oy.int, h1, e1, k v F H (Same.refl _) S e2⟩
    · cases e
  · rename_i ds
    dsimp only [opIx] at e
    split at e
    · rename_i d hd
      cases e
      obtain ⟨a, vs, rfl, h1, h2⟩ := ox.tuple S.fh
      obtain ⟨v, e1, e2⟩ := atI_rep h2 hd
      exact .inr ⟨a, vs, i, v, rfl, oy.int, h1, e1, k v F H (Same.refl _) S e2⟩
    · cases e
theorem ixr {X : Cx} : IxR X (rIxLT X.K) := ix_list.or ix_tup

/-! ### built-in functions -/
def fLen : List D → Option RV
  | [.list ds] => some (.fz (.int ds.length))
  | [.tuple ds] => some (.fz (.int ds.length))
  | _ => none
def fTuple : List D → Option RV
  | [.list ds] => some (.fz (.tuple ds))
  | [.tuple ds] => some (.fz (.tuple ds))
  | _ => none
def fAbs : List D → Option RV
  | [.int i] => some (.fz (.int (if i < 0 then -i else i)))
  | _ => none
def fMin2 : List D → Option RV
  | [.int i, .int j] => some (.fz (.int (if j < i then j else i)))
  | _ => none
theorem ok_len {K : Fg} : CallOk K (fun xs H Q => ∃ p ys, xs = [.ref p] ∧ (SqL K H p ys ∨ SqT K H p ys) ∧ Q (.int ys.length) H) fLen := by
  intro G F σ H ρ xs ds res Q S o e k
  unfold fLen at e
  split at e
  · rename_i es
    cases e
    obtain ⟨v, r, rfl, ho, hr⟩ := ors_cons o
    obtain rfl := ors_nil hr
    obtain ⟨a, vs, rfl, h1, h2⟩ := ho.list S.fh
    exact ⟨a, vs, rfl, .inl h1, k _ F H (Same.refl _) S (by rw [h2.length]; exact .int _)⟩
  · rename_i es
    cases e
    obtain ⟨v, r, rfl, ho, hr⟩ := ors_cons o
    obtain rfl := ors_nil hr
    obtain ⟨a, vs, rfl, h1, h2⟩ := ho.tuple S.fh
    exact ⟨a, vs, rfl, .inr h1, k _ F H (Same.refl _) S (by rw [h2.length]; exact .int _)⟩
  · cases e
theorem ok_tuple {K : Fg} : CallOk K (fun xs H Q => ∃ p ys, xs = [.ref p] ∧ ((SqL K H p ys ∧ ∀ l, H l = none → Q (.ref l) (upd H l (.tup ys))) ∨ (SqT K H p ys ∧ Q (.ref p) H))) fTuple := by
  intro G F σ H ρ xs ds res Q S o e k
  unfold fTuple at e
  split at e
  · rename_i es
    cases e
    obtain ⟨v, r, rfl, ho, hr⟩ := ors_cons o
    obtain rfl := ors_nil hr
    obtain ⟨a, vs, rfl, h1, h2⟩ := ho.list S.fh
    refine ⟨a, vs, rfl, .inl ⟨h1, fun l hl => ?_⟩⟩
    obtain ⟨s2, S2, r2⟩ := S.newTup hl h2
    exact k _ _ _ s2 S2 r2
  · rename_i es
    cases e
    obtain ⟨v, r, rfl, ho, hr⟩ := ors_cons o
    obtain rfl := ors_nil hr
    rcases ho with ho | ⟨a, vs, ds', _, z, _⟩
    · cases ho with
      | tup h1 h2 => exact ⟨_, _, rfl, .inr ⟨sqT_mono S.fh h1, k _ F H (Same.refl _) S (show Rep K F _ _ from .tup h1 h2)⟩⟩
    · cases z
  · cases e
theorem ok_abs {K : Fg} : CallOk K (fun xs H Q => ∃ i, xs = [.int i] ∧ Q (.int (if i < 0 then -i else i)) H) fAbs := by
  intro G F σ H ρ xs ds res Q S o e k
  unfold fAbs at e
  split at e
  · cases e
    obtain ⟨v, r, rfl, ho, hr⟩ := ors_cons o
    obtain rfl := ors_nil hr
    exact ⟨_, by rw [ho.int], k _ F H (Same.refl _) S (show Rep K F _ _ from .int _)⟩
  · cases e
theorem ok_min2 {K : Fg} : CallOk K (fun xs H Q => ∃ i j, xs = [.int i, .int j] ∧ Q (.int (if j < i then j else i)) H) fMin2 := by
  intro G F σ H ρ xs ds res Q S o e k
  unfold fMin2 at e
  split at e
  · cases e
    obtain ⟨v, r, rfl, ho, hr⟩ := ors_cons o
    obtain ⟨v2, r2, rfl, ho2, hr2⟩ := ors_cons hr
    obtain rfl := ors_nil hr2
    exact ⟨_, _, by rw [ho.int, ho2.int], k _ F H (Same.refl _) S (show Rep K F _ _ from .int _)⟩
  · cases e
/-! repr -/
def fRepr : List D → Option RV
  | [.list ds] => if (PyData.list ds).showable && (PyData.list ds).canLay0 && decide ((PyData.list ds).depth ≤ 1000) && decide ((PyData.list ds).shown.length ≤ sizeLine) then some (.fz (.str (PyData.list ds).shown)) else none
  | [.tuple ds] => if (PyData.tuple ds).showable && (PyData.tuple ds).canLay0 && decide ((PyData.tuple ds).depth ≤ 1000) && decide ((PyData.tuple ds).shown.length ≤ sizeLine) then some (.fz (.str (PyData.tuple ds).shown)) else none
  | _ => none
def rRepr (K : Fg) : List V → Hp → VK → Prop := fun xs H Q => ∃ a d t, xs = [.ref a] ∧ Rep K H (.ref a) d ∧ fRepr [d] = some (.fz (.str t)) ∧ Q (.str t) H
theorem ok_repr {K : Fg} : CallOk K (rRepr K) fRepr := by
  intro G F σ H ρ xs ds res Q S o e k
  have e0 := e
  unfold fRepr at e
  split at e
  · rename_i es
    split at e
    case isFalse => cases e
    cases e
    obtain ⟨v, r, rfl, ho, hr⟩ := ors_cons o
    obtain rfl := ors_nil hr
    obtain ⟨a, vs, rfl, h1, h2⟩ := ho.list S.fh
    exact ⟨a, _, _, rfl, .lst h1 (h2.mono S.fh), e0, k _ F H (Same.refl _) S (show Rep K F _ _ from .str _)⟩
  · rename_i es
    split at e
    case isFalse => cases e
    cases e
    obtain ⟨v, r, rfl, ho, hr⟩ := ors_cons o
    obtain rfl := ors_nil hr
    obtain ⟨a, vs, rfl, h1, h2⟩ := ho.tuple S.fh
    exact ⟨a, _, _, rfl, .tup h1 (h2.mono S.fh), e0, k _ F H (Same.refl _) S (show Rep K F _ _ from .str _)⟩
  · cases e
theorem call_repr {X : Cx} (hu : X.A.units + 1100 < cLine) (hg : X.A.guards = some []) : CallR X (.builtin "repr") (rRepr X.K) := by
  intro pins s σ H xs us Q I r h0
  obtain ⟨a, d, t, rfl, rp, e, q⟩ := h0
  obtain ⟨u, rfl, ru⟩ := Vals.one r
  obtain ⟨as, ra⟩ := (reads_of I).1 rp ru
  cases ru
  have go : (d.showable && d.canLay0 && decide (d.depth ≤ 1000) && decide (d.shown.length ≤ sizeLine)) = true ∧ d.shown = t := by
    unfold fRepr at e
    split at e
    · rename_i ds heq
      injection heq with heq _
      subst heq
      split at e
      · rename_i hc; cases e; exact ⟨hc, rfl⟩
      · cases e
    · rename_i ds heq
      injection heq with heq _
      subst heq
      split at e
      · rename_i hc; cases e; exact ⟨hc, rfl⟩
      · cases e
    · cases e
  obtain ⟨hc, rfl⟩ := go
  simp only [Bool.and_eq_true, decide_eq_true_eq] at hc
  exact repr_of_reads' ra hc.1.1.1 (PyData.noDict_hsm (PyData.hasDict_of_canLay d hc.1.1.2)) hg (by omega) (fun _ _ e => e) (fun h' u tk hk => ⟨.str _, H, I.kept hk, ⟨_, rfl⟩, q⟩) hc.2
end L3

set_option Elab.async false
set_option linter.all false
set_option maxRecDepth 100000
namespace L3
open PySem PySem.Spec PyProof.Rows L2

/-! ### slices -/
def tOfO (K : Fg) (m : Ev (Option Int)) : TO := fun σ H Q => ∃ G F ρ i ρ', StOk K G F σ H ρ ∧ m ρ = some (i, ρ') ∧ ∀ F' H', Same F F' → StOk K G F' σ H' ρ' → Q i H'
def AO (X : Cx) (e : Option Expr) (m : Ev (Option Int)) : Prop := PO X e (tOfO X.K m)
def mNoI : Ev (Option Int) := fun ρ => some (none, ρ)
def mInt (m : Ev RV) : Ev (Option Int) := fun ρ => match mO m ρ with
  | some (a, ρ1) => match look ρ1 a with
    | some (.int i) => some (some i, ρ1)
    | _ => none
  | none => none
def cutD (ds : List D) (lo hi : Option Int) : List D := (ds.drop (HT.sIx ds.length 0 lo)).take (HT.sIx ds.length ds.length hi - HT.sIx ds.length 0 lo)
def fCut (d : D) (lo hi : Option Int) : Option RV := match d with
  | .tuple ds => if HT.sIx ds.length 0 lo = 0 ∧ HT.sIx ds.length ds.length hi = ds.length then none else some (.fz (.tuple (cutD ds lo hi)))
  | .list ds => some (.fr (.l (cutD ds lo hi)))
  | _ => none
def mSlice (me : Ev RV) (ml mh : Ev (Option Int)) : Ev RV := fun ρ => match mO me ρ with
  | some (a, ρ1) => match ml ρ1 with
    | some (lo, ρ2) => match mh ρ2 with
      | some (hi, ρ3) => match look ρ3 a with
        | some x => match fCut x lo hi with
          | some r => some (r, ρ3)
          | none => none
        | none => none
      | none => none
    | none => none
  | none => none
theorem cut_rep {K : Fg} {F : Hp} {vs : List V} {ds : List D} (r : RepL K F vs ds) (lo hi : Option Int) : RepL K F (cutV vs lo hi) (cutD ds lo hi) := by
  unfold cutV cutD
  rw [r.length]
  exact (r.drop _).take _
section
variable {X : Cx} {e : Expr} {lo hi : Option Expr} {m : Ev RV} {ml mh : Ev (Option Int)} {pos p2 : Pos}
theorem ao_none : AO X none mNoI := fun pins s σ H Q I ⟨G, F, ρ, i, ρ', S, e, k⟩ => by
  cases e
  exact po_none pins s σ H Q I (k F H (Same.refl _) S)
theorem ao_some (h : AE X e m) : AO X (some e) (mInt m) := fun pins s σ H Q I ⟨G, F, ρ, i, ρ', S, eq, k⟩ => by
  refine po_some h pins s σ H Q I ?_
  unfold mInt at eq
  split at eq
  case h_2 => cases eq
  rename_i a ρ1 e1
  split at eq
  case h_2 => cases eq
  rename_i j hj
  cases eq
  refine tOf_mO ⟨G, F, ρ, a, ρ', S, e1, fun v F' H' s1 S1 r1 => ?_⟩
  exact ⟨j, (look_or S1 (r1.vl (mO_notfr e1)) hj).int, k F' H' s1 S1⟩
theorem ae_slice (he : AE X e m) (hl : AO X lo ml) (hh : AO X hi mh) : AE X (.Subscript e (.Slice lo hi none p2) pos) (mSlice m ml mh) :=
  pe_weak (pe_slice (sl_tup.or sl_list) he hl hh) fun σ H Q ⟨G, F, ρ, r, ρ', S, eq, k⟩ => by
    unfold mSlice at eq
    split at eq
    case h_2 => cases eq
    rename_i a ρ1 e1
    split at eq
    case h_2 => cases eq
    rename_i l ρ2 e2
    split at eq
    case h_2 => cases eq
    rename_i u ρ3 e3
    split at eq
    case h_2 => cases eq
    rename_i x hx
    split at eq
    case h_2 => cases eq
    rename_i r' hr
    cases eq
    refine tOf_mO ⟨G, F, ρ, a, ρ1, S, e1, fun v F1 H1 s1 S1 r1 => ?_⟩
    have va := r1.vl (mO_notfr e1)
    refine ⟨G, F1, ρ1, l, ρ2, S1, e2, fun F2 H2 s2 S2 => ⟨G, F2, ρ2, u, ρ', S2, e3, fun F3 H3 s3 S3 => ?_⟩⟩
    have o := look_or S3 ((va.mono s2).mono s3) hx
    unfold fCut at hr
    split at hr
    · rename_i ds
      split at hr
      · cases hr
      rename_i hw
      cases hr
      obtain ⟨ad, vs, rfl, h1, h2⟩ := o.tuple S3.fh
      refine .inl ⟨ad, vs, rfl, h1, by rw [h2.length]; exact hw, fun p hp => ?_⟩
      obtain ⟨s4, S4, r4⟩ := S3.newTup hp (cut_rep h2 l u)
      exact k _ _ _ (((s1.trans s2).trans s3).trans s4) S4 r4
    · rename_i ds
      cases hr
      obtain ⟨ad, vs, rfl, h1, h2⟩ := o.list S3.fh
      refine .inr ⟨ad, vs, rfl, h1, fun p hp => ?_⟩
      obtain ⟨S4, r4⟩ := S3.newLst hp (cut_rep h2 l u)
      exact k _ _ _ ((s1.trans s2).trans s3) S4 r4
    · cases hr
end

/-! ### [e, ..] * n -/
def mRepL (ms : Ev (List RV)) (mb : Ev RV) : Ev RV := fun ρ => match ms ρ with
  | some (rs, ρ1) => match dats rs with
    | some ds => if ds.length ≤ sizeLine then (match mO mb ρ1 with
      | some (b, ρ2) => match look ρ2 b with
        | some (.int k) => if decide (-(2 ^ 63) ≤ k) && decide (k < 2 ^ 63) && decide (ds.length * k.toNat ≤ sizeLine) then some (.fr (.l (List.replicate k.toNat ds).flatten), ρ2) else none
        | _ => none
      | none => none) else none
    | none => none
  | none => none
theorem RepL.rep {K : Fg} {F : Hp} {vs : List V} {ds : List D} (h : RepL K F vs ds) : ∀ k : Nat, RepL K F (List.replicate k vs).flatten (List.replicate k ds).flatten
  | 0 => .nil
  | k + 1 => by
    rw [List.replicate_succ, List.flatten_cons, List.replicate_succ, List.flatten_cons]
    exact h.append (RepL.rep h k)
theorem ae_repL {X : Cx} {es : List Expr} {b : Expr} {ms : Ev (List RV)} {mb : Ev RV} {pos p2 : Pos} (h : AA X es ms) (hb : AE X b mb) : AE X (.BinOp (.List es p2) .Mult b pos) (mRepL ms mb) :=
  pe_weak (pe_op op_rep (pe_lst h) hb) fun σ H Q ⟨G, F, ρ, r, ρ', S, eq, k⟩ => by
    unfold mRepL at eq
    split at eq
    case h_2 => cases eq
    rename_i rs ρ1 e1
    split at eq
    case h_2 => cases eq
    rename_i ds hd
    split at eq
    case isFalse => cases eq
    rename_i hl
    split at eq
    case h_2 => cases eq
    rename_i rb ρ2 e2
    split at eq
    case h_2 => cases eq
    rename_i n hn
    split at eq
    case isFalse => cases eq
    rename_i hc
    cases eq
    simp only [Bool.and_eq_true, decide_eq_true_eq] at hc
    refine ⟨G, F, ρ, rs, ρ1, S, e1, fun vs F1 H1 s1 S1 r1 => ?_⟩
    have rp := dats_rep r1 hd
    refine ⟨by rw [rp.length]; exact hl, fun p hp => ?_⟩
    obtain ⟨S2, r2⟩ := S1.newLst hp rp
    obtain ⟨a, ea, oa, ne⟩ := r2
    injection ea with ea
    subst ea
    have S3 := S2.freeze (o := .lst vs) upd_same oa.nf oa.no ne
    have s3 : Same F1 (upd F1 p (.lst vs)) := same_upd oa.nf
    refine tOf_mO ⟨G, _, ρ1, rb, ρ', S3, e2, fun u F4 H4 s4 S4 r4 => ?_⟩
    have ho := look_or S4 (r4.vl (mO_notfr e2)) hn
    refine ⟨p, n, vs, rfl, ho.int, S4.fh _ _ (s4 _ _ upd_same), hc.1.1, hc.1.2, by rw [rp.length]; exact hc.2, fun q hq => ?_⟩
    obtain ⟨S5, r5⟩ := S4.newLst hq ((rp.mono (s3.trans s4)).rep n.toNat)
    exact k _ _ _ ((s1.trans s3).trans s4) S5 r5

/-! ### sum, max of a list of ints -/
def intsOf : List D → Option (List Int)
  | [] => some []
  | .int i :: r => match intsOf r with
    | some l => some (i :: l)
    | none => none
  | _ => none
theorem intsOf_eq : ∀ {ds : List D} {ns : List Int}, intsOf ds = some ns → ds = ns.map PyData.int
  | [], ns, h => by cases h; rfl
  | .int i :: r, ns, h => by
    dsimp only [intsOf] at h
    split at h
    · rename_i l e; cases h; rw [intsOf_eq e]; rfl
    · cases h
  | .none :: _, _, h => by cases h
  | .bool _ :: _, _, h => by cases h
  | .str _ :: _, _, h => by cases h
  | .list _ :: _, _, h => by cases h
  | .tuple _ :: _, _, h => by cases h
  | .dict _ :: _, _, h => by cases h
theorem intsOf_map (ns : List Int) : intsOf (ns.map PyData.int) = some ns := by
  induction ns with
  | nil => rfl
  | cons n r ih => simp [intsOf, ih]
theorem repL_ints {K : Fg} {F : Hp} : ∀ {vs : List V} {ns : List Int}, RepL K F vs (ns.map PyData.int) → vs = ns.map V.int
  | _, [], h => by cases h; rfl
  | _, n :: r, h => by
    cases h with
    | cons a b => cases a; rw [repL_ints b]; rfl
theorem vals_pairs : ∀ {ns : List Int} {us : List Value}, Vals (ns.map V.int) us → ∃ ps : List (Int × Tok), us = ps.map (fun p => Value.int p.1 p.2) ∧ ps.map Prod.fst = ns
  | [], _, h => by cases h; exact ⟨[], rfl, rfl⟩
  | n :: r, _, h => by
    cases h with
    | cons a b =>
      obtain ⟨t, rfl⟩ := a
      obtain ⟨ps, rfl, e⟩ := vals_pairs b
      exact ⟨(n, t) :: ps, rfl, by simp [e]⟩
def sumOk (ns : List Int) : Bool := ns.all (fun i => decide (i.natAbs ≤ 2 ^ 40)) && decide (ns.length ≤ 2 ^ 20)
def fSum : List D → Option RV
  | [.list ds] => match intsOf ds with
    | some ns => if sumOk ns then some (.fz (.int ns.sum)) else none
    | none => none
  | _ => none
def maxL : List Int → Int
  | [] => 0
  | n :: r => r.foldl max n
def fMax : List D → Option RV
  | [.list ds] => match intsOf ds with
    | some (n :: r) => some (.fz (.int (maxL (n :: r))))
    | _ => none
  | [.int i, .int j] => some (.fz (.int (if j > i then j else i)))
  | _ => none
def rInts (K : Fg) (f : List Int → Option Int) : List V → Hp → VK → Prop := fun xs H Q => ∃ a ns i, xs = [.ref a] ∧ SqL K H a (ns.map V.int) ∧ f ns = some i ∧ Q (.int i) H
def gSum (ns : List Int) : Option Int := if sumOk ns then some ns.sum else none
def gMax : List Int → Option Int
  | [] => none
  | ns => some (maxL ns)
theorem ok_sum {K : Fg} : CallOk K (rInts K gSum) fSum := by
  intro G F σ H ρ xs ds res Q S o e k
  unfold fSum at e
  split at e
  case h_2 => cases e
  rename_i es
  split at e
  case h_2 => cases e
  rename_i ns hns
  split at e
  case isFalse => cases e
  rename_i hc
  cases e
  obtain ⟨v, r, rfl, ho, hr⟩ := ors_cons o
  obtain rfl := ors_nil hr
  obtain ⟨a, vs, rfl, h1, h2⟩ := ho.list S.fh
  rw [intsOf_eq hns] at h2
  rw [repL_ints h2] at h1
  exact ⟨a, ns, _, rfl, h1, by unfold gSum; rw [if_pos hc], k _ F H (Same.refl _) S (show Rep K F _ _ from .int _)⟩
theorem numAt_of {ps : List (Int × Tok)} {i : Nat} : numAt ps.toArray i = (ps.map Prod.fst).getD i 0 := by
  unfold numAt
  rw [List.getElem?_toArray, List.getD_eq_getElem?_getD, List.getElem?_map]
theorem preSum_of (ns : List Int) : ∀ j, j ≤ ns.length → preSum (fun i => ns.getD i 0) j = (ns.take j).sum
  | 0, _ => by simp [preSum]
  | j + 1, h => by
    rw [preSum, preSum_of ns j (by omega), List.take_add_one, List.sum_append]
    congr 1
    rw [List.getD_eq_getElem?_getD]
    rw [List.getElem?_eq_getElem (by omega)]
    simp
theorem sum_bound (B : Nat) : ∀ (ns : List Int), (∀ i ∈ ns, i.natAbs ≤ B) → ns.sum.natAbs ≤ ns.length * B
  | [], _ => by simp
  | n :: r, h => by
    have h1 := h n List.mem_cons_self
    have h2 := sum_bound B r fun i hi => h i (List.mem_cons_of_mem _ hi)
    rw [List.sum_cons, List.length_cons, Nat.succ_mul]
    omega
theorem call_sumL {X : Cx} (hc : X.calm = true) : CallR X (.builtin "sum") (rInts X.K gSum) := by
  intro pins s σ H xs us Q I r h0
  obtain ⟨a, ns, i, rfl, hq, e, q⟩ := h0
  obtain ⟨u, rfl, ru⟩ := Vals.one r
  cases ru
  unfold gSum at e
  split at e
  case isFalse => cases e
  rename_i hok
  cases e
  obtain ⟨its, rv, pl, hz⟩ := I.list hq
  obtain ⟨ps, rfl, rfl⟩ := vals_pairs rv
  have hnum : ∀ j, numAt ps.toArray j = (ps.map Prod.fst).getD j 0 := fun j => numAt_of
  have hfun : numAt ps.toArray = fun j => (ps.map Prod.fst).getD j 0 := funext hnum
  unfold sumOk at hok
  simp only [Bool.and_eq_true, List.all_eq_true, decide_eq_true_eq] at hok
  have hl : s.heap.IsList a (intItems ps.toArray) := by
    have := pl.isList
    unfold intItems
    simpa using this
  have bnd : ∀ j, j ≤ ps.length → ((ps.map Prod.fst).take j).sum.natAbs ≤ 2 ^ 60 := fun j hj => by
    have h1 := sum_bound (2 ^ 40) ((ps.map Prod.fst).take j) fun i hi => hok.1 i (List.mem_of_mem_take hi)
    have h2 : ((ps.map Prod.fst).take j).length ≤ 2 ^ 20 := by rw [List.length_take]; have := hok.2; omega
    calc _ ≤ _ := h1
      _ ≤ 2 ^ 20 * 2 ^ 40 := Nat.mul_le_mul_right _ h2
  refine sum_intList (I.ok.hd hc) hl (fun j hj => ?_) fun h' tk t' hk => ?_
  · have hj' : j < ps.length := by simpa using hj
    rw [hfun, preSum_of _ _ (by simp; omega)]
    have h1 := bnd (j + 1) hj'
    have h2 : ((ps.map Prod.fst).getD j 0).natAbs ≤ 2 ^ 40 := by
      rw [List.getD_eq_getElem?_getD, List.getElem?_eq_getElem (by simpa using hj')]
      exact hok.1 _ (List.getElem_mem _)
    unfold InLong
    dsimp only
    constructor <;> constructor <;> omega
  · refine ⟨.int _, H, I.kept hk, ⟨_, rfl⟩, ?_⟩
    rw [hfun, preSum_of _ _ (by simp), List.take_of_length_le (by simp)]
    exact q
theorem ok_max {K : Fg} : CallOk K (fun xs H Q => rInts K gMax xs H Q ∨ ∃ i j, xs = [.int i, .int j] ∧ Q (.int (if j > i then j else i)) H) fMax := by
  intro G F σ H ρ xs ds res Q S o e k
  unfold fMax at e
  split at e
  · rename_i es
    split at e
    case h_2 => cases e
    rename_i n r' hns
    cases e
    obtain ⟨v, r, rfl, ho, hr⟩ := ors_cons o
    obtain rfl := ors_nil hr
    obtain ⟨a, vs, rfl, h1, h2⟩ := ho.list S.fh
    rw [intsOf_eq hns] at h2
    rw [repL_ints h2] at h1
    exact .inl ⟨a, _, _, rfl, h1, rfl, k _ F H (Same.refl _) S (show Rep K F _ _ from .int _)⟩
  · cases e
    obtain ⟨v, r, rfl, ho, hr⟩ := ors_cons o
    obtain ⟨v2, r2, rfl, ho2, hr2⟩ := ors_cons hr
    obtain rfl := ors_nil hr2
    exact .inr ⟨_, _, by rw [ho.int, ho2.int], k _ F H (Same.refl _) S (show Rep K F _ _ from .int _)⟩
  · cases e
theorem foldl_max (r : List Int) : ∀ n : Int, n ≤ r.foldl max n ∧ (∀ i ∈ r, i ≤ r.foldl max n) ∧ (r.foldl max n = n ∨ r.foldl max n ∈ r) := by
  induction r with
  | nil => intro n; exact ⟨Int.le_refl _, fun i hi => (nomatch hi), .inl rfl⟩
  | cons a r ih =>
    intro n
    obtain ⟨h1, h2, h3⟩ := ih (max n a)
    rw [List.foldl_cons]
    refine ⟨by omega, fun i hi => ?_, ?_⟩
    · rcases List.mem_cons.mp hi with rfl | hi
      · omega
      · exact h2 i hi
    · rcases h3 with h3 | h3
      · rw [h3]
        by_cases hna : n ≤ a
        · right; rw [show max n a = a by omega]; exact List.mem_cons_self
        · left; omega
      · right; exact List.mem_cons_of_mem _ h3
theorem maxL_spec {ns : List Int} (h : ns ≠ []) : (∀ i ∈ ns, i ≤ maxL ns) ∧ maxL ns ∈ ns := by
  cases ns with
  | nil => exact absurd rfl h
  | cons n r =>
    obtain ⟨h1, h2, h3⟩ := foldl_max r n
    refine ⟨fun i hi => ?_, ?_⟩
    · rcases List.mem_cons.mp hi with rfl | hi
      · exact h1
      · exact h2 i hi
    · rcases h3 with h3 | h3
      · show r.foldl max n ∈ _; rw [h3]; exact List.mem_cons_self
      · exact List.mem_cons_of_mem _ h3
theorem call_maxL {X : Cx} (hc : X.calm = true) : CallR X (.builtin "max") (rInts X.K gMax) := by
  intro pins s σ H xs us Q I r h0
  obtain ⟨a, ns, i, rfl, hq, e, q⟩ := h0
  obtain ⟨u, rfl, ru⟩ := Vals.one r
  cases ru
  obtain ⟨its, rv, pl, hz⟩ := I.list hq
  obtain ⟨ps, rfl, rfl⟩ := vals_pairs rv
  have hne : ps ≠ [] := by rintro rfl; cases e
  have hne' : ps.map Prod.fst ≠ [] := by simpa using hne
  have ei : i = maxL (ps.map Prod.fst) := by
    cases hp : ps.map Prod.fst with
    | nil => exact absurd hp hne'
    | cons n r => rw [hp] at e; cases e; rfl
  subst ei
  have hl : s.heap.IsList a (intItems ps.toArray) := by
    have := pl.isList
    unfold intItems
    simpa using this
  have hpos : 0 < ps.length := List.length_pos_iff.mpr hne
  refine max_intList (I.ok.hd hc) hl (by simpa using hpos) fun v h' tk hv hk => ?_
  obtain ⟨t, rfl⟩ := intItems_at hv
  refine ⟨.int _, H, I.kept hk, ⟨_, rfl⟩, ?_⟩
  have b := argBest_gt (numAt ps.toArray) (ps.toArray.size - 1)
  generalize argBest (fun i j => decide (numAt ps.toArray i > numAt ps.toArray j)) (ps.toArray.size - 1) = m at b hv
  have hm : m < ps.length := by
    have h0 := b.1
    simp at h0
    omega
  have hsp := maxL_spec hne'
  have e1 : numAt ps.toArray m = maxL (ps.map Prod.fst) := by
    refine Int.le_antisymm ?_ ?_
    · refine hsp.1 _ ?_
      rw [numAt_of, List.getD_eq_getElem?_getD, List.getElem?_eq_getElem (by simpa using hm)]
      exact List.getElem_mem _
    · obtain ⟨j, hj, ej⟩ := List.getElem_of_mem hsp.2
      have h0 := b.2 j (by simp at hj ⊢; omega)
      rw [numAt_of, List.getD_eq_getElem?_getD, List.getElem?_eq_getElem hj] at h0
      rw [← ej]
      exact h0
  rw [e1]
  exact q
end L3

set_option Elab.async false
set_option linter.all false
set_option maxRecDepth 100000
namespace L3
open PySem PySem.Spec PyProof.Rows L2

/-! ### over a list or a tuple -/
def iSeq (K : Fg) (tl : TE) : TI := fun σ H R => tl σ H fun x H1 => (∃ a, x = .ref a ∧ (∃ xs, SqL K H1 a xs) ∧ R (Itl K a) H1) ∨ ∃ a, x = .ref a ∧ (∃ xs, SqT K H1 a xs) ∧ R (Itt K a) H1
theorem pi_seq {X : Cx} {tg l : Expr} {tl : TE} (hl : PE X l tl) : PI X tg l (iSeq X.K tl) := by
  intro pins s σ H R I h
  refine thn (hl pins s σ H _ I h) fun v s1 ⟨x, H1, I1, r1, q1⟩ => ?_
  rcases q1 with ⟨a, e, ⟨xs, hq⟩, q⟩ | ⟨a, e, ⟨xs, hq⟩, q⟩
  · subst e
    cases r1
    obtain ⟨its, rv, p, hz⟩ := I1.list hq
    refine wpAny_pyIter_list p.isList ?_
    refine ⟨s1.heap.objs.size, [s1.heap.objs.size], _, _, H1, rfl, I1.kept (t' := s1.toks) fun b o e => Heap.get?_push_of_some _ e, turn_list a _, ⟨_, Heap.get?_push_size _ rfl, rfl, rfl⟩, fun b hb => ?_, q⟩
    have e : b = s1.heap.objs.size := by simpa using hb
    subst e
    exact I1.fpOk (Nat.le_refl _) (I1.hok.fresh (Nat.le_refl _))
  · subst e
    cases r1
    obtain ⟨its, rv, p, hz⟩ := I1.tuple hq
    refine wpAny_pyIter_tuple (show s1.heap.IsTuple a its.toArray from p) ?_
    refine ⟨s1.heap.objs.size, [s1.heap.objs.size], _, _, H1, rfl, I1.kept (t' := s1.toks) fun b o e => Heap.get?_push_of_some _ e, turn_tuple a _, ⟨_, Heap.get?_push_size _ rfl, rfl, rfl⟩, fun b hb => ?_, q⟩
    have e : b = s1.heap.objs.size := by simpa using hb
    subst e
    exact I1.fpOk (Nat.le_refl _) (I1.hok.fresh (Nat.le_refl _))
def mSeqI (m : Ev RV) : Ev (List D) := fun ρ => match mD m ρ with
  | some (.fz (.list ds), ρ1) => some (ds, ρ1)
  | some (.fz (.tuple ds), ρ1) => some (ds, ρ1)
  | _ => none
theorem ai_seq {X : Cx} {tg e : Expr} {m : Ev RV} (h : AE X e m) : AI X tg e (mSeqI m) :=
  pi_weak (pi_seq h) fun σ H R ⟨G, F, ρ, ds, ρ', S, e, k⟩ => by
    unfold mSeqI at e
    split at e
    · rename_i ds' ρ1 e1
      cases e
      refine tOf_mD ⟨G, F, ρ, _, ρ', S, e1, fun v F' H' s1 S1 r1 => .inl ?_⟩
      have r1' : Rep X.K F' v (.list ds) := r1
      cases r1' with
      | lst h1 h2 => exact ⟨_, rfl, ⟨_, S1.fh.seq h1⟩, k _ F' H' s1 S1 (walk_list h1 h2)⟩
    · rename_i ds' ρ1 e1
      cases e
      refine tOf_mD ⟨G, F, ρ, _, ρ', S, e1, fun v F' H' s1 S1 r1 => .inr ?_⟩
      have r1' : Rep X.K F' v (.tuple ds) := r1
      cases r1' with
      | tup h1 h2 => exact ⟨_, rfl, ⟨_, sqT_mono S1.fh h1⟩, k _ F' H' s1 S1 (walk_tup h1 h2)⟩
    · cases e

/-! ### a comprehension's scope, checked -/
def kindB (k : NameKind) : Option NameKind → Bool
  | some k' => k == k'
  | none => false
def compChk (N N' : List Str) (k : Nat) (scope sc : Scope) : Bool :=
  (scope.kind == .function) && (N'.length == N.length + k) && scope.names.all (fun y => y.2 != .cell) && scope.names.all (fun y => y.2 != .local || kindB .local (scope.names.lookup y.1))
    && ((List.range N.length).all fun i => match N'[i]? with
      | some x => !(kindB .free (scope.names.lookup x) || kindB .local (scope.names.lookup x) || kindB .cell (scope.names.lookup x)) || (N[i]? == some x && kindB .free (scope.names.lookup x))
      | none => true)
    && scope.names.all (fun y => y.2 != .free || kindB .cell (sc.names.lookup y.1) || kindB .free (sc.names.lookup y.1))
theorem kindB_of {k : NameKind} {o : Option NameKind} (h : kindB k o = true) : o = some k := by
  cases o with
  | none => cases h
  | some k' => simp [kindB] at h; rw [h]
theorem kindB_to {k : NameKind} {o : Option NameKind} (h : o = some k) : kindB k o = true := by subst h; simp [kindB]
theorem compOk_of {X : Cx} {N N' : List Str} {k : Nat} {scope sc : Scope} (h : compChk N N' k scope sc = true) (hN : X.N = N) (hs : X.env.scope = sc) : CompOk X N' k scope := by
  subst hN hs
  simp only [compChk, Bool.and_eq_true, List.all_eq_true, beq_iff_eq, Bool.or_eq_true, bne_iff_ne, ne_eq] at h
  obtain ⟨⟨⟨⟨⟨h1, h2⟩, h3⟩, h4⟩, h5⟩, h6⟩ := h
  refine ⟨h1, h2, fun y hy => h3 y hy, fun y hy hl => ?_, fun i x hi hx _ hk => ?_, fun y hy hf => ?_⟩
  · rcases h4 y hy with z | z
    · exact absurd hl z
    · exact kindB_of z
  · have := h5 i (List.mem_range.mpr hi)
    rw [hx] at this
    simp only [Bool.or_eq_true, Bool.not_eq_true', Bool.and_eq_true, beq_iff_eq] at this
    rcases this with z | ⟨z1, z2⟩
    · exfalso
      rcases hk with hk | hk | hk <;> simp [kindB_to hk] at z
    · exact ⟨z1, kindB_of z2⟩
  · rcases h6 y hy with (z | z) | z
    · exact absurd hf z
    · exact .inl (kindB_of z)
    · exact .inr (kindB_of z)
section
variable {X : Cx}
theorem ae_compC {elt tg iter : Expr} {ifs : List Expr} {scope : Scope} {pos : Pos} {N' : List Str} {k : Nat} {mi : Ev (List D)} {st : TgM} {mt : Ev Bool} {me : Ev RV}
    (hc : X.calm = true) (S : CompOk X N' k scope) (hi : AI X tg iter mi)
    (hg : ∀ cl s H fp C, AG (compCx X N' scope cl s H fp C) X.N.length tg st) (ht : ∀ cl s H fp C, ATs (compCx X N' scope cl s H fp C) ifs mt) (he : ∀ cl s H fp C, AE (compCx X N' scope cl s H fp C) elt me)
    (hs : ∀ x, foldedSetIterable iter X.env x = pure x) :
    AE X (.ListComp elt [⟨tg, iter, ifs, 0⟩] scope pos) (mComp k mi st mt me) := fun pins s σ H Q I h =>
  ae_comp hc S (fun x hx hf => I.ok.has x.1 (S.free x hx hf)) hi hg ht he hs pins s σ H Q I h
theorem as_setCompC {elt tg iter : Expr} {ifs : List Expr} {scope : Scope} {pos pos' spos : Pos} {N' : List Str} {k i : Nat} {y : Str} {mi : Ev (List D)} {st : TgM} {mt : Ev Bool} {me : Ev RV}
    (hN : X.N.Nodup) (hy : X.N[i]? = some y) (hly : Loc X.env.scope y) (hfn : X.fn y = true ∨ X.env.scope.names.lookup y = some .local)
    (hc : X.calm = true) (S : CompOk X N' k scope) (hi : AI X tg iter mi)
    (hg : ∀ cl s H fp C, AG (compCx X N' scope cl s H fp C) X.N.length tg st) (ht : ∀ cl s H fp C, ATs (compCx X N' scope cl s H fp C) ifs mt) (he : ∀ cl s H fp C, AE (compCx X N' scope cl s H fp C) elt me)
    (hsw : swapsWith (.ListComp elt [⟨tg, iter, ifs, 0⟩] scope pos) (some (.Name y pos')) spos.line X.env = pure true) (hs : ∀ x, foldedSetIterable iter X.env x = pure x) :
    AS X (.Assign [.Name y pos'] (.ListComp elt [⟨tg, iter, ifs, 0⟩] scope pos) spos) (mSet i (mComp k mi st mt me)) := fun pins s σ H E I h =>
  as_setComp hN hy hly hfn hc S (fun x hx hf => I.ok.has x.1 (S.free x hx hf)) hi hg ht he hsw hs pins s σ H E I h
end

/-! ### built-ins in short -/
section
variable {X : Cx} {e f : Expr} {ms : Ev (List RV)} {p pos : Pos}
theorem ae_len (hg : Gl X "len") (hm : X.mg "len" = none) (ha : AA X [e] ms) (he : starEach [e] X.env = [(false, eval e X.env)]) : AE X (.Call (.Name "len" p) [e] [] pos) (mCall fLen ms) :=
  ae_callB call_len_seq ok_len hg hm PySem.boot_len ha (by decide) (by decide) he rfl
theorem ae_tuple (hg : Gl X "tuple") (hm : X.mg "tuple" = none) (ha : AA X [e] ms) (he : starEach [e] X.env = [(false, eval e X.env)]) : AE X (.Call (.Name "tuple" p) [e] [] pos) (mCall fTuple ms) :=
  ae_callTy call_tuple_of ok_tuple hg hm (by decide +kernel) ha (by decide) (by decide) he rfl
theorem ae_abs (hg : Gl X "abs") (hm : X.mg "abs" = none) (ha : AA X [e] ms) (he : starEach [e] X.env = [(false, eval e X.env)]) : AE X (.Call (.Name "abs" p) [e] [] pos) (mCall fAbs ms) :=
  ae_callB call_abs ok_abs hg hm (by decide +kernel) ha (by decide) (by decide) he rfl
theorem ae_sum (hc : X.calm = true) (hg : Gl X "sum") (hm : X.mg "sum" = none) (ha : AA X [e] ms) (he : starEach [e] X.env = [(false, eval e X.env)]) : AE X (.Call (.Name "sum" p) [e] [] pos) (mCall fSum ms) :=
  ae_callB (call_sumL hc) ok_sum hg hm (by decide +kernel) ha (by decide) (by decide) he rfl
theorem ae_max1 (hc : X.calm = true) (hg : Gl X "max") (hm : X.mg "max" = none) (ha : AA X [e] ms) (he : starEach [e] X.env = [(false, eval e X.env)]) : AE X (.Call (.Name "max" p) [e] [] pos) (mCall fMax ms) :=
  ae_callB ((call_maxL hc).or (call_max2 hc)) ok_max hg hm (by decide +kernel) ha (by decide) (by decide) he rfl
theorem ae_max2 (hc : X.calm = true) (hg : Gl X "max") (hm : X.mg "max" = none) (ha : AA X [e, f] ms) (he : starEach [e, f] X.env = (false, eval e X.env) :: starEach [f] X.env) (hf : (backTo pos (starEach [f] X.env)).any (·.1) = false) : AE X (.Call (.Name "max" p) [e, f] [] pos) (mCall fMax ms) :=
  ae_callB ((call_maxL hc).or (call_max2 hc)) ok_max hg hm (by decide +kernel) ha (by decide) (by decide) he hf
theorem ae_min2 (hc : X.calm = true) (hg : Gl X "min") (hm : X.mg "min" = none) (ha : AA X [e, f] ms) (he : starEach [e, f] X.env = (false, eval e X.env) :: starEach [f] X.env) (hf : (backTo pos (starEach [f] X.env)).any (·.1) = false) : AE X (.Call (.Name "min" p) [e, f] [] pos) (mCall fMin2 ms) :=
  ae_callB (call_min2 hc) ok_min2 hg hm (by decide +kernel) ha (by decide) (by decide) he hf
theorem ae_repr (hu : X.A.units + 1100 < cLine) (hgd : X.A.guards = some []) (hg : Gl X "repr") (hm : X.mg "repr" = none) (ha : AA X [e] ms) (he : starEach [e] X.env = [(false, eval e X.env)]) : AE X (.Call (.Name "repr" p) [e] [] pos) (mCall fRepr ms) :=
  ae_callB (call_repr hu hgd) ok_repr hg hm (by decide +kernel) ha (by decide) (by decide) he rfl
end

/-! ### a def of the text as callers see it -/
structure CF (P : Program) (w : World) (K : Fg) (mg : Str → Option Value) (base : Heap) (x : Str) (k n : Nat) (mf : MF) : Prop where
  ex : ∃ (f : Addr) (fd : FuncData) (ps : List Str), FnOk P w K mg base CX0 k f fd ps (spF K n mf) ∧ mg x = some (.ref f) ∧ PySem.W.keepIn K (.ref f) = true ∧ L2.Binds K fd ps []
section
variable {X : Cx} {k n : Nat} {mf : MF} {x : Str} {p pos : Pos} {e : Expr} {es : List Expr} {ms : Ev (List RV)}
theorem ae_fD (C : CF X.prog X.w X.K X.mg X.base x k n mf) (hr : Room k X.A) (hg : Gl X x) (ha : AA X (e :: es) ms) (hn : (e :: es).length = n) (hms : ∀ ρ rs ρ', ms ρ = some (rs, ρ') → rs.length = n)
    (hdb : (x == ("__debug__" : Str)) = false) (he : starEach (e :: es) X.env = (false, eval e X.env) :: starEach es X.env) (hpl : (backTo pos (starEach es X.env)).any (·.1) = false) : AE X (.Call (.Name x p) (e :: es) [] pos) (mFnD mf ms) := by
  obtain ⟨f, fd, ps, F, h1, h2, h3⟩ := C.ex
  exact ae_fnD F hr hg h1 h2 h3 ha hn hms hdb he hpl
theorem ae_f1 (C : CF X.prog X.w X.K X.mg X.base x k n mf) (hr : Room k X.A) (hg : Gl X x) (ha : AA X (e :: es) ms) (hn : (e :: es).length = n) (hms : ∀ ρ rs ρ', ms ρ = some (rs, ρ') → rs.length = n)
    (hdb : (x == ("__debug__" : Str)) = false) (he : starEach (e :: es) X.env = (false, eval e X.env) :: starEach es X.env) (hpl : (backTo pos (starEach es X.env)).any (·.1) = false) : AE X (.Call (.Name x p) (e :: es) [] pos) (mFn1 mf ms) := by
  obtain ⟨f, fd, ps, F, h1, h2, h3⟩ := C.ex
  exact ae_fn1 F hr hg h1 h2 h3 ha hn hms hdb he hpl
end
/-- nothing is promised of a def at no depth -/
theorem CF.zero {P : Program} {w : World} {K : Fg} {mg : Str → Option Value} {base : Heap} {x : Str} {f : Addr} {fd : FuncData} {ps : List Str} (k n : Nat) (h1 : mg x = some (.ref f)) (h2 : PySem.W.keepIn K (.ref f) = true) (h3 : L2.Binds K fd ps []) :
    CF P w K mg base x k n (fun _ => none) := ⟨f, fd, ps, ⟨fun vs H Q E h => (by obtain ⟨_, _, _, _, _, _, _, _, z, _⟩ := h; cases z), fun A outer s H args us vs Q E hr e0 hb hv h => (by obtain ⟨_, _, _, _, _, _, _, _, z, _⟩ := h; cases z)⟩, h1, h2, h3⟩
theorem room_u {k : Nat} {A : Around} (r : Room k A) : A.units + 1100 < cLine := by have := r.un; omega
end L3

set_option Elab.async false
set_option linter.all false
set_option maxRecDepth 100000
namespace PySem
open Sem (wp)
open AutoSeq1 (wpAny_loadPart')
section
variable {prog : Program} {w : World} {A : Around} {E : Value → Shared → Prop} {s : Shared}
theorem nextOf_tup_item {it t : Addr} {i : Nat} {items} {x : Value} {Q : Value → Shared → Prop} (hit : s.heap.IsTupleIter it t i)
    (ht : s.heap.IsTuple t items) (hx : items[i]? = some x)
    (hQ : ∀ h', h'.IsTupleIter it t (i + 1) → Heap.SameBut it s.heap h' → Q x { s with heap := h' }) :
    wpAny (model prog w) A (Builtin.SmallTypes.nextOf (.ref it)) Q E s := by
  obtain ⟨o, ho, hc, hd⟩ := id hit
  obtain ⟨ol, hol, _, nl, hdl⟩ := ht
  unfold Builtin.SmallTypes.nextOf
  refine wpAny_bind (wpAny_callSpecial?_slot (name := Str.ofString "__next__") hit.typeIs F.slot_tuple_iterator_next
    (wpAny_call_entry F.slot_tuple_iterator_next hit.typeIs F.entry_tuple_iterator_next ?_ (F.args_tuple_iterator_next_1 _)))
  show wpAny _ _ (field (.ref it) 0 >>= _) _ _ s
  refine wpAny_bind (wpAny_field ho hd (x := .ref t) rfl ?_)
  show wpAny _ _ (if (Value.ref t == Value.none) = true then _ else _) _ _ s
  rw [if_neg (show ¬ ((Value.ref t == Value.none) = true) from Bool.false_ne_true)]
  show wpAny _ _ (field (.ref it) 1 >>= _) _ _ s
  refine wpAny_bind (wpAny_field ho hd (x := .int i 0) rfl ?_)
  show wpAny _ _ (seqItems? (.ref t) >>= _) _ _ s
  refine wpAny_bind (wpAny_seqItems hol hdl ?_)
  simp only [Int.toNat_natCast, hx]
  refine wpAny_bind (wpAny_setField ho hd (by simp) (wpAny_pure ⟨x, rfl, wpAny_pure (hQ _ ?_ (Heap.SameBut.update ..))⟩))
  exact ⟨_, Heap.get?_update_self _ ho (Obj.isFreed_of_fields (Obj.data_mapFields hd _)), (Obj.cls_mapFields ..).trans hc, by
    rw [Obj.data_mapFields hd]; simp [rawInt]⟩
theorem nextOf_tup_end {it t : Addr} {i : Nat} {items} {Q : Value → Shared → Prop} (hh : A.handled = none)
    (hit : s.heap.IsTupleIter it t i) (ht : s.heap.IsTuple t items) (hx : items[i]? = none)
    (hE : ∀ h' e, Heap.ExtBut it s.heap h' → (∃ o, h'.get? e = some o ∧ o.cls = .type "StopIteration") → E (.ref e) { s with heap := h' }) :
    wpAny (model prog w) A (Builtin.SmallTypes.nextOf (.ref it)) Q E s := by
  obtain ⟨o, ho, hc, hd⟩ := id hit
  obtain ⟨ol, hol, _, nl, hdl⟩ := ht
  unfold Builtin.SmallTypes.nextOf
  refine wpAny_bind (wpAny_callSpecial?_slot (name := Str.ofString "__next__") hit.typeIs F.slot_tuple_iterator_next
    (wpAny_call_entry F.slot_tuple_iterator_next hit.typeIs F.entry_tuple_iterator_next ?_ (F.args_tuple_iterator_next_1 _)))
  show wpAny _ _ (field (.ref it) 0 >>= _) _ _ s
  refine wpAny_bind (wpAny_field ho hd (x := .ref t) rfl ?_)
  show wpAny _ _ (if (Value.ref t == Value.none) = true then _ else _) _ _ s
  rw [if_neg (show ¬ ((Value.ref t == Value.none) = true) from Bool.false_ne_true)]
  show wpAny _ _ (field (.ref it) 1 >>= _) _ _ s
  refine wpAny_bind (wpAny_field ho hd (x := .int i 0) rfl ?_)
  show wpAny _ _ (seqItems? (.ref t) >>= _) _ _ s
  refine wpAny_bind (wpAny_seqItems hol hdl ?_)
  simp only [Int.toNat_natCast, hx]
  refine wpAny_bind (wpAny_rule (wpAny_bind (wpAny_setField ho hd (by simp) ?_)))
  first
    | (show wpAny _ _ (newExc (.type "StopIteration") [] >>= _) _ _ _
       refine wpAny_bind ?_
       simp only [newExc, newTuple]
       refine wpAny_bind (wpAny_newObj_type ?_ (by size_fits))
       refine wpAny_bind (m := firstArgMember _ _) (wpAny_of_eq (a := Value.none) (by first | rfl | (simp only [firstArgMember]; rfl)) ?_)
       refine wpAny_newObj_type ?_ (by size_fits)
       simp only [raiseNew]
       refine wpAny_bind (wpAny_handled ?_)
       first | rw [show A.in1.handled = none from hh] | rw [hh]
       refine wpAny_bind (wpAny_pure (wpAny_throw ?_))
       exact hE _ _ (((Heap.SameBut.update ..).extBut.push _).push _) ⟨_, Heap.get?_push_size _ rfl, rfl⟩)
    | (refine wpAny_bind (wpAny_letGo ?_)
       show wpAny _ _ (newExc (.type "StopIteration") [] >>= _) _ _ _
       refine wpAny_bind ?_
       simp only [newExc, newTuple]
       refine wpAny_bind (wpAny_newObj_type ?_ (by size_fits))
       refine wpAny_bind (m := firstArgMember _ _) (wpAny_of_eq (a := Value.none) (by first | rfl | (simp only [firstArgMember]; rfl)) ?_)
       refine wpAny_newObj_type ?_ (by size_fits)
       simp only [raiseNew]
       refine wpAny_bind (wpAny_handled ?_)
       first | rw [show A.in1.handled = none from hh] | rw [hh]
       refine wpAny_bind (wpAny_pure (wpAny_throw ?_))
       exact hE _ _ (((Heap.SameBut.update ..).extBut.push _).push _) ⟨_, Heap.get?_push_size _ rfl, rfl⟩)
end
theorem draws_tup {prog : Program} {w : World} {A : Around} (hh : A.handled = none) (it l : Addr) (hne : l ≠ it) (items : Array Value) :
    Draws prog w A it [it, l] items.size (fun i v => items[i]? = some v) (fun i h => h.IsTupleIter it l i ∧ h.IsTuple l items) where
  live := fun _ _ st => let ⟨o, ho, _⟩ := st.1; ⟨o, ho⟩
  frame := fun _ _ _ st hk => ⟨st.1.at fun o e => hk it (by simp) o e, by obtain ⟨o, e, r⟩ := st.2; exact ⟨o, hk l (by simp) o e, r⟩⟩
  item := fun i s Q E hi st hQ => by
    refine nextOf_tup_item st.1 st.2 (x := items[i]) (by simp [hi]) fun h' hit' hs' => ?_
    exact hQ _ h' s.toks (by simp [hi]) ⟨hit', st.2.extBut hs'.extBut hne⟩ hs'
  done := fun s Q E st hE => nextOf_tup_end hh st.1 st.2 (by simp) hE
set_option maxHeartbeats 1000000 in
theorem meets_enum_newT (l : Addr) (items : Array Value) (n : Nat) (dct : Option Addr) (sl : Array (Option Value)) :
    Meets (Builtin.«enumerate.__new__» ⟨[.type "enumerate", .ref l], []⟩) (fun _ R s => s.heap.get? l = some { cls := .type "tuple", dict := dct, data := .seq items n, slots := sl } ∧
      R (.ok (.ret (.ref (s.heap.push { cls := .type "tuple_iterator", data := .fields #[.ref l, .int 0 0] }).objs.size)))
        { s with heap := (s.heap.push { cls := .type "tuple_iterator", data := .fields #[.ref l, .int 0 0] }).push { cls := .type "enumerate", data := .fields #[.none, .bool false, .ref s.heap.objs.size, rawInt 0, .none, .none] } }) :=
  .of_wp fun prog w A R s h => by
    obtain ⟨hp, g, d, tk, os⟩ := s; obtain ⟨hl, h⟩ := h
    have hsub := sub_enumerate
    have hL : Heap.IsTuple (Shared.heap ⟨hp, g, d, tk, os⟩) l items := ⟨_, hl, rfl, n, rfl⟩
    wp_walk using wpAny_loadPart' hl
    refine wpAny_stack_any fun st => wpAny_pure ?_
    split
    · rename_i c _ _ _ _ _
      cases (c == Value.type "enumerate")
      · wp_walk using wpAny_loadPart' hl, wpAny_pyIter_tuple hL
        exact ⟨_, rfl, h⟩
      · wp_walk using wpAny_loadPart' hl, wpAny_pyIter_tuple hL
        exact ⟨_, rfl, h⟩
    · wp_walk using wpAny_loadPart' hl, wpAny_pyIter_tuple hL
      exact ⟨_, rfl, h⟩
section
variable {prog : Program} {w : World} {A : Around} {E : Value → Shared → Prop} {s : Shared}
theorem call_enum_tuple {l : Addr} {items : Array Value} {Q : Value → Shared → Prop} (hL : s.heap.IsTuple l items)
    (h : ∀ h', IsEnum h' (s.heap.objs.size + 1) s.heap.objs.size 0 .none → h'.IsTupleIter s.heap.objs.size l 0 → h'.objs.size = s.heap.objs.size + 2 →
      (∀ b o, s.heap.get? b = some o → h'.get? b = some o) → Q (.ref (s.heap.objs.size + 1)) { s with heap := h' }) :
    wpAny (model prog w) A (call (.type "enumerate") [.ref l]) Q E s := by
  obtain ⟨⟨c, dct, dt, sl⟩, hl, hc, n, hd⟩ := hL
  replace hc : c = .type "tuple" := hc
  replace hd : dt = .seq items n := hd
  subst hc hd
  refine callType_new F.called_enumerate (by decide) (F.typeCall_enumerate_1 _) (F.newCall_enumerate_1 _) (fun obj => F.args_object_init_2 obj _) F.entry_enumerate_new
    (meets_enum_newT l items n dct sl) ⟨hl, ?_⟩
  have hz : (s.heap.push { cls := .type "tuple_iterator", data := .fields #[.ref l, .int 0 0] }).objs.size = s.heap.objs.size + 1 := Heap.size_push ..
  show _ ∧ _
  rw [hz]
  have he : IsEnum ((s.heap.push { cls := .type "tuple_iterator", data := .fields #[.ref l, .int 0 0] }).push
      { cls := .type "enumerate", data := .fields #[.none, .bool false, .ref s.heap.objs.size, rawInt 0, .none, .none] }) (s.heap.objs.size + 1) s.heap.objs.size 0 .none := by
    have := Heap.get?_push_size (s.heap.push { cls := .type "tuple_iterator", data := .fields #[.ref l, .int 0 0] })
      (o := { cls := .type "enumerate", data := .fields #[.none, .bool false, .ref s.heap.objs.size, rawInt 0, .none, .none] }) rfl
    rw [hz] at this; exact this
  refine ⟨⟨_, he, rfl⟩, h _ he ⟨_, Heap.get?_push_of_some _ (Heap.get?_push_size _ rfl), rfl, rfl⟩ (by rw [Heap.size_push, hz]) fun b o x => Heap.get?_push_of_some _ (Heap.get?_push_of_some _ x)⟩
end
end PySem
namespace L3
open PySem PySem.Spec PyProof.Rows L2
/-- (0, x), (1, y), .. of the tuple at a -/
def Ite (K : Fg) (a : Addr) : It :=
  ⟨fun i H => ∃ xs x, SqT K H a xs ∧ xs[i]? = some x, fun i H y H' => ∃ p x, (∀ xs, SqT K H a xs → xs[i]? = some x) ∧ H p = none ∧ y = .ref p ∧ H' = upd H p (.tup [.int i, x]), fun i H => ∃ xs, SqT K H a xs ∧ xs.length ≤ i⟩
theorem turn_enum {P : Program} {w : World} {K : Fg} {elts : List Expr} {x1 : Nat} {pos : Pos} (a it e : Addr) (hai : a ≠ it) (hei : e ≠ it) (hea : e ≠ a) :
    Turn P w K (.Tuple elts x1 pos) (Ite K a) [e, it] e (fun i h => (∃ old, IsEnum h e it i old) ∧ h.IsTupleIter it a i) where
  mem := by simp
  obj := fun i h st b hb => by
    obtain ⟨⟨old, he⟩, o, e1, c, d⟩ := st
    rcases List.mem_cons.mp hb with rfl | hb
    · exact ⟨_, he, fun v z => nomatch z⟩
    · rw [List.mem_singleton.mp hb]
      exact ⟨o, e1, fun v z => by rw [d] at z; cases z⟩
  keep := fun i h h' st k => by
    obtain ⟨⟨old, he⟩, ht⟩ := st
    exact ⟨⟨old, k e (by simp) _ he⟩, ht.at fun o e => k it (by simp) o e⟩
  item := by
    intro X hP hw hK hc i pins s σ H E I hf st hg
    subst hP hw hK
    obtain ⟨xs, x, hq, hx⟩ := hg
    obtain ⟨its, rv, p, hz⟩ := I.tuple hq
    obtain ⟨u, hu, ru⟩ := rv.get hx
    obtain ⟨⟨old, he⟩, ht⟩ := st
    have D := draws_tup (prog := X.prog) (w := X.w) (A := X.A.in1) (I.ok.hd hc) it a hai its.toArray
    have hi : i < its.toArray.size := by simpa using (List.getElem?_eq_some_iff.mp hu).1
    obtain ⟨f0, f1, f2, f3, f4, f5⟩ := hf e (by simp)
    obtain ⟨g0, g1, g2, g3, g4, g5⟩ := hf it (by simp)
    refine wpAny_pyNext_enum_itemD D he ⟨ht, show s.heap.IsTuple a its.toArray from p⟩ hi hei (by simp [hei, hea]) fun x' h' tk hP ho hs' hT hsz hk => ?_
    have ex : x' = u := by
      have : its.toArray[i]? = some x' := hP
      rw [List.getElem?_toArray, hu] at this
      exact (Option.some.inj this).symm
    subst ex
    have fr := I.fresh
    have lt : ∀ b, (∃ o, s.heap.get? b = some o) → b ≠ s.heap.objs.size := fun b ⟨o, q⟩ => Nat.ne_of_lt (Heap.lt_size q)
    refine ⟨_, rfl, wpAny_letOwnedTupleGo_enum ho fun h2 he2 sb2 => ?_⟩
    -- the two iterators have turned, a tuple is laid
    have nel : ∀ b, H b = none → b ≠ X.env.locals → True := fun _ _ _ => trivial
    have hpe : s.heap.objs.size ≠ e := Nat.ne_of_gt (Heap.lt_size he)
    have hpi : s.heap.objs.size ≠ it := by obtain ⟨o, e1, _⟩ := ht; exact Nat.ne_of_gt (Heap.lt_size e1)
    have keep2 : ∀ b o, b ≠ e → b ≠ it → s.heap.get? b = some o → h2.get? b = some o := fun b o h1 h2' q => (sb2.2 b h1).trans (hk b o h1 h2' q)
    have tup2 : h2.get? s.heap.objs.size = some { cls := .type "tuple", data := .seq #[.int i tk, x'] } := (sb2.2 _ hpe).trans hT
    have nit : ∀ b u, H b = some u → b ≠ e ∧ b ≠ it := fun b u q => ⟨fun z => (by rw [z, f0] at q; cases q), fun z => (by rw [z, g0] at q; cases q)⟩
    have hok : HOk X.prog X.w (upd H s.heap.objs.size (.tup [.int i, x])) h2 := fun b ob q => by
      by_cases hb : b = s.heap.objs.size
      · subst hb
        rw [upd_same] at q
        cases q
        exact ⟨by show 2 ≤ sizeLine; decide, [.int i tk, x'], .cons ⟨tk, rfl⟩ (.cons ru .nil), ⟨_, tup2, rfl, _, rfl⟩⟩
      · rw [upd_ne hb] at q
        refine (I.hok b ob q).stay (fun c v hc' z => ?_) (fun c z => by rw [upd_ne (ne_of_none z fr)]; exact z) fun c ys z => by rw [upd_ne (ne_of_none z fr)]; exact z
        rcases hc' with z' | z'
        · rw [z'] at z ⊢; exact keep2 b v (nit b ob q).1 (nit b ob q).2 z
        · exact keep2 c v (nit c _ z').1 (nit c _ z').2 z
    have I1 : Inv X pins σ (upd H s.heap.objs.size (.tup [.int i, x])) { s with heap := h2, toks := tk + 1 } := by
      refine I.step (g' := s.gens) (d' := s.drawn) (t' := tk + 1) (h' := h2) (ch := [e, it]) (fun b hb => ?_) (fun b o _ _ hch q _ => keep2 b o (fun z => hch (by simp [z])) (fun z => hch (by simp [z])) q) (fun b o _ _ hch q _ => ⟨o.slots, keep2 b o (fun z => hch (by simp [z])) (fun z => hch (by simp [z])) q⟩)
        (fun b o _ q n => by rw [upd_ne (lt b ⟨o, q⟩)]; exact n) (fun b o hch q => ⟨o, keep2 b o (fun z => hch (by simp [z])) (fun z => hch (by simp [z])) q⟩)
        (fun b ys q => by rw [upd_ne (ne_of_none q fr)]; exact q) (fun b o u' q => by rw [upd_ne (ne_of_none q fr)]; exact q) (fun b ps q => ⟨#[], by rw [upd_ne (ne_of_none q fr), q]; simp⟩) (fun m hm => ?_) hok I.bare
      · rcases List.mem_cons.mp hb with rfl | hb
        · exact ⟨f3, f1, f4, f5⟩
        · rw [List.mem_singleton.mp hb]; exact ⟨g3, g1, g4, g5⟩
      · obtain ⟨o, es, ep, ho', r⟩ := hm
        exact ⟨o, es, ep, keep2 _ o (Ne.symm f1) (Ne.symm g1) ho', r⟩
    refine ⟨.ref s.heap.objs.size, _, I1, rfl, ⟨_, x, fun ys hy => by rw [I.tuple_inj hy hq]; exact hx, fr, rfl, rfl⟩, ⟨⟨_, by simpa using he2⟩, ?_⟩, fun b hb => ?_⟩
    · obtain ⟨o, e1, r⟩ := hs'.1
      exact ⟨o, (sb2.2 it (Ne.symm hei)).trans e1, r⟩
    · rcases List.mem_cons.mp hb with rfl | hb
      · rw [upd_ne (Ne.symm hpe)]; exact f0
      · rw [List.mem_singleton.mp hb, upd_ne (Ne.symm hpi)]; exact g0
  done := by
    intro X hP hw hK hc i pins s σ H E I hf st hg
    subst hP hw hK
    obtain ⟨xs, hq, hx⟩ := hg
    obtain ⟨its, rv, p, hz⟩ := I.tuple hq
    obtain ⟨⟨old, he⟩, ht⟩ := st
    obtain ⟨g0, g1, g2, g3, g4, g5⟩ := hf it (by simp)
    have hl := rv.length
    have D := draws_tup (prog := X.prog) (w := X.w) (A := X.A.in1) (I.ok.hd hc) it a hai its.toArray
    have hT : s.TypeIs (.ref e) "enumerate" := ⟨_, he, rfl⟩
    unfold pyNext
    refine wpAny_bind (wpAny_attempt (wpAny_callSpecial?_slot (name := Str.ofString "__next__") hT F.slot_enumerate_next
      (wpAny_call_entry F.slot_enumerate_next hT F.entry_enumerate_next ?_ (F.args_enumerate_next_1 _))))
    show wpAny _ _ (field (.ref e) 2 >>= _) _ _ _
    refine wpAny_bind (wpAny_field he rfl (x := .ref it) rfl ?_)
    refine wpAny_bind (nextOf_tup_end (I.ok.hd hc) ht (show s.heap.IsTuple a its.toArray from p) (by simp; omega) fun h' x he' hx' => ?_)
    obtain ⟨o, ho, hcl⟩ := hx'
    refine wpAny_bind (wpAny_isInstance (T := "StopIteration") (b := true) ⟨o, ho, hcl⟩ isSubtype_stop ?_)
    exact wpAny_pure ⟨rfl, I.turned (t' := s.toks) (fun b o hb e => he' b o hb e) g0 g1 g3 g4 g5⟩
  self := fun _ _ _ _ _ st h => by
    obtain ⟨⟨old, he⟩, ht⟩ := st
    exact wpAny_pyIter_enum he h
def enumD (ds : List D) : List D := ds.zipIdx.map fun p => PyData.tuple [.int (p.2 : Int), p.1]
theorem enumD_length (ds : List D) : (enumD ds).length = ds.length := by simp [enumD]
theorem walk_enum {K : Fg} {F : Hp} {a : Addr} {vs : List V} {ds : List D} (h : SqT K F a vs) (r : RepL K F vs ds) : Walk K (Ite K a) (enumD ds) F where
  go := fun i G F2 σ H2 ρ s S hi => by
    have hi' : i < vs.length := by rw [r.length]; rw [enumD_length] at hi; exact hi
    exact ⟨vs, vs[i], sqT_mono S.fh (sqT_mono s h), by simp [hi']⟩
  yld := fun i G F2 σ H2 ρ x H3 d s S hd ⟨p, y, hy, hp, hx, hH⟩ => by
    subst hx hH
    unfold enumD at hd
    rw [List.getElem?_map, List.getElem?_zipIdx] at hd
    cases q : ds[i]? with
    | none => rw [q] at hd; cases hd
    | some d' =>
      rw [q] at hd
      simp at hd
      subst hd
      obtain ⟨v, e1, e2⟩ := r.get q
      have := hy vs (sqT_mono S.fh (sqT_mono s h))
      rw [e1] at this
      cases this
      obtain ⟨s2, S2, r2⟩ := S.newTup hp (RepL.cons (Rep.int (i : Int)) (RepL.cons (e2.mono s) RepL.nil))
      exact ⟨_, s2, S2, r2⟩
  stop := fun G F2 σ H2 ρ s S => ⟨vs, sqT_mono S.fh (sqT_mono s h), by rw [r.length, enumD_length]; exact Nat.le_refl _⟩
def iEnum (K : Fg) (tl : TA) : TI := fun σ H R => tl σ H fun xs H1 => ∃ a, xs = [.ref a] ∧ (∃ ys, SqT K H1 a ys) ∧ R (Ite K a) H1
theorem pi_enum {X : Cx} {e : Expr} {tl : TA} {elts : List Expr} {x1 : Nat} {tp p pos : Pos} (hg : Gl X "enumerate") (hm : X.mg "enumerate" = none) (ha : PA X [e] tl) (hs : starEach [e] X.env = [(false, eval e X.env)]) :
    PI X (.Tuple elts x1 tp) (.Call (.Name "enumerate" p) [e] [] pos) (iEnum X.K tl) := by
  intro pins s σ H R I h
  refine wpAny_Call_Name_kw (ld_blt I hg hm (show bootBuiltins "enumerate" = some (.type "enumerate") by decide +kernel) ?_ (by decide) (by decide))
  refine PyProof.Rows.callWith_type1 (thn (ha pos pins s σ H _ I h) fun us s1 ⟨vs, H1, I1, r1, q1⟩ => ?_) hs rfl
  obtain ⟨a, rfl, ⟨ys, hq⟩, q⟩ := q1
  obtain ⟨u, rfl, ru⟩ := Vals.one r1
  cases ru
  obtain ⟨its, rv, pt, hz⟩ := I1.tuple hq
  have alt : a < s1.heap.objs.size := by obtain ⟨o, e1, _⟩ := pt; exact Heap.lt_size e1
  refine call_enum_tuple (show s1.heap.IsTuple a its.toArray from pt) fun h' he ht hsz hk => ?_
  refine wpAny_pyIter_enum (s := { s1 with heap := h' }) he ?_
  refine ⟨s1.heap.objs.size + 1, [s1.heap.objs.size + 1, s1.heap.objs.size], _, _, H1, rfl, I1.kept (t' := s1.toks) hk, turn_enum a s1.heap.objs.size (s1.heap.objs.size + 1) (Nat.ne_of_lt alt) (Nat.succ_ne_self _) (Nat.ne_of_gt (Nat.lt_succ_of_lt alt)), ⟨⟨_, he⟩, ht⟩, fun b hb => ?_, q⟩
  rcases List.mem_cons.mp hb with rfl | hb
  · exact I1.fpOk (Nat.le_succ _) (I1.hok.fresh (Nat.le_succ _))
  · rw [List.mem_singleton.mp hb]
    exact I1.fpOk (Nat.le_refl _) (I1.hok.fresh (Nat.le_refl _))
def mEnum (ms : Ev (List RV)) : Ev (List D) := fun ρ => match ms ρ with
  | some (rs, ρ1) => match dats rs with
    | some [.tuple ds] => some (enumD ds, ρ1)
    | _ => none
  | none => none
theorem ai_enum {X : Cx} {e : Expr} {ms : Ev (List RV)} {elts : List Expr} {x1 : Nat} {tp p pos : Pos} (hg : Gl X "enumerate") (hm : X.mg "enumerate" = none) (ha : AA X [e] ms) (hs : starEach [e] X.env = [(false, eval e X.env)]) :
    AI X (.Tuple elts x1 tp) (.Call (.Name "enumerate" p) [e] [] pos) (mEnum ms) :=
  pi_weak (pi_enum hg hm ha hs) fun σ H R ⟨G, F, ρ, ds, ρ', S, eq, k⟩ => by
    unfold mEnum at eq
    split at eq
    case h_2 => cases eq
    rename_i rs ρ1 e1
    split at eq
    case h_2 => cases eq
    rename_i ds' hd
    cases eq
    refine ⟨G, F, ρ, rs, ρ', S, e1, fun vs F' H' s1 S1 r1 => ?_⟩
    have rp := dats_rep r1 hd
    cases rp with
    | cons h t =>
      cases t
      cases h with
      | tup h1 h2 => exact ⟨_, rfl, ⟨_, sqT_mono S1.fh h1⟩, k _ F' H' s1 S1 (walk_enum h1 h2)⟩
end L3

set_option Elab.async false
set_option linter.all false
set_option maxRecDepth 100000
namespace K03
open PySem PySem.Spec PyProof.Rows L2 L3
def top (i : Nat) : Stmt := PySem.Challenge.pw_passersby_k03_truths.main.body.getD i (.Pass ⟨0, 0, 0, 0⟩)
structure BN (mg : Str → Option Value) : Prop where
  range : mg "range" = none
  len : mg "len" = none
  tuple : mg "tuple" = none
  max : mg "max" = none
  min : mg "min" = none
  sum : mg "sum" = none
  abs : mg "abs" = none
  repr : mg "repr" = none
  enumerate : mg "enumerate" = none
section
variable {P : Program} {w : World} {K : Fg} {mg : Str → Option Value} {base : Heap}
abbrev s_hands_of : Stmt := top 2
abbrev N_hands_of : List Str := ["some", "counts"]
theorem sc_hands_of : FnScope N_hands_of ["some", "counts"] (defScope s_hands_of) := ⟨rfl, rfl, rfl, by decide +kernel, rfl, by decide +kernel, by decide +kernel⟩
abbrev N_hands_of_0 : List Str := ["some", "counts", "sort"]
theorem nd_N_hands_of_0 : N_hands_of_0.Nodup := by decide +kernel
def mb_hands_of : SM :=
  (mRet (mCall fSum (mCons (mComp 1 (mSeqI (mVar 0)) (gSet 2) mTrue (mBin opIx (mVar 1) (mVar 2))) mNil)))
def mf_hands_of : MF := fnOf 2 0 mb_hands_of
set_option maxHeartbeats 4000000 in
theorem ok_hands_of {f : Addr} {fd : FuncData} (F : Fun K "hands_of" "hands_of" s_hands_of f fd) (hmg : mg "hands_of" = some (.ref f)) (B : BN mg) : CF P w K mg base "hands_of" 1 2 mf_hands_of :=
  ⟨f, fd, ["some", "counts"], fn_ok (k := 0) F sc_hands_of fun cdv A outer s H E hr =>
  (ass_one (as_ret (ae_sum rfl rfl B.sum (aa_cons (ae_compC (N' := N_hands_of_0) (k := 1) rfl (compOk_of (N := N_hands_of) (sc := defScope s_hands_of) (by decide +kernel) rfl rfl) (ai_seq (ae_var (i := 0) rfl (by first | exact Or.inl rfl | exact Or.inr (Or.inl rfl) | exact Or.inr (Or.inr rfl)))) (fun cl s' H' fp C' => (ag_name (i := 2) (show 2 ≤ 2 by decide) nd_N_hands_of_0 rfl (by first | exact Or.inl rfl | exact Or.inr rfl) (.inr rfl))) (fun cl s' H' fp C' => ats_nil) (fun cl s' H' fp C' => (ae_ix ixr ok_ix (ae_var (i := 1) rfl (by first | exact Or.inl rfl | exact Or.inr (Or.inl rfl) | exact Or.inr (Or.inr rfl))) (ae_var (i := 2) rfl (by first | exact Or.inl rfl | exact Or.inr (Or.inl rfl) | exact Or.inr (Or.inr rfl))) (fun _ _ => rfl))) (fun _ => rfl)) aa_nil rfl) rfl))), hmg, F.kp, (F.binds fun _ _ _ _ _ _ us hl => match us, hl with | [_, _], _ => rfl)⟩
abbrev s_holds : Stmt := top 1
abbrev N_holds : List Str := ["question", "counts", "word", "many"]
theorem sc_holds : FnScope N_holds ["question", "counts"] (defScope s_holds) := ⟨rfl, rfl, rfl, by decide +kernel, rfl, by decide +kernel, by decide +kernel⟩
def mb_holds (self : MF) : SM :=
  (mSeq (mSet 2 (mBin opIx (mVar 0) (mCon (.int 0))))
   (mSeq (mIfS (mTest (mBin opEq (mVar 2) (mCon (.str "not"))))
    (mRet (mNotV (mFnD self (mConsD (mBin opIx (mVar 0) (mCon (.int 1))) (mConsD (mVar 1) mNil)))))
    mNext)
   (mSeq (mIfS (mTest (mBin opEq (mVar 2) (mCon (.str "both"))))
    (mRet (mAndV (mFnD self (mConsD (mBin opIx (mVar 0) (mCon (.int 1))) (mConsD (mVar 1) mNil))) (mFnD self (mConsD (mBin opIx (mVar 0) (mCon (.int 2))) (mConsD (mVar 1) mNil)))))
    mNext)
   (mSeq (mIfS (mTest (mBin opEq (mVar 2) (mCon (.str "either"))))
    (mRet (mOrV (mFnD self (mConsD (mBin opIx (mVar 0) (mCon (.int 1))) (mConsD (mVar 1) mNil))) (mFnD self (mConsD (mBin opIx (mVar 0) (mCon (.int 2))) (mConsD (mVar 1) mNil)))))
    mNext)
   (mSeq (mSet 3 (mFnD mf_hands_of (mConsD (mBin opIx (mVar 0) (mCon (.int 1))) (mConsD (mVar 1) mNil))))
   (mSeq (mIfS (mTest (mBin opEq (mVar 2) (mCon (.str "least"))))
    (mRet (mBin opGe (mVar 3) (mBin opIx (mVar 0) (mCon (.int 2)))))
    mNext)
   (mSeq (mIfS (mTest (mBin opEq (mVar 2) (mCon (.str "more"))))
    (mRet (mBin opGt (mVar 3) (mFnD mf_hands_of (mConsD (mBin opIx (mVar 0) (mCon (.int 2))) (mConsD (mVar 1) mNil)))))
    mNext)
   (mRet (mBin opEq (mBin opMod (mVar 3) (mBin opIx (mVar 0) (mCon (.int 2)))) (mBin opIx (mVar 0) (mCon (.int 3))))))))))))
def mf_holds : Nat → MF
  | 0 => fun _ => none
  | i + 1 => fnOf 2 2 (mb_holds (mf_holds i))
set_option maxHeartbeats 4000000 in
theorem ok_holds {f : Addr} {fd : FuncData} (F : Fun K "holds" "holds" s_holds f fd) (hmg : mg "holds" = some (.ref f)) (B : BN mg) (C_hands_of : CF P w K mg base "hands_of" 1 2 mf_hands_of) : ∀ i : Nat, CF P w K mg base "holds" (2 + i) 2 (mf_holds i)
  | 0 => CF.zero (ps := ["question", "counts"]) _ _ hmg F.kp (F.binds fun _ _ _ _ _ _ us hl => match us, hl with | [_, _], _ => rfl)
  | i + 1 => by
    have Cself := ok_holds F hmg B C_hands_of i
    exact ⟨f, fd, ["question", "counts"], fn_ok (k := 2 + i) F sc_holds fun cdv A outer s H E hr =>
  (ass_cons (as_set (i := 2) sc_holds.nd rfl (by first | exact Or.inl rfl | exact Or.inr rfl) (ae_ix ixr ok_ix (ae_var (i := 0) rfl (by first | exact Or.inl rfl | exact Or.inr (Or.inl rfl) | exact Or.inr (Or.inr rfl))) ae_int (fun _ _ => rfl)) rfl (.inl rfl))
   (ass_cons (as_if (at_cmp (opr_eq (room_u hr)) (ok_D2 eq_b) (ae_var (i := 2) rfl (by first | exact Or.inl rfl | exact Or.inr (Or.inl rfl) | exact Or.inr (Or.inr rfl))) ae_str rfl)
    (ass_one (as_ret (ae_not (ae_fD Cself (hr.mono (by omega)) rfl (aa_consD (ae_ix ixr ok_ix (ae_var (i := 0) rfl (by first | exact Or.inl rfl | exact Or.inr (Or.inl rfl) | exact Or.inr (Or.inr rfl))) ae_int (fun _ _ => rfl)) (aa_consD (ae_var (i := 1) rfl (by first | exact Or.inl rfl | exact Or.inr (Or.inl rfl) | exact Or.inr (Or.inr rfl))) aa_nil rfl) rfl) rfl (len_consD (len_consD len_nil)) (by decide) rfl rfl))))
    ass_nil)
   (ass_cons (as_if (at_cmp (opr_eq (room_u hr)) (ok_D2 eq_b) (ae_var (i := 2) rfl (by first | exact Or.inl rfl | exact Or.inr (Or.inl rfl) | exact Or.inr (Or.inr rfl))) ae_str rfl)
    (ass_one (as_ret (ae_and (ae_fD Cself (hr.mono (by omega)) rfl (aa_consD (ae_ix ixr ok_ix (ae_var (i := 0) rfl (by first | exact Or.inl rfl | exact Or.inr (Or.inl rfl) | exact Or.inr (Or.inr rfl))) ae_int (fun _ _ => rfl)) (aa_consD (ae_var (i := 1) rfl (by first | exact Or.inl rfl | exact Or.inr (Or.inl rfl) | exact Or.inr (Or.inr rfl))) aa_nil rfl) rfl) rfl (len_consD (len_consD len_nil)) (by decide) rfl rfl) (ae_one (ae_fD Cself (hr.mono (by omega)) rfl (aa_consD (ae_ix ixr ok_ix (ae_var (i := 0) rfl (by first | exact Or.inl rfl | exact Or.inr (Or.inl rfl) | exact Or.inr (Or.inr rfl))) ae_int (fun _ _ => rfl)) (aa_consD (ae_var (i := 1) rfl (by first | exact Or.inl rfl | exact Or.inr (Or.inl rfl) | exact Or.inr (Or.inr rfl))) aa_nil rfl) rfl) rfl (len_consD (len_consD len_nil)) (by decide) rfl rfl)))))
    ass_nil)
   (ass_cons (as_if (at_cmp (opr_eq (room_u hr)) (ok_D2 eq_b) (ae_var (i := 2) rfl (by first | exact Or.inl rfl | exact Or.inr (Or.inl rfl) | exact Or.inr (Or.inr rfl))) ae_str rfl)
    (ass_one (as_ret (ae_or (ae_fD Cself (hr.mono (by omega)) rfl (aa_consD (ae_ix ixr ok_ix (ae_var (i := 0) rfl (by first | exact Or.inl rfl | exact Or.inr (Or.inl rfl) | exact Or.inr (Or.inr rfl))) ae_int (fun _ _ => rfl)) (aa_consD (ae_var (i := 1) rfl (by first | exact Or.inl rfl | exact Or.inr (Or.inl rfl) | exact Or.inr (Or.inr rfl))) aa_nil rfl) rfl) rfl (len_consD (len_consD len_nil)) (by decide) rfl rfl) (ae_one (ae_fD Cself (hr.mono (by omega)) rfl (aa_consD (ae_ix ixr ok_ix (ae_var (i := 0) rfl (by first | exact Or.inl rfl | exact Or.inr (Or.inl rfl) | exact Or.inr (Or.inr rfl))) ae_int (fun _ _ => rfl)) (aa_consD (ae_var (i := 1) rfl (by first | exact Or.inl rfl | exact Or.inr (Or.inl rfl) | exact Or.inr (Or.inr rfl))) aa_nil rfl) rfl) rfl (len_consD (len_consD len_nil)) (by decide) rfl rfl)))))
    ass_nil)
   (ass_cons (as_set (i := 3) sc_holds.nd rfl (by first | exact Or.inl rfl | exact Or.inr rfl) (ae_fD C_hands_of (hr.mono (by omega)) rfl (aa_consD (ae_ix ixr ok_ix (ae_var (i := 0) rfl (by first | exact Or.inl rfl | exact Or.inr (Or.inl rfl) | exact Or.inr (Or.inr rfl))) ae_int (fun _ _ => rfl)) (aa_consD (ae_var (i := 1) rfl (by first | exact Or.inl rfl | exact Or.inr (Or.inl rfl) | exact Or.inr (Or.inr rfl))) aa_nil rfl) rfl) rfl (len_consD (len_consD len_nil)) (by decide) rfl rfl) rfl (.inl rfl))
   (ass_cons (as_if (at_cmp (opr_eq (room_u hr)) (ok_D2 eq_b) (ae_var (i := 2) rfl (by first | exact Or.inl rfl | exact Or.inr (Or.inl rfl) | exact Or.inr (Or.inr rfl))) ae_str rfl)
    (ass_one (as_ret (ae_cmp op_ge ok_ge (ae_var (i := 3) rfl (by first | exact Or.inl rfl | exact Or.inr (Or.inl rfl) | exact Or.inr (Or.inr rfl))) (ae_ix ixr ok_ix (ae_var (i := 0) rfl (by first | exact Or.inl rfl | exact Or.inr (Or.inl rfl) | exact Or.inr (Or.inr rfl))) ae_int (fun _ _ => rfl)) rfl)))
    ass_nil)
   (ass_cons (as_if (at_cmp (opr_eq (room_u hr)) (ok_D2 eq_b) (ae_var (i := 2) rfl (by first | exact Or.inl rfl | exact Or.inr (Or.inl rfl) | exact Or.inr (Or.inr rfl))) ae_str rfl)
    (ass_one (as_ret (ae_cmp op_gt ok_gt (ae_var (i := 3) rfl (by first | exact Or.inl rfl | exact Or.inr (Or.inl rfl) | exact Or.inr (Or.inr rfl))) (ae_fD C_hands_of (hr.mono (by omega)) rfl (aa_consD (ae_ix ixr ok_ix (ae_var (i := 0) rfl (by first | exact Or.inl rfl | exact Or.inr (Or.inl rfl) | exact Or.inr (Or.inr rfl))) ae_int (fun _ _ => rfl)) (aa_consD (ae_var (i := 1) rfl (by first | exact Or.inl rfl | exact Or.inr (Or.inl rfl) | exact Or.inr (Or.inr rfl))) aa_nil rfl) rfl) rfl (len_consD (len_consD len_nil)) (by decide) rfl rfl) rfl)))
    ass_nil)
   (ass_one (as_ret (ae_cmp (opr_eq (room_u hr)) (ok_D2 eq_b) (ae_bin op_mod ok_mod (ae_var (i := 3) rfl (by first | exact Or.inl rfl | exact Or.inr (Or.inl rfl) | exact Or.inr (Or.inr rfl))) (ae_ix ixr ok_ix (ae_var (i := 0) rfl (by first | exact Or.inl rfl | exact Or.inr (Or.inl rfl) | exact Or.inr (Or.inr rfl))) ae_int (fun _ _ => rfl))) (ae_ix ixr ok_ix (ae_var (i := 0) rfl (by first | exact Or.inl rfl | exact Or.inr (Or.inl rfl) | exact Or.inr (Or.inr rfl))) ae_int (fun _ _ => rfl)) rfl)))))))))), hmg, F.kp, (F.binds fun _ _ _ _ _ _ us hl => match us, hl with | [_, _], _ => rfl)⟩
abbrev s__law_feed : Stmt := top 4
abbrev N__law_feed : List Str := ["_law_script", "_law_k", "_law_cell", "_law_great"]
theorem sc__law_feed : FnScope N__law_feed ["_law_script", "_law_k"] (defScope s__law_feed) := ⟨rfl, rfl, rfl, by decide +kernel, rfl, by decide +kernel, by decide +kernel⟩
def mb__law_feed : SM :=
  (mSeq (mSet 2 (mIf (mTest (mBin opGt (mCall fLen (mCons (mVar 0) mNil)) (mCon (.int 0)))) (mBin opIx (mVar 0) (mBin opMod (mVar 1) (mCall fLen (mCons (mVar 0) mNil)))) (mCon (.int 0))))
   (mSeq (mSet 3 (mIf (mTest (mBin opGe (mCall fAbs (mCons (mVar 2) mNil)) (mBin opPow (mCon (.int 10)) (mCon (.int 18))))) (mCall fAbs (mCons (mVar 2) mNil)) (mCon (.int 0))))
   (mRet (mLst (mConsD (mVar 3) (mConsD (mBin opAddI (mBin opMod (mVar 2) (mCon (.int 1000003))) (mBin opMulI (mCon (.int 7919)) (mVar 1))) (mConsD (mCon (.int 0)) mNil)))))))
def mf__law_feed : MF := fnOf 2 2 mb__law_feed
set_option maxHeartbeats 4000000 in
theorem ok__law_feed {f : Addr} {fd : FuncData} (F : Fun K "_law_feed" "_law_feed" s__law_feed f fd) (hmg : mg "_law_feed" = some (.ref f)) (B : BN mg) : CF P w K mg base "_law_feed" 1 2 mf__law_feed :=
  ⟨f, fd, ["_law_script", "_law_k"], fn_ok (k := 0) F sc__law_feed fun cdv A outer s H E hr =>
  (ass_cons (as_set (i := 2) sc__law_feed.nd rfl (by first | exact Or.inl rfl | exact Or.inr rfl) (ae_if (at_cmp op_gt ok_gt (ae_len rfl B.len (aa_cons (ae_var (i := 0) rfl (by first | exact Or.inl rfl | exact Or.inr (Or.inl rfl) | exact Or.inr (Or.inr rfl))) aa_nil rfl) rfl) ae_int rfl) (ae_ix ixr ok_ix (ae_var (i := 0) rfl (by first | exact Or.inl rfl | exact Or.inr (Or.inl rfl) | exact Or.inr (Or.inr rfl))) (ae_bin op_mod ok_mod (ae_var (i := 1) rfl (by first | exact Or.inl rfl | exact Or.inr (Or.inl rfl) | exact Or.inr (Or.inr rfl))) (ae_len rfl B.len (aa_cons (ae_var (i := 0) rfl (by first | exact Or.inl rfl | exact Or.inr (Or.inl rfl) | exact Or.inr (Or.inr rfl))) aa_nil rfl) rfl)) (fun _ _ => rfl)) ae_int) rfl (.inl rfl))
   (ass_cons (as_set (i := 3) sc__law_feed.nd rfl (by first | exact Or.inl rfl | exact Or.inr rfl) (ae_if (at_cmp op_ge ok_ge (ae_abs rfl B.abs (aa_cons (ae_var (i := 2) rfl (by first | exact Or.inl rfl | exact Or.inr (Or.inl rfl) | exact Or.inr (Or.inr rfl))) aa_nil rfl) rfl) (ae_bin op_pow ok_pow ae_int ae_int) rfl) (ae_abs rfl B.abs (aa_cons (ae_var (i := 2) rfl (by first | exact Or.inl rfl | exact Or.inr (Or.inl rfl) | exact Or.inr (Or.inr rfl))) aa_nil rfl) rfl) ae_int) rfl (.inl rfl))
   (ass_one (as_ret (ae_lst (aa_consD (ae_var (i := 3) rfl (by first | exact Or.inl rfl | exact Or.inr (Or.inl rfl) | exact Or.inr (Or.inr rfl))) (aa_consD (ae_bin op_add ok_addI (ae_bin op_mod ok_mod (ae_var (i := 2) rfl (by first | exact Or.inl rfl | exact Or.inr (Or.inl rfl) | exact Or.inr (Or.inr rfl))) ae_int) (ae_bin op_mul ok_mulI ae_int (ae_var (i := 1) rfl (by first | exact Or.inl rfl | exact Or.inr (Or.inl rfl) | exact Or.inr (Or.inr rfl))))) (aa_consD ae_int aa_nil rfl) rfl) rfl)))))), hmg, F.kp, (F.binds fun _ _ _ _ _ _ us hl => match us, hl with | [_, _], _ => rfl)⟩
abbrev s__law_next : Stmt := top 5
abbrev N__law_next : List Str := ["_law_feed_here", "_law_many", "_law_digit", "_law_turn", "_law_one_here"]
theorem sc__law_next : FnScope N__law_next ["_law_feed_here", "_law_many"] (defScope s__law_next) := ⟨rfl, rfl, rfl, by decide +kernel, rfl, by decide +kernel, by decide +kernel⟩
def mb__law_next : SM :=
  (mSeq (mIfS (mTest (mBin opGt (mBin opIx (mVar 0) (mCon (.int 0))) (mCon (.int 0))))
    (mSeq (mSet 2 (mBin opMod (mBin opIx (mVar 0) (mCon (.int 0))) (mVar 1)))
   (mSeq (mPut (mVar 0) (mCon (.int 0)) (mBin opDiv (mBin opIx (mVar 0) (mCon (.int 0))) (mVar 1)))
   (mRet (mVar 2))))
    mNext)
   (mSeq (mSet 3 (mBin opAddI (mBin opIx (mVar 0) (mCon (.int 2))) (mCon (.int 1))))
   (mSeq (mPut (mVar 0) (mCon (.int 2)) (mVar 3))
   (mSeq (mSet 4 (mBin opMod (mBin opMulI (mBin opAddI (mBin opAddI (mBin opIx (mVar 0) (mCon (.int 1))) (mBin opMulI (mCon (.int 41)) (mVar 3))) (mCon (.int 3))) (mBin opAddI (mBin opMulI (mVar 3) (mVar 3)) (mCon (.int 69621)))) (mCon (.int 998244353))))
   (mRet (mBin opMod (mBin opDiv (mBin opMod (mBin opAddI (mBin opMulI (mVar 4) (mBin opAddI (mBin opMod (mVar 4) (mCon (.int 65519))) (mCon (.int 40692)))) (mVar 3)) (mCon (.int 2147483629))) (mCon (.int 13))) (mVar 1)))))))
def mf__law_next : MF := fnOf 2 3 mb__law_next
set_option maxHeartbeats 4000000 in
theorem ok__law_next {f : Addr} {fd : FuncData} (F : Fun K "_law_next" "_law_next" s__law_next f fd) (hmg : mg "_law_next" = some (.ref f)) (B : BN mg) : CF P w K mg base "_law_next" 1 2 mf__law_next :=
  ⟨f, fd, ["_law_feed_here", "_law_many"], fn_ok (k := 0) F sc__law_next fun cdv A outer s H E hr =>
  (ass_cons (as_if (at_cmp op_gt ok_gt (ae_ix ixr ok_ix (ae_var (i := 0) rfl (by first | exact Or.inl rfl | exact Or.inr (Or.inl rfl) | exact Or.inr (Or.inr rfl))) ae_int (fun _ _ => rfl)) ae_int rfl)
    (ass_cons (as_set (i := 2) sc__law_next.nd rfl (by first | exact Or.inl rfl | exact Or.inr rfl) (ae_bin op_mod ok_mod (ae_ix ixr ok_ix (ae_var (i := 0) rfl (by first | exact Or.inl rfl | exact Or.inr (Or.inl rfl) | exact Or.inr (Or.inr rfl))) ae_int (fun _ _ => rfl)) (ae_var (i := 1) rfl (by first | exact Or.inl rfl | exact Or.inr (Or.inl rfl) | exact Or.inr (Or.inr rfl)))) rfl (.inl rfl))
   (ass_cons (as_put (ae_var (i := 0) rfl (by first | exact Or.inl rfl | exact Or.inr (Or.inl rfl) | exact Or.inr (Or.inr rfl))) ae_int (ae_bin op_fdiv ok_div (ae_ix ixr ok_ix (ae_var (i := 0) rfl (by first | exact Or.inl rfl | exact Or.inr (Or.inl rfl) | exact Or.inr (Or.inr rfl))) ae_int (fun _ _ => rfl)) (ae_var (i := 1) rfl (by first | exact Or.inl rfl | exact Or.inr (Or.inl rfl) | exact Or.inr (Or.inr rfl)))) (fun _ => rfl) rfl rfl rfl)
   (ass_one (as_ret (ae_var (i := 2) rfl (by first | exact Or.inl rfl | exact Or.inr (Or.inl rfl) | exact Or.inr (Or.inr rfl)))))))
    ass_nil)
   (ass_cons (as_set (i := 3) sc__law_next.nd rfl (by first | exact Or.inl rfl | exact Or.inr rfl) (ae_bin op_add ok_addI (ae_ix ixr ok_ix (ae_var (i := 0) rfl (by first | exact Or.inl rfl | exact Or.inr (Or.inl rfl) | exact Or.inr (Or.inr rfl))) ae_int (fun _ _ => rfl)) ae_int) rfl (.inl rfl))
   (ass_cons (as_put (ae_var (i := 0) rfl (by first | exact Or.inl rfl | exact Or.inr (Or.inl rfl) | exact Or.inr (Or.inr rfl))) ae_int (ae_var (i := 3) rfl (by first | exact Or.inl rfl | exact Or.inr (Or.inl rfl) | exact Or.inr (Or.inr rfl))) (fun _ => rfl) rfl rfl rfl)
   (ass_cons (as_set (i := 4) sc__law_next.nd rfl (by first | exact Or.inl rfl | exact Or.inr rfl) (ae_bin op_mod ok_mod (ae_bin op_mul ok_mulI (ae_bin op_add ok_addI (ae_bin op_add ok_addI (ae_ix ixr ok_ix (ae_var (i := 0) rfl (by first | exact Or.inl rfl | exact Or.inr (Or.inl rfl) | exact Or.inr (Or.inr rfl))) ae_int (fun _ _ => rfl)) (ae_bin op_mul ok_mulI ae_int (ae_var (i := 3) rfl (by first | exact Or.inl rfl | exact Or.inr (Or.inl rfl) | exact Or.inr (Or.inr rfl))))) ae_int) (ae_bin op_add ok_addI (ae_bin op_mul ok_mulI (ae_var (i := 3) rfl (by first | exact Or.inl rfl | exact Or.inr (Or.inl rfl) | exact Or.inr (Or.inr rfl))) (ae_var (i := 3) rfl (by first | exact Or.inl rfl | exact Or.inr (Or.inl rfl) | exact Or.inr (Or.inr rfl)))) ae_int)) ae_int) rfl (.inl rfl))
   (ass_one (as_ret (ae_bin op_mod ok_mod (ae_bin op_fdiv ok_div (ae_bin op_mod ok_mod (ae_bin op_add ok_addI (ae_bin op_mul ok_mulI (ae_var (i := 4) rfl (by first | exact Or.inl rfl | exact Or.inr (Or.inl rfl) | exact Or.inr (Or.inr rfl))) (ae_bin op_add ok_addI (ae_bin op_mod ok_mod (ae_var (i := 4) rfl (by first | exact Or.inl rfl | exact Or.inr (Or.inl rfl) | exact Or.inr (Or.inr rfl))) ae_int) ae_int)) (ae_var (i := 3) rfl (by first | exact Or.inl rfl | exact Or.inr (Or.inl rfl) | exact Or.inr (Or.inr rfl)))) ae_int) ae_int) (ae_var (i := 1) rfl (by first | exact Or.inl rfl | exact Or.inr (Or.inl rfl) | exact Or.inr (Or.inr rfl)))))))))), hmg, F.kp, (F.binds fun _ _ _ _ _ _ us hl => match us, hl with | [_, _], _ => rfl)⟩
abbrev s__law_one : Stmt := top 6
abbrev N__law_one : List Str := ["_law_feed_here", "_law_some_here"]
theorem sc__law_one : FnScope N__law_one ["_law_feed_here", "_law_some_here"] (defScope s__law_one) := ⟨rfl, rfl, rfl, by decide +kernel, rfl, by decide +kernel, by decide +kernel⟩
def mb__law_one : SM :=
  (mRet (mBin opIx (mVar 1) (mFn1 mf__law_next (mCons (mVar 0) (mConsD (mCall fLen (mCons (mVar 1) mNil)) mNil)))))
def mf__law_one : MF := fnOf 2 0 mb__law_one
set_option maxHeartbeats 4000000 in
theorem ok__law_one {f : Addr} {fd : FuncData} (F : Fun K "_law_one" "_law_one" s__law_one f fd) (hmg : mg "_law_one" = some (.ref f)) (B : BN mg) (C__law_next : CF P w K mg base "_law_next" 1 2 mf__law_next) : CF P w K mg base "_law_one" 2 2 mf__law_one :=
  ⟨f, fd, ["_law_feed_here", "_law_some_here"], fn_ok (k := 1) F sc__law_one fun cdv A outer s H E hr =>
  (ass_one (as_ret (ae_ix ixr ok_ix (ae_var (i := 1) rfl (by first | exact Or.inl rfl | exact Or.inr (Or.inl rfl) | exact Or.inr (Or.inr rfl))) (ae_f1 C__law_next (hr.mono (by decide)) rfl (aa_cons (ae_var (i := 0) rfl (by first | exact Or.inl rfl | exact Or.inr (Or.inl rfl) | exact Or.inr (Or.inr rfl))) (aa_consD (ae_len rfl B.len (aa_cons (ae_var (i := 1) rfl (by first | exact Or.inl rfl | exact Or.inr (Or.inl rfl) | exact Or.inr (Or.inr rfl))) aa_nil rfl) rfl) aa_nil rfl) rfl) rfl (len_cons (len_consD len_nil)) (by decide) rfl rfl) (fun _ _ => rfl)))), hmg, F.kp, (F.binds fun _ _ _ _ _ _ us hl => match us, hl with | [_, _], _ => rfl)⟩
abbrev s__law_some : Stmt := top 7
abbrev N__law_some : List Str := ["_law_feed_here", "_law_sorts", "_law_least", "_law_some_here"]
theorem sc__law_some : FnScope N__law_some ["_law_feed_here", "_law_sorts", "_law_least"] (defScope s__law_some) := ⟨rfl, rfl, rfl, by decide +kernel, rfl, by decide +kernel, by decide +kernel⟩
abbrev N__law_some_0 : List Str := ["_law_feed_here", "_law_sorts", "_law_least", "_law_some_here", "_law_sort"]
theorem nd_N__law_some_0 : N__law_some_0.Nodup := by decide +kernel
def mb__law_some : SM :=
  (mSeq (mSet 3 (mComp 1 (mRange1 (mCons (mVar 1) mNil)) (gSet 4) (mTest (mBin opEq (mFn1 mf__law_next (mCons (mVar 0) (mConsD (mCon (.int 2)) mNil))) (mCon (.int 0)))) (mVar 4)))
   (mRet (mIf (mTest (mBin opGe (mCall fLen (mCons (mVar 3) mNil)) (mVar 2))) (mCall fTuple (mCons (mVar 3) mNil)) (mTup (mConsD (mFn1 mf__law_next (mCons (mVar 0) (mConsD (mVar 1) mNil))) mNil)))))
def mf__law_some : MF := fnOf 3 1 mb__law_some
set_option maxHeartbeats 4000000 in
theorem ok__law_some {f : Addr} {fd : FuncData} (F : Fun K "_law_some" "_law_some" s__law_some f fd) (hmg : mg "_law_some" = some (.ref f)) (B : BN mg) (C__law_next : CF P w K mg base "_law_next" 1 2 mf__law_next) : CF P w K mg base "_law_some" 2 3 mf__law_some :=
  ⟨f, fd, ["_law_feed_here", "_law_sorts", "_law_least"], fn_ok (k := 1) F sc__law_some fun cdv A outer s H E hr =>
  (ass_cons (as_setCompC (i := 3) sc__law_some.nd rfl (by first | exact Or.inl rfl | exact Or.inr rfl) (.inl rfl) (N' := N__law_some_0) (k := 1) rfl (compOk_of (N := N__law_some) (sc := defScope s__law_some) (by decide +kernel) rfl rfl) (ai_range1 rfl B.range (aa_cons (ae_var (i := 1) rfl (by first | exact Or.inl rfl | exact Or.inr (Or.inl rfl) | exact Or.inr (Or.inr rfl))) aa_nil rfl) rfl) (fun cl s' H' fp C' => (ag_name (i := 4) (show 4 ≤ 4 by decide) nd_N__law_some_0 rfl (by first | exact Or.inl rfl | exact Or.inr rfl) (.inr rfl))) (fun cl s' H' fp C' => (ats_one (at_cmp (opr_eq (room_u hr)) (ok_D2 eq_b) (ae_f1 C__law_next (hr.mono (by decide)) rfl (aa_cons (ae_var (i := 0) rfl (by first | exact Or.inl rfl | exact Or.inr (Or.inl rfl) | exact Or.inr (Or.inr rfl))) (aa_consD ae_int aa_nil rfl) rfl) rfl (len_cons (len_consD len_nil)) (by decide) rfl rfl) ae_int rfl))) (fun cl s' H' fp C' => (ae_var (i := 4) rfl (by first | exact Or.inl rfl | exact Or.inr (Or.inl rfl) | exact Or.inr (Or.inr rfl)))) rfl (fun _ => rfl))
   (ass_one (as_ret (ae_if (at_cmp op_ge ok_ge (ae_len rfl B.len (aa_cons (ae_var (i := 3) rfl (by first | exact Or.inl rfl | exact Or.inr (Or.inl rfl) | exact Or.inr (Or.inr rfl))) aa_nil rfl) rfl) (ae_var (i := 2) rfl (by first | exact Or.inl rfl | exact Or.inr (Or.inl rfl) | exact Or.inr (Or.inr rfl))) rfl) (ae_tuple rfl B.tuple (aa_cons (ae_var (i := 3) rfl (by first | exact Or.inl rfl | exact Or.inr (Or.inl rfl) | exact Or.inr (Or.inr rfl))) aa_nil rfl) rfl) (ae_tup (aa_consD (ae_f1 C__law_next (hr.mono (by decide)) rfl (aa_cons (ae_var (i := 0) rfl (by first | exact Or.inl rfl | exact Or.inr (Or.inl rfl) | exact Or.inr (Or.inr rfl))) (aa_consD (ae_var (i := 1) rfl (by first | exact Or.inl rfl | exact Or.inr (Or.inl rfl) | exact Or.inr (Or.inr rfl))) aa_nil rfl) rfl) rfl (len_cons (len_consD len_nil)) (by decide) rfl rfl) aa_nil rfl)))))), hmg, F.kp, (F.binds fun _ _ _ _ _ _ us hl => match us, hl with | [_, _, _], _ => rfl)⟩
abbrev s__law_plain : Stmt := top 8
abbrev N__law_plain : List Str := ["_law_feed_here", "_law_sorts", "_law_way", "_law_sides", "_law_these", "_law_by"]
theorem sc__law_plain : FnScope N__law_plain ["_law_feed_here", "_law_sorts"] (defScope s__law_plain) := ⟨rfl, rfl, rfl, by decide +kernel, rfl, by decide +kernel, by decide +kernel⟩
abbrev N__law_plain_0 : List Str := ["_law_feed_here", "_law_sorts", "_law_way", "_law_sides", "_law_these", "_law_by", "_law_sort"]
theorem nd_N__law_plain_0 : N__law_plain_0.Nodup := by decide +kernel
abbrev N__law_plain_1 : List Str := ["_law_feed_here", "_law_sorts", "_law_way", "_law_sides", "_law_these", "_law_by", "_law_sort"]
theorem nd_N__law_plain_1 : N__law_plain_1.Nodup := by decide +kernel
abbrev N__law_plain_2 : List Str := ["_law_feed_here", "_law_sorts", "_law_way", "_law_sides", "_law_these", "_law_by", "_law_sort"]
theorem nd_N__law_plain_2 : N__law_plain_2.Nodup := by decide +kernel
def mb__law_plain : SM :=
  (mSeq (mSet 2 (mFn1 mf__law_next (mCons (mVar 0) (mConsD (mCon (.int 3)) mNil))))
   (mSeq (mIfS (mTest (mBin opEq (mVar 2) (mCon (.int 0))))
    (mRet (mTup (mConsD (mCon (.str "least")) (mConsD (mFn1 mf__law_some (mCons (mVar 0) (mConsD (mVar 1) (mConsD (mCon (.int 1)) mNil)))) (mConsD (mBin opAddI (mCon (.int 1)) (mFn1 mf__law_next (mCons (mVar 0) (mConsD (mFn1 mf__law_one (mCons (mVar 0) (mConsD (mLst (mConsD (mCon (.int 3)) (mConsD (mCon (.int 9)) mNil))) mNil))) mNil)))) mNil)))))
    mNext)
   (mSeq (mIfS (mTest (mBin opEq (mVar 2) (mCon (.int 1))))
    (mSeq (mSet 3 (mComp 1 (mRange1 (mCons (mVar 1) mNil)) (gSet 6) mTrue (mFn1 mf__law_next (mCons (mVar 0) (mConsD (mCon (.int 3)) mNil)))))
   (mSeq (mSet 4 (mCall fTuple (mCons (mComp 1 (mRange1 (mCons (mVar 1) mNil)) (gSet 6) (mTest (mBin opEq (mBin opIx (mVar 3) (mVar 6)) (mCon (.int 0)))) (mVar 6)) mNil)))
   (mRet (mTup (mConsD (mCon (.str "more")) (mConsD (mVar 4) (mConsD (mCall fTuple (mCons (mComp 1 (mRange1 (mCons (mVar 1) mNil)) (gSet 6) (mTest (mBin opEq (mBin opIx (mVar 3) (mVar 6)) (mCon (.int 1)))) (mVar 6)) mNil)) mNil)))))))
    mNext)
   (mSeq (mSet 5 (mBin opAddI (mCon (.int 2)) (mFn1 mf__law_next (mCons (mVar 0) (mConsD (mFn1 mf__law_one (mCons (mVar 0) (mConsD (mLst (mConsD (mCon (.int 2)) (mConsD (mCon (.int 8)) mNil))) mNil))) mNil)))))
   (mRet (mTup (mConsD (mCon (.str "rest")) (mConsD (mFn1 mf__law_some (mCons (mVar 0) (mConsD (mVar 1) (mConsD (mCon (.int 1)) mNil)))) (mConsD (mVar 5) (mConsD (mFn1 mf__law_next (mCons (mVar 0) (mConsD (mVar 5) mNil))) mNil))))))))))
def mf__law_plain : MF := fnOf 2 4 mb__law_plain
set_option maxHeartbeats 4000000 in
theorem ok__law_plain {f : Addr} {fd : FuncData} (F : Fun K "_law_plain" "_law_plain" s__law_plain f fd) (hmg : mg "_law_plain" = some (.ref f)) (B : BN mg) (C__law_next : CF P w K mg base "_law_next" 1 2 mf__law_next) (C__law_some : CF P w K mg base "_law_some" 2 3 mf__law_some) (C__law_one : CF P w K mg base "_law_one" 2 2 mf__law_one) : CF P w K mg base "_law_plain" 3 2 mf__law_plain :=
  ⟨f, fd, ["_law_feed_here", "_law_sorts"], fn_ok (k := 2) F sc__law_plain fun cdv A outer s H E hr =>
  (ass_cons (as_set (i := 2) sc__law_plain.nd rfl (by first | exact Or.inl rfl | exact Or.inr rfl) (ae_f1 C__law_next (hr.mono (by decide)) rfl (aa_cons (ae_var (i := 0) rfl (by first | exact Or.inl rfl | exact Or.inr (Or.inl rfl) | exact Or.inr (Or.inr rfl))) (aa_consD ae_int aa_nil rfl) rfl) rfl (len_cons (len_consD len_nil)) (by decide) rfl rfl) rfl (.inl rfl))
   (ass_cons (as_if (at_cmp (opr_eq (room_u hr)) (ok_D2 eq_b) (ae_var (i := 2) rfl (by first | exact Or.inl rfl | exact Or.inr (Or.inl rfl) | exact Or.inr (Or.inr rfl))) ae_int rfl)
    (ass_one (as_ret (ae_tup (aa_consD ae_str (aa_consD (ae_f1 C__law_some (hr.mono (by decide)) rfl (aa_cons (ae_var (i := 0) rfl (by first | exact Or.inl rfl | exact Or.inr (Or.inl rfl) | exact Or.inr (Or.inr rfl))) (aa_consD (ae_var (i := 1) rfl (by first | exact Or.inl rfl | exact Or.inr (Or.inl rfl) | exact Or.inr (Or.inr rfl))) (aa_consD ae_int aa_nil rfl) rfl) rfl) rfl (len_cons (len_consD (len_consD len_nil))) (by decide) rfl rfl) (aa_consD (ae_bin op_add ok_addI ae_int (ae_f1 C__law_next (hr.mono (by decide)) rfl (aa_cons (ae_var (i := 0) rfl (by first | exact Or.inl rfl | exact Or.inr (Or.inl rfl) | exact Or.inr (Or.inr rfl))) (aa_consD (ae_f1 C__law_one (hr.mono (by decide)) rfl (aa_cons (ae_var (i := 0) rfl (by first | exact Or.inl rfl | exact Or.inr (Or.inl rfl) | exact Or.inr (Or.inr rfl))) (aa_consD (ae_lst (aa_consD ae_int (aa_consD ae_int aa_nil rfl) rfl)) aa_nil rfl) rfl) rfl (len_cons (len_consD len_nil)) (by decide) rfl rfl) aa_nil rfl) rfl) rfl (len_cons (len_consD len_nil)) (by decide) rfl rfl)) aa_nil rfl) rfl) rfl))))
    ass_nil)
   (ass_cons (as_if (at_cmp (opr_eq (room_u hr)) (ok_D2 eq_b) (ae_var (i := 2) rfl (by first | exact Or.inl rfl | exact Or.inr (Or.inl rfl) | exact Or.inr (Or.inr rfl))) ae_int rfl)
    (ass_cons (as_set (i := 3) sc__law_plain.nd rfl (by first | exact Or.inl rfl | exact Or.inr rfl) (ae_compC (N' := N__law_plain_0) (k := 1) rfl (compOk_of (N := N__law_plain) (sc := defScope s__law_plain) (by decide +kernel) rfl rfl) (ai_range1 rfl B.range (aa_cons (ae_var (i := 1) rfl (by first | exact Or.inl rfl | exact Or.inr (Or.inl rfl) | exact Or.inr (Or.inr rfl))) aa_nil rfl) rfl) (fun cl s' H' fp C' => (ag_name (i := 6) (show 6 ≤ 6 by decide) nd_N__law_plain_0 rfl (by first | exact Or.inl rfl | exact Or.inr rfl) (.inr rfl))) (fun cl s' H' fp C' => ats_nil) (fun cl s' H' fp C' => (ae_f1 C__law_next (hr.mono (by decide)) rfl (aa_cons (ae_var (i := 0) rfl (by first | exact Or.inl rfl | exact Or.inr (Or.inl rfl) | exact Or.inr (Or.inr rfl))) (aa_consD ae_int aa_nil rfl) rfl) rfl (len_cons (len_consD len_nil)) (by decide) rfl rfl)) (fun _ => rfl)) rfl (.inl rfl))
   (ass_cons (as_set (i := 4) sc__law_plain.nd rfl (by first | exact Or.inl rfl | exact Or.inr rfl) (ae_tuple rfl B.tuple (aa_cons (ae_compC (N' := N__law_plain_1) (k := 1) rfl (compOk_of (N := N__law_plain) (sc := defScope s__law_plain) (by decide +kernel) rfl rfl) (ai_range1 rfl B.range (aa_cons (ae_var (i := 1) rfl (by first | exact Or.inl rfl | exact Or.inr (Or.inl rfl) | exact Or.inr (Or.inr rfl))) aa_nil rfl) rfl) (fun cl s' H' fp C' => (ag_name (i := 6) (show 6 ≤ 6 by decide) nd_N__law_plain_1 rfl (by first | exact Or.inl rfl | exact Or.inr rfl) (.inr rfl))) (fun cl s' H' fp C' => (ats_one (at_cmp (opr_eq (room_u hr)) (ok_D2 eq_b) (ae_ix ixr ok_ix (ae_var (i := 3) rfl (by first | exact Or.inl rfl | exact Or.inr (Or.inl rfl) | exact Or.inr (Or.inr rfl))) (ae_var (i := 6) rfl (by first | exact Or.inl rfl | exact Or.inr (Or.inl rfl) | exact Or.inr (Or.inr rfl))) (fun _ _ => rfl)) ae_int rfl))) (fun cl s' H' fp C' => (ae_var (i := 6) rfl (by first | exact Or.inl rfl | exact Or.inr (Or.inl rfl) | exact Or.inr (Or.inr rfl)))) (fun _ => rfl)) aa_nil rfl) rfl) rfl (.inl rfl))
   (ass_one (as_ret (ae_tup (aa_consD ae_str (aa_consD (ae_var (i := 4) rfl (by first | exact Or.inl rfl | exact Or.inr (Or.inl rfl) | exact Or.inr (Or.inr rfl))) (aa_consD (ae_tuple rfl B.tuple (aa_cons (ae_compC (N' := N__law_plain_2) (k := 1) rfl (compOk_of (N := N__law_plain) (sc := defScope s__law_plain) (by decide +kernel) rfl rfl) (ai_range1 rfl B.range (aa_cons (ae_var (i := 1) rfl (by first | exact Or.inl rfl | exact Or.inr (Or.inl rfl) | exact Or.inr (Or.inr rfl))) aa_nil rfl) rfl) (fun cl s' H' fp C' => (ag_name (i := 6) (show 6 ≤ 6 by decide) nd_N__law_plain_2 rfl (by first | exact Or.inl rfl | exact Or.inr rfl) (.inr rfl))) (fun cl s' H' fp C' => (ats_one (at_cmp (opr_eq (room_u hr)) (ok_D2 eq_b) (ae_ix ixr ok_ix (ae_var (i := 3) rfl (by first | exact Or.inl rfl | exact Or.inr (Or.inl rfl) | exact Or.inr (Or.inr rfl))) (ae_var (i := 6) rfl (by first | exact Or.inl rfl | exact Or.inr (Or.inl rfl) | exact Or.inr (Or.inr rfl))) (fun _ _ => rfl)) ae_int rfl))) (fun cl s' H' fp C' => (ae_var (i := 6) rfl (by first | exact Or.inl rfl | exact Or.inr (Or.inl rfl) | exact Or.inr (Or.inr rfl)))) (fun _ => rfl)) aa_nil rfl) rfl) aa_nil rfl) rfl) rfl))))))
    ass_nil)
   (ass_cons (as_set (i := 5) sc__law_plain.nd rfl (by first | exact Or.inl rfl | exact Or.inr rfl) (ae_bin op_add ok_addI ae_int (ae_f1 C__law_next (hr.mono (by decide)) rfl (aa_cons (ae_var (i := 0) rfl (by first | exact Or.inl rfl | exact Or.inr (Or.inl rfl) | exact Or.inr (Or.inr rfl))) (aa_consD (ae_f1 C__law_one (hr.mono (by decide)) rfl (aa_cons (ae_var (i := 0) rfl (by first | exact Or.inl rfl | exact Or.inr (Or.inl rfl) | exact Or.inr (Or.inr rfl))) (aa_consD (ae_lst (aa_consD ae_int (aa_consD ae_int aa_nil rfl) rfl)) aa_nil rfl) rfl) rfl (len_cons (len_consD len_nil)) (by decide) rfl rfl) aa_nil rfl) rfl) rfl (len_cons (len_consD len_nil)) (by decide) rfl rfl)) rfl (.inl rfl))
   (ass_one (as_ret (ae_tup (aa_consD ae_str (aa_consD (ae_f1 C__law_some (hr.mono (by decide)) rfl (aa_cons (ae_var (i := 0) rfl (by first | exact Or.inl rfl | exact Or.inr (Or.inl rfl) | exact Or.inr (Or.inr rfl))) (aa_consD (ae_var (i := 1) rfl (by first | exact Or.inl rfl | exact Or.inr (Or.inl rfl) | exact Or.inr (Or.inr rfl))) (aa_consD ae_int aa_nil rfl) rfl) rfl) rfl (len_cons (len_consD (len_consD len_nil))) (by decide) rfl rfl) (aa_consD (ae_var (i := 5) rfl (by first | exact Or.inl rfl | exact Or.inr (Or.inl rfl) | exact Or.inr (Or.inr rfl))) (aa_consD (ae_f1 C__law_next (hr.mono (by decide)) rfl (aa_cons (ae_var (i := 0) rfl (by first | exact Or.inl rfl | exact Or.inr (Or.inl rfl) | exact Or.inr (Or.inr rfl))) (aa_consD (ae_var (i := 5) rfl (by first | exact Or.inl rfl | exact Or.inr (Or.inl rfl) | exact Or.inr (Or.inr rfl))) aa_nil rfl) rfl) rfl (len_cons (len_consD len_nil)) (by decide) rfl rfl) aa_nil rfl) rfl) rfl) rfl)))))))), hmg, F.kp, (F.binds fun _ _ _ _ _ _ us hl => match us, hl with | [_, _], _ => rfl)⟩
abbrev s__law_question : Stmt := top 9
abbrev N__law_question : List Str := ["_law_feed_here", "_law_sorts", "_law_size", "_law_deep", "_law_way", "_law_first", "_law_one_here"]
theorem sc__law_question : FnScope N__law_question ["_law_feed_here", "_law_sorts", "_law_size", "_law_deep"] (defScope s__law_question) := ⟨rfl, rfl, rfl, by decide +kernel, rfl, by decide +kernel, by decide +kernel⟩
def mb__law_question (self : MF) : SM :=
  (mSeq (mSet 4 (mFn1 mf__law_next (mCons (mVar 0) (mConsD (mCon (.int 4)) mNil))))
   (mSeq (mIfS (mOrT (mTest (mBin opEq (mVar 2) (mCon (.int 1)))) (mOrT (mTest (mBin opEq (mVar 3) (mCon (.int 1)))) (mTest (mBin opEq (mVar 4) (mCon (.int 0))))))
    (mRet (mFn1 mf__law_plain (mCons (mVar 0) (mConsD (mVar 1) mNil))))
    mNext)
   (mSeq (mIfS (mOrT (mTest (mBin opEq (mVar 4) (mCon (.int 1)))) (mTest (mBin opEq (mVar 2) (mCon (.int 2)))))
    (mRet (mTup (mConsD (mCon (.str "not")) (mConsD (mFn1 self (mCons (mVar 0) (mConsD (mVar 1) (mConsD (mBin opSub (mVar 2) (mCon (.int 1))) (mConsD (mBin opSub (mVar 3) (mCon (.int 1))) mNil))))) mNil))))
    mNext)
   (mSeq (mSet 5 (mBin opAddI (mCon (.int 1)) (mFn1 mf__law_next (mCons (mVar 0) (mConsD (mBin opSub (mVar 2) (mCon (.int 2))) mNil)))))
   (mSeq (mSet 6 (mFn1 self (mCons (mVar 0) (mConsD (mVar 1) (mConsD (mVar 5) (mConsD (mBin opSub (mVar 3) (mCon (.int 1))) mNil))))))
   (mRet (mTup (mConsD (mBin opIx (mLst (mConsD (mCon (.str "both")) (mConsD (mCon (.str "either")) mNil))) (mBin opMod (mVar 4) (mCon (.int 2)))) (mConsD (mVar 6) (mConsD (mFn1 self (mCons (mVar 0) (mConsD (mVar 1) (mConsD (mBin opSub (mBin opSub (mVar 2) (mCon (.int 1))) (mVar 5)) (mConsD (mBin opSub (mVar 3) (mCon (.int 1))) mNil))))) mNil))))))))))
def mf__law_question : Nat → MF
  | 0 => fun _ => none
  | i + 1 => fnOf 4 3 (mb__law_question (mf__law_question i))
set_option maxHeartbeats 4000000 in
theorem ok__law_question {f : Addr} {fd : FuncData} (F : Fun K "_law_question" "_law_question" s__law_question f fd) (hmg : mg "_law_question" = some (.ref f)) (B : BN mg) (C__law_next : CF P w K mg base "_law_next" 1 2 mf__law_next) (C__law_plain : CF P w K mg base "_law_plain" 3 2 mf__law_plain) : ∀ i : Nat, CF P w K mg base "_law_question" (4 + i) 4 (mf__law_question i)
  | 0 => CF.zero (ps := ["_law_feed_here", "_law_sorts", "_law_size", "_law_deep"]) _ _ hmg F.kp (F.binds fun _ _ _ _ _ _ us hl => match us, hl with | [_, _, _, _], _ => rfl)
  | i + 1 => by
    have Cself := ok__law_question F hmg B C__law_next C__law_plain i
    exact ⟨f, fd, ["_law_feed_here", "_law_sorts", "_law_size", "_law_deep"], fn_ok (k := 4 + i) F sc__law_question fun cdv A outer s H E hr =>
  (ass_cons (as_set (i := 4) sc__law_question.nd rfl (by first | exact Or.inl rfl | exact Or.inr rfl) (ae_f1 C__law_next (hr.mono (by omega)) rfl (aa_cons (ae_var (i := 0) rfl (by first | exact Or.inl rfl | exact Or.inr (Or.inl rfl) | exact Or.inr (Or.inr rfl))) (aa_consD ae_int aa_nil rfl) rfl) rfl (len_cons (len_consD len_nil)) (by decide) rfl rfl) rfl (.inl rfl))
   (ass_cons (as_if (at_aw (aw_or (at_cmp (opr_eq (room_u hr)) (ok_D2 eq_b) (ae_var (i := 2) rfl (by first | exact Or.inl rfl | exact Or.inr (Or.inl rfl) | exact Or.inr (Or.inr rfl))) ae_int rfl) (aw_or (at_cmp (opr_eq (room_u hr)) (ok_D2 eq_b) (ae_var (i := 3) rfl (by first | exact Or.inl rfl | exact Or.inr (Or.inl rfl) | exact Or.inr (Or.inr rfl))) ae_int rfl) (aw_or1 (at_cmp (opr_eq (room_u hr)) (ok_D2 eq_b) (ae_var (i := 4) rfl (by first | exact Or.inl rfl | exact Or.inr (Or.inl rfl) | exact Or.inr (Or.inr rfl))) ae_int rfl)))))
    (ass_one (as_ret (ae_f1 C__law_plain (hr.mono (by omega)) rfl (aa_cons (ae_var (i := 0) rfl (by first | exact Or.inl rfl | exact Or.inr (Or.inl rfl) | exact Or.inr (Or.inr rfl))) (aa_consD (ae_var (i := 1) rfl (by first | exact Or.inl rfl | exact Or.inr (Or.inl rfl) | exact Or.inr (Or.inr rfl))) aa_nil rfl) rfl) rfl (len_cons (len_consD len_nil)) (by decide) rfl rfl)))
    ass_nil)
   (ass_cons (as_if (at_aw (aw_or (at_cmp (opr_eq (room_u hr)) (ok_D2 eq_b) (ae_var (i := 4) rfl (by first | exact Or.inl rfl | exact Or.inr (Or.inl rfl) | exact Or.inr (Or.inr rfl))) ae_int rfl) (aw_or1 (at_cmp (opr_eq (room_u hr)) (ok_D2 eq_b) (ae_var (i := 2) rfl (by first | exact Or.inl rfl | exact Or.inr (Or.inl rfl) | exact Or.inr (Or.inr rfl))) ae_int rfl))))
    (ass_one (as_ret (ae_tup (aa_consD ae_str (aa_consD (ae_f1 Cself (hr.mono (by omega)) rfl (aa_cons (ae_var (i := 0) rfl (by first | exact Or.inl rfl | exact Or.inr (Or.inl rfl) | exact Or.inr (Or.inr rfl))) (aa_consD (ae_var (i := 1) rfl (by first | exact Or.inl rfl | exact Or.inr (Or.inl rfl) | exact Or.inr (Or.inr rfl))) (aa_consD (ae_bin op_sub ok_sub (ae_var (i := 2) rfl (by first | exact Or.inl rfl | exact Or.inr (Or.inl rfl) | exact Or.inr (Or.inr rfl))) ae_int) (aa_consD (ae_bin op_sub ok_sub (ae_var (i := 3) rfl (by first | exact Or.inl rfl | exact Or.inr (Or.inl rfl) | exact Or.inr (Or.inr rfl))) ae_int) aa_nil rfl) rfl) rfl) rfl) rfl (len_cons (len_consD (len_consD (len_consD len_nil)))) (by decide) rfl rfl) aa_nil rfl) rfl))))
    ass_nil)
   (ass_cons (as_set (i := 5) sc__law_question.nd rfl (by first | exact Or.inl rfl | exact Or.inr rfl) (ae_bin op_add ok_addI ae_int (ae_f1 C__law_next (hr.mono (by omega)) rfl (aa_cons (ae_var (i := 0) rfl (by first | exact Or.inl rfl | exact Or.inr (Or.inl rfl) | exact Or.inr (Or.inr rfl))) (aa_consD (ae_bin op_sub ok_sub (ae_var (i := 2) rfl (by first | exact Or.inl rfl | exact Or.inr (Or.inl rfl) | exact Or.inr (Or.inr rfl))) ae_int) aa_nil rfl) rfl) rfl (len_cons (len_consD len_nil)) (by decide) rfl rfl)) rfl (.inl rfl))
   (ass_cons (as_set (i := 6) sc__law_question.nd rfl (by first | exact Or.inl rfl | exact Or.inr rfl) (ae_f1 Cself (hr.mono (by omega)) rfl (aa_cons (ae_var (i := 0) rfl (by first | exact Or.inl rfl | exact Or.inr (Or.inl rfl) | exact Or.inr (Or.inr rfl))) (aa_consD (ae_var (i := 1) rfl (by first | exact Or.inl rfl | exact Or.inr (Or.inl rfl) | exact Or.inr (Or.inr rfl))) (aa_consD (ae_var (i := 5) rfl (by first | exact Or.inl rfl | exact Or.inr (Or.inl rfl) | exact Or.inr (Or.inr rfl))) (aa_consD (ae_bin op_sub ok_sub (ae_var (i := 3) rfl (by first | exact Or.inl rfl | exact Or.inr (Or.inl rfl) | exact Or.inr (Or.inr rfl))) ae_int) aa_nil rfl) rfl) rfl) rfl) rfl (len_cons (len_consD (len_consD (len_consD len_nil)))) (by decide) rfl rfl) rfl (.inl rfl))
   (ass_one (as_ret (ae_tup (aa_consD (ae_ix ixr ok_ix (ae_lst (aa_consD ae_str (aa_consD ae_str aa_nil rfl) rfl)) (ae_bin op_mod ok_mod (ae_var (i := 4) rfl (by first | exact Or.inl rfl | exact Or.inr (Or.inl rfl) | exact Or.inr (Or.inr rfl))) ae_int) (fun _ _ => rfl)) (aa_consD (ae_var (i := 6) rfl (by first | exact Or.inl rfl | exact Or.inr (Or.inl rfl) | exact Or.inr (Or.inr rfl))) (aa_consD (ae_f1 Cself (hr.mono (by omega)) rfl (aa_cons (ae_var (i := 0) rfl (by first | exact Or.inl rfl | exact Or.inr (Or.inl rfl) | exact Or.inr (Or.inr rfl))) (aa_consD (ae_var (i := 1) rfl (by first | exact Or.inl rfl | exact Or.inr (Or.inl rfl) | exact Or.inr (Or.inr rfl))) (aa_consD (ae_bin op_sub ok_sub (ae_bin op_sub ok_sub (ae_var (i := 2) rfl (by first | exact Or.inl rfl | exact Or.inr (Or.inl rfl) | exact Or.inr (Or.inr rfl))) ae_int) (ae_var (i := 5) rfl (by first | exact Or.inl rfl | exact Or.inr (Or.inl rfl) | exact Or.inr (Or.inr rfl)))) (aa_consD (ae_bin op_sub ok_sub (ae_var (i := 3) rfl (by first | exact Or.inl rfl | exact Or.inr (Or.inl rfl) | exact Or.inr (Or.inr rfl))) ae_int) aa_nil rfl) rfl) rfl) rfl) rfl (len_cons (len_consD (len_consD (len_consD len_nil)))) (by decide) rfl rfl) aa_nil rfl) rfl) rfl))))))))), hmg, F.kp, (F.binds fun _ _ _ _ _ _ us hl => match us, hl with | [_, _, _, _], _ => rfl)⟩
abbrev s__law_counts : Stmt := top 10
abbrev N__law_counts : List Str := ["_law_feed_here", "_law_sorts", "_law_most", "_law_row"]
theorem sc__law_counts : FnScope N__law_counts ["_law_feed_here", "_law_sorts"] (defScope s__law_counts) := ⟨rfl, rfl, rfl, by decide +kernel, rfl, by decide +kernel, by decide +kernel⟩
abbrev N__law_counts_0 : List Str := ["_law_feed_here", "_law_sorts", "_law_most", "_law_row", "_law_sort"]
theorem nd_N__law_counts_0 : N__law_counts_0.Nodup := by decide +kernel
def mb__law_counts : SM :=
  (mSeq (mSet 2 (mFn1 mf__law_one (mCons (mVar 0) (mConsD (mLst (mConsD (mCon (.int 2)) (mConsD (mCon (.int 4)) (mConsD (mCon (.int 12)) (mConsD (mBin opAddI (mBin opPow (mCon (.int 10)) (mCon (.int 6))) (mCon (.int 1))) mNil))))) mNil))))
   (mSeq (mSet 3 (mComp 1 (mRange1 (mCons (mVar 1) mNil)) (gSet 4) mTrue (mFn1 mf__law_next (mCons (mVar 0) (mConsD (mVar 2) mNil)))))
   (mSeq (mIfS (mTest (mBin opEq (mFn1 mf__law_next (mCons (mVar 0) (mConsD (mCon (.int 3)) mNil))) (mCon (.int 0))))
    (mSet 3 (mRepL (mConsD (mBin opIx (mVar 3) (mCon (.int 0))) mNil) (mVar 1)))
    mNext)
   (mSeq (mIfS (mTest (mBin opEq (mCall fMax (mCons (mVar 3) mNil)) (mCon (.int 0))))
    (mPut (mVar 3) (mFn1 mf__law_next (mCons (mVar 0) (mConsD (mVar 1) mNil))) (mCon (.int 1)))
    mNext)
   (mRet (mCall fTuple (mCons (mVar 3) mNil)))))))
def mf__law_counts : MF := fnOf 2 2 mb__law_counts
set_option maxHeartbeats 4000000 in
theorem ok__law_counts {f : Addr} {fd : FuncData} (F : Fun K "_law_counts" "_law_counts" s__law_counts f fd) (hmg : mg "_law_counts" = some (.ref f)) (B : BN mg) (C__law_one : CF P w K mg base "_law_one" 2 2 mf__law_one) (C__law_next : CF P w K mg base "_law_next" 1 2 mf__law_next) : CF P w K mg base "_law_counts" 3 2 mf__law_counts :=
  ⟨f, fd, ["_law_feed_here", "_law_sorts"], fn_ok (k := 2) F sc__law_counts fun cdv A outer s H E hr =>
  (ass_cons (as_set (i := 2) sc__law_counts.nd rfl (by first | exact Or.inl rfl | exact Or.inr rfl) (ae_f1 C__law_one (hr.mono (by decide)) rfl (aa_cons (ae_var (i := 0) rfl (by first | exact Or.inl rfl | exact Or.inr (Or.inl rfl) | exact Or.inr (Or.inr rfl))) (aa_consD (ae_lst (aa_consD ae_int (aa_consD ae_int (aa_consD ae_int (aa_consD (ae_bin op_add ok_addI (ae_bin op_pow ok_pow ae_int ae_int) ae_int) aa_nil rfl) rfl) rfl) rfl)) aa_nil rfl) rfl) rfl (len_cons (len_consD len_nil)) (by decide) rfl rfl) rfl (.inl rfl))
   (ass_cons (as_setCompC (i := 3) sc__law_counts.nd rfl (by first | exact Or.inl rfl | exact Or.inr rfl) (.inl rfl) (N' := N__law_counts_0) (k := 1) rfl (compOk_of (N := N__law_counts) (sc := defScope s__law_counts) (by decide +kernel) rfl rfl) (ai_range1 rfl B.range (aa_cons (ae_var (i := 1) rfl (by first | exact Or.inl rfl | exact Or.inr (Or.inl rfl) | exact Or.inr (Or.inr rfl))) aa_nil rfl) rfl) (fun cl s' H' fp C' => (ag_name (i := 4) (show 4 ≤ 4 by decide) nd_N__law_counts_0 rfl (by first | exact Or.inl rfl | exact Or.inr rfl) (.inr rfl))) (fun cl s' H' fp C' => ats_nil) (fun cl s' H' fp C' => (ae_f1 C__law_next (hr.mono (by decide)) rfl (aa_cons (ae_var (i := 0) rfl (by first | exact Or.inl rfl | exact Or.inr (Or.inl rfl) | exact Or.inr (Or.inr rfl))) (aa_consD (ae_var (i := 2) rfl (by first | exact Or.inl rfl | exact Or.inr (Or.inl rfl) | exact Or.inr (Or.inr rfl))) aa_nil rfl) rfl) rfl (len_cons (len_consD len_nil)) (by decide) rfl rfl)) rfl (fun _ => rfl))
   (ass_cons (as_if (at_cmp (opr_eq (room_u hr)) (ok_D2 eq_b) (ae_f1 C__law_next (hr.mono (by decide)) rfl (aa_cons (ae_var (i := 0) rfl (by first | exact Or.inl rfl | exact Or.inr (Or.inl rfl) | exact Or.inr (Or.inr rfl))) (aa_consD ae_int aa_nil rfl) rfl) rfl (len_cons (len_consD len_nil)) (by decide) rfl rfl) ae_int rfl)
    (ass_one (as_set (i := 3) sc__law_counts.nd rfl (by first | exact Or.inl rfl | exact Or.inr rfl) (ae_repL (aa_consD (ae_ix ixr ok_ix (ae_var (i := 3) rfl (by first | exact Or.inl rfl | exact Or.inr (Or.inl rfl) | exact Or.inr (Or.inr rfl))) ae_int (fun _ _ => rfl)) aa_nil rfl) (ae_var (i := 1) rfl (by first | exact Or.inl rfl | exact Or.inr (Or.inl rfl) | exact Or.inr (Or.inr rfl)))) rfl (.inl rfl)))
    ass_nil)
   (ass_cons (as_if (at_cmp (opr_eq (room_u hr)) (ok_D2 eq_b) (ae_max1 rfl rfl B.max (aa_cons (ae_var (i := 3) rfl (by first | exact Or.inl rfl | exact Or.inr (Or.inl rfl) | exact Or.inr (Or.inr rfl))) aa_nil rfl) rfl) ae_int rfl)
    (ass_one (as_put (ae_var (i := 3) rfl (by first | exact Or.inl rfl | exact Or.inr (Or.inl rfl) | exact Or.inr (Or.inr rfl))) (ae_f1 C__law_next (hr.mono (by decide)) rfl (aa_cons (ae_var (i := 0) rfl (by first | exact Or.inl rfl | exact Or.inr (Or.inl rfl) | exact Or.inr (Or.inr rfl))) (aa_consD (ae_var (i := 1) rfl (by first | exact Or.inl rfl | exact Or.inr (Or.inl rfl) | exact Or.inr (Or.inr rfl))) aa_nil rfl) rfl) rfl (len_cons (len_consD len_nil)) (by decide) rfl rfl) ae_int (fun _ => rfl) rfl rfl rfl))
    ass_nil)
   (ass_one (as_ret (ae_tuple rfl B.tuple (aa_cons (ae_var (i := 3) rfl (by first | exact Or.inl rfl | exact Or.inr (Or.inl rfl) | exact Or.inr (Or.inr rfl))) aa_nil rfl) rfl))))))), hmg, F.kp, (F.binds fun _ _ _ _ _ _ us hl => match us, hl with | [_, _], _ => rfl)⟩
abbrev s__law_truth : Stmt := top 11
abbrev N__law_truth : List Str := ["_law_question_here", "_law_counts_here", "_law_word", "_law_some_here", "_law_hands"]
theorem sc__law_truth : FnScope N__law_truth ["_law_question_here", "_law_counts_here"] (defScope s__law_truth) := ⟨rfl, rfl, rfl, by decide +kernel, rfl, by decide +kernel, by decide +kernel⟩
abbrev N__law_truth_0 : List Str := ["_law_question_here", "_law_counts_here", "_law_word", "_law_some_here", "_law_hands", "_law_part"]
theorem nd_N__law_truth_0 : N__law_truth_0.Nodup := by decide +kernel
abbrev N__law_truth_1 : List Str := ["_law_question_here", "_law_counts_here", "_law_word", "_law_some_here", "_law_hands", "_law_sort", "_law_many"]
theorem nd_N__law_truth_1 : N__law_truth_1.Nodup := by decide +kernel
abbrev N__law_truth_2 : List Str := ["_law_question_here", "_law_counts_here", "_law_word", "_law_some_here", "_law_hands", "_law_sort", "_law_many"]
theorem nd_N__law_truth_2 : N__law_truth_2.Nodup := by decide +kernel
def mb__law_truth (self : MF) : SM :=
  (mSeq (mSet 2 (mBin opIx (mVar 0) (mCon (.int 0))))
   (mSeq (mIfS (mTest (mBin opEq (mVar 2) (mCon (.str "not"))))
    (mRet (mNotV (mFnD self (mConsD (mBin opIx (mVar 0) (mCon (.int 1))) (mConsD (mVar 1) mNil)))))
    mNext)
   (mSeq (mIfS (mTest (mBin opIn (mVar 2) (mTup (mConsD (mCon (.str "both")) (mConsD (mCon (.str "either")) mNil)))))
    (mSeq (mSet 3 (mComp 1 (mSeqI (mSlice (mVar 0) (mInt (mCon (.int 1))) mNoI)) (gSet 5) mTrue (mFnD self (mConsD (mVar 5) (mConsD (mVar 1) mNil)))))
   (mRet (mIf (mTest (mBin opEq (mVar 2) (mCon (.str "both")))) (mAndV (mBin opIx (mVar 3) (mCon (.int 0))) (mBin opIx (mVar 3) (mCon (.int 1)))) (mOrV (mBin opIx (mVar 3) (mCon (.int 0))) (mBin opIx (mVar 3) (mCon (.int 1)))))))
    mNext)
   (mSeq (mSet 4 (mCall fSum (mCons (mComp 2 (mEnum (mConsD (mVar 1) mNil)) (gTupM 2 (gsCons (gSet 5) (gsCons (gSet 6) gsNil))) (mTest (mBin opIn (mVar 5) (mBin opIx (mVar 0) (mCon (.int 1))))) (mVar 6)) mNil)))
   (mSeq (mIfS (mTest (mBin opEq (mVar 2) (mCon (.str "least"))))
    (mRet (mBin opGe (mVar 4) (mBin opIx (mVar 0) (mCon (.int 2)))))
    mNext)
   (mSeq (mIfS (mTest (mBin opEq (mVar 2) (mCon (.str "more"))))
    (mRet (mBin opGt (mVar 4) (mCall fSum (mCons (mComp 2 (mEnum (mConsD (mVar 1) mNil)) (gTupM 2 (gsCons (gSet 5) (gsCons (gSet 6) gsNil))) (mTest (mBin opIn (mVar 5) (mBin opIx (mVar 0) (mCon (.int 2))))) (mVar 6)) mNil))))
    mNext)
   (mRet (mBin opEq (mBin opMod (mBin opSub (mVar 4) (mBin opIx (mVar 0) (mCon (.int 3)))) (mBin opIx (mVar 0) (mCon (.int 2)))) (mCon (.int 0))))))))))
def mf__law_truth : Nat → MF
  | 0 => fun _ => none
  | i + 1 => fnOf 2 3 (mb__law_truth (mf__law_truth i))
set_option maxHeartbeats 4000000 in
theorem ok__law_truth {f : Addr} {fd : FuncData} (F : Fun K "_law_truth" "_law_truth" s__law_truth f fd) (hmg : mg "_law_truth" = some (.ref f)) (B : BN mg) : ∀ i : Nat, CF P w K mg base "_law_truth" (1 + i) 2 (mf__law_truth i)
  | 0 => CF.zero (ps := ["_law_question_here", "_law_counts_here"]) _ _ hmg F.kp (F.binds fun _ _ _ _ _ _ us hl => match us, hl with | [_, _], _ => rfl)
  | i + 1 => by
    have Cself := ok__law_truth F hmg B  i
    exact ⟨f, fd, ["_law_question_here", "_law_counts_here"], fn_ok (k := 1 + i) F sc__law_truth fun cdv A outer s H E hr =>
  (ass_cons (as_set (i := 2) sc__law_truth.nd rfl (by first | exact Or.inl rfl | exact Or.inr rfl) (ae_ix ixr ok_ix (ae_var (i := 0) rfl (by first | exact Or.inl rfl | exact Or.inr (Or.inl rfl) | exact Or.inr (Or.inr rfl))) ae_int (fun _ _ => rfl)) rfl (.inl rfl))
   (ass_cons (as_if (at_cmp (opr_eq (room_u hr)) (ok_D2 eq_b) (ae_var (i := 2) rfl (by first | exact Or.inl rfl | exact Or.inr (Or.inl rfl) | exact Or.inr (Or.inr rfl))) ae_str rfl)
    (ass_one (as_ret (ae_not (ae_fD Cself (hr.mono (by omega)) rfl (aa_consD (ae_ix ixr ok_ix (ae_var (i := 0) rfl (by first | exact Or.inl rfl | exact Or.inr (Or.inl rfl) | exact Or.inr (Or.inr rfl))) ae_int (fun _ _ => rfl)) (aa_consD (ae_var (i := 1) rfl (by first | exact Or.inl rfl | exact Or.inr (Or.inl rfl) | exact Or.inr (Or.inr rfl))) aa_nil rfl) rfl) rfl (len_consD (len_consD len_nil)) (by decide) rfl rfl))))
    ass_nil)
   (ass_cons (as_if (at_cmp (opr_in (room_u hr)) (ok_D2 in_b) (ae_var (i := 2) rfl (by first | exact Or.inl rfl | exact Or.inr (Or.inl rfl) | exact Or.inr (Or.inr rfl))) (ae_tup (aa_consD ae_str (aa_consD ae_str aa_nil rfl) rfl)) rfl)
    (ass_cons (as_setCompC (i := 3) sc__law_truth.nd rfl (by first | exact Or.inl rfl | exact Or.inr rfl) (.inl rfl) (N' := N__law_truth_0) (k := 1) rfl (compOk_of (N := N__law_truth) (sc := defScope s__law_truth) (by decide +kernel) rfl rfl) (ai_seq (ae_slice (ae_var (i := 0) rfl (by first | exact Or.inl rfl | exact Or.inr (Or.inl rfl) | exact Or.inr (Or.inr rfl))) (ao_some ae_int) ao_none)) (fun cl s' H' fp C' => (ag_name (i := 5) (show 5 ≤ 5 by decide) nd_N__law_truth_0 rfl (by first | exact Or.inl rfl | exact Or.inr rfl) (.inr rfl))) (fun cl s' H' fp C' => ats_nil) (fun cl s' H' fp C' => (ae_fD Cself (hr.mono (by omega)) rfl (aa_consD (ae_var (i := 5) rfl (by first | exact Or.inl rfl | exact Or.inr (Or.inl rfl) | exact Or.inr (Or.inr rfl))) (aa_consD (ae_var (i := 1) rfl (by first | exact Or.inl rfl | exact Or.inr (Or.inl rfl) | exact Or.inr (Or.inr rfl))) aa_nil rfl) rfl) rfl (len_consD (len_consD len_nil)) (by decide) rfl rfl)) rfl (fun _ => rfl))
   (ass_one (as_ret (ae_if (at_cmp (opr_eq (room_u hr)) (ok_D2 eq_b) (ae_var (i := 2) rfl (by first | exact Or.inl rfl | exact Or.inr (Or.inl rfl) | exact Or.inr (Or.inr rfl))) ae_str rfl) (ae_and (ae_ix ixr ok_ix (ae_var (i := 3) rfl (by first | exact Or.inl rfl | exact Or.inr (Or.inl rfl) | exact Or.inr (Or.inr rfl))) ae_int (fun _ _ => rfl)) (ae_one (ae_ix ixr ok_ix (ae_var (i := 3) rfl (by first | exact Or.inl rfl | exact Or.inr (Or.inl rfl) | exact Or.inr (Or.inr rfl))) ae_int (fun _ _ => rfl)))) (ae_or (ae_ix ixr ok_ix (ae_var (i := 3) rfl (by first | exact Or.inl rfl | exact Or.inr (Or.inl rfl) | exact Or.inr (Or.inr rfl))) ae_int (fun _ _ => rfl)) (ae_one (ae_ix ixr ok_ix (ae_var (i := 3) rfl (by first | exact Or.inl rfl | exact Or.inr (Or.inl rfl) | exact Or.inr (Or.inr rfl))) ae_int (fun _ _ => rfl))))))))
    ass_nil)
   (ass_cons (as_set (i := 4) sc__law_truth.nd rfl (by first | exact Or.inl rfl | exact Or.inr rfl) (ae_sum rfl rfl B.sum (aa_cons (ae_compC (N' := N__law_truth_1) (k := 2) rfl (compOk_of (N := N__law_truth) (sc := defScope s__law_truth) (by decide +kernel) rfl rfl) (ai_enum rfl B.enumerate (aa_consD (ae_var (i := 1) rfl (by first | exact Or.inl rfl | exact Or.inr (Or.inl rfl) | exact Or.inr (Or.inr rfl))) aa_nil rfl) rfl) (fun cl s' H' fp C' => (ag_tup rfl (ags_cons (ag_name (i := 5) (show 5 ≤ 5 by decide) nd_N__law_truth_1 rfl (by first | exact Or.inl rfl | exact Or.inr rfl) (.inr rfl)) (ags_cons (ag_name (i := 6) (show 5 ≤ 6 by decide) nd_N__law_truth_1 rfl (by first | exact Or.inl rfl | exact Or.inr rfl) (.inr rfl)) ags_nil rfl) rfl) rfl rfl)) (fun cl s' H' fp C' => (ats_one (at_cmp (opr_in (room_u hr)) (ok_D2 in_b) (ae_var (i := 5) rfl (by first | exact Or.inl rfl | exact Or.inr (Or.inl rfl) | exact Or.inr (Or.inr rfl))) (ae_ix ixr ok_ix (ae_var (i := 0) rfl (by first | exact Or.inl rfl | exact Or.inr (Or.inl rfl) | exact Or.inr (Or.inr rfl))) ae_int (fun _ _ => rfl)) rfl))) (fun cl s' H' fp C' => (ae_var (i := 6) rfl (by first | exact Or.inl rfl | exact Or.inr (Or.inl rfl) | exact Or.inr (Or.inr rfl)))) (fun _ => rfl)) aa_nil rfl) rfl) rfl (.inl rfl))
   (ass_cons (as_if (at_cmp (opr_eq (room_u hr)) (ok_D2 eq_b) (ae_var (i := 2) rfl (by first | exact Or.inl rfl | exact Or.inr (Or.inl rfl) | exact Or.inr (Or.inr rfl))) ae_str rfl)
    (ass_one (as_ret (ae_cmp op_ge ok_ge (ae_var (i := 4) rfl (by first | exact Or.inl rfl | exact Or.inr (Or.inl rfl) | exact Or.inr (Or.inr rfl))) (ae_ix ixr ok_ix (ae_var (i := 0) rfl (by first | exact Or.inl rfl | exact Or.inr (Or.inl rfl) | exact Or.inr (Or.inr rfl))) ae_int (fun _ _ => rfl)) rfl)))
    ass_nil)
   (ass_cons (as_if (at_cmp (opr_eq (room_u hr)) (ok_D2 eq_b) (ae_var (i := 2) rfl (by first | exact Or.inl rfl | exact Or.inr (Or.inl rfl) | exact Or.inr (Or.inr rfl))) ae_str rfl)
    (ass_one (as_ret (ae_cmp op_gt ok_gt (ae_var (i := 4) rfl (by first | exact Or.inl rfl | exact Or.inr (Or.inl rfl) | exact Or.inr (Or.inr rfl))) (ae_sum rfl rfl B.sum (aa_cons (ae_compC (N' := N__law_truth_2) (k := 2) rfl (compOk_of (N := N__law_truth) (sc := defScope s__law_truth) (by decide +kernel) rfl rfl) (ai_enum rfl B.enumerate (aa_consD (ae_var (i := 1) rfl (by first | exact Or.inl rfl | exact Or.inr (Or.inl rfl) | exact Or.inr (Or.inr rfl))) aa_nil rfl) rfl) (fun cl s' H' fp C' => (ag_tup rfl (ags_cons (ag_name (i := 5) (show 5 ≤ 5 by decide) nd_N__law_truth_2 rfl (by first | exact Or.inl rfl | exact Or.inr rfl) (.inr rfl)) (ags_cons (ag_name (i := 6) (show 5 ≤ 6 by decide) nd_N__law_truth_2 rfl (by first | exact Or.inl rfl | exact Or.inr rfl) (.inr rfl)) ags_nil rfl) rfl) rfl rfl)) (fun cl s' H' fp C' => (ats_one (at_cmp (opr_in (room_u hr)) (ok_D2 in_b) (ae_var (i := 5) rfl (by first | exact Or.inl rfl | exact Or.inr (Or.inl rfl) | exact Or.inr (Or.inr rfl))) (ae_ix ixr ok_ix (ae_var (i := 0) rfl (by first | exact Or.inl rfl | exact Or.inr (Or.inl rfl) | exact Or.inr (Or.inr rfl))) ae_int (fun _ _ => rfl)) rfl))) (fun cl s' H' fp C' => (ae_var (i := 6) rfl (by first | exact Or.inl rfl | exact Or.inr (Or.inl rfl) | exact Or.inr (Or.inr rfl)))) (fun _ => rfl)) aa_nil rfl) rfl) rfl)))
    ass_nil)
   (ass_one (as_ret (ae_cmp (opr_eq (room_u hr)) (ok_D2 eq_b) (ae_bin op_mod ok_mod (ae_bin op_sub ok_sub (ae_var (i := 4) rfl (by first | exact Or.inl rfl | exact Or.inr (Or.inl rfl) | exact Or.inr (Or.inr rfl))) (ae_ix ixr ok_ix (ae_var (i := 0) rfl (by first | exact Or.inl rfl | exact Or.inr (Or.inl rfl) | exact Or.inr (Or.inr rfl))) ae_int (fun _ _ => rfl))) (ae_ix ixr ok_ix (ae_var (i := 0) rfl (by first | exact Or.inl rfl | exact Or.inr (Or.inl rfl) | exact Or.inr (Or.inr rfl))) ae_int (fun _ _ => rfl))) ae_int rfl))))))))), hmg, F.kp, (F.binds fun _ _ _ _ _ _ us hl => match us, hl with | [_, _], _ => rfl)⟩
abbrev s_law : Stmt := top 12
abbrev N_law : List Str := ["_law_script", "_law_k", "_law_feed_here", "_law_sorts", "_law_question_here", "_law_turn", "_law_counts_here", "_law_due"]
theorem sc_law : FnScope N_law ["_law_script"] (defScope s_law) := ⟨rfl, rfl, rfl, by decide +kernel, rfl, by decide +kernel, by decide +kernel⟩
def mb_law : SM :=
  (mSeq (mFor (mRange1 (mCons (mBin opAddI (mCon (.int 2)) (mCall fMin2 (mCons (mCon (.int 14)) (mCons (mCall fLen (mCons (mVar 0) mNil)) mNil)))) mNil)) (gSet 1)
    (mSeq (mSet 2 (mFnD mf__law_feed (mConsD (mVar 0) (mConsD (mVar 1) mNil))))
   (mSeq (mSet 3 (mBin opAddI (mCon (.int 1)) (mFn1 mf__law_next (mCons (mVar 2) (mConsD (mCon (.int 4)) mNil)))))
   (mSeq (mSet 4 (mFn1 (mf__law_question 4) (mCons (mVar 2) (mConsD (mVar 3) (mConsD (mBin opAddI (mCon (.int 1)) (mFn1 mf__law_next (mCons (mVar 2) (mConsD (mCon (.int 6)) mNil)))) (mConsD (mCon (.int 3)) mNil))))))
   (mFor (mRange1 (mCons (mCon (.int 5)) mNil)) (gSet 5)
    (mSeq (mSet 6 (mFn1 mf__law_counts (mCons (mVar 2) (mConsD (mVar 3) mNil))))
   (mSeq (mSet 7 (mFnD (mf__law_truth 4) (mConsD (mVar 4) (mConsD (mVar 6) mNil))))
   (mIfS (mTest (mBin opNe (mCall fRepr (mCons (mLst (mConsD (mFnD (mf_holds 5) (mConsD (mVar 4) (mConsD (mVar 6) mNil))) (mConsD (mFnD (mf_holds 5) (mConsD (mTup (mConsD (mCon (.str "not")) (mConsD (mVar 4) mNil))) (mConsD (mVar 6) mNil))) mNil))) mNil)) (mCall fRepr (mCons (mLst (mConsD (mVar 7) (mConsD (mNotV (mVar 7)) mNil))) mNil))))
    (mRet (mCon (.bool false)))
    mNext))))))))
   (mRet (mCon (.bool true))))
def mf_law : MF := fnOf 1 7 mb_law
set_option maxHeartbeats 4000000 in
theorem ok_law {f : Addr} {fd : FuncData} (F : Fun K "law" "law" s_law f fd) (hmg : mg "law" = some (.ref f)) (B : BN mg) (C__law_feed : CF P w K mg base "_law_feed" 1 2 mf__law_feed) (C__law_question : CF P w K mg base "_law_question" 8 4 (mf__law_question 4)) (C__law_next : CF P w K mg base "_law_next" 1 2 mf__law_next) (C__law_counts : CF P w K mg base "_law_counts" 3 2 mf__law_counts) (C__law_truth : CF P w K mg base "_law_truth" 5 2 (mf__law_truth 4)) (C_holds : CF P w K mg base "holds" 7 2 (mf_holds 5)) : CF P w K mg base "law" 9 1 mf_law :=
  ⟨f, fd, ["_law_script"], fn_ok (k := 8) F sc_law fun cdv A outer s H E hr =>
  (ass_cons (as_for PassesOwn.never rfl (ai_range1 rfl B.range (aa_cons (ae_bin op_add ok_addI ae_int (ae_min2 rfl rfl B.min (aa_cons ae_int (aa_cons (ae_len rfl B.len (aa_cons (ae_var (i := 0) rfl (by first | exact Or.inl rfl | exact Or.inr (Or.inl rfl) | exact Or.inr (Or.inr rfl))) aa_nil rfl) rfl) aa_nil rfl) rfl) rfl rfl)) aa_nil rfl) rfl) (ag_name (i := 1) (Nat.zero_le _) sc_law.nd rfl (by first | exact Or.inl rfl | exact Or.inr rfl) (.inl rfl))
    (ass_cons (as_set (i := 2) sc_law.nd rfl (by first | exact Or.inl rfl | exact Or.inr rfl) (ae_fD C__law_feed (hr.mono (by decide)) rfl (aa_consD (ae_var (i := 0) rfl (by first | exact Or.inl rfl | exact Or.inr (Or.inl rfl) | exact Or.inr (Or.inr rfl))) (aa_consD (ae_var (i := 1) rfl (by first | exact Or.inl rfl | exact Or.inr (Or.inl rfl) | exact Or.inr (Or.inr rfl))) aa_nil rfl) rfl) rfl (len_consD (len_consD len_nil)) (by decide) rfl rfl) rfl (.inl rfl))
   (ass_cons (as_set (i := 3) sc_law.nd rfl (by first | exact Or.inl rfl | exact Or.inr rfl) (ae_bin op_add ok_addI ae_int (ae_f1 C__law_next (hr.mono (by decide)) rfl (aa_cons (ae_var (i := 2) rfl (by first | exact Or.inl rfl | exact Or.inr (Or.inl rfl) | exact Or.inr (Or.inr rfl))) (aa_consD ae_int aa_nil rfl) rfl) rfl (len_cons (len_consD len_nil)) (by decide) rfl rfl)) rfl (.inl rfl))
   (ass_cons (as_set (i := 4) sc_law.nd rfl (by first | exact Or.inl rfl | exact Or.inr rfl) (ae_f1 C__law_question (hr.mono (by decide)) rfl (aa_cons (ae_var (i := 2) rfl (by first | exact Or.inl rfl | exact Or.inr (Or.inl rfl) | exact Or.inr (Or.inr rfl))) (aa_consD (ae_var (i := 3) rfl (by first | exact Or.inl rfl | exact Or.inr (Or.inl rfl) | exact Or.inr (Or.inr rfl))) (aa_consD (ae_bin op_add ok_addI ae_int (ae_f1 C__law_next (hr.mono (by decide)) rfl (aa_cons (ae_var (i := 2) rfl (by first | exact Or.inl rfl | exact Or.inr (Or.inl rfl) | exact Or.inr (Or.inr rfl))) (aa_consD ae_int aa_nil rfl) rfl) rfl (len_cons (len_consD len_nil)) (by decide) rfl rfl)) (aa_consD ae_int aa_nil rfl) rfl) rfl) rfl) rfl (len_cons (len_consD (len_consD (len_consD len_nil)))) (by decide) rfl rfl) rfl (.inl rfl))
   (ass_one (as_for PassesOwn.never rfl (ai_range1 rfl B.range (aa_cons ae_int aa_nil rfl) rfl) (ag_name (i := 5) (Nat.zero_le _) sc_law.nd rfl (by first | exact Or.inl rfl | exact Or.inr rfl) (.inl rfl))
    (ass_cons (as_set (i := 6) sc_law.nd rfl (by first | exact Or.inl rfl | exact Or.inr rfl) (ae_f1 C__law_counts (hr.mono (by decide)) rfl (aa_cons (ae_var (i := 2) rfl (by first | exact Or.inl rfl | exact Or.inr (Or.inl rfl) | exact Or.inr (Or.inr rfl))) (aa_consD (ae_var (i := 3) rfl (by first | exact Or.inl rfl | exact Or.inr (Or.inl rfl) | exact Or.inr (Or.inr rfl))) aa_nil rfl) rfl) rfl (len_cons (len_consD len_nil)) (by decide) rfl rfl) rfl (.inl rfl))
   (ass_cons (as_set (i := 7) sc_law.nd rfl (by first | exact Or.inl rfl | exact Or.inr rfl) (ae_fD C__law_truth (hr.mono (by decide)) rfl (aa_consD (ae_var (i := 4) rfl (by first | exact Or.inl rfl | exact Or.inr (Or.inl rfl) | exact Or.inr (Or.inr rfl))) (aa_consD (ae_var (i := 6) rfl (by first | exact Or.inl rfl | exact Or.inr (Or.inl rfl) | exact Or.inr (Or.inr rfl))) aa_nil rfl) rfl) rfl (len_consD (len_consD len_nil)) (by decide) rfl rfl) rfl (.inl rfl))
   (ass_one (as_if (at_cmp (opr_ne (room_u hr)) (ok_D2 ne_b) (ae_repr (room_u hr) hr.gd rfl B.repr (aa_cons (ae_lst (aa_consD (ae_fD C_holds (hr.mono (by decide)) rfl (aa_consD (ae_var (i := 4) rfl (by first | exact Or.inl rfl | exact Or.inr (Or.inl rfl) | exact Or.inr (Or.inr rfl))) (aa_consD (ae_var (i := 6) rfl (by first | exact Or.inl rfl | exact Or.inr (Or.inl rfl) | exact Or.inr (Or.inr rfl))) aa_nil rfl) rfl) rfl (len_consD (len_consD len_nil)) (by decide) rfl rfl) (aa_consD (ae_fD C_holds (hr.mono (by decide)) rfl (aa_consD (ae_tup (aa_consD ae_str (aa_consD (ae_var (i := 4) rfl (by first | exact Or.inl rfl | exact Or.inr (Or.inl rfl) | exact Or.inr (Or.inr rfl))) aa_nil rfl) rfl)) (aa_consD (ae_var (i := 6) rfl (by first | exact Or.inl rfl | exact Or.inr (Or.inl rfl) | exact Or.inr (Or.inr rfl))) aa_nil rfl) rfl) rfl (len_consD (len_consD len_nil)) (by decide) rfl rfl) aa_nil rfl) rfl)) aa_nil rfl) rfl) (ae_repr (room_u hr) hr.gd rfl B.repr (aa_cons (ae_lst (aa_consD (ae_var (i := 7) rfl (by first | exact Or.inl rfl | exact Or.inr (Or.inl rfl) | exact Or.inr (Or.inr rfl))) (aa_consD (ae_not (ae_var (i := 7) rfl (by first | exact Or.inl rfl | exact Or.inr (Or.inl rfl) | exact Or.inr (Or.inr rfl)))) aa_nil rfl) rfl)) aa_nil rfl) rfl) rfl)
    (ass_one (as_ret ae_bl))
    ass_nil)))) (fun _ => rfl)))))) (fun _ => rfl))
   (ass_one (as_ret ae_bl))), hmg, F.kp, (F.binds fun _ _ _ _ _ _ us hl => match us, hl with | [_], _ => rfl)⟩
set_option maxHeartbeats 4000000 in
theorem fn_law {f : Addr} {fd : FuncData} (F : Fun K "law" "law" s_law f fd) (B : BN mg) (C__law_feed : CF P w K mg base "_law_feed" 1 2 mf__law_feed) (C__law_question : CF P w K mg base "_law_question" 8 4 (mf__law_question 4)) (C__law_next : CF P w K mg base "_law_next" 1 2 mf__law_next) (C__law_counts : CF P w K mg base "_law_counts" 3 2 mf__law_counts) (C__law_truth : CF P w K mg base "_law_truth" 5 2 (mf__law_truth 4)) (C_holds : CF P w K mg base "holds" 7 2 (mf_holds 5)) : FnOk P w K mg base CX0 9 f fd ["_law_script"] (spF K 1 mf_law) :=
  fn_ok (k := 8) F sc_law fun cdv A outer s H E hr =>
  (ass_cons (as_for PassesOwn.never rfl (ai_range1 rfl B.range (aa_cons (ae_bin op_add ok_addI ae_int (ae_min2 rfl rfl B.min (aa_cons ae_int (aa_cons (ae_len rfl B.len (aa_cons (ae_var (i := 0) rfl (by first | exact Or.inl rfl | exact Or.inr (Or.inl rfl) | exact Or.inr (Or.inr rfl))) aa_nil rfl) rfl) aa_nil rfl) rfl) rfl rfl)) aa_nil rfl) rfl) (ag_name (i := 1) (Nat.zero_le _) sc_law.nd rfl (by first | exact Or.inl rfl | exact Or.inr rfl) (.inl rfl))
    (ass_cons (as_set (i := 2) sc_law.nd rfl (by first | exact Or.inl rfl | exact Or.inr rfl) (ae_fD C__law_feed (hr.mono (by decide)) rfl (aa_consD (ae_var (i := 0) rfl (by first | exact Or.inl rfl | exact Or.inr (Or.inl rfl) | exact Or.inr (Or.inr rfl))) (aa_consD (ae_var (i := 1) rfl (by first | exact Or.inl rfl | exact Or.inr (Or.inl rfl) | exact Or.inr (Or.inr rfl))) aa_nil rfl) rfl) rfl (len_consD (len_consD len_nil)) (by decide) rfl rfl) rfl (.inl rfl))
   (ass_cons (as_set (i := 3) sc_law.nd rfl (by first | exact Or.inl rfl | exact Or.inr rfl) (ae_bin op_add ok_addI ae_int (ae_f1 C__law_next (hr.mono (by decide)) rfl (aa_cons (ae_var (i := 2) rfl (by first | exact Or.inl rfl | exact Or.inr (Or.inl rfl) | exact Or.inr (Or.inr rfl))) (aa_consD ae_int aa_nil rfl) rfl) rfl (len_cons (len_consD len_nil)) (by decide) rfl rfl)) rfl (.inl rfl))
   (ass_cons (as_set (i := 4) sc_law.nd rfl (by first | exact Or.inl rfl | exact Or.inr rfl) (ae_f1 C__law_question (hr.mono (by decide)) rfl (aa_cons (ae_var (i := 2) rfl (by first | exact Or.inl rfl | exact Or.inr (Or.inl rfl) | exact Or.inr (Or.inr rfl))) (aa_consD (ae_var (i := 3) rfl (by first | exact Or.inl rfl | exact Or.inr (Or.inl rfl) | exact Or.inr (Or.inr rfl))) (aa_consD (ae_bin op_add ok_addI ae_int (ae_f1 C__law_next (hr.mono (by decide)) rfl (aa_cons (ae_var (i := 2) rfl (by first | exact Or.inl rfl | exact Or.inr (Or.inl rfl) | exact Or.inr (Or.inr rfl))) (aa_consD ae_int aa_nil rfl) rfl) rfl (len_cons (len_consD len_nil)) (by decide) rfl rfl)) (aa_consD ae_int aa_nil rfl) rfl) rfl) rfl) rfl (len_cons (len_consD (len_consD (len_consD len_nil)))) (by decide) rfl rfl) rfl (.inl rfl))
   (ass_one (as_for PassesOwn.never rfl (ai_range1 rfl B.range (aa_cons ae_int aa_nil rfl) rfl) (ag_name (i := 5) (Nat.zero_le _) sc_law.nd rfl (by first | exact Or.inl rfl | exact Or.inr rfl) (.inl rfl))
    (ass_cons (as_set (i := 6) sc_law.nd rfl (by first | exact Or.inl rfl | exact Or.inr rfl) (ae_f1 C__law_counts (hr.mono (by decide)) rfl (aa_cons (ae_var (i := 2) rfl (by first | exact Or.inl rfl | exact Or.inr (Or.inl rfl) | exact Or.inr (Or.inr rfl))) (aa_consD (ae_var (i := 3) rfl (by first | exact Or.inl rfl | exact Or.inr (Or.inl rfl) | exact Or.inr (Or.inr rfl))) aa_nil rfl) rfl) rfl (len_cons (len_consD len_nil)) (by decide) rfl rfl) rfl (.inl rfl))
   (ass_cons (as_set (i := 7) sc_law.nd rfl (by first | exact Or.inl rfl | exact Or.inr rfl) (ae_fD C__law_truth (hr.mono (by decide)) rfl (aa_consD (ae_var (i := 4) rfl (by first | exact Or.inl rfl | exact Or.inr (Or.inl rfl) | exact Or.inr (Or.inr rfl))) (aa_consD (ae_var (i := 6) rfl (by first | exact Or.inl rfl | exact Or.inr (Or.inl rfl) | exact Or.inr (Or.inr rfl))) aa_nil rfl) rfl) rfl (len_consD (len_consD len_nil)) (by decide) rfl rfl) rfl (.inl rfl))
   (ass_one (as_if (at_cmp (opr_ne (room_u hr)) (ok_D2 ne_b) (ae_repr (room_u hr) hr.gd rfl B.repr (aa_cons (ae_lst (aa_consD (ae_fD C_holds (hr.mono (by decide)) rfl (aa_consD (ae_var (i := 4) rfl (by first | exact Or.inl rfl | exact Or.inr (Or.inl rfl) | exact Or.inr (Or.inr rfl))) (aa_consD (ae_var (i := 6) rfl (by first | exact Or.inl rfl | exact Or.inr (Or.inl rfl) | exact Or.inr (Or.inr rfl))) aa_nil rfl) rfl) rfl (len_consD (len_consD len_nil)) (by decide) rfl rfl) (aa_consD (ae_fD C_holds (hr.mono (by decide)) rfl (aa_consD (ae_tup (aa_consD ae_str (aa_consD (ae_var (i := 4) rfl (by first | exact Or.inl rfl | exact Or.inr (Or.inl rfl) | exact Or.inr (Or.inr rfl))) aa_nil rfl) rfl)) (aa_consD (ae_var (i := 6) rfl (by first | exact Or.inl rfl | exact Or.inr (Or.inl rfl) | exact Or.inr (Or.inr rfl))) aa_nil rfl) rfl) rfl (len_consD (len_consD len_nil)) (by decide) rfl rfl) aa_nil rfl) rfl)) aa_nil rfl) rfl) (ae_repr (room_u hr) hr.gd rfl B.repr (aa_cons (ae_lst (aa_consD (ae_var (i := 7) rfl (by first | exact Or.inl rfl | exact Or.inr (Or.inl rfl) | exact Or.inr (Or.inr rfl))) (aa_consD (ae_not (ae_var (i := 7) rfl (by first | exact Or.inl rfl | exact Or.inr (Or.inl rfl) | exact Or.inr (Or.inr rfl)))) aa_nil rfl) rfl)) aa_nil rfl) rfl) rfl)
    (ass_one (as_ret ae_bl))
    ass_nil)))) (fun _ => rfl)))))) (fun _ => rfl))
   (ass_one (as_ret ae_bl)))
end
end K03

set_option Elab.async false
set_option linter.all false
set_option maxRecDepth 100000
namespace K03
open PySem PySem.Spec PyProof.Rows L2 L3

/-- a feed: its great number, its seed, its turn; n more draws are sure to fit -/
structure Fd where
  g : Int
  c : Int
  t : Int
def Fd.d (f : Fd) : List D := [.int f.g, .int f.c, .int f.t]
def Fd.ok (n : Nat) (f : Fd) : Prop := 0 ≤ f.g ∧ 0 ≤ f.c ∧ f.c ≤ 1000000000 ∧ 0 ≤ f.t ∧ f.t + n ≤ 1000000
theorem Fd.ok.le {m n : Nat} {f : Fd} (h : f.ok n) (hm : m ≤ n) : f.ok m := ⟨h.1, h.2.1, h.2.2.1, h.2.2.2.1, by have := h.2.2.2.2; omega⟩
theorem atI3_0 (a b c : D) : atI [a, b, c] 0 = some a := rfl
theorem atI3_1 (a b c : D) : atI [a, b, c] 1 = some b := rfl
theorem atI3_2 (a b c : D) : atI [a, b, c] 2 = some c := rfl
theorem ix3_0 : ixN 3 0 = some 0 := rfl
theorem ix3_2 : ixN 3 2 = some 2 := rfl
theorem next_ok {f : Fd} {n : Nat} {m : Int} (h : f.ok (n + 1)) (hm : 0 < m) (hm2 : m < 1073741824) :
    ∃ d f', 0 ≤ d ∧ d < m ∧ Fd.ok n f' ∧ mf__law_next [.op (.l f.d), .fz (.int m)] = some (.fz (.int d), [.op (.l f'.d), .fz (.int m)]) := by
  obtain ⟨g, c, t⟩ := f
  obtain ⟨h1, h2, h3, h4, h5⟩ := h
  simp only at h1 h2 h3 h4 h5
  by_cases hg : 0 < g
  · refine ⟨g % m, ⟨g / m, c, t⟩, Int.emod_nonneg _ (by omega), Int.emod_lt_of_pos _ hm, ⟨Int.ediv_nonneg h1 (by omega), h2, h3, h4, by simp only; omega⟩, ?_⟩
    simp [mf__law_next, fnOf, mb__law_next, mSeq, mIfS, mTest, mBin, mO, mVar, mCon, look, opIx, opGt, opMod, opDiv, mSet, mF, mPut, mD, mRet, isOp, ownL, setL, behind, noBor, Fd.d, atI3_0, atI3_1, atI3_2, ix3_0, ix3_2, hg, hm, hm2]
  · have hg0 : g = 0 := by omega
    subst hg0
    have b1 := Int.emod_nonneg ((c + 41 * (t + 1) + 3) * ((t + 1) * (t + 1) + 69621)) (show (998244353 : Int) ≠ 0 by decide)
    have b2 := Int.emod_lt_of_pos ((c + 41 * (t + 1) + 3) * ((t + 1) * (t + 1) + 69621)) (show (0 : Int) < 998244353 by decide)
    have m1 : mulOk 41 (t + 1) = true := by simp [mulOk]
    have m2 : mulOk (c + 41 * (t + 1) + 3) ((t + 1) * (t + 1) + 69621) = true := by
      simp only [mulOk, Bool.or_eq_true, Bool.and_eq_true, decide_eq_true_eq]; left; omega
    have m3 : mulOk (t + 1) (t + 1) = true := by
      simp only [mulOk, Bool.or_eq_true, Bool.and_eq_true, decide_eq_true_eq]; left; omega
    have m4 : ∀ y, mulOk ((c + 41 * (t + 1) + 3) * ((t + 1) * (t + 1) + 69621) % 998244353) y = true := fun y => by
      simp only [mulOk, Bool.or_eq_true, Bool.and_eq_true, decide_eq_true_eq]; left; omega
    generalize hx : (c + 41 * (t + 1) + 3) * ((t + 1) * (t + 1) + 69621) % 998244353 = x at *
    refine ⟨(x * (x % 65519 + 40692) + (t + 1)) % 2147483629 / 13 % m, ⟨0, c, t + 1⟩, Int.emod_nonneg _ (by omega), Int.emod_lt_of_pos _ hm, ⟨by simp, h2, h3, by simp only; omega, by simp only; omega⟩, ?_⟩
    simp [mf__law_next, fnOf, mb__law_next, mSeq, mIfS, mTest, mBin, mO, mVar, mCon, look, opIx, opGt, opMod, opDiv, opAddI, opMulI, mNext, mSet, mF, mPut, mD, mRet, isOp, ownL, setL, behind, noBor, Fd.d, atI3_0, atI3_1, atI3_2, ix3_0, ix3_2, hm, hm2, m1, m2, m3, m4, hx]
end K03

set_option Elab.async false
set_option linter.all false
set_option maxRecDepth 100000
namespace K03
open PySem PySem.Spec PyProof.Rows L2 L3

theorem atI_int {α : Type} {xs : List α} {i : Int} (h0 : 0 ≤ i) (h1 : i < xs.length) : ∃ x, x ∈ xs ∧ atI xs i = some x := by
  have hl : i.toNat < xs.length := by omega
  refine ⟨xs[i.toNat], List.getElem_mem _, ?_⟩
  have h := atI_nat (xs := xs) (j := i.toNat) (v := xs[i.toNat]) (by simp [hl])
  rw [show ((i.toNat : Nat) : Int) = i by omega] at h
  exact h
theorem feed_tail (ns : List Int) {k : Int} (hk : 0 ≤ k) (hk2 : k ≤ 1000) (cell : Int) : ∃ f : Fd, f.ok 900000 ∧ ∃ x, mSeq (mSet 3 (mIf (mTest (mBin opGe (mCall fAbs (mCons (mVar 2) mNil)) (mBin opPow (mCon (.int 10)) (mCon (.int 18))))) (mCall fAbs (mCons (mVar 2) mNil)) (mCon (.int 0))))
      (mRet (mLst (mConsD (mVar 3) (mConsD (mBin opAddI (mBin opMod (mVar 2) (mCon (.int 1000003))) (mBin opMulI (mCon (.int 7919)) (mVar 1))) (mConsD (mCon (.int 0)) mNil)))))
      [some (.fz (.list (ns.map PyData.int))), some (.fz (.int k)), some (.fz (.int cell)), none] =
      some (.rt (.fr (.l f.d)), [some (.fz (.list (ns.map PyData.int))), some (.fz (.int k)), some (.fz (.int cell)), some (.fz x)]) := by
  have m1 : mulOk 7919 k = true := by simp [mulOk]
  have p1 : opPow (.int 10) (.int 18) = some (.fz (.int 1000000000000000000)) := by
    have : (10 : Int) ^ 18 = 1000000000000000000 := by decide
    simp [opPow, this]
  generalize ha : (if cell < 0 then -cell else cell) = ab
  have hab : 0 ≤ ab := by subst ha; split <;> omega
  have b1 := Int.emod_nonneg cell (show (1000003 : Int) ≠ 0 by decide)
  have b2 := Int.emod_lt_of_pos cell (show (0 : Int) < 1000003 by decide)
  by_cases hc : (1000000000000000000 : Int) ≤ ab
  · refine ⟨⟨ab, cell % 1000003 + 7919 * k, 0⟩, ⟨hab, by simp only; omega, by simp only; omega, by simp, by simp⟩, .int ab, ?_⟩
    simp [mSeq, mSet, mF, mIf, mTest, mBin, mO, mVar, mCon, mCall, mCons, mNil, looks, look, fAbs, opGe, p1, ha, hc, mRet, mLst, mConsD, mD, dats, opMod, opAddI, opMulI, m1, isOp, sizeLine, Fd.d]
  · refine ⟨⟨0, cell % 1000003 + 7919 * k, 0⟩, ⟨by simp, by simp only; omega, by simp only; omega, by simp, by simp⟩, .int 0, ?_⟩
    simp [mSeq, mSet, mF, mIf, mTest, mBin, mO, mVar, mCon, mCall, mCons, mNil, looks, look, fAbs, opGe, p1, ha, hc, mRet, mLst, mConsD, mD, dats, opMod, opAddI, opMulI, m1, isOp, sizeLine, Fd.d]
theorem fnOf_rt {n k : Nat} {mb : SM} {avs l : List AV} {r : RV} {ρ' : En} (hl : avs.length = n) (h : mb (avs.map some ++ List.replicate k none) = some (.rt r, ρ')) (nb : noBor r = true) (hb : behind avs ρ' = some l) : fnOf n k mb avs = some (r, l) := by
  unfold fnOf
  rw [if_pos hl, h]
  simp only [nb, hb, if_true]
theorem mSeq_nx {m n : SM} {ρ ρ1 : En} (h : m ρ = some (.nx, ρ1)) : mSeq m n ρ = n ρ1 := by unfold mSeq; rw [h]
theorem feed_ok (ns : List Int) {k : Int} (hk : 0 ≤ k) (hk2 : k ≤ 1000) :
    ∃ f : Fd, f.ok 900000 ∧ mf__law_feed [.fz (.list (ns.map PyData.int)), .fz (.int k)] = some (.fr (.l f.d), [.fz (.list (ns.map PyData.int)), .fz (.int k)]) := by
  have first : ∃ cell, mSet 2 (mIf (mTest (mBin opGt (mCall fLen (mCons (mVar 0) mNil)) (mCon (.int 0)))) (mBin opIx (mVar 0) (mBin opMod (mVar 1) (mCall fLen (mCons (mVar 0) mNil)))) (mCon (.int 0)))
      [some (.fz (.list (ns.map PyData.int))), some (.fz (.int k)), none, none] = some (.nx, [some (.fz (.list (ns.map PyData.int))), some (.fz (.int k)), some (.fz (.int cell)), none]) := by
    by_cases hn : ns.length = 0
    · refine ⟨0, ?_⟩
      simp [mSet, mF, mIf, mTest, mBin, mO, mVar, mCon, mCall, mCons, mNil, looks, look, fLen, opGt, isOp, hn]
    · have hl : 0 < ns.length := by omega
      have hi0 := Int.emod_nonneg k (show (ns.length : Int) ≠ 0 by omega)
      have hi1 := Int.emod_lt_of_pos k (show (0 : Int) < ns.length by omega)
      obtain ⟨x, hx, hc⟩ := atI_int (xs := ns.map PyData.int) hi0 (by simpa using hi1)
      obtain ⟨cell, _, rfl⟩ := List.mem_map.mp hx
      refine ⟨cell, ?_⟩
      simp [mSet, mF, mIf, mTest, mBin, mO, mVar, mCon, mCall, mCons, mNil, looks, look, fLen, opGt, opIx, opMod, isOp, hl, hc]
  obtain ⟨cell, e1⟩ := first
  obtain ⟨f, hf, x, e2⟩ := feed_tail ns hk hk2 cell
  refine ⟨f, hf, ?_⟩
  exact fnOf_rt rfl (show mb__law_feed [some (AV.fz (.list (ns.map PyData.int))), some (AV.fz (.int k)), none, none] = _ from (mSeq_nx e1).trans e2) rfl rfl
theorem one_ok {f : Fd} {n : Nat} {ds : List D} (h : f.ok (n + 1)) (h0 : 0 < ds.length) (h1 : ds.length < 1000) :
    ∃ d f', d ∈ ds ∧ Fd.ok n f' ∧ mf__law_one [.op (.l f.d), .fz (.list ds)] = some (.fz d, [.op (.l f'.d), .fz (.list ds)]) := by
  obtain ⟨i, f', hi0, hi1, hf, e⟩ := next_ok (m := (ds.length : Int)) h (by omega) (by omega)
  obtain ⟨d, hd, hat⟩ := atI_int hi0 hi1
  refine ⟨d, f', hd, hf, ?_⟩
  simp [mf__law_one, fnOf, mb__law_one, mRet, mBin, mO, mVar, mFn1, mCons, mConsD, mD, mCall, mNil, looks, look, fLen, dats, ownC, e, noBor, setC, opIx, hat, behind]
end K03

set_option Elab.async false
set_option linter.all false
set_option maxRecDepth 100000
namespace K03
open PySem PySem.Spec PyProof.Rows L2 L3

theorem eq_int (a b : Int) : opEq (.int a) (.int b) = some (.fz (.bool (a == b))) := by
  simp [opEq, eqOk, PyData.canLay0, PyData.depth, PyData.eqv]
/-- rising numbers below s -/
def Rise (s : Int) (ys : List Int) : Prop := ys.Pairwise (· < ·) ∧ ∀ y ∈ ys, 0 ≤ y ∧ y < s
theorem rise_range (n : Nat) : Rise n ((List.range n).map fun (i : Nat) => (i : Int)) := by
  refine ⟨?_, fun y hy => ?_⟩
  · rw [List.pairwise_map]
    exact (List.pairwise_lt_range (n := n)).imp fun h => by omega
  · obtain ⟨i, hi, rfl⟩ := List.mem_map.mp hy
    have := List.mem_range.mp hi
    omega
theorem Rise.sub {s : Int} {xs ys : List Int} (h : Rise s xs) (hs : ys.Sublist xs) : Rise s ys := ⟨h.1.sublist hs, fun y hy => h.2 y (hs.subset hy)⟩
theorem rangeD_map (n : Nat) : rangeD 0 n = ((List.range n).map fun (i : Nat) => (i : Int)).map PyData.int := by
  unfold rangeD
  rw [List.map_map]
  exact List.map_congr_left fun i _ => by simp
theorem draw2 {f : Fd} {n : Nat} (h : f.ok (n + 1)) (x1 x2 x3 x4 : Option AV) {m : Int} (hm : 0 < m) (hm2 : m < 1073741824) (j : Int) : ∃ d f', 0 ≤ d ∧ d < m ∧ Fd.ok n f' ∧
    mTest (mBin opEq (mFn1 mf__law_next (mCons (mVar 0) (mConsD (mCon (.int m)) mNil))) (mCon (.int j))) [some (.op (.l f.d)), x1, x2, x3, x4] = some (d == j, [some (.op (.l f'.d)), x1, x2, x3, x4]) := by
  obtain ⟨d, f', h1, h2, h3, e⟩ := next_ok (m := m) h hm hm2
  refine ⟨d, f', h1, h2, h3, ?_⟩
  simp [mTest, mBin, mO, mFn1, mCons, mConsD, mD, mVar, mCon, mNil, dats, ownC, e, noBor, setC, look, eq_int]
theorem comp_some : ∀ (xs : List Int) (n : Nat) (f : Fd) (x1 x2 x3 x4 : Option AV) (acc : List D), f.ok (n + xs.length) → acc.length + xs.length ≤ 1000 →
    (∀ c, x4 ≠ some (.op c)) → ∃ (ys : List Int) (f' : Fd) (v4 : Option AV), ys.Sublist xs ∧ Fd.ok n f' ∧
    compGo (gSet 4) (mTest (mBin opEq (mFn1 mf__law_next (mCons (mVar 0) (mConsD (mCon (.int 2)) mNil))) (mCon (.int 0)))) (mVar 4) (xs.map PyData.int) [some (.op (.l f.d)), x1, x2, x3, x4] acc
      = some (acc ++ ys.map PyData.int, [some (.op (.l f'.d)), x1, x2, x3, v4])
  | [], n, f, x1, x2, x3, x4, acc, h, _, _ => ⟨[], f, x4, .slnil, h, by simp [compGo]⟩
  | x :: xs, n, f, x1, x2, x3, x4, acc, h, ha, h4 => by
    obtain ⟨d, f1, h1, h2, h3, e⟩ := draw2 (n := n + xs.length) (by simpa [Nat.add_assoc] using h) x1 x2 x3 (some (.fz (.int x))) (m := 2) (by decide) (by decide) 0
    have hg : gSet 4 (.int x) [some (.op (.l f.d)), x1, x2, x3, x4] = some [some (.op (.l f.d)), x1, x2, x3, some (.fz (.int x))] := by
      cases x4 with
      | none => simp [gSet, isOp]
      | some a => cases a with
        | fz d => simp [gSet, isOp]
        | ol c => simp [gSet, isOp]
        | op c => exact absurd rfl (h4 c)
    have hsz : acc.length < sizeLine := small1000 (by simp at ha; omega)
    by_cases hd : d = 0
    · subst hd
      obtain ⟨ys, f', v4, s1, s2, s3⟩ := comp_some xs n f1 x1 x2 x3 (some (.fz (.int x))) (acc ++ [.int x]) h3 (by simp at ha ⊢; omega) (fun c z => by cases z)
      refine ⟨x :: ys, f', v4, .cons₂ _ s1, s2, ?_⟩
      have hb : ((0 : Int) == 0) = true := by decide
      rw [hb] at e
      rw [List.map_cons, compGo, hg]
      simp only [e]
      simp [mD, mVar, hsz, s3]
    · obtain ⟨ys, f', v4, s1, s2, s3⟩ := comp_some xs n f1 x1 x2 x3 (some (.fz (.int x))) acc h3 (by simp at ha ⊢; omega) (fun c z => by cases z)
      refine ⟨ys, f', v4, .cons _ s1, s2, ?_⟩
      have hb : (d == 0) = false := by simpa using hd
      rw [hb] at e
      rw [List.map_cons, compGo, hg]
      simp only [e]
      exact s3
theorem small_nat {k : Nat} (h : k ≤ 1000) : small62 (k : Int) = true := by
  unfold small62
  rw [decide_eq_true (show -(2 ^ 62) ≤ (k : Int) by omega), decide_eq_true (show (k : Int) < 2 ^ 62 by omega)]
  rfl
abbrev tst2 : Ev Bool := mTest (mBin opEq (mFn1 mf__law_next (mCons (mVar 0) (mConsD (mCon (.int 2)) mNil))) (mCon (.int 0)))
theorem range_er {k : Nat} (hk : k ≤ 4) (x0 x2 x3 : Option AV) : mRange1 (mCons (mVar 1) mNil) [x0, some (.fz (.int k)), x2, x3] = some (rangeD 0 k, [x0, some (.fz (.int k)), x2, x3]) := by
  have hsm := small_nat (show k ≤ 1000 by omega)
  simp [mRange1, mCons, mO, mVar, mNil, looks, look, hsm]
theorem comp_of {k : Nat} {mi : Ev (List D)} {st : TgM} {mt : Ev Bool} {me : Ev RV} {ρ ρ1 ρ2 : En} {ds out : List D} (h1 : mi ρ = some (ds, ρ1)) (h2 : compGo st mt me ds (ρ1 ++ List.replicate k none) [] = some (out, ρ2)) : mComp k mi st mt me ρ = some (.fr (.l out), ρ2.take ρ1.length) := by
  unfold mComp
  rw [h1]
  simp only [h2]
theorem set_fr {i : Nat} {m : Ev RV} {ρ ρ1 : En} {c : OC} (h : m ρ = some (.fr c, ρ1)) (hi : i < ρ1.length) (ho : isOp ρ1 i = false) : mSet i m ρ = some (.nx, ρ1.set i (some (.ol c))) := by
  unfold mSet mF
  rw [h]
  simp [hi, ho]
theorem some_e1 {f : Fd} {n k : Nat} (h : f.ok (n + k)) (hk : k ≤ 4) : ∃ (ys : List Int) (f1 : Fd), Rise k ys ∧ Fd.ok n f1 ∧
    mSet 3 (mComp 1 (mRange1 (mCons (mVar 1) mNil)) (gSet 4) tst2 (mVar 4)) [some (.op (.l f.d)), some (.fz (.int k)), some (.fz (.int 1)), none] = some (.nx, [some (.op (.l f1.d)), some (.fz (.int k)), some (.fz (.int 1)), some (.ol (.l (ys.map PyData.int)))]) := by
  obtain ⟨ys, f1, v4, s1, s2, s3⟩ := comp_some ((List.range k).map fun (i : Nat) => (i : Int)) n f (some (.fz (.int k))) (some (.fz (.int 1))) none none [] (h.le (by simp)) (by simp; omega) (fun c z => by cases z)
  rw [List.nil_append, ← rangeD_map] at s3
  have ec := comp_of (k := 1) (range_er hk (some (.op (.l f.d))) (some (.fz (.int 1))) none) s3
  exact ⟨ys, f1, (rise_range k).sub s1, s2, set_fr (i := 3) ec (Nat.lt_succ_self 3) rfl⟩
theorem some_ok {f : Fd} {n k : Nat} (h : f.ok (n + 10)) (hs : 1 ≤ k) (hs2 : k ≤ 4) : ∃ (ys : List Int) (f' : Fd), Rise k ys ∧ ys ≠ [] ∧ Fd.ok n f' ∧
    mf__law_some [.op (.l f.d), .fz (.int k), .fz (.int 1)] = some (.fz (.tuple (ys.map PyData.int)), [.op (.l f'.d), .fz (.int k), .fz (.int 1)]) := by
  obtain ⟨ys, f1, s1, s2, e1⟩ := some_e1 (n := n + 1) (k := k) (h.le (by omega)) hs2
  by_cases hy : ys = []
  · subst hy
    obtain ⟨d, f2, d1, d2, d3, e⟩ := next_ok (n := n) (m := (k : Int)) s2 (by omega) (by omega)
    refine ⟨[d], f2, ⟨List.pairwise_singleton _ _, fun y hy => ?_⟩, by simp, d3, ?_⟩
    · rw [List.mem_singleton.mp hy]; exact ⟨d1, d2⟩
    · have hz : (1 : Nat) ≤ sizeLine := Nat.le_of_lt (small1000 (by decide))
      refine fnOf_rt (ρ' := [some (.op (.l f2.d)), some (.fz (.int k)), some (.fz (.int 1)), some (.ol (.l []))]) rfl ((mSeq_nx e1).trans ?_) rfl rfl
      simp [mRet, mIf, mTest, mBin, mO, mCall, mCons, mNil, mVar, looks, look, fLen, opGe, mTup, mConsD, mD, mFn1, dats, ownC, e, noBor, setC, hz]
  · refine ⟨ys, f1, s1, hy, s2.le (by omega), ?_⟩
    have hl : 1 ≤ ys.length := List.length_pos_iff.mpr hy
    refine fnOf_rt (ρ' := [some (.op (.l f1.d)), some (.fz (.int k)), some (.fz (.int 1)), some (.ol (.l (ys.map PyData.int)))]) rfl ((mSeq_nx e1).trans ?_) rfl rfl
    simp [mRet, mIf, mTest, mBin, mO, mCall, mCons, mNil, mVar, mCon, looks, look, fLen, fTuple, opGe, show (1 : Int) ≤ (ys.length : Int) by omega]
end K03

set_option Elab.async false
set_option linter.all false
set_option maxRecDepth 100000
namespace K03
open PySem PySem.Spec PyProof.Rows L2 L3

theorem gSet_cons {i : Nat} {d : D} {x : Option AV} {r : En} (hi : i < r.length) (ho : isOp r i = false) : gSet (i + 1) d (x :: r) = some (x :: r.set i (some (.fz d))) := by
  have h2 : isOp (x :: r) (i + 1) = false := by simpa [isOp] using ho
  simp [gSet, hi, h2]
/-- [draw for _ in ..]: me draws below m from the feed at slot 0, whatever slot i + 1 holds -/
theorem comp_draws {i : Nat} {me : Ev RV} {m : Int} (r : En) (hi : i < r.length)
    (hme : ∀ (f : Fd) (n : Nat) (v : Option AV), f.ok (n + 1) → ∃ d f', 0 ≤ d ∧ d < m ∧ Fd.ok n f' ∧ me (some (.op (.l f.d)) :: r.set i v) = some (.fz (.int d), some (.op (.l f'.d)) :: r.set i v)) :
    ∀ (xs : List Int) (n : Nat) (f : Fd) (v : Option AV) (acc : List D), f.ok (n + xs.length) → acc.length + xs.length ≤ 1000 → (∀ c, v ≠ some (.op c)) →
    ∃ (zs : List Int) (f' : Fd) (v' : Option AV), zs.length = xs.length ∧ (∀ z ∈ zs, 0 ≤ z ∧ z < m) ∧ Fd.ok n f' ∧
      compGo (gSet (i + 1)) mTrue me (xs.map PyData.int) (some (.op (.l f.d)) :: r.set i v) acc = some (acc ++ zs.map PyData.int, some (.op (.l f'.d)) :: r.set i v')
  | [], n, f, v, acc, h, _, _ => ⟨[], f, v, rfl, fun z hz => (by cases hz), h, by simp [compGo]⟩
  | x :: xs, n, f, v, acc, h, ha, hv => by
    obtain ⟨d, f1, d1, d2, d3, e⟩ := hme f (n + xs.length) (some (.fz (.int x))) (by simpa [Nat.add_assoc] using h)
    have ho : isOp (r.set i v) i = false := by
      unfold isOp
      rw [List.getElem?_set_self hi]
      cases v with
      | none => rfl
      | some a => cases a with
        | op c => exact absurd rfl (hv c)
        | fz d => rfl
        | ol c => rfl
    have hg := gSet_cons (d := .int x) (x := some (.op (.l f.d))) (r := r.set i v) (i := i) (by simpa using hi) ho
    rw [List.set_set] at hg
    obtain ⟨zs, f', v', z1, z2, z3, z4⟩ := comp_draws r hi hme xs n f1 (some (.fz (.int x))) (acc ++ [.int d]) d3 (by simp at ha ⊢; omega) (fun c z => by cases z)
    have hsz : acc.length < sizeLine := small1000 (by simp at ha; omega)
    refine ⟨d :: zs, f', v', by simp [z1], fun z hz => ?_, z3, ?_⟩
    · rcases List.mem_cons.mp hz with rfl | hz
      · exact ⟨d1, d2⟩
      · exact z2 z hz
    · rw [List.map_cons, compGo, hg]
      simp only [mTrue, mD, e, hsz, if_true]
      rw [z4]
      simp
/-- [i for i in .. if sides[i] == j]: sides at slot j0 (an own list), the target at slot i + 1 -/
theorem comp_pick {ρ : En} {i j0 : Nat} {sides : List Int} {j : Int} (hi : i < ρ.length) (hj : j0 ≠ i) (hs : ∀ v : Option AV, (ρ.set i v)[j0]? = some (some (.ol (.l (sides.map PyData.int))))) :
    ∀ (xs : List Int) (v : Option AV) (acc : List D), (∀ x ∈ xs, 0 ≤ x ∧ x < sides.length) → acc.length + xs.length ≤ 1000 → (∀ c, v ≠ some (.op c)) →
    ∃ (ys : List Int) (v' : Option AV), ys.Sublist xs ∧
      compGo (gSet i) (mTest (mBin opEq (mBin opIx (mVar j0) (mVar i)) (mCon (.int j)))) (mVar i) (xs.map PyData.int) (ρ.set i v) acc = some (acc ++ ys.map PyData.int, ρ.set i v')
  | [], v, acc, _, _, _ => ⟨[], v, .slnil, by simp [compGo]⟩
  | x :: xs, v, acc, hx, ha, hv => by
    have ho : isOp (ρ.set i v) i = false := by
      unfold isOp
      rw [List.getElem?_set_self hi]
      cases v with
      | none => rfl
      | some a => cases a with
        | op c => exact absurd rfl (hv c)
        | fz d => rfl
        | ol c => rfl
    have hg : gSet i (.int x) (ρ.set i v) = some (ρ.set i (some (.fz (.int x)))) := by
      unfold gSet
      rw [if_pos (by simpa using hi), ho]
      simp
    have hsz : acc.length < sizeLine := small1000 (by simp at ha; omega)
    have hvi : mVar i (ρ.set i (some (.fz (.int x)))) = some (.fz (.int x), ρ.set i (some (.fz (.int x)))) := by
      unfold mVar
      rw [List.getElem?_set_self hi]
    obtain ⟨hx0, hx1⟩ := hx x List.mem_cons_self
    obtain ⟨z, hz, hat⟩ := atI_int (xs := sides.map PyData.int) hx0 (by simpa using hx1)
    obtain ⟨zi, _, rfl⟩ := List.mem_map.mp hz
    have ht : mTest (mBin opEq (mBin opIx (mVar j0) (mVar i)) (mCon (.int j))) (ρ.set i (some (.fz (.int x)))) = some (zi == j, ρ.set i (some (.fz (.int x)))) := by
      have hv0 : mVar j0 (ρ.set i (some (.fz (.int x)))) = some (.bor j0, ρ.set i (some (.fz (.int x)))) := by
        unfold mVar
        rw [hs]
      have hl0 : look (ρ.set i (some (.fz (.int x)))) (.bor j0) = some (.list (sides.map PyData.int)) := by
        dsimp only [look]
        rw [hs]
      have hb : mBin opIx (mVar j0) (mVar i) (ρ.set i (some (.fz (.int x)))) = some (.fz (.int zi), ρ.set i (some (.fz (.int x)))) := by
        unfold mBin mO
        simp only [hv0, hvi, hl0]
        simp [look, opIx, hat]
      unfold mTest
      rw [show mBin opEq (mBin opIx (mVar j0) (mVar i)) (mCon (.int j)) (ρ.set i (some (.fz (.int x)))) = some (.fz (.bool (zi == j)), ρ.set i (some (.fz (.int x)))) from by
        rw [mBin, mO, hb]
        simp [mO, mCon, look, eq_int]]
    have hv' : ∀ c, (some (.fz (.int x)) : Option AV) ≠ some (.op c) := fun c z => by cases z
    cases hb : zi == j with
    | true =>
      rw [hb] at ht
      obtain ⟨ys, v', s1, s2⟩ := comp_pick hi hj hs xs (some (.fz (.int x))) (acc ++ [.int x]) (fun y hy => hx y (List.mem_cons_of_mem _ hy)) (by simp at ha ⊢; omega) hv'
      refine ⟨x :: ys, v', .cons₂ _ s1, ?_⟩
      rw [List.map_cons, compGo, hg]
      simp only [ht, mD, hvi, hsz, if_true]
      rw [s2]
      simp
    | false =>
      rw [hb] at ht
      obtain ⟨ys, v', s1, s2⟩ := comp_pick hi hj hs xs (some (.fz (.int x))) acc (fun y hy => hx y (List.mem_cons_of_mem _ hy)) (by simp at ha ⊢; omega) hv'
      refine ⟨ys, v', .cons _ s1, ?_⟩
      rw [List.map_cons, compGo, hg]
      simp only [ht]
      exact s2
end K03

set_option Elab.async false
set_option linter.all false
set_option maxRecDepth 100000
namespace K03
open PySem PySem.Spec PyProof.Rows L2 L3

inductive Qn where
  | least (ss : List Int) (n : Int)
  | more (a b : List Int)
  | rest (ss : List Int) (m r : Int)
  | qnot (q : Qn)
  | both (p q : Qn)
  | either (p q : Qn)
abbrev tI (ss : List Int) : D := .tuple (ss.map PyData.int)
def Qn.d : Qn → D
  | .least ss n => .tuple [.str "least", tI ss, .int n]
  | .more a b => .tuple [.str "more", tI a, tI b]
  | .rest ss m r => .tuple [.str "rest", tI ss, .int m, .int r]
  | .qnot q => .tuple [.str "not", q.d]
  | .both p q => .tuple [.str "both", p.d, q.d]
  | .either p q => .tuple [.str "either", p.d, q.d]
def Qn.ok (k : Nat) : Qn → Prop
  | .least ss _ => Rise k ss
  | .more a b => Rise k a ∧ Rise k b
  | .rest ss m r => Rise k ss ∧ 2 ≤ m ∧ m ≤ 9 ∧ 0 ≤ r ∧ r < m
  | .qnot q => q.ok k
  | .both p q => p.ok k ∧ q.ok k
  | .either p q => p.ok k ∧ q.ok k
def Qn.deep : Qn → Nat
  | .least _ _ => 1
  | .more _ _ => 1
  | .rest _ _ _ => 1
  | .qnot q => q.deep + 1
  | .both p q => max p.deep q.deep + 1
  | .either p q => max p.deep q.deep + 1
theorem sz3 : (3 : Nat) ≤ sizeLine := Nat.le_of_lt (small1000 (by decide))
theorem sz4 : (4 : Nat) ≤ sizeLine := Nat.le_of_lt (small1000 (by decide))
theorem sz2 : (2 : Nat) ≤ sizeLine := Nat.le_of_lt (small1000 (by decide))
theorem mSeq_rt {m n : SM} {ρ ρ1 : En} {r : RV} (h : m ρ = some (.rt r, ρ1)) : mSeq m n ρ = some (.rt r, ρ1) := by unfold mSeq; rw [h]
theorem ifS_t {mc : Ev Bool} {m n : SM} {ρ ρ1 : En} (h : mc ρ = some (true, ρ1)) : mIfS mc m n ρ = m ρ1 := by unfold mIfS; rw [h]
theorem ifS_f {mc : Ev Bool} {m n : SM} {ρ ρ1 : En} (h : mc ρ = some (false, ρ1)) : mIfS mc m n ρ = n ρ1 := by unfold mIfS; rw [h]
/-- a draw at slot 0, the bound written -/
theorem draw_c {f : Fd} {n : Nat} (h : f.ok (n + 1)) (r : En) {m : Int} (hm : 0 < m) (hm2 : m < 1073741824) : ∃ d f', 0 ≤ d ∧ d < m ∧ Fd.ok n f' ∧
    mFn1 mf__law_next (mCons (mVar 0) (mConsD (mCon (.int m)) mNil)) (some (.op (.l f.d)) :: r) = some (.fz (.int d), some (.op (.l f'.d)) :: r) := by
  obtain ⟨d, f', h1, h2, h3, e⟩ := next_ok (m := m) h hm hm2
  refine ⟨d, f', h1, h2, h3, ?_⟩
  simp [mO, mFn1, mCons, mConsD, mD, mVar, mCon, mNil, dats, ownC, e, noBor, setC]
/-- .. the bound an int at slot i + 1 -/
theorem draw_v {f : Fd} {n : Nat} (h : f.ok (n + 1)) {r : En} {i : Nat} {m : Int} (hr : r[i]? = some (some (.fz (.int m)))) (hm : 0 < m) (hm2 : m < 1073741824) : ∃ d f', 0 ≤ d ∧ d < m ∧ Fd.ok n f' ∧
    mFn1 mf__law_next (mCons (mVar 0) (mConsD (mVar (i + 1)) mNil)) (some (.op (.l f.d)) :: r) = some (.fz (.int d), some (.op (.l f'.d)) :: r) := by
  obtain ⟨d, f', h1, h2, h3, e⟩ := next_ok (m := m) h hm hm2
  refine ⟨d, f', h1, h2, h3, ?_⟩
  simp [mO, mFn1, mCons, mConsD, mD, mVar, hr, mCon, mNil, dats, ownC, e, noBor, setC]
/-- a draw below one of two -/
theorem draw_o {f : Fd} {n : Nat} (h : f.ok (n + 2)) (r : En) (a b : Int) (ha : 0 < a) (ha2 : a < 1000) (hb : 0 < b) (hb2 : b < 1000) : ∃ d f', 0 ≤ d ∧ (d < a ∨ d < b) ∧ Fd.ok n f' ∧
    mFn1 mf__law_next (mCons (mVar 0) (mConsD (mFn1 mf__law_one (mCons (mVar 0) (mConsD (mLst (mConsD (mCon (.int a)) (mConsD (mCon (.int b)) mNil))) mNil))) mNil)) (some (.op (.l f.d)) :: r) = some (.fz (.int d), some (.op (.l f'.d)) :: r) := by
  obtain ⟨x, f1, hx, h1, e1⟩ := one_ok (n := n + 1) (ds := [.int a, .int b]) h (by simp) (by simp)
  have hx' : ∃ m : Int, x = .int m ∧ (m = a ∨ m = b) := by
    simp at hx
    rcases hx with rfl | rfl
    · exact ⟨a, rfl, .inl rfl⟩
    · exact ⟨b, rfl, .inr rfl⟩
  obtain ⟨m, rfl, hm⟩ := hx'
  obtain ⟨d, f', g1, g2, g3, e⟩ := next_ok (m := m) h1 (by omega) (by omega)
  refine ⟨d, f', g1, by omega, g3, ?_⟩
  simp [mO, mFn1, mCons, mConsD, mD, mVar, mCon, mNil, mLst, sz2, dats, ownC, e1, e, noBor, setC]
theorem fn1_of {mf : MF} {ms : Ev (List RV)} {ρ ρ1 : En} {j : Nat} {rs : List RV} {ds : List D} {c c' : OC} {r : RV} {l : List AV} (h1 : ms ρ = some (.bor j :: rs, ρ1)) (h2 : dats rs = some ds) (h3 : ownC ρ1 j = some c) (h4 : mf (.op c :: ds.map AV.fz) = some (r, .op c' :: l)) (h5 : noBor r = true) : mFn1 mf ms ρ = some (r, setC ρ1 j c') := by
  unfold mFn1
  rw [h1]
  simp only [h2, h3, h4, h5, if_true]
theorem fnD_of {mf : MF} {ms : Ev (List RV)} {ρ ρ1 : En} {rs : List RV} {ds : List D} {r : RV} {l : List AV} (h1 : ms ρ = some (rs, ρ1)) (h2 : dats rs = some ds) (h4 : mf (ds.map AV.fz) = some (r, l)) (h5 : noBor r = true) : mFnD mf ms ρ = some (r, ρ1) := by
  unfold mFnD
  rw [h1]
  simp only [h2, h4, h5, if_true]
theorem D_fz {m : Ev RV} {ρ ρ1 : En} {d : D} (h : m ρ = some (.fz d, ρ1)) : mD m ρ = some (.fz d, ρ1) := by unfold mD; rw [h]
theorem O_fz {m : Ev RV} {ρ ρ1 : En} {d : D} (h : m ρ = some (.fz d, ρ1)) : mO m ρ = some (.fz d, ρ1) := by unfold mO; rw [h]
theorem consD_of {m : Ev RV} {ms : Ev (List RV)} {ρ ρ1 ρ2 : En} {d : D} {rs : List RV} (h1 : m ρ = some (.fz d, ρ1)) (h2 : ms ρ1 = some (rs, ρ2)) : mConsD m ms ρ = some (.fz d :: rs, ρ2) := by
  unfold mConsD
  rw [D_fz h1]
  simp only [h2]
theorem tup_of {ms : Ev (List RV)} {ρ ρ1 : En} {rs : List RV} {ds : List D} (h : ms ρ = some (rs, ρ1)) (hd : dats rs = some ds) (hl : ds.length ≤ sizeLine) : mTup ms ρ = some (.fz (.tuple ds), ρ1) := by
  unfold mTup
  rw [h]
  simp only [hd, hl, if_true]
theorem ret_fz {m : Ev RV} {ρ ρ1 : En} {d : D} (h : m ρ = some (.fz d, ρ1)) : mRet m ρ = some (.rt (.fz d), ρ1) := by unfold mRet; rw [h]
theorem bin_of {f : D → D → Option RV} {ma mb : Ev RV} {ρ ρ1 ρ2 : En} {a b : D} {r : RV} (h1 : ma ρ = some (.fz a, ρ1)) (h2 : mb ρ1 = some (.fz b, ρ2)) (h3 : f a b = some r) : mBin f ma mb ρ = some (r, ρ2) := by
  unfold mBin
  rw [O_fz h1]
  simp only [O_fz h2, look, h3]
theorem test_of' {m : Ev RV} {ρ ρ1 : En} {b : Bool} (h : m ρ = some (.fz (.bool b), ρ1)) : mTest m ρ = some (b, ρ1) := by unfold mTest; rw [h]
theorem set_fz {i : Nat} {m : Ev RV} {ρ ρ1 : En} {d : D} (h : m ρ = some (.fz d, ρ1)) (hi : i < ρ1.length) (ho : isOp ρ1 i = false) : mSet i m ρ = some (.nx, ρ1.set i (some (.fz d))) := by
  unfold mSet mF
  rw [h]
  simp [hi, ho]
theorem some_c {f : Fd} {n k : Nat} (h : f.ok (n + 10)) (hs : 1 ≤ k) (hs2 : k ≤ 4) (r : En) : ∃ (ys : List Int) (f' : Fd), Rise k ys ∧ Fd.ok n f' ∧
    mFn1 mf__law_some (mCons (mVar 0) (mConsD (mVar 1) (mConsD (mCon (.int 1)) mNil))) (some (.op (.l f.d)) :: some (.fz (.int k)) :: r) = some (.fz (tI ys), some (.op (.l f'.d)) :: some (.fz (.int k)) :: r) := by
  obtain ⟨ys, f', h1, _, h3, e⟩ := some_ok h hs hs2
  exact ⟨ys, f', h1, h3, fn1_of (j := 0) (rs := [.fz (.int k), .fz (.int 1)]) (ρ1 := some (.op (.l f.d)) :: some (.fz (.int k)) :: r) rfl rfl rfl e rfl⟩
theorem plain0 {f : Fd} {n k : Nat} (h : f.ok (n + 2 + 10)) (hs : 1 ≤ k) (hs2 : k ≤ 4) (r : En) : ∃ (q : Qn) (f' : Fd), q.ok k ∧ q.deep = 1 ∧ Fd.ok n f' ∧
    mRet (mTup (mConsD (mCon (.str "least")) (mConsD (mFn1 mf__law_some (mCons (mVar 0) (mConsD (mVar 1) (mConsD (mCon (.int 1)) mNil)))) (mConsD (mBin opAddI (mCon (.int 1)) (mFn1 mf__law_next (mCons (mVar 0) (mConsD (mFn1 mf__law_one (mCons (mVar 0) (mConsD (mLst (mConsD (mCon (.int 3)) (mConsD (mCon (.int 9)) mNil))) mNil))) mNil)))) mNil))))
      (some (.op (.l f.d)) :: some (.fz (.int k)) :: r) = some (.rt (.fz q.d), some (.op (.l f'.d)) :: some (.fz (.int k)) :: r) := by
  obtain ⟨ys, f1, h1, h2, e1⟩ := some_c (n := n + 2) h hs hs2 r
  obtain ⟨d, f2, d1, d2, d3, e2⟩ := draw_o h2 (some (.fz (.int k)) :: r) 3 9 (by decide) (by decide) (by decide) (by decide)
  exact ⟨.least ys (1 + d), f2, h1, rfl, d3, ret_fz (tup_of (consD_of rfl (consD_of e1 (consD_of (bin_of rfl e2 rfl) rfl))) rfl sz3)⟩
theorem plain2 {f : Fd} {n k : Nat} (h : f.ok (n + 1 + 10 + 2)) (hs : 1 ≤ k) (hs2 : k ≤ 4) (x2 x3 x4 : Option AV) : ∃ (q : Qn) (f' : Fd) (ρ' : En), q.ok k ∧ q.deep = 1 ∧ Fd.ok n f' ∧
    mSeq (mSet 5 (mBin opAddI (mCon (.int 2)) (mFn1 mf__law_next (mCons (mVar 0) (mConsD (mFn1 mf__law_one (mCons (mVar 0) (mConsD (mLst (mConsD (mCon (.int 2)) (mConsD (mCon (.int 8)) mNil))) mNil))) mNil)))))
      (mRet (mTup (mConsD (mCon (.str "rest")) (mConsD (mFn1 mf__law_some (mCons (mVar 0) (mConsD (mVar 1) (mConsD (mCon (.int 1)) mNil)))) (mConsD (mVar 5) (mConsD (mFn1 mf__law_next (mCons (mVar 0) (mConsD (mVar 5) mNil))) mNil))))))
      [some (.op (.l f.d)), some (.fz (.int k)), x2, x3, x4, none] = some (.rt (.fz q.d), some (.op (.l f'.d)) :: some (.fz (.int k)) :: ρ') := by
  obtain ⟨d, f1, d1, d2, d3, e1⟩ := draw_o h [some (.fz (.int k)), x2, x3, x4, none] 2 8 (by decide) (by decide) (by decide) (by decide)
  obtain ⟨ys, f2, h1, h2, e2⟩ := some_c (n := n + 1) d3 hs hs2 [x2, x3, x4, some (.fz (.int (2 + d)))]
  obtain ⟨z, f3, z1, z2, z3, e3⟩ := draw_v h2 (r := [some (.fz (.int k)), x2, x3, x4, some (.fz (.int (2 + d)))]) (i := 4) (m := 2 + d) rfl (by omega) (by omega)
  refine ⟨.rest ys (2 + d) z, f3, [x2, x3, x4, some (.fz (.int (2 + d)))], ⟨h1, by omega, by omega, z1, z2⟩, rfl, z3, ?_⟩
  refine (mSeq_nx (set_fz (i := 5) (bin_of (f := opAddI) rfl e1 rfl) (Nat.lt_succ_self 5) rfl)).trans ?_
  exact ret_fz (tup_of (consD_of rfl (consD_of e2 (consD_of rfl (consD_of e3 rfl)))) rfl sz4)
end K03

set_option Elab.async false
set_option linter.all false
set_option maxRecDepth 100000
namespace K03
open PySem PySem.Spec PyProof.Rows L2 L3

theorem range_c {k : Nat} (hk : k ≤ 4) (x0 : Option AV) (r : En) : mRange1 (mCons (mVar 1) mNil) (x0 :: some (.fz (.int k)) :: r) = some (rangeD 0 k, x0 :: some (.fz (.int k)) :: r) := by
  have hsm := small_nat (show k ≤ 1000 by omega)
  show (if small62 (k : Int) then some (rangeD 0 (k : Int).toNat, x0 :: some (.fz (.int k)) :: r) else none) = _
  rw [if_pos hsm]
  rfl
theorem call_tup_fr {m : Ev RV} {ρ ρ1 : En} {ds : List D} (h : m ρ = some (.fr (.l ds), ρ1)) : mCall fTuple (mCons m mNil) ρ = some (.fz (.tuple ds), ρ1) := by
  unfold mCall mCons mO
  rw [h]
  rfl
abbrev rangeI (k : Nat) : List Int := (List.range k).map fun (i : Nat) => (i : Int)
theorem rangeI_len (k : Nat) : (rangeI k).length = k := by simp
theorem rangeI_in {k : Nat} : ∀ x ∈ rangeI k, 0 ≤ x ∧ x < (k : Int) := (rise_range k).2
/-- these, those -/
theorem pick_c {f : Fd} {k : Nat} (hk : k ≤ 4) {sides : List Int} (hs : sides.length = k) (x2 x4 x5 : Option AV) (j : Int) : ∃ ys : List Int, Rise k ys ∧
    mCall fTuple (mCons (mComp 1 (mRange1 (mCons (mVar 1) mNil)) (gSet 6) (mTest (mBin opEq (mBin opIx (mVar 3) (mVar 6)) (mCon (.int j)))) (mVar 6)) mNil) [some (.op (.l f.d)), some (.fz (.int k)), x2, some (.ol (.l (sides.map PyData.int))), x4, x5]
      = some (.fz (tI ys), [some (.op (.l f.d)), some (.fz (.int k)), x2, some (.ol (.l (sides.map PyData.int))), x4, x5]) := by
  obtain ⟨ys, v', s1, s2⟩ := comp_pick (ρ := [some (.op (.l f.d)), some (.fz (.int k)), x2, some (.ol (.l (sides.map PyData.int))), x4, x5, none]) (i := 6) (j0 := 3) (sides := sides) (j := j) (Nat.lt_succ_self 6) (by decide) (fun v => rfl) (rangeI k) none [] (fun x hx => by have := rangeI_in x hx; omega) (by simp; omega) (fun c z => by cases z)
  rw [List.nil_append, ← rangeD_map] at s2
  exact ⟨ys, (rise_range k).sub s1, call_tup_fr (comp_of (k := 1) (range_c hk (some (.op (.l f.d))) [x2, some (.ol (.l (sides.map PyData.int))), x4, x5]) s2)⟩
theorem plain1 {f : Fd} {n k : Nat} (h : f.ok (n + k)) (hs2 : k ≤ 4) (x2 : Option AV) : ∃ (q : Qn) (f' : Fd) (ρ' : En), q.ok k ∧ q.deep = 1 ∧ Fd.ok n f' ∧
    mSeq (mSet 3 (mComp 1 (mRange1 (mCons (mVar 1) mNil)) (gSet 6) mTrue (mFn1 mf__law_next (mCons (mVar 0) (mConsD (mCon (.int 3)) mNil)))))
   (mSeq (mSet 4 (mCall fTuple (mCons (mComp 1 (mRange1 (mCons (mVar 1) mNil)) (gSet 6) (mTest (mBin opEq (mBin opIx (mVar 3) (mVar 6)) (mCon (.int 0)))) (mVar 6)) mNil)))
   (mRet (mTup (mConsD (mCon (.str "more")) (mConsD (mVar 4) (mConsD (mCall fTuple (mCons (mComp 1 (mRange1 (mCons (mVar 1) mNil)) (gSet 6) (mTest (mBin opEq (mBin opIx (mVar 3) (mVar 6)) (mCon (.int 1)))) (mVar 6)) mNil)) mNil))))))
      [some (.op (.l f.d)), some (.fz (.int k)), x2, none, none, none] = some (.rt (.fz q.d), some (.op (.l f'.d)) :: some (.fz (.int k)) :: ρ') := by
  obtain ⟨zs, f1, v', z1, z2, z3, z4⟩ := comp_draws (i := 5) (me := mFn1 mf__law_next (mCons (mVar 0) (mConsD (mCon (.int 3)) mNil))) (m := 3) [some (.fz (.int k)), x2, none, none, none, none] (Nat.lt_succ_self 5)
    (fun f n v hf => draw_c hf _ (by decide) (by decide)) (rangeI k) n f none [] (h.le (by simp)) (by simp; omega) (fun c z => by cases z)
  rw [List.nil_append, ← rangeD_map] at z4
  rw [rangeI_len] at z1
  have c1 := set_fr (i := 3) (comp_of (k := 1) (range_c hs2 (some (.op (.l f.d))) [x2, none, none, none]) z4) (show 3 < 6 by decide) rfl
  obtain ⟨as, a1, a2⟩ := pick_c (f := f1) hs2 z1 x2 none none 0
  obtain ⟨bs, b1, b2⟩ := pick_c (f := f1) hs2 z1 x2 (some (.fz (tI as))) none 1
  refine ⟨.more as bs, f1, [x2, some (.ol (.l (zs.map PyData.int))), some (.fz (tI as)), none], ⟨a1, b1⟩, rfl, z3, ?_⟩
  refine (mSeq_nx c1).trans ((mSeq_nx (set_fz (i := 4) a2 (show 4 < 6 by decide) rfl)).trans ?_)
  exact ret_fz (tup_of (consD_of rfl (consD_of rfl (consD_of b2 rfl))) rfl sz3)
theorem plain_ok {f : Fd} {n k : Nat} (h : f.ok (n + 20)) (hs : 1 ≤ k) (hs2 : k ≤ 4) : ∃ (q : Qn) (f' : Fd), q.ok k ∧ q.deep = 1 ∧ Fd.ok n f' ∧
    mf__law_plain [.op (.l f.d), .fz (.int k)] = some (.fz q.d, [.op (.l f'.d), .fz (.int k)]) := by
  obtain ⟨d, f1, d1, d2, d3, e1⟩ := draw_c (n := n + 19) (h.le (by omega)) [some (.fz (.int k)), none, none, none, none] (m := 3) (by decide) (by decide)
  have c1 := set_fz (i := 2) e1 (show 2 < 6 by decide) rfl
  have t0 : ∀ j : Int, mTest (mBin opEq (mVar 2) (mCon (.int j))) [some (.op (.l f1.d)), some (.fz (.int k)), some (.fz (.int d)), none, none, none] = some (d == j, [some (.op (.l f1.d)), some (.fz (.int k)), some (.fz (.int d)), none, none, none]) := fun j =>
    test_of' (bin_of (a := .int d) (b := .int j) rfl rfl (eq_int d j))
  have go : ∀ (q : Qn) (f' : Fd) (ρ' : En), q.ok k → q.deep = 1 → Fd.ok n f' → mb__law_plain [some (.op (.l f.d)), some (.fz (.int k)), none, none, none, none] = some (.rt (.fz q.d), some (.op (.l f'.d)) :: some (.fz (.int k)) :: ρ') →
      ∃ (q : Qn) (f' : Fd), q.ok k ∧ q.deep = 1 ∧ Fd.ok n f' ∧ mf__law_plain [.op (.l f.d), .fz (.int k)] = some (.fz q.d, [.op (.l f'.d), .fz (.int k)]) := fun q f' ρ' h1 h2 h3 h4 =>
    ⟨q, f', h1, h2, h3, fnOf_rt (n := 2) (k := 4) rfl h4 rfl rfl⟩
  by_cases hd0 : d = 0
  · have tt := t0 0
    rw [hd0, show ((0 : Int) == 0) = true from rfl] at tt
    obtain ⟨q, f', q1, q2, q3, q4⟩ := plain0 (n := n) (d3.le (by omega)) hs hs2 [some (.fz (.int d)), none, none, none]
    refine go q f' _ q1 q2 q3 ((mSeq_nx c1).trans (mSeq_rt ((ifS_t (ρ1 := [some (.op (.l f1.d)), some (.fz (.int k)), some (.fz (.int d)), none, none, none]) ?_).trans q4)))
    rw [hd0]; exact tt
  · have tf := t0 0
    rw [show (d == 0) = false by simpa using hd0] at tf
    by_cases hd1 : d = 1
    · have tt := t0 1
      rw [show (d == 1) = true by simpa using hd1] at tt
      obtain ⟨q, f', ρ', q1, q2, q3, q4⟩ := plain1 (n := n) (k := k) (d3.le (by omega)) hs2 (some (.fz (.int d)))
      exact go q f' _ q1 q2 q3 ((mSeq_nx c1).trans ((mSeq_nx ((ifS_f tf).trans rfl)).trans (mSeq_rt ((ifS_t tt).trans q4))))
    · have tf1 := t0 1
      rw [show (d == 1) = false by simpa using hd1] at tf1
      obtain ⟨q, f', ρ', q1, q2, q3, q4⟩ := plain2 (n := n) (d3.le (by omega)) hs hs2 (some (.fz (.int d))) none none
      exact go q f' _ q1 q2 q3 ((mSeq_nx c1).trans ((mSeq_nx ((ifS_f tf).trans rfl)).trans ((mSeq_nx ((ifS_f tf1).trans rfl)).trans q4)))
end K03

set_option Elab.async false
set_option linter.all false
set_option maxRecDepth 100000
namespace K03
open PySem PySem.Spec PyProof.Rows L2 L3

theorem or_t {a b : Ev Bool} {ρ ρ1 : En} (h : a ρ = some (true, ρ1)) : mOrT a b ρ = some (true, ρ1) := by unfold mOrT; rw [h]
theorem or_f {a b : Ev Bool} {ρ ρ1 : En} (h : a ρ = some (false, ρ1)) : mOrT a b ρ = b ρ1 := by unfold mOrT; rw [h]
theorem lst_of {ms : Ev (List RV)} {ρ ρ1 : En} {rs : List RV} {ds : List D} (h : ms ρ = some (rs, ρ1)) (hd : dats rs = some ds) (hl : ds.length ≤ sizeLine) : mLst ms ρ = some (.fr (.l ds), ρ1) := by
  unfold mLst
  rw [h]
  simp only [hd, hl, if_true]
theorem O_fr {m : Ev RV} {ρ ρ1 : En} {ds : List D} (h : m ρ = some (.fr (.l ds), ρ1)) : mO m ρ = some (.fz (.list ds), ρ1) := by unfold mO; rw [h]
theorem binL_of {f : D → D → Option RV} {ma mb : Ev RV} {ρ ρ1 ρ2 : En} {ds : List D} {b : D} {r : RV} (h1 : ma ρ = some (.fr (.l ds), ρ1)) (h2 : mb ρ1 = some (.fz b, ρ2)) (h3 : f (.list ds) b = some r) : mBin f ma mb ρ = some (r, ρ2) := by
  unfold mBin
  rw [O_fr h1]
  simp only [O_fz h2, look, h3]
def cq : Nat → Nat
  | 0 => 0
  | d + 1 => 2 * cq d + 30
theorem eqI {x : Option AV} {ρ : En} {i : Nat} {a : Int} (j : Int) (h : ρ[i]? = some (some (.fz (.int a)))) : mTest (mBin opEq (mVar i) (mCon (.int j))) ρ = some (a == j, ρ) := by
  have : mVar i ρ = some (.fz (.int a), ρ) := by unfold mVar; rw [h]
  exact test_of' (bin_of this rfl (eq_int a j))
theorem question_ok : ∀ (deep i : Nat), deep ≤ i → 1 ≤ deep → ∀ (s dI : Int), dI = deep → 1 ≤ s → s ≤ 100 → ∀ (f : Fd) (n k : Nat), f.ok (n + cq deep) → 1 ≤ k → k ≤ 4 →
    ∃ (q : Qn) (f' : Fd), q.ok k ∧ q.deep ≤ deep ∧ Fd.ok n f' ∧ mf__law_question i [.op (.l f.d), .fz (.int k), .fz (.int s), .fz (.int dI)] = some (.fz q.d, [.op (.l f'.d), .fz (.int k), .fz (.int s), .fz (.int dI)])
  | 0, _, _, h, _, _, _, _, _, _, _, _, _, _, _ => absurd h (by decide)
  | d + 1, 0, h, _, _, _, _, _, _, _, _, _, _, _, _ => absurd h (by omega)
  | d + 1, i + 1, hi, _, s, dI, hdI, hs1, hs2, f, n, k, h, hk1, hk2 => by
    have hc : cq (d + 1) = 2 * cq d + 30 := rfl
    rw [hc] at h
    obtain ⟨w, f1, w1, w2, w3, e1⟩ := draw_c (n := n + 2 * cq d + 29) (h.le (by omega)) [some (.fz (.int k)), some (.fz (.int s)), some (.fz (.int dI)), none, none, none] (m := 4) (by decide) (by decide)
    have c1 := set_fz (i := 4) e1 (show 4 < 7 by decide) rfl
    let ρ1 : En := [some (.op (.l f1.d)), some (.fz (.int k)), some (.fz (.int s)), some (.fz (.int dI)), some (.fz (.int w)), none, none]
    have ts : ∀ j : Int, mTest (mBin opEq (mVar 2) (mCon (.int j))) ρ1 = some (s == j, ρ1) := fun j => eqI (x := none) j rfl
    have td : ∀ j : Int, mTest (mBin opEq (mVar 3) (mCon (.int j))) ρ1 = some (dI == j, ρ1) := fun j => eqI (x := none) j rfl
    have tw : ∀ j : Int, mTest (mBin opEq (mVar 4) (mCon (.int j))) ρ1 = some (w == j, ρ1) := fun j => eqI (x := none) j rfl
    have go : ∀ (q : Qn) (f' : Fd) (ρ' : En), q.ok k → q.deep ≤ d + 1 → Fd.ok n f' → mb__law_question (mf__law_question i) [some (.op (.l f.d)), some (.fz (.int k)), some (.fz (.int s)), some (.fz (.int dI)), none, none, none] = some (.rt (.fz q.d), some (.op (.l f'.d)) :: some (.fz (.int k)) :: some (.fz (.int s)) :: some (.fz (.int dI)) :: ρ') →
        ∃ (q : Qn) (f' : Fd), q.ok k ∧ q.deep ≤ d + 1 ∧ Fd.ok n f' ∧ mf__law_question (i + 1) [.op (.l f.d), .fz (.int k), .fz (.int s), .fz (.int dI)] = some (.fz q.d, [.op (.l f'.d), .fz (.int k), .fz (.int s), .fz (.int dI)]) := fun q f' ρ' h1 h2 h3 h4 =>
      ⟨q, f', h1, h2, h3, fnOf_rt (n := 4) (k := 3) rfl h4 rfl rfl⟩
    have A : (s = 1 ∨ dI = 1 ∨ w = 0) ∨ ¬ (s = 1 ∨ dI = 1 ∨ w = 0) := Decidable.em _
    rcases A with A | A
    · have ta : mOrT (mTest (mBin opEq (mVar 2) (mCon (.int 1)))) (mOrT (mTest (mBin opEq (mVar 3) (mCon (.int 1)))) (mTest (mBin opEq (mVar 4) (mCon (.int 0))))) ρ1 = some (true, ρ1) := by
        by_cases a1 : s = 1
        · exact or_t ((ts 1).trans (by rw [show (s == 1) = true by simpa using a1]))
        · rw [or_f ((ts 1).trans (by rw [show (s == 1) = false by simpa using a1]))]
          by_cases a2 : dI = 1
          · exact or_t ((td 1).trans (by rw [show (dI == 1) = true by simpa using a2]))
          · rw [or_f ((td 1).trans (by rw [show (dI == 1) = false by simpa using a2]))]
            exact (tw 0).trans (by rw [show (w == 0) = true by simp; omega])
      obtain ⟨q, f2, q1, q2, q3, q4⟩ := plain_ok (n := n) (k := k) (w3.le (by omega)) hk1 hk2
      have pc : mFn1 mf__law_plain (mCons (mVar 0) (mConsD (mVar 1) mNil)) ρ1 = some (.fz q.d, some (.op (.l f2.d)) :: ρ1.tail) := fn1_of (j := 0) (rs := [.fz (.int k)]) (ρ1 := ρ1) rfl rfl rfl q4 rfl
      exact go q f2 _ q1 (by omega) q3 ((mSeq_nx c1).trans (mSeq_rt ((ifS_t ta).trans (ret_fz pc))))
    · have a1 : ¬ s = 1 := fun z => A (.inl z)
      have a2 : ¬ dI = 1 := fun z => A (.inr (.inl z))
      have a3 : ¬ w = 0 := fun z => A (.inr (.inr z))
      have ta : mOrT (mTest (mBin opEq (mVar 2) (mCon (.int 1)))) (mOrT (mTest (mBin opEq (mVar 3) (mCon (.int 1)))) (mTest (mBin opEq (mVar 4) (mCon (.int 0))))) ρ1 = some (false, ρ1) := by
        rw [or_f ((ts 1).trans (by rw [show (s == 1) = false by simpa using a1]))]
        rw [or_f ((td 1).trans (by rw [show (dI == 1) = false by simpa using a2]))]
        exact (tw 0).trans (by rw [show (w == 0) = false by simpa using a3])
      have hd1 : 1 ≤ d := by omega
      have B : (w = 1 ∨ s = 2) ∨ ¬ (w = 1 ∨ s = 2) := Decidable.em _
      rcases B with B | B
      · have tb : mOrT (mTest (mBin opEq (mVar 4) (mCon (.int 1)))) (mTest (mBin opEq (mVar 2) (mCon (.int 2)))) ρ1 = some (true, ρ1) := by
          by_cases b1 : w = 1
          · exact or_t ((tw 1).trans (by rw [show (w == 1) = true by simpa using b1]))
          · rw [or_f ((tw 1).trans (by rw [show (w == 1) = false by simpa using b1]))]
            exact (ts 2).trans (by rw [show (s == 2) = true by simp; omega])
        obtain ⟨q, f2, q1, q2, q3, q4⟩ := question_ok d i (by omega) hd1 (s - 1) (dI - 1) (by omega) (by omega) (by omega) f1 n k (w3.le (by omega)) hk1 hk2
        have pc : mFn1 (mf__law_question i) (mCons (mVar 0) (mConsD (mVar 1) (mConsD (mBin opSub (mVar 2) (mCon (.int 1))) (mConsD (mBin opSub (mVar 3) (mCon (.int 1))) mNil)))) ρ1 = some (.fz q.d, some (.op (.l f2.d)) :: ρ1.tail) := fn1_of (j := 0) (rs := [.fz (.int k), .fz (.int (s - 1)), .fz (.int (dI - 1))]) (ρ1 := ρ1) rfl rfl rfl q4 rfl
        exact go (.qnot q) f2 _ q1 (by show q.deep + 1 ≤ d + 1; omega) q3 ((mSeq_nx c1).trans ((mSeq_nx ((ifS_f ta).trans rfl)).trans (mSeq_rt ((ifS_t tb).trans (ret_fz (tup_of (consD_of rfl (consD_of pc rfl)) rfl sz2))))))
      · have b1 : ¬ w = 1 := fun z => B (.inl z)
        have b2 : ¬ s = 2 := fun z => B (.inr z)
        have tb : mOrT (mTest (mBin opEq (mVar 4) (mCon (.int 1)))) (mTest (mBin opEq (mVar 2) (mCon (.int 2)))) ρ1 = some (false, ρ1) := by
          rw [or_f ((tw 1).trans (by rw [show (w == 1) = false by simpa using b1]))]
          exact (ts 2).trans (by rw [show (s == 2) = false by simpa using b2])
        obtain ⟨x, g0, g1, g2, g3, ge⟩ := next_ok (n := n + 2 * cq d) (m := s - 2) (w3.le (by omega)) (by omega) (by omega)
        have pd : mBin opAddI (mCon (.int 1)) (mFn1 mf__law_next (mCons (mVar 0) (mConsD (mBin opSub (mVar 2) (mCon (.int 2))) mNil))) ρ1 = some (.fz (.int (1 + x)), some (.op (.l g0.d)) :: ρ1.tail) :=
          bin_of (a := .int 1) (b := .int x) rfl (fn1_of (j := 0) (rs := [.fz (.int (s - 2))]) (ρ1 := ρ1) rfl rfl rfl ge rfl) rfl
        have c2 := set_fz (i := 5) pd (show 5 < 7 by decide) rfl
        obtain ⟨p, f2, p1, p2, p3, p4⟩ := question_ok d i (by omega) hd1 (1 + x) (dI - 1) (by omega) (by omega) (by omega) g0 (n + cq d) k (g3.le (by omega)) hk1 hk2
        let ρ2 : En := [some (.op (.l g0.d)), some (.fz (.int k)), some (.fz (.int s)), some (.fz (.int dI)), some (.fz (.int w)), some (.fz (.int (1 + x))), none]
        have pc : mFn1 (mf__law_question i) (mCons (mVar 0) (mConsD (mVar 1) (mConsD (mVar 5) (mConsD (mBin opSub (mVar 3) (mCon (.int 1))) mNil)))) ρ2 = some (.fz p.d, some (.op (.l f2.d)) :: ρ2.tail) := fn1_of (j := 0) (rs := [.fz (.int k), .fz (.int (1 + x)), .fz (.int (dI - 1))]) (ρ1 := ρ2) rfl rfl rfl p4 rfl
        have c3 := set_fz (i := 6) pc (show 6 < 7 by decide) rfl
        obtain ⟨q, f3, q1, q2, q3, q4⟩ := question_ok d i (by omega) hd1 (s - 1 - (1 + x)) (dI - 1) (by omega) (by omega) (by omega) f2 n k (p3.le (by omega)) hk1 hk2
        let ρ3 : En := [some (.op (.l f2.d)), some (.fz (.int k)), some (.fz (.int s)), some (.fz (.int dI)), some (.fz (.int w)), some (.fz (.int (1 + x))), some (.fz p.d)]
        have pq : mFn1 (mf__law_question i) (mCons (mVar 0) (mConsD (mVar 1) (mConsD (mBin opSub (mBin opSub (mVar 2) (mCon (.int 1))) (mVar 5)) (mConsD (mBin opSub (mVar 3) (mCon (.int 1))) mNil)))) ρ3 = some (.fz q.d, some (.op (.l f3.d)) :: ρ3.tail) := fn1_of (j := 0) (rs := [.fz (.int k), .fz (.int (s - 1 - (1 + x))), .fz (.int (dI - 1))]) (ρ1 := ρ3) rfl rfl rfl q4 rfl
        have hw : w = 2 ∨ w = 3 := by omega
        have pw : ∃ wd : Str, ((wd = "both" ∧ (Qn.both p q).d = .tuple [.str wd, p.d, q.d]) ∨ (wd = "either" ∧ (Qn.either p q).d = .tuple [.str wd, p.d, q.d])) ∧ mBin opIx (mLst (mConsD (mCon (.str "both")) (mConsD (mCon (.str "either")) mNil))) (mBin opMod (mVar 4) (mCon (.int 2))) ρ3 = some (.fz (.str wd), ρ3) := by
          rcases hw with rfl | rfl
          · exact ⟨"both", .inl ⟨rfl, rfl⟩, binL_of (lst_of (ρ1 := ρ3) (ds := [.str "both", .str "either"]) rfl rfl sz2) (bin_of (a := .int 2) (b := .int 2) (r := .fz (.int 0)) rfl rfl rfl) rfl⟩
          · exact ⟨"either", .inr ⟨rfl, rfl⟩, binL_of (lst_of (ρ1 := ρ3) (ds := [.str "both", .str "either"]) rfl rfl sz2) (bin_of (a := .int 3) (b := .int 2) (r := .fz (.int 1)) rfl rfl rfl) rfl⟩
        obtain ⟨wd, hwd, pe⟩ := pw
        have last : mb__law_question (mf__law_question i) [some (.op (.l f.d)), some (.fz (.int k)), some (.fz (.int s)), some (.fz (.int dI)), none, none, none] = some (.rt (.fz (.tuple [.str wd, p.d, q.d])), some (.op (.l f3.d)) :: ρ3.tail) := (mSeq_nx c1).trans ((mSeq_nx ((ifS_f ta).trans rfl)).trans ((mSeq_nx ((ifS_f tb).trans rfl)).trans ((mSeq_nx c2).trans ((mSeq_nx c3).trans (ret_fz (tup_of (ds := [.str wd, p.d, q.d]) (consD_of pe (consD_of (m := mVar 6) (d := p.d) rfl (consD_of (ms := mNil) (rs := []) pq rfl))) rfl sz3))))))
        rcases hwd with ⟨_, e⟩ | ⟨_, e⟩
        · exact go (.both p q) f3 [some (.fz (.int w)), some (.fz (.int (1 + x))), some (.fz p.d)] ⟨p1, q1⟩ (by show max p.deep q.deep + 1 ≤ d + 1; omega) q3 (by rw [e]; exact last)
        · exact go (.either p q) f3 [some (.fz (.int w)), some (.fz (.int (1 + x))), some (.fz p.d)] ⟨p1, q1⟩ (by show max p.deep q.deep + 1 ≤ d + 1; omega) q3 (by rw [e]; exact last)
end K03

set_option Elab.async false
set_option linter.all false
set_option maxRecDepth 100000
namespace K03
open PySem PySem.Spec PyProof.Rows L2 L3

theorem binB_of {f : D → D → Option RV} {ma mb : Ev RV} {ρ ρ1 ρ2 : En} {j : Nat} {a b : D} {r : RV} (h1 : ma ρ = some (.bor j, ρ1)) (h2 : mb ρ1 = some (.fz b, ρ2)) (hl : look ρ2 (.bor j) = some a) (h3 : f a b = some r) : mBin f ma mb ρ = some (r, ρ2) := by
  have : mO ma ρ = some (.bor j, ρ1) := by unfold mO; rw [h1]
  unfold mBin
  rw [this]
  simp only [O_fz h2, hl]
  simp only [look, h3]
theorem cons_bor {m : Ev RV} {ms : Ev (List RV)} {ρ ρ1 ρ2 : En} {j : Nat} {rs : List RV} (h1 : m ρ = some (.bor j, ρ1)) (h2 : ms ρ1 = some (rs, ρ2)) : mCons m ms ρ = some (.bor j :: rs, ρ2) := by
  have : mO m ρ = some (.bor j, ρ1) := by unfold mO; rw [h1]
  unfold mCons
  rw [this]
  simp only [h2]
theorem consD_fr {m : Ev RV} {ms : Ev (List RV)} {ρ ρ1 ρ2 : En} {ds : List D} {rs : List RV} (h1 : m ρ = some (.fr (.l ds), ρ1)) (h2 : ms ρ1 = some (rs, ρ2)) : mConsD m ms ρ = some (.fz (.list ds) :: rs, ρ2) := by
  have : mD m ρ = some (.fz (.list ds), ρ1) := by unfold mD; rw [h1]
  unfold mConsD
  rw [this]
  simp only [h2]
def Cs (k : Nat) (cs : List Int) : Prop := cs.length = k ∧ ∀ c ∈ cs, 0 ≤ c ∧ c ≤ 1000000
theorem fMax_ints {zs : List Int} (h : zs ≠ []) : fMax [.list (zs.map PyData.int)] = some (.fz (.int (maxL zs))) := by
  cases zs with
  | nil => exact absurd rfl h
  | cons z r =>
    have := intsOf_map (z :: r)
    unfold fMax
    simp only [this]
theorem atI0 (x : D) (xs : List D) : atI (x :: xs) 0 = some x := atI_nat (j := 0) rfl
theorem rep_flat (k : Nat) (z : D) : (List.replicate k [z]).flatten = List.replicate k z := by
  induction k with
  | zero => rfl
  | succ k ih => rw [List.replicate_succ, List.flatten_cons, ih, List.replicate_succ]; rfl
theorem repL_of {ms : Ev (List RV)} {mb : Ev RV} {ρ ρ1 ρ2 : En} {z : D} {k : Nat} (h1 : ms ρ = some ([.fz z], ρ1)) (h2 : mb ρ1 = some (.fz (.int k), ρ2)) (hk : k ≤ 100) : mRepL ms mb ρ = some (.fr (.l (List.replicate k z)), ρ2) := by
  have hz1 : (1 : Nat) ≤ sizeLine := Nat.le_of_lt (small1000 (by decide))
  have hz2 : k ≤ sizeLine := Nat.le_of_lt (small1000 (by omega))
  unfold mRepL
  rw [h1]
  simp only [dats, List.length_cons, List.length_nil, Nat.zero_add, hz1, if_true, O_fz h2, look]
  rw [if_pos (by simp only [Bool.and_eq_true, decide_eq_true_eq, Nat.one_mul, Int.toNat_natCast]; omega), Int.toNat_natCast, rep_flat]
theorem counts_ok {f : Fd} {n k : Nat} (h : f.ok (n + 20)) (hk1 : 1 ≤ k) (hk2 : k ≤ 4) : ∃ (cs : List Int) (f' : Fd), Cs k cs ∧ Fd.ok n f' ∧
    mf__law_counts [.op (.l f.d), .fz (.int k)] = some (.fz (tI cs), [.op (.l f'.d), .fz (.int k)]) := by
  -- the greatest number
  obtain ⟨x, f1, hx, h1, e1⟩ := one_ok (n := n + 19) (ds := [.int 2, .int 4, .int 12, .int 1000001]) (h.le (by omega)) (by simp) (by simp)
  have hx' : ∃ m : Int, x = .int m ∧ 0 < m ∧ m ≤ 1000001 := by
    simp at hx
    rcases hx with rfl | rfl | rfl | rfl
    · exact ⟨2, rfl, by decide, by decide⟩
    · exact ⟨4, rfl, by decide, by decide⟩
    · exact ⟨12, rfl, by decide, by decide⟩
    · exact ⟨1000001, rfl, by decide, by decide⟩
  obtain ⟨m, rfl, m0, m1⟩ := hx'
  have p1 : opPow (.int 10) (.int 6) = some (.fz (.int 1000000)) := by
    have : (10 : Int) ^ 6 = 1000000 := by decide
    simp [opPow, this]
  let ρ0 : En := [some (.op (.l f.d)), some (.fz (.int k)), none, none]
  have l1 : mLst (mConsD (mCon (.int 2)) (mConsD (mCon (.int 4)) (mConsD (mCon (.int 12)) (mConsD (mBin opAddI (mBin opPow (mCon (.int 10)) (mCon (.int 6))) (mCon (.int 1))) mNil)))) ρ0 = some (.fr (.l [.int 2, .int 4, .int 12, .int 1000001]), ρ0) :=
    lst_of (consD_of rfl (consD_of rfl (consD_of rfl (consD_of (bin_of (a := .int 1000000) (b := .int 1) (bin_of (a := .int 10) (b := .int 6) rfl rfl p1) rfl rfl) rfl)))) rfl sz4
  have la : mCons (mVar 0) (mConsD (mLst (mConsD (mCon (.int 2)) (mConsD (mCon (.int 4)) (mConsD (mCon (.int 12)) (mConsD (mBin opAddI (mBin opPow (mCon (.int 10)) (mCon (.int 6))) (mCon (.int 1))) mNil))))) mNil) ρ0 = some ([.bor 0, .fz (.list [.int 2, .int 4, .int 12, .int 1000001])], ρ0) :=
    cons_bor rfl (consD_fr l1 rfl)
  have c1 := set_fz (i := 2) (fn1_of la (by rfl) rfl e1 rfl) (show 2 < 4 by decide) rfl
  -- the row
  obtain ⟨zs, f2, v', z1, z2, z3, z4⟩ := comp_draws (i := 3) (me := mFn1 mf__law_next (mCons (mVar 0) (mConsD (mVar 2) mNil))) (m := m) [some (.fz (.int k)), some (.fz (.int m)), none, none] (Nat.lt_succ_self 3)
    (fun f n v hf => draw_v hf (r := [some (.fz (.int k)), some (.fz (.int m)), none, v]) (i := 1) rfl m0 (by omega)) (rangeI k) (n + 10) f1 none [] (h1.le (by simp; omega)) (by simp; omega) (fun c z => by cases z)
  rw [List.nil_append, ← rangeD_map] at z4
  rw [rangeI_len] at z1
  have c2 := set_fr (i := 3) (comp_of (k := 1) (range_c hk2 (some (.op (.l f1.d))) [some (.fz (.int m)), none]) z4) (show 3 < 4 by decide) rfl
  have hzs : Cs k zs := ⟨z1, fun c hc => by have := z2 c hc; omega⟩
  have ne : ∀ {cs : List Int}, Cs k cs → cs ≠ [] := fun {cs} hc z => by subst z; have := hc.1; simp at this; omega
  -- all alike?
  obtain ⟨d, f3, d1, d2, d3, e3⟩ := draw_c (n := n + 9) z3 [some (.fz (.int k)), some (.fz (.int m)), some (.ol (.l (zs.map PyData.int)))] (m := 3) (by decide) (by decide)
  have t3 := test_of' (bin_of e3 (mb := mCon (.int 0)) (b := .int 0) rfl (eq_int d 0))
  have s3 : ∃ cs : List Int, Cs k cs ∧ mIfS (mTest (mBin opEq (mFn1 mf__law_next (mCons (mVar 0) (mConsD (mCon (.int 3)) mNil))) (mCon (.int 0)))) (mSet 3 (mRepL (mConsD (mBin opIx (mVar 3) (mCon (.int 0))) mNil) (mVar 1))) mNext
      [some (.op (.l f2.d)), some (.fz (.int k)), some (.fz (.int m)), some (.ol (.l (zs.map PyData.int)))] = some (.nx, [some (.op (.l f3.d)), some (.fz (.int k)), some (.fz (.int m)), some (.ol (.l (cs.map PyData.int)))]) := by
    cases hb : d == 0 with
    | false =>
      rw [hb] at t3
      exact ⟨zs, hzs, (ifS_f t3).trans rfl⟩
    | true =>
      rw [hb] at t3
      cases hz : zs with
      | nil => exact absurd hz (ne hzs)
      | cons z r =>
        rw [hz] at t3
        refine ⟨List.replicate k z, ⟨by simp, fun c hc => ?_⟩, ?_⟩
        · rw [(List.mem_replicate.mp hc).2]
          exact hzs.2 z (by rw [hz]; exact List.mem_cons_self)
        · refine (ifS_t t3).trans ?_
          rw [List.map_replicate]
          refine set_fr (i := 3) (ρ1 := [some (.op (.l f3.d)), some (.fz (.int k)), some (.fz (.int m)), some (.ol (.l ((z :: r).map PyData.int)))]) (repL_of (z := .int z) (consD_of (binB_of (j := 3) (b := .int 0) rfl rfl rfl (show opIx (.list ((z :: r).map PyData.int)) (.int 0) = some (.fz (.int z)) from ?_)) rfl) rfl (by omega)) (show 3 < 4 by decide) rfl
          show (match atI (PyData.int z :: r.map PyData.int) 0 with | some d => some (RV.fz d) | none => none) = _
          rw [atI0]
  obtain ⟨cs, hcs, c3⟩ := s3
  -- not all nought
  have tm : mTest (mBin opEq (mCall fMax (mCons (mVar 3) mNil)) (mCon (.int 0))) [some (.op (.l f3.d)), some (.fz (.int k)), some (.fz (.int m)), some (.ol (.l (cs.map PyData.int)))] = some (maxL cs == 0, [some (.op (.l f3.d)), some (.fz (.int k)), some (.fz (.int m)), some (.ol (.l (cs.map PyData.int)))]) := by
    refine test_of' (bin_of (a := .int (maxL cs)) (b := .int 0) ?_ rfl (eq_int _ _))
    show (match fMax [.list (cs.map PyData.int)] with | some r => some (r, _) | _ => none) = _
    rw [fMax_ints (ne hcs)]
  have s4 : ∃ (es : List Int) (f4 : Fd), Cs k es ∧ Fd.ok n f4 ∧ mIfS (mTest (mBin opEq (mCall fMax (mCons (mVar 3) mNil)) (mCon (.int 0)))) (mPut (mVar 3) (mFn1 mf__law_next (mCons (mVar 0) (mConsD (mVar 1) mNil))) (mCon (.int 1))) mNext
      [some (.op (.l f3.d)), some (.fz (.int k)), some (.fz (.int m)), some (.ol (.l (cs.map PyData.int)))] = some (.nx, [some (.op (.l f4.d)), some (.fz (.int k)), some (.fz (.int m)), some (.ol (.l (es.map PyData.int)))]) := by
    cases hb : maxL cs == 0 with
    | false =>
      rw [hb] at tm
      exact ⟨cs, f3, hcs, d3.le (by omega), (ifS_f tm).trans rfl⟩
    | true =>
      rw [hb] at tm
      obtain ⟨y, f4, y1, y2, y3, e4⟩ := draw_v (n := n) (d3.le (by omega)) (r := [some (.fz (.int k)), some (.fz (.int m)), some (.ol (.l (cs.map PyData.int)))]) (i := 0) (m := (k : Int)) rfl (by omega) (by omega)
      refine ⟨cs.set y.toNat 1, f4, ⟨by rw [List.length_set]; exact hcs.1, fun c hc => ?_⟩, y3, (ifS_t tm).trans ?_⟩
      · rcases List.mem_or_eq_of_mem_set hc with z | rfl
        · exact hcs.2 c z
        · exact ⟨by decide, by decide⟩
      · have hix : ixN (cs.map PyData.int).length y = some y.toNat := by
          unfold ixN
          rw [List.length_map, hcs.1, if_pos y1, if_pos y2]
        have ey := O_fz e4
        unfold mPut
        show (match mO (mFn1 mf__law_next (mCons (mVar 0) (mConsD (mVar 1) mNil))) [some (.op (.l f3.d)), some (.fz (.int k)), some (.fz (.int m)), some (.ol (.l (cs.map PyData.int)))] with
          | some (a, ρ3) => match look ρ3 a, ownL ρ3 3 with
            | some (.int k), some ds => match ixN ds.length k with
              | some q => some (Fl.nx, setL ρ3 3 (ds.set q (.int 1)))
              | none => none
            | _, _ => none
          | _ => none) = _
        rw [ey]
        show (match ixN (cs.map PyData.int).length y with
              | some q => some (Fl.nx, setL [some (.op (.l f4.d)), some (.fz (.int k)), some (.fz (.int m)), some (.ol (.l (cs.map PyData.int)))] 3 ((cs.map PyData.int).set q (.int 1)))
              | none => none) = _
        rw [hix, List.map_set]
        rfl
  obtain ⟨es, f4, hes, h4, c4⟩ := s4
  refine ⟨es, f4, hes, h4, fnOf_rt (n := 2) (k := 2) (ρ' := [some (.op (.l f4.d)), some (.fz (.int k)), some (.fz (.int m)), some (.ol (.l (es.map PyData.int)))]) rfl ?_ rfl rfl⟩
  exact (mSeq_nx c1).trans ((mSeq_nx c2).trans ((mSeq_nx c3).trans ((mSeq_nx c4).trans rfl)))
end K03

set_option Elab.async false
set_option linter.all false
set_option maxRecDepth 100000
namespace K03
open PySem PySem.Spec PyProof.Rows L2 L3

theorem rise_len : ∀ (ss : List Int) (lo k : Int), ss.Pairwise (· < ·) → (∀ y ∈ ss, lo ≤ y ∧ y < k) → lo ≤ k → lo + ss.length ≤ k
  | [], lo, k, _, _, h => by simpa using h
  | a :: r, lo, k, hp, hb, _ => by
    obtain ⟨h1, h2⟩ := hb a List.mem_cons_self
    obtain ⟨p1, p2⟩ := List.pairwise_cons.mp hp
    have := rise_len r (a + 1) k p2 (fun y hy => ⟨by have := p1 y hy; omega, (hb y (List.mem_cons_of_mem _ hy)).2⟩) (by omega)
    simp only [List.length_cons]
    omega
def hl (ss cs : List Int) : List Int := ss.map fun s => cs.getD s.toNat 0
def hsum (ss cs : List Int) : Int := (hl ss cs).sum
theorem hl_ok {k : Nat} {ss cs : List Int} (hr : Rise k ss) (hk : k ≤ 4) (hc : Cs k cs) : sumOk (hl ss cs) = true := by
  have h1 := rise_len ss 0 k hr.1 hr.2 (by omega)
  unfold sumOk
  simp only [Bool.and_eq_true, List.all_eq_true, decide_eq_true_eq]
  refine ⟨fun i hi => ?_, by unfold hl; rw [List.length_map]; omega⟩
  obtain ⟨s, hs, rfl⟩ := List.mem_map.mp hi
  obtain ⟨s0, s1⟩ := hr.2 s hs
  have hlt : s.toNat < cs.length := by rw [hc.1]; omega
  rw [List.getD_eq_getElem?_getD, List.getElem?_eq_getElem hlt]
  have := hc.2 _ (List.getElem_mem hlt)
  simp only [Option.getD_some]
  omega
theorem fSum_ints {xs : List Int} (h : sumOk xs = true) : fSum [.list (xs.map PyData.int)] = some (.fz (.int xs.sum)) := by
  unfold fSum
  simp only [intsOf_map, h, if_true]
theorem ix_counts {k : Nat} {cs : List Int} {s : Int} (hc : Cs k cs) (h0 : 0 ≤ s) (h1 : s < k) : opIx (tI cs) (.int s) = some (.fz (.int (cs.getD s.toNat 0))) := by
  have hlt : s.toNat < cs.length := by rw [hc.1]; omega
  have e := atI_nat (xs := cs.map PyData.int) (j := s.toNat) (v := .int cs[s.toNat]) (by simp [hlt])
  rw [show ((s.toNat : Nat) : Int) = s by omega] at e
  show (match atI (cs.map PyData.int) s with | some d => some (RV.fz d) | none => none) = _
  rw [e, List.getD_eq_getElem?_getD, List.getElem?_eq_getElem hlt]
  rfl
theorem comp_hands {k : Nat} {cs : List Int} (hc : Cs k cs) (x0 : Option AV) : ∀ (ss : List Int) (v : Option AV) (acc : List D), (∀ y ∈ ss, 0 ≤ y ∧ y < (k : Int)) → acc.length + ss.length ≤ 1000 → (∀ c, v ≠ some (.op c)) →
    ∃ v', compGo (gSet 2) mTrue (mBin opIx (mVar 1) (mVar 2)) (ss.map PyData.int) [x0, some (.fz (tI cs)), v] acc = some (acc ++ (hl ss cs).map PyData.int, [x0, some (.fz (tI cs)), v'])
  | [], v, acc, _, _, _ => ⟨v, by simp [compGo, hl]⟩
  | s :: ss, v, acc, hb, ha, hv => by
    obtain ⟨h0, h1⟩ := hb s List.mem_cons_self
    obtain ⟨v', e⟩ := comp_hands hc x0 ss (some (.fz (.int s))) (acc ++ [.int (cs.getD s.toNat 0)]) (fun y hy => hb y (List.mem_cons_of_mem _ hy)) (by simp at ha ⊢; omega) (fun c z => by cases z)
    have hsz : acc.length < sizeLine := small1000 (by simp at ha; omega)
    have hg : gSet 2 (.int s) [x0, some (.fz (tI cs)), v] = some [x0, some (.fz (tI cs)), some (.fz (.int s))] := by
      cases v with
      | none => rfl
      | some a => cases a with
        | fz d => rfl
        | ol c => rfl
        | op c => exact absurd rfl (hv c)
    have hm : mBin opIx (mVar 1) (mVar 2) [x0, some (.fz (tI cs)), some (.fz (.int s))] = some (.fz (.int (cs.getD s.toNat 0)), [x0, some (.fz (tI cs)), some (.fz (.int s))]) := bin_of (a := tI cs) (b := .int s) rfl rfl (ix_counts hc h0 h1)
    refine ⟨v', ?_⟩
    rw [List.map_cons, compGo, hg]
    simp only [mTrue, D_fz hm, hsz, if_true]
    rw [e]
    simp [hl]
theorem call_sum_fr {m : Ev RV} {ρ ρ1 : En} {xs : List Int} (h : m ρ = some (.fr (.l (xs.map PyData.int)), ρ1)) (hs : sumOk xs = true) : mCall fSum (mCons m mNil) ρ = some (.fz (.int xs.sum), ρ1) := by
  unfold mCall mCons
  rw [O_fr h]
  show (match fSum [.list (xs.map PyData.int)] with | some r => some (r, ρ1) | _ => none) = _
  rw [fSum_ints hs]
theorem hands_ok {k : Nat} {ss cs : List Int} (hr : Rise k ss) (hk : k ≤ 4) (hc : Cs k cs) : mf_hands_of [.fz (tI ss), .fz (tI cs)] = some (.fz (.int (hsum ss cs)), [.fz (tI ss), .fz (tI cs)]) := by
  obtain ⟨v', e⟩ := comp_hands hc (some (.fz (tI ss))) ss none [] hr.2 (by have := rise_len ss 0 k hr.1 hr.2 (by omega); simp; omega) (fun c z => by cases z)
  rw [List.nil_append] at e
  have ec := comp_of (k := 1) (mi := mSeqI (mVar 0)) (ρ := [some (.fz (tI ss)), some (.fz (tI cs))]) (ρ1 := [some (.fz (tI ss)), some (.fz (tI cs))]) (ds := ss.map PyData.int) rfl e
  exact fnOf_rt (n := 2) (k := 0) rfl (ret_fz (call_sum_fr ec (hl_ok hr hk hc))) rfl rfl
/-! the truth -/
def tr (cs : List Int) : Qn → Bool
  | .least ss n => decide (n ≤ hsum ss cs)
  | .more a b => decide (hsum b cs < hsum a cs)
  | .rest ss m r => hsum ss cs % m == r
  | .qnot q => !tr cs q
  | .both p q => tr cs p && tr cs q
  | .either p q => tr cs p || tr cs q
theorem opEq_s {a b : Str} (h : eqOk (.str a) (.str b) = true) : opEq (.str a) (.str b) = some (.fz (.bool (a == b))) := by
  unfold opEq
  rw [if_pos h]
  rfl
theorem wordT {ρ : En} {a b : Str} (i : Nat) (h : ρ[i]? = some (some (.fz (.str a)))) (hok : eqOk (.str a) (.str b) = true) {v : Bool} (hv : (a == b) = v) : mTest (mBin opEq (mVar i) (mCon (.str b))) ρ = some (v, ρ) := by
  have : mVar i ρ = some (.fz (.str a), ρ) := by unfold mVar; rw [h]
  subst hv
  exact test_of' (bin_of this rfl (opEq_s hok))
theorem holds_ok {k : Nat} {cs : List Int} (hk : k ≤ 4) (hc : Cs k cs) : ∀ (q : Qn) (i : Nat), q.deep ≤ i → q.ok k → mf_holds i [.fz q.d, .fz (tI cs)] = some (.fz (.bool (tr cs q)), [.fz q.d, .fz (tI cs)])
  | q, 0, h, _ => by cases q <;> simp [Qn.deep] at h
  | .least ss n, i + 1, _, ho => by
    let ρ : En := [some (.fz (Qn.least ss n).d), some (.fz (tI cs)), some (.fz (.str "least")), none]
    refine fnOf_rt (n := 2) (k := 2) (ρ' := [some (.fz (Qn.least ss n).d), some (.fz (tI cs)), some (.fz (.str "least")), some (.fz (.int (hsum ss cs)))]) rfl ?_ rfl rfl
    refine (mSeq_nx (ρ1 := ρ) rfl).trans ?_
    refine (mSeq_nx ((ifS_f (wordT 2 rfl (by decide +kernel) (by decide +kernel))).trans rfl)).trans ((mSeq_nx ((ifS_f (wordT 2 rfl (by decide +kernel) (by decide +kernel))).trans rfl)).trans ((mSeq_nx ((ifS_f (wordT 2 rfl (by decide +kernel) (by decide +kernel))).trans rfl)).trans ?_))
    refine (mSeq_nx (set_fz (i := 3) (fnD_of (ρ1 := ρ) (rs := [.fz (tI ss), .fz (tI cs)]) rfl rfl (hands_ok ho hk hc) rfl) (show 3 < 4 by decide) rfl)).trans ?_
    exact mSeq_rt ((ifS_t (wordT 2 rfl (by decide +kernel) (by decide +kernel))).trans rfl)
  | .more a b, i + 1, _, ho => by
    let ρ : En := [some (.fz (Qn.more a b).d), some (.fz (tI cs)), some (.fz (.str "more")), none]
    let ρ2 : En := [some (.fz (Qn.more a b).d), some (.fz (tI cs)), some (.fz (.str "more")), some (.fz (.int (hsum a cs)))]
    refine fnOf_rt (n := 2) (k := 2) (ρ' := ρ2) rfl ?_ rfl rfl
    refine (mSeq_nx (ρ1 := ρ) rfl).trans ?_
    refine (mSeq_nx ((ifS_f (wordT 2 rfl (by decide +kernel) (by decide +kernel))).trans rfl)).trans ((mSeq_nx ((ifS_f (wordT 2 rfl (by decide +kernel) (by decide +kernel))).trans rfl)).trans ((mSeq_nx ((ifS_f (wordT 2 rfl (by decide +kernel) (by decide +kernel))).trans rfl)).trans ?_))
    refine (mSeq_nx (ρ1 := ρ2) (set_fz (i := 3) (fnD_of (ρ1 := ρ) (rs := [.fz (tI a), .fz (tI cs)]) rfl rfl (hands_ok ho.1 hk hc) rfl) (show 3 < 4 by decide) rfl)).trans ?_
    refine (mSeq_nx ((ifS_f (wordT 2 rfl (by decide +kernel) (by decide +kernel))).trans rfl)).trans ?_
    exact mSeq_rt ((ifS_t (wordT 2 rfl (by decide +kernel) (by decide +kernel))).trans (ret_fz (bin_of (a := .int (hsum a cs)) (b := .int (hsum b cs)) rfl (fnD_of (ρ1 := ρ2) (rs := [.fz (tI b), .fz (tI cs)]) rfl rfl (hands_ok ho.2 hk hc) rfl) rfl)))
  | .rest ss m r, i + 1, _, ho => by
    let ρ : En := [some (.fz (Qn.rest ss m r).d), some (.fz (tI cs)), some (.fz (.str "rest")), none]
    let ρ2 : En := [some (.fz (Qn.rest ss m r).d), some (.fz (tI cs)), some (.fz (.str "rest")), some (.fz (.int (hsum ss cs)))]
    refine fnOf_rt (n := 2) (k := 2) (ρ' := ρ2) rfl ?_ rfl rfl
    refine (mSeq_nx (ρ1 := ρ) rfl).trans ?_
    refine (mSeq_nx ((ifS_f (wordT 2 rfl (by decide +kernel) (by decide +kernel))).trans rfl)).trans ((mSeq_nx ((ifS_f (wordT 2 rfl (by decide +kernel) (by decide +kernel))).trans rfl)).trans ((mSeq_nx ((ifS_f (wordT 2 rfl (by decide +kernel) (by decide +kernel))).trans rfl)).trans ?_))
    refine (mSeq_nx (ρ1 := ρ2) (set_fz (i := 3) (fnD_of (ρ1 := ρ) (rs := [.fz (tI ss), .fz (tI cs)]) rfl rfl (hands_ok ho.1 hk hc) rfl) (show 3 < 4 by decide) rfl)).trans ?_
    refine (mSeq_nx ((ifS_f (wordT 2 rfl (by decide +kernel) (by decide +kernel))).trans rfl)).trans ((mSeq_nx ((ifS_f (wordT 2 rfl (by decide +kernel) (by decide +kernel))).trans rfl)).trans ?_)
    have hm : opMod (.int (hsum ss cs)) (.int m) = some (.fz (.int (hsum ss cs % m))) := by
      show (if 0 < m then some (RV.fz (.int (hsum ss cs % m))) else none) = _
      rw [if_pos (by have := ho.2.1; omega)]
    exact ret_fz (bin_of (a := .int (hsum ss cs % m)) (b := .int r) (bin_of (a := .int (hsum ss cs)) (b := .int m) rfl rfl hm) rfl (eq_int _ _))
  | .qnot q, i + 1, hd, ho => by
    let ρ : En := [some (.fz (Qn.qnot q).d), some (.fz (tI cs)), some (.fz (.str "not")), none]
    refine fnOf_rt (n := 2) (k := 2) (ρ' := ρ) rfl ?_ rfl rfl
    refine (mSeq_nx (ρ1 := ρ) rfl).trans (mSeq_rt ((ifS_t (wordT 2 rfl (by decide +kernel) (by decide +kernel))).trans (ret_fz ?_)))
    have e : mFnD (mf_holds i) (mConsD (mBin opIx (mVar 0) (mCon (.int 1))) (mConsD (mVar 1) mNil)) ρ = some (.fz (.bool (tr cs q)), ρ) := fnD_of (rs := [.fz q.d, .fz (tI cs)]) rfl rfl (holds_ok hk hc q i (by simp [Qn.deep] at hd; omega) ho) rfl
    unfold mNotV
    rw [e]
    rfl
  | .both p q, i + 1, hd, ho => by
    let ρ : En := [some (.fz (Qn.both p q).d), some (.fz (tI cs)), some (.fz (.str "both")), none]
    refine fnOf_rt (n := 2) (k := 2) (ρ' := ρ) rfl ?_ rfl rfl
    refine (mSeq_nx (ρ1 := ρ) rfl).trans ((mSeq_nx ((ifS_f (wordT 2 rfl (by decide +kernel) (by decide +kernel))).trans rfl)).trans (mSeq_rt ((ifS_t (wordT 2 rfl (by decide +kernel) (by decide +kernel))).trans (ret_fz ?_))))
    have e1 : mFnD (mf_holds i) (mConsD (mBin opIx (mVar 0) (mCon (.int 1))) (mConsD (mVar 1) mNil)) ρ = some (.fz (.bool (tr cs p)), ρ) := fnD_of (rs := [.fz p.d, .fz (tI cs)]) rfl rfl (holds_ok hk hc p i (by simp [Qn.deep] at hd; omega) ho.1) rfl
    have e2 : mFnD (mf_holds i) (mConsD (mBin opIx (mVar 0) (mCon (.int 2))) (mConsD (mVar 1) mNil)) ρ = some (.fz (.bool (tr cs q)), ρ) := fnD_of (rs := [.fz q.d, .fz (tI cs)]) rfl rfl (holds_ok hk hc q i (by simp [Qn.deep] at hd; omega) ho.2) rfl
    unfold mAndV
    rw [e1]
    show _ = some (RV.fz (.bool (tr cs p && tr cs q)), ρ)
    cases tr cs p with
    | true => simp only [e2, Bool.true_and]
    | false => rfl
  | .either p q, i + 1, hd, ho => by
    let ρ : En := [some (.fz (Qn.either p q).d), some (.fz (tI cs)), some (.fz (.str "either")), none]
    refine fnOf_rt (n := 2) (k := 2) (ρ' := ρ) rfl ?_ rfl rfl
    refine (mSeq_nx (ρ1 := ρ) rfl).trans ((mSeq_nx ((ifS_f (wordT 2 rfl (by decide +kernel) (by decide +kernel))).trans rfl)).trans ((mSeq_nx ((ifS_f (wordT 2 rfl (by decide +kernel) (by decide +kernel))).trans rfl)).trans (mSeq_rt ((ifS_t (wordT 2 rfl (by decide +kernel) (by decide +kernel))).trans (ret_fz ?_)))))
    have e1 : mFnD (mf_holds i) (mConsD (mBin opIx (mVar 0) (mCon (.int 1))) (mConsD (mVar 1) mNil)) ρ = some (.fz (.bool (tr cs p)), ρ) := fnD_of (rs := [.fz p.d, .fz (tI cs)]) rfl rfl (holds_ok hk hc p i (by simp [Qn.deep] at hd; omega) ho.1) rfl
    have e2 : mFnD (mf_holds i) (mConsD (mBin opIx (mVar 0) (mCon (.int 2))) (mConsD (mVar 1) mNil)) ρ = some (.fz (.bool (tr cs q)), ρ) := fnD_of (rs := [.fz q.d, .fz (tI cs)]) rfl rfl (holds_ok hk hc q i (by simp [Qn.deep] at hd; omega) ho.2) rfl
    unfold mOrV
    rw [e1]
    show _ = some (RV.fz (.bool (tr cs p || tr cs q)), ρ)
    cases tr cs p with
    | true => rfl
    | false => simp only [e2, Bool.false_or]
end K03

set_option Elab.async false
set_option linter.all false
set_option maxRecDepth 100000
namespace K03
open PySem PySem.Spec PyProof.Rows L2 L3

theorem comp_t {st : TgM} {mt : Ev Bool} {me : Ev RV} {d x : D} {r acc : List D} {ρ ρ1 ρ2 ρ3 : En} (h1 : st d ρ = some ρ1) (h2 : mt ρ1 = some (true, ρ2)) (h3 : me ρ2 = some (.fz x, ρ3)) (h4 : acc.length < sizeLine) : compGo st mt me (d :: r) ρ acc = compGo st mt me r ρ3 (acc ++ [x]) := by
  rw [compGo, h1]
  simp only [h2, D_fz h3, h4, if_true]
theorem comp_f {st : TgM} {mt : Ev Bool} {me : Ev RV} {d : D} {r acc : List D} {ρ ρ1 ρ2 : En} (h1 : st d ρ = some ρ1) (h2 : mt ρ1 = some (false, ρ2)) : compGo st mt me (d :: r) ρ acc = compGo st mt me r ρ2 acc := by
  rw [compGo, h1]
  simp only [h2]
def enumF : Nat → List Int → List D
  | _, [] => []
  | o, c :: r => .tuple [.int (o : Int), .int c] :: enumF (o + 1) r
theorem enumD_F : ∀ (cs : List Int) (o : Nat), ((cs.map PyData.int).zipIdx o).map (fun p => PyData.tuple [.int (p.2 : Int), p.1]) = enumF o cs
  | [], _ => rfl
  | c :: r, o => by
    rw [List.map_cons, List.zipIdx_cons, List.map_cons, enumD_F r (o + 1)]
    rfl
def pickL (ss : List Int) : Nat → List Int → List Int
  | _, [] => []
  | o, c :: r => if (o : Int) ∈ ss then c :: pickL ss (o + 1) r else pickL ss (o + 1) r
theorem pickL_pos {ss : List Int} {o : Nat} {c : Int} {r : List Int} (h : (o : Int) ∈ ss) : pickL ss o (c :: r) = c :: pickL ss (o + 1) r := by rw [pickL, if_pos h]
theorem pickL_neg {ss : List Int} {o : Nat} {c : Int} {r : List Int} (h : ¬ (o : Int) ∈ ss) : pickL ss o (c :: r) = pickL ss (o + 1) r := by rw [pickL, if_neg h]
theorem pickL_congr {a b : List Int} : ∀ (cs : List Int) (o : Nat), (∀ i : Nat, o ≤ i → ((i : Int) ∈ a ↔ (i : Int) ∈ b)) → pickL a o cs = pickL b o cs
  | [], _, _ => rfl
  | c :: r, o, h => by
    have ih := pickL_congr (a := a) (b := b) r (o + 1) fun i hi => h i (by omega)
    have h0 := h o (Nat.le_refl _)
    unfold pickL
    by_cases hm : (o : Int) ∈ a
    · rw [if_pos hm, if_pos (h0.mp hm), ih]
    · rw [if_neg hm, if_neg (fun z => hm (h0.mpr z)), ih]
theorem pickL_nil : ∀ (cs : List Int) (o : Nat), pickL [] o cs = []
  | [], _ => rfl
  | c :: r, o => by unfold pickL; rw [if_neg (by simp)]; exact pickL_nil r (o + 1)
theorem pickL_hl : ∀ (cs : List Int) (o : Nat) (ss : List Int), ss.Pairwise (· < ·) → (∀ s ∈ ss, (o : Int) ≤ s ∧ s < o + cs.length) → pickL ss o cs = ss.map fun (s : Int) => cs.getD (s - (o : Int)).toNat 0
  | [], o, ss, _, hb => by
    cases ss with
    | nil => rfl
    | cons s r => have := hb s List.mem_cons_self; simp at this; omega
  | c :: r, o, [], _, _ => by simpa using pickL_nil (c :: r) o
  | c :: r, o, s :: ss, hp, hb => by
    obtain ⟨p1, p2⟩ := List.pairwise_cons.mp hp
    obtain ⟨s0, s1⟩ := hb s List.mem_cons_self
    by_cases hs : s = o
    · rw [pickL_pos (by rw [hs]; exact List.mem_cons_self)]
      rw [pickL_congr (b := ss) r (o + 1) fun i hi => by
        constructor
        · intro z
          rcases List.mem_cons.mp z with z | z
          · omega
          · exact z
        · exact fun z => List.mem_cons_of_mem _ z]
      rw [pickL_hl r (o + 1) ss p2 fun y hy => by
        have a1 := p1 y hy
        have a2 := (hb y (List.mem_cons_of_mem _ hy)).2
        simp only [List.length_cons] at a2
        omega]
      rw [List.map_cons]
      congr 1
      · rw [hs]; simp
      · refine List.map_congr_left fun y hy => ?_
        have a1 := p1 y hy
        have e : (y - (o : Int)).toNat = (y - ((o + 1 : Nat) : Int)).toNat + 1 := by omega
        rw [e]
        simp
    · have hn : ¬ (o : Int) ∈ s :: ss := fun z => by
        rcases List.mem_cons.mp z with z | z
        · omega
        · have := p1 _ z; omega
      rw [pickL_neg hn, pickL_hl r (o + 1) (s :: ss) hp fun y hy => by
        have a2 := (hb y hy).2
        simp only [List.length_cons] at a2
        rcases List.mem_cons.mp hy with z | z
        · omega
        · have := p1 y z; omega]
      refine List.map_congr_left fun y hy => ?_
      have hy1 : (o : Int) + 1 ≤ y := by
        rcases List.mem_cons.mp hy with z | z
        · omega
        · have := p1 y z; omega
      have e : (y - (o : Int)).toNat = (y - ((o + 1 : Nat) : Int)).toNat + 1 := by omega
      rw [e]
      simp
theorem pick_eq {k : Nat} {ss cs : List Int} (hr : Rise k ss) (hc : Cs k cs) : pickL ss 0 cs = hl ss cs := by
  rw [pickL_hl cs 0 ss hr.1 fun s hs => by have := hr.2 s hs; have := hc.1; omega]
  unfold hl
  refine List.map_congr_left fun s _ => ?_
  simp
theorem canLay_ints : ∀ ss : List Int, PyData.canLayAll0 (ss.map PyData.int) = true
  | [] => rfl
  | s :: r => by rw [List.map_cons, PyData.canLayAll0, canLay_ints r]; rfl
theorem any_ints (i : Int) : ∀ ss : List Int, ((ss.map PyData.int).any fun y => PyData.eqv y (.int i)) = decide (i ∈ ss)
  | [] => by simp
  | s :: r => by
    rw [List.map_cons, List.any_cons, any_ints i r]
    show ((s == i) || decide (i ∈ r)) = _
    by_cases h : s = i
    · subst h; simp
    · have : (s == i) = false := by simpa using h
      rw [this, Bool.false_or]
      by_cases h2 : i ∈ r
      · simp [h2]
      · have : ¬ i ∈ s :: r := fun z => by
          rcases List.mem_cons.mp z with z | z
          · exact h z.symm
          · exact h2 z
        rw [decide_eq_false h2, decide_eq_false this]
theorem opIn_ints (i : Int) (ss : List Int) : opIn (.int i) (tI ss) = some (.fz (.bool (decide (i ∈ ss)))) := by
  show (if PyData.canLayAll0 (ss.map PyData.int) && (PyData.int i).canLay0 && decide ((PyData.int i).depth ≤ 1000) then some (RV.fz (.bool ((ss.map PyData.int).any fun y => PyData.eqv y (.int i)))) else none) = _
  rw [canLay_ints, any_ints, if_pos (by simp [PyData.canLay0, PyData.depth])]
theorem comp_enum {Q : D} {j : Int} {ss : List Int} (hq : opIx Q (.int j) = some (.fz (tI ss))) (x1 x2 x3 x4 : Option AV) : ∀ (cs : List Int) (o : Nat) (v5 v6 : Option AV) (acc : List D), acc.length + cs.length ≤ 1000 → (∀ c, v5 ≠ some (.op c)) → (∀ c, v6 ≠ some (.op c)) →
    ∃ v5' v6', compGo (gTupM 2 (gsCons (gSet 5) (gsCons (gSet 6) gsNil))) (mTest (mBin opIn (mVar 5) (mBin opIx (mVar 0) (mCon (.int j))))) (mVar 6) (enumF o cs) [some (.fz Q), x1, x2, x3, x4, v5, v6] acc
      = some (acc ++ (pickL ss o cs).map PyData.int, [some (.fz Q), x1, x2, x3, x4, v5', v6'])
  | [], o, v5, v6, acc, _, _, _ => ⟨v5, v6, by simp [compGo, enumF, pickL]⟩
  | c :: r, o, v5, v6, acc, ha, h5, h6 => by
    let ρ1 : En := [some (.fz Q), x1, x2, x3, x4, some (.fz (.int (o : Int))), some (.fz (.int c))]
    have hg : gTupM 2 (gsCons (gSet 5) (gsCons (gSet 6) gsNil)) (.tuple [.int (o : Int), .int c]) [some (.fz Q), x1, x2, x3, x4, v5, v6] = some ρ1 := by
      cases v5 with
      | some a =>
        cases a with
        | op z => exact absurd rfl (h5 z)
        | fz z => cases v6 with
          | none => rfl
          | some b => cases b with
            | op z => exact absurd rfl (h6 z)
            | fz z => rfl
            | ol z => rfl
        | ol z => cases v6 with
          | none => rfl
          | some b => cases b with
            | op z => exact absurd rfl (h6 z)
            | fz z => rfl
            | ol z => rfl
      | none => cases v6 with
        | none => rfl
        | some b => cases b with
          | op z => exact absurd rfl (h6 z)
          | fz z => rfl
          | ol z => rfl
    have ht : mTest (mBin opIn (mVar 5) (mBin opIx (mVar 0) (mCon (.int j)))) ρ1 = some (decide ((o : Int) ∈ ss), ρ1) := test_of' (bin_of (a := .int (o : Int)) (b := tI ss) rfl (bin_of (a := Q) (b := .int j) rfl rfl hq) (opIn_ints _ _))
    have hsz : acc.length < sizeLine := small1000 (by simp at ha; omega)
    have n5 : ∀ z, (some (.fz (.int (o : Int))) : Option AV) ≠ some (.op z) := fun z e => by cases e
    have n6 : ∀ z, (some (.fz (.int c)) : Option AV) ≠ some (.op z) := fun z e => by cases e
    by_cases hm : (o : Int) ∈ ss
    · rw [decide_eq_true hm] at ht
      obtain ⟨a, b, e⟩ := comp_enum hq x1 x2 x3 x4 r (o + 1) (some (.fz (.int (o : Int)))) (some (.fz (.int c))) (acc ++ [.int c]) (by simp at ha ⊢; omega) n5 n6
      refine ⟨a, b, (comp_t (x := .int c) hg ht rfl hsz).trans (e.trans ?_)⟩
      rw [pickL_pos hm]
      simp
    · rw [decide_eq_false hm] at ht
      obtain ⟨a, b, e⟩ := comp_enum hq x1 x2 x3 x4 r (o + 1) (some (.fz (.int (o : Int)))) (some (.fz (.int c))) acc (by simp at ha ⊢; omega) n5 n6
      refine ⟨a, b, (comp_f hg ht).trans (e.trans ?_)⟩
      rw [pickL_neg hm]
theorem sum_enum {k : Nat} {Q : D} {j : Int} {ss cs : List Int} (hq : opIx Q (.int j) = some (.fz (tI ss))) (hr : Rise k ss) (hk : k ≤ 4) (hc : Cs k cs) (x2 x3 x4 : Option AV) :
    mCall fSum (mCons (mComp 2 (mEnum (mConsD (mVar 1) mNil)) (gTupM 2 (gsCons (gSet 5) (gsCons (gSet 6) gsNil))) (mTest (mBin opIn (mVar 5) (mBin opIx (mVar 0) (mCon (.int j))))) (mVar 6)) mNil) [some (.fz Q), some (.fz (tI cs)), x2, x3, x4]
      = some (.fz (.int (hsum ss cs)), [some (.fz Q), some (.fz (tI cs)), x2, x3, x4]) := by
  obtain ⟨a, b, e⟩ := comp_enum hq (some (.fz (tI cs))) x2 x3 x4 cs 0 none none [] (by have := hc.1; simp; omega) (fun c z => by cases z) (fun c z => by cases z)
  rw [List.nil_append, pick_eq hr hc] at e
  have em : mEnum (mConsD (mVar 1) mNil) [some (.fz Q), some (.fz (tI cs)), x2, x3, x4] = some (enumF 0 cs, [some (.fz Q), some (.fz (tI cs)), x2, x3, x4]) := by
    show some (enumD (cs.map PyData.int), _) = _
    rw [← enumD_F]
    rfl
  exact call_sum_fr (comp_of (k := 2) em e) (hl_ok hr hk hc)
end K03

set_option Elab.async false
set_option linter.all false
set_option maxRecDepth 100000
namespace K03
open PySem PySem.Spec PyProof.Rows L2 L3

theorem wordIn {ρ : En} {a : Str} (i : Nat) (h : ρ[i]? = some (some (.fz (.str a)))) (hok : (PyData.canLayAll0 [.str "both", .str "either"] && (PyData.str a).canLay0 && decide ((PyData.str a).depth ≤ 1000)) = true) {v : Bool} (hv : (([.str "both", .str "either"] : List D).any fun y => PyData.eqv y (.str a)) = v) :
    mTest (mBin opIn (mVar i) (mTup (mConsD (mCon (.str "both")) (mConsD (mCon (.str "either")) mNil)))) ρ = some (v, ρ) := by
  have h1 : mVar i ρ = some (.fz (.str a), ρ) := by unfold mVar; rw [h]
  have h2 : mTup (mConsD (mCon (.str "both")) (mConsD (mCon (.str "either")) mNil)) ρ = some (.fz (.tuple [.str "both", .str "either"]), ρ) := tup_of rfl rfl sz2
  subst hv
  refine test_of' (bin_of h1 h2 ?_)
  show (if PyData.canLayAll0 [.str "both", .str "either"] && (PyData.str a).canLay0 && decide ((PyData.str a).depth ≤ 1000) then some (RV.fz (.bool (([.str "both", .str "either"] : List D).any fun y => PyData.eqv y (.str a)))) else none) = _
  rw [if_pos hok]
theorem mIf_t {mc : Ev Bool} {a b : Ev RV} {ρ ρ1 : En} (h : mc ρ = some (true, ρ1)) : mIf mc a b ρ = a ρ1 := by unfold mIf; rw [h]
theorem mIf_f {mc : Ev Bool} {a b : Ev RV} {ρ ρ1 : En} (h : mc ρ = some (false, ρ1)) : mIf mc a b ρ = b ρ1 := by unfold mIf; rw [h]
theorem andV_of {a b : Ev RV} {ρ : En} {x y : Bool} (h1 : a ρ = some (.fz (.bool x), ρ)) (h2 : b ρ = some (.fz (.bool y), ρ)) : mAndV a b ρ = some (.fz (.bool (x && y)), ρ) := by
  unfold mAndV
  rw [h1]
  cases x with
  | true => simp only [h2, Bool.true_and]
  | false => rfl
theorem orV_of {a b : Ev RV} {ρ : En} {x y : Bool} (h1 : a ρ = some (.fz (.bool x), ρ)) (h2 : b ρ = some (.fz (.bool y), ρ)) : mOrV a b ρ = some (.fz (.bool (x || y)), ρ) := by
  unfold mOrV
  rw [h1]
  cases x with
  | true => rfl
  | false => simp only [h2, Bool.false_or]
theorem rest_eq {h m r : Int} (hm : 0 < m) (h0 : 0 ≤ r) (h1 : r < m) : ((h - r) % m == 0) = (h % m == r) := by
  have e2 : r % m = r := Int.emod_eq_of_lt h0 h1
  by_cases hr : h % m = r
  · have : (h - r) % m = 0 := by
      rw [Int.sub_emod, e2, hr]
      simp
    rw [this, hr]
    simp
  · have hne : ¬ (h - r) % m = 0 := fun z => by
      obtain ⟨c, hc⟩ := Int.dvd_of_emod_eq_zero z
      have e3 : h = r + m * c := by omega
      rw [e3, Int.add_mul_emod_self_left, e2] at hr
      exact hr rfl
    rw [beq_eq_false_iff_ne.mpr hne, beq_eq_false_iff_ne.mpr hr]
theorem truth_ok {k : Nat} {cs : List Int} (hk : k ≤ 4) (hc : Cs k cs) : ∀ (q : Qn) (i : Nat), q.deep ≤ i → q.ok k → mf__law_truth i [.fz q.d, .fz (tI cs)] = some (.fz (.bool (tr cs q)), [.fz q.d, .fz (tI cs)])
  | q, 0, h, _ => by cases q <;> simp [Qn.deep] at h
  | .least ss n, i + 1, _, ho => by
    let ρ : En := [some (.fz (Qn.least ss n).d), some (.fz (tI cs)), some (.fz (.str "least")), none, none]
    let ρ2 : En := [some (.fz (Qn.least ss n).d), some (.fz (tI cs)), some (.fz (.str "least")), none, some (.fz (.int (hsum ss cs)))]
    refine fnOf_rt (n := 2) (k := 3) (ρ' := ρ2) rfl ?_ rfl rfl
    refine (mSeq_nx (ρ1 := ρ) rfl).trans ?_
    refine (mSeq_nx ((ifS_f (wordT 2 rfl (by decide +kernel) (by decide +kernel))).trans rfl)).trans ((mSeq_nx ((ifS_f (wordIn 2 rfl (by decide +kernel) (by decide +kernel))).trans rfl)).trans ?_)
    refine (mSeq_nx (ρ1 := ρ2) (set_fz (i := 4) (sum_enum (Q := (Qn.least ss n).d) (j := 1) (ss := ss) rfl ho hk hc _ _ _) (show 4 < 5 by decide) rfl)).trans ?_
    exact mSeq_rt ((ifS_t (wordT 2 rfl (by decide +kernel) (by decide +kernel))).trans rfl)
  | .more a b, i + 1, _, ho => by
    let ρ : En := [some (.fz (Qn.more a b).d), some (.fz (tI cs)), some (.fz (.str "more")), none, none]
    let ρ2 : En := [some (.fz (Qn.more a b).d), some (.fz (tI cs)), some (.fz (.str "more")), none, some (.fz (.int (hsum a cs)))]
    refine fnOf_rt (n := 2) (k := 3) (ρ' := ρ2) rfl ?_ rfl rfl
    refine (mSeq_nx (ρ1 := ρ) rfl).trans ?_
    refine (mSeq_nx ((ifS_f (wordT 2 rfl (by decide +kernel) (by decide +kernel))).trans rfl)).trans ((mSeq_nx ((ifS_f (wordIn 2 rfl (by decide +kernel) (by decide +kernel))).trans rfl)).trans ?_)
    refine (mSeq_nx (ρ1 := ρ2) (set_fz (i := 4) (sum_enum (Q := (Qn.more a b).d) (j := 1) (ss := a) rfl ho.1 hk hc _ _ _) (show 4 < 5 by decide) rfl)).trans ?_
    refine (mSeq_nx ((ifS_f (wordT 2 rfl (by decide +kernel) (by decide +kernel))).trans rfl)).trans ?_
    exact mSeq_rt ((ifS_t (wordT 2 rfl (by decide +kernel) (by decide +kernel))).trans (ret_fz (bin_of (a := .int (hsum a cs)) (b := .int (hsum b cs)) rfl (sum_enum (Q := (Qn.more a b).d) (j := 2) (ss := b) rfl ho.2 hk hc _ _ _) rfl)))
  | .rest ss m r, i + 1, _, ho => by
    let ρ : En := [some (.fz (Qn.rest ss m r).d), some (.fz (tI cs)), some (.fz (.str "rest")), none, none]
    let ρ2 : En := [some (.fz (Qn.rest ss m r).d), some (.fz (tI cs)), some (.fz (.str "rest")), none, some (.fz (.int (hsum ss cs)))]
    refine fnOf_rt (n := 2) (k := 3) (ρ' := ρ2) rfl ?_ rfl rfl
    refine (mSeq_nx (ρ1 := ρ) rfl).trans ?_
    refine (mSeq_nx ((ifS_f (wordT 2 rfl (by decide +kernel) (by decide +kernel))).trans rfl)).trans ((mSeq_nx ((ifS_f (wordIn 2 rfl (by decide +kernel) (by decide +kernel))).trans rfl)).trans ?_)
    refine (mSeq_nx (ρ1 := ρ2) (set_fz (i := 4) (sum_enum (Q := (Qn.rest ss m r).d) (j := 1) (ss := ss) rfl ho.1 hk hc _ _ _) (show 4 < 5 by decide) rfl)).trans ?_
    refine (mSeq_nx ((ifS_f (wordT 2 rfl (by decide +kernel) (by decide +kernel))).trans rfl)).trans ((mSeq_nx ((ifS_f (wordT 2 rfl (by decide +kernel) (by decide +kernel))).trans rfl)).trans ?_)
    have hm : opMod (.int (hsum ss cs - r)) (.int m) = some (.fz (.int ((hsum ss cs - r) % m))) := by
      show (if 0 < m then some (RV.fz (.int ((hsum ss cs - r) % m))) else none) = _
      rw [if_pos (by have := ho.2.1; omega)]
    show _ = some (Fl.rt (.fz (.bool (hsum ss cs % m == r))), ρ2)
    rw [← rest_eq (h := hsum ss cs) (m := m) (r := r) (by have := ho.2.1; omega) ho.2.2.2.1 ho.2.2.2.2]
    exact ret_fz (bin_of (a := .int ((hsum ss cs - r) % m)) (b := .int 0) (bin_of (a := .int (hsum ss cs - r)) (b := .int m) rfl rfl hm) rfl (eq_int _ _))
  | .qnot q, i + 1, hd, ho => by
    let ρ : En := [some (.fz (Qn.qnot q).d), some (.fz (tI cs)), some (.fz (.str "not")), none, none]
    refine fnOf_rt (n := 2) (k := 3) (ρ' := ρ) rfl ?_ rfl rfl
    refine (mSeq_nx (ρ1 := ρ) rfl).trans (mSeq_rt ((ifS_t (wordT 2 rfl (by decide +kernel) (by decide +kernel))).trans (ret_fz ?_)))
    have e : mFnD (mf__law_truth i) (mConsD (mBin opIx (mVar 0) (mCon (.int 1))) (mConsD (mVar 1) mNil)) ρ = some (.fz (.bool (tr cs q)), ρ) := fnD_of (rs := [.fz q.d, .fz (tI cs)]) rfl rfl (truth_ok hk hc q i (by simp [Qn.deep] at hd; omega) ho) rfl
    unfold mNotV
    rw [e]
    rfl
  | .both p q, i + 1, hd, ho => by
    let W : Option AV := some (.fz (.str "both"))
    let Q : Option AV := some (.fz (Qn.both p q).d)
    let C : Option AV := some (.fz (tI cs))
    let R : Option AV := some (.ol (.l [.bool (tr cs p), .bool (tr cs q)]))
    refine fnOf_rt (n := 2) (k := 3) (ρ' := [Q, C, W, R, none]) rfl ?_ rfl rfl
    have ep := truth_ok hk hc p i (by simp [Qn.deep] at hd; omega) ho.1
    have eq := truth_ok hk hc q i (by simp [Qn.deep] at hd; omega) ho.2
    have hz0 : ([] : List D).length < sizeLine := small1000 (by decide)
    have hz1 : ([PyData.bool (tr cs p)] : List D).length < sizeLine := small1000 (show 1 ≤ 1000 by decide)
    have e2 : compGo (gSet 5) mTrue (mFnD (mf__law_truth i) (mConsD (mVar 5) (mConsD (mVar 1) mNil))) [p.d, q.d] [Q, C, W, none, none, none] [] = some ([.bool (tr cs p), .bool (tr cs q)], [Q, C, W, none, none, some (.fz q.d)]) :=
      (comp_t (ρ1 := [Q, C, W, none, none, some (.fz p.d)]) rfl rfl (fnD_of (rs := [.fz p.d, .fz (tI cs)]) rfl rfl ep rfl) hz0).trans
        ((comp_t (ρ1 := [Q, C, W, none, none, some (.fz q.d)]) rfl rfl (fnD_of (rs := [.fz q.d, .fz (tI cs)]) rfl rfl eq rfl) hz1).trans rfl)
    have ec := comp_of (k := 1) (mi := mSeqI (mSlice (mVar 0) (mInt (mCon (.int 1))) mNoI)) (ρ := [Q, C, W, none, none]) (ρ1 := [Q, C, W, none, none]) (ds := [p.d, q.d]) rfl e2
    refine (mSeq_nx (ρ1 := [Q, C, W, none, none]) rfl).trans ((mSeq_nx ((ifS_f (wordT 2 rfl (by decide +kernel) (by decide +kernel))).trans rfl)).trans (mSeq_rt ((ifS_t (wordIn 2 rfl (by decide +kernel) (by decide +kernel))).trans ?_)))
    refine (mSeq_nx (ρ1 := [Q, C, W, R, none]) (set_fr (i := 3) ec (show 3 < 5 by decide) rfl)).trans (ret_fz ((mIf_t (wordT 2 rfl (by decide +kernel) (by decide +kernel))).trans ?_))
    exact andV_of (binB_of (j := 3) (b := .int 0) rfl rfl rfl rfl) (binB_of (j := 3) (b := .int 1) rfl rfl rfl rfl)
  | .either p q, i + 1, hd, ho => by
    let W : Option AV := some (.fz (.str "either"))
    let Q : Option AV := some (.fz (Qn.either p q).d)
    let C : Option AV := some (.fz (tI cs))
    let R : Option AV := some (.ol (.l [.bool (tr cs p), .bool (tr cs q)]))
    refine fnOf_rt (n := 2) (k := 3) (ρ' := [Q, C, W, R, none]) rfl ?_ rfl rfl
    have ep := truth_ok hk hc p i (by simp [Qn.deep] at hd; omega) ho.1
    have eq := truth_ok hk hc q i (by simp [Qn.deep] at hd; omega) ho.2
    have hz0 : ([] : List D).length < sizeLine := small1000 (by decide)
    have hz1 : ([PyData.bool (tr cs p)] : List D).length < sizeLine := small1000 (show 1 ≤ 1000 by decide)
    have e2 : compGo (gSet 5) mTrue (mFnD (mf__law_truth i) (mConsD (mVar 5) (mConsD (mVar 1) mNil))) [p.d, q.d] [Q, C, W, none, none, none] [] = some ([.bool (tr cs p), .bool (tr cs q)], [Q, C, W, none, none, some (.fz q.d)]) :=
      (comp_t (ρ1 := [Q, C, W, none, none, some (.fz p.d)]) rfl rfl (fnD_of (rs := [.fz p.d, .fz (tI cs)]) rfl rfl ep rfl) hz0).trans
        ((comp_t (ρ1 := [Q, C, W, none, none, some (.fz q.d)]) rfl rfl (fnD_of (rs := [.fz q.d, .fz (tI cs)]) rfl rfl eq rfl) hz1).trans rfl)
    have ec := comp_of (k := 1) (mi := mSeqI (mSlice (mVar 0) (mInt (mCon (.int 1))) mNoI)) (ρ := [Q, C, W, none, none]) (ρ1 := [Q, C, W, none, none]) (ds := [p.d, q.d]) rfl e2
    refine (mSeq_nx (ρ1 := [Q, C, W, none, none]) rfl).trans ((mSeq_nx ((ifS_f (wordT 2 rfl (by decide +kernel) (by decide +kernel))).trans rfl)).trans (mSeq_rt ((ifS_t (wordIn 2 rfl (by decide +kernel) (by decide +kernel))).trans ?_)))
    refine (mSeq_nx (ρ1 := [Q, C, W, R, none]) (set_fr (i := 3) ec (show 3 < 5 by decide) rfl)).trans (ret_fz ((mIf_f (wordT 2 rfl (by decide +kernel) (by decide +kernel))).trans ?_))
    exact orV_of (binB_of (j := 3) (b := .int 0) rfl rfl rfl rfl) (binB_of (j := 3) (b := .int 1) rfl rfl rfl rfl)
end K03

set_option Elab.async false
set_option linter.all false
set_option maxRecDepth 100000
namespace K03
open PySem PySem.Spec PyProof.Rows L2 L3

abbrev oF (v : Option D) : Option AV := v.map AV.fz
abbrev oL (v : Option OC) : Option AV := v.map AV.ol
theorem for_nx {st : TgM} {mb : SM} {d : D} {r : List D} {ρ ρ1 ρ2 : En} (h1 : st d ρ = some ρ1) (h2 : mb ρ1 = some (.nx, ρ2)) : forGo st mb (d :: r) ρ = forGo st mb r ρ2 := by
  rw [forGo, h1]
  simp only [h2]
theorem repr_b (x y : Bool) : ∃ t : Str, fRepr [.list [.bool x, .bool y]] = some (.fz (.str t)) ∧ eqOk (.str t) (.str t) = true := by
  have go : ∀ d : D, (d.showable && d.canLay0 && decide (d.depth ≤ 1000) && decide (d.shown.length ≤ sizeLine)) = true → (∃ ds, d = .list ds) → eqOk (.str d.shown) (.str d.shown) = true → ∃ t : Str, fRepr [d] = some (.fz (.str t)) ∧ eqOk (.str t) (.str t) = true := fun d h ⟨ds, e⟩ h2 => by
    subst e
    refine ⟨_, ?_, h2⟩
    unfold fRepr
    exact if_pos h
  cases x <;> cases y
  · exact go _ (by decide +kernel) ⟨_, rfl⟩ (by decide +kernel)
  · exact go _ (by decide +kernel) ⟨_, rfl⟩ (by decide +kernel)
  · exact go _ (by decide +kernel) ⟨_, rfl⟩ (by decide +kernel)
  · exact go _ (by decide +kernel) ⟨_, rfl⟩ (by decide +kernel)
theorem opNe_same {t : Str} (h : eqOk (.str t) (.str t) = true) : opNe (.str t) (.str t) = some (.fz (.bool false)) := by
  unfold opNe
  rw [if_pos h]
  show some (RV.fz (.bool (!(t == t)))) = _
  simp
theorem call_repr_fr {m : Ev RV} {ρ ρ1 : En} {ds : List D} {r : RV} (h : m ρ = some (.fr (.l ds), ρ1)) (hr : fRepr [.list ds] = some r) : mCall fRepr (mCons m mNil) ρ = some (r, ρ1) := by
  unfold mCall mCons
  rw [O_fr h]
  show (match fRepr [.list ds] with | some r => some (r, ρ1) | _ => none) = _
  rw [hr]
abbrev inBody : SM := (mSeq (mSet 6 (mFn1 mf__law_counts (mCons (mVar 2) (mConsD (mVar 3) mNil))))
   (mSeq (mSet 7 (mFnD (mf__law_truth 4) (mConsD (mVar 4) (mConsD (mVar 6) mNil))))
   (mIfS (mTest (mBin opNe (mCall fRepr (mCons (mLst (mConsD (mFnD (mf_holds 5) (mConsD (mVar 4) (mConsD (mVar 6) mNil))) (mConsD (mFnD (mf_holds 5) (mConsD (mTup (mConsD (mCon (.str "not")) (mConsD (mVar 4) mNil))) (mConsD (mVar 6) mNil))) mNil))) mNil)) (mCall fRepr (mCons (mLst (mConsD (mVar 7) (mConsD (mNotV (mVar 7)) mNil))) mNil))))
    (mRet (mCon (.bool false)))
    mNext)))
theorem inner {k : Nat} (hk1 : 1 ≤ k) (hk2 : k ≤ 4) {q : Qn} (hq : q.ok k) (hd : q.deep ≤ 3) (S K : Option AV) : ∀ (xs : List Int) (f : Fd) (n : Nat) (v5 v6 v7 : Option D), f.ok (n + 20 * xs.length) →
    ∃ (f' : Fd) (w5 w6 w7 : Option D), Fd.ok n f' ∧ forGo (gSet 5) inBody (xs.map PyData.int) [S, K, some (.ol (.l f.d)), some (.fz (.int k)), some (.fz q.d), oF v5, oF v6, oF v7] = some (.nx, [S, K, some (.ol (.l f'.d)), some (.fz (.int k)), some (.fz q.d), oF w5, oF w6, oF w7])
  | [], f, n, v5, v6, v7, h => ⟨f, v5, v6, v7, by simpa using h, by simp [forGo]⟩
  | x :: xs, f, n, v5, v6, v7, h => by
    obtain ⟨cs, f1, c1, c2, c3⟩ := counts_ok (f := f) (n := n + 20 * xs.length) (k := k) (h.le (by simp; omega)) hk1 hk2
    let ρ1 : En := [S, K, some (.ol (.l f.d)), some (.fz (.int k)), some (.fz q.d), some (.fz (.int x)), oF v6, oF v7]
    let ρ2 : En := [S, K, some (.ol (.l f1.d)), some (.fz (.int k)), some (.fz q.d), some (.fz (.int x)), some (.fz (tI cs)), oF v7]
    let ρ3 : En := [S, K, some (.ol (.l f1.d)), some (.fz (.int k)), some (.fz q.d), some (.fz (.int x)), some (.fz (tI cs)), some (.fz (.bool (tr cs q)))]
    have g : gSet 5 (.int x) [S, K, some (.ol (.l f.d)), some (.fz (.int k)), some (.fz q.d), oF v5, oF v6, oF v7] = some ρ1 := by cases v5 <;> rfl
    have s6 : mSet 6 (mFn1 mf__law_counts (mCons (mVar 2) (mConsD (mVar 3) mNil))) ρ1 = some (.nx, ρ2) := set_fz (i := 6) (fn1_of (j := 2) (rs := [.fz (.int k)]) (ρ1 := ρ1) rfl rfl rfl c3 rfl) (show 6 < 8 by decide) (by cases v6 <;> rfl)
    have s7 : mSet 7 (mFnD (mf__law_truth 4) (mConsD (mVar 4) (mConsD (mVar 6) mNil))) ρ2 = some (.nx, ρ3) := set_fz (i := 7) (fnD_of (rs := [.fz q.d, .fz (tI cs)]) (ρ1 := ρ2) rfl rfl (truth_ok hk2 c1 q 4 (by omega) hq) rfl) (show 7 < 8 by decide) (by cases v7 <;> rfl)
    have h1 : mFnD (mf_holds 5) (mConsD (mVar 4) (mConsD (mVar 6) mNil)) ρ3 = some (.fz (.bool (tr cs q)), ρ3) := fnD_of (rs := [.fz q.d, .fz (tI cs)]) (ρ1 := ρ3) rfl rfl (holds_ok hk2 c1 q 5 (by omega) hq) rfl
    have ht : mTup (mConsD (mCon (.str "not")) (mConsD (mVar 4) mNil)) ρ3 = some (.fz (Qn.qnot q).d, ρ3) := tup_of (ds := [.str "not", q.d]) rfl rfl sz2
    have ha : mConsD (mTup (mConsD (mCon (.str "not")) (mConsD (mVar 4) mNil))) (mConsD (mVar 6) mNil) ρ3 = some ([.fz (Qn.qnot q).d, .fz (tI cs)], ρ3) := consD_of ht rfl
    have h2 : mFnD (mf_holds 5) (mConsD (mTup (mConsD (mCon (.str "not")) (mConsD (mVar 4) mNil))) (mConsD (mVar 6) mNil)) ρ3 = some (.fz (.bool (!tr cs q)), ρ3) := fnD_of ha rfl (holds_ok hk2 c1 (.qnot q) 5 (by show q.deep + 1 ≤ 5; omega) hq) rfl
    obtain ⟨t, r1, r2⟩ := repr_b (tr cs q) (!tr cs q)
    have p1 := call_repr_fr (lst_of (ds := [.bool (tr cs q), .bool (!tr cs q)]) (consD_of h1 (consD_of (ms := mNil) (rs := []) h2 rfl)) rfl sz2) r1
    have p2 : mCall fRepr (mCons (mLst (mConsD (mVar 7) (mConsD (mNotV (mVar 7)) mNil))) mNil) ρ3 = some (.fz (.str t), ρ3) := call_repr_fr (lst_of (ds := [.bool (tr cs q), .bool (!tr cs q)]) rfl rfl sz2) r1
    have tt := test_of' (bin_of p1 p2 (opNe_same r2))
    have b : inBody ρ1 = some (.nx, ρ3) := (mSeq_nx s6).trans ((mSeq_nx s7).trans ((ifS_f tt).trans rfl))
    obtain ⟨f', w5, w6, w7, i1, i2⟩ := inner hk1 hk2 hq hd S K xs f1 n (some (.int x)) (some (tI cs)) (some (.bool (tr cs q))) c2
    exact ⟨f', w5, w6, w7, i1, by rw [List.map_cons]; exact (for_nx g b).trans i2⟩
abbrev outBody : SM := (mSeq (mSet 2 (mFnD mf__law_feed (mConsD (mVar 0) (mConsD (mVar 1) mNil))))
   (mSeq (mSet 3 (mBin opAddI (mCon (.int 1)) (mFn1 mf__law_next (mCons (mVar 2) (mConsD (mCon (.int 4)) mNil)))))
   (mSeq (mSet 4 (mFn1 (mf__law_question 4) (mCons (mVar 2) (mConsD (mVar 3) (mConsD (mBin opAddI (mCon (.int 1)) (mFn1 mf__law_next (mCons (mVar 2) (mConsD (mCon (.int 6)) mNil)))) (mConsD (mCon (.int 3)) mNil))))))
   (mFor (mRange1 (mCons (mCon (.int 5)) mNil)) (gSet 5) inBody))))
theorem outer (ns : List Int) : ∀ (xs : List Int) (v1 v3 v4 v5 v6 v7 : Option D) (x2 : Option OC), (∀ x ∈ xs, 0 ≤ x ∧ x ≤ 1000) →
    ∃ ρ' : En, forGo (gSet 1) outBody (xs.map PyData.int) [some (.fz (.list (ns.map PyData.int))), oF v1, oL x2, oF v3, oF v4, oF v5, oF v6, oF v7] = some (.nx, some (.fz (.list (ns.map PyData.int))) :: ρ')
  | [], v1, v3, v4, v5, v6, v7, x2, _ => ⟨_, rfl⟩
  | x :: xs, v1, v3, v4, v5, v6, v7, x2, hx => by
    obtain ⟨hx0, hx1⟩ := hx x List.mem_cons_self
    obtain ⟨f, f1, f2⟩ := feed_ok ns hx0 hx1
    let S : Option AV := some (.fz (.list (ns.map PyData.int)))
    let K : Option AV := some (.fz (.int x))
    let ρ1 : En := [S, K, oL x2, oF v3, oF v4, oF v5, oF v6, oF v7]
    let ρ2 : En := [S, K, some (.ol (.l f.d)), oF v3, oF v4, oF v5, oF v6, oF v7]
    have g : gSet 1 (.int x) [S, oF v1, oL x2, oF v3, oF v4, oF v5, oF v6, oF v7] = some ρ1 := by cases v1 <;> rfl
    have s2 : mSet 2 (mFnD mf__law_feed (mConsD (mVar 0) (mConsD (mVar 1) mNil))) ρ1 = some (.nx, ρ2) := set_fr (i := 2) (fnD_of (rs := [.fz (.list (ns.map PyData.int)), .fz (.int x)]) (ρ1 := ρ1) rfl rfl f2 rfl) (show 2 < 8 by decide) (by cases x2 <;> rfl)
    obtain ⟨d, g1, d1, d2, d3, d4⟩ := next_ok (f := f) (n := 800000) (m := 4) (f1.le (by omega)) (by decide) (by decide)
    obtain ⟨k, hk⟩ : ∃ k : Nat, 1 + d = k := ⟨(1 + d).toNat, by omega⟩
    let ρ3 : En := [S, K, some (.ol (.l g1.d)), some (.fz (.int k)), oF v4, oF v5, oF v6, oF v7]
    have s3 : mSet 3 (mBin opAddI (mCon (.int 1)) (mFn1 mf__law_next (mCons (mVar 2) (mConsD (mCon (.int 4)) mNil)))) ρ2 = some (.nx, ρ3) := by
      have this : mSet 3 (mBin opAddI (mCon (.int 1)) (mFn1 mf__law_next (mCons (mVar 2) (mConsD (mCon (.int 4)) mNil)))) ρ2 = some (.nx, [S, K, some (.ol (.l g1.d)), some (.fz (.int (1 + d))), oF v4, oF v5, oF v6, oF v7]) := set_fz (i := 3) (bin_of (a := .int 1) (b := .int d) rfl (fn1_of (j := 2) (rs := [.fz (.int 4)]) (ρ1 := ρ2) rfl rfl rfl d4 rfl) rfl) (show 3 < 8 by decide) (by cases v3 <;> rfl)
      rw [this, hk]
    obtain ⟨y, g2, y1, y2, y3, y4⟩ := next_ok (f := g1) (n := 700000) (m := 6) (d3.le (by omega)) (by decide) (by decide)
    obtain ⟨q, g3, q1, q2, q3, q4⟩ := question_ok 3 4 (by decide) (by decide) (1 + y) 3 rfl (by omega) (by omega) g2 600000 k (y3.le (by decide)) (by omega) (by omega)
    let ρ4 : En := [S, K, some (.ol (.l g3.d)), some (.fz (.int k)), some (.fz q.d), oF v5, oF v6, oF v7]
    have ey : mBin opAddI (mCon (.int 1)) (mFn1 mf__law_next (mCons (mVar 2) (mConsD (mCon (.int 6)) mNil))) ρ3 = some (.fz (.int (1 + y)), [S, K, some (.ol (.l g2.d)), some (.fz (.int k)), oF v4, oF v5, oF v6, oF v7]) := bin_of (a := .int 1) (b := .int y) rfl (fn1_of (j := 2) (rs := [.fz (.int 6)]) (ρ1 := ρ3) rfl rfl rfl y4 rfl) rfl
    have ea : mCons (mVar 2) (mConsD (mVar 3) (mConsD (mBin opAddI (mCon (.int 1)) (mFn1 mf__law_next (mCons (mVar 2) (mConsD (mCon (.int 6)) mNil)))) (mConsD (mCon (.int 3)) mNil))) ρ3 = some ([.bor 2, .fz (.int k), .fz (.int (1 + y)), .fz (.int 3)], [S, K, some (.ol (.l g2.d)), some (.fz (.int k)), oF v4, oF v5, oF v6, oF v7]) := cons_bor rfl (consD_of rfl (consD_of ey rfl))
    have s4 : mSet 4 (mFn1 (mf__law_question 4) (mCons (mVar 2) (mConsD (mVar 3) (mConsD (mBin opAddI (mCon (.int 1)) (mFn1 mf__law_next (mCons (mVar 2) (mConsD (mCon (.int 6)) mNil)))) (mConsD (mCon (.int 3)) mNil))))) ρ3 = some (.nx, ρ4) := set_fz (i := 4) (fn1_of ea rfl rfl q4 rfl) (show 4 < 8 by decide) (by cases v4 <;> rfl)
    obtain ⟨g4, w5, w6, w7, i1, i2⟩ := inner (k := k) (by omega) (by omega) q1 q2 S K [0, 1, 2, 3, 4] g3 500000 v5 v6 v7 (q3.le (by decide))
    have s5 : mFor (mRange1 (mCons (mCon (.int 5)) mNil)) (gSet 5) inBody ρ4 = some (.nx, [S, K, some (.ol (.l g4.d)), some (.fz (.int k)), some (.fz q.d), oF w5, oF w6, oF w7]) := by
      have er : mRange1 (mCons (mCon (.int 5)) mNil) ρ4 = some ([.int 0, .int 1, .int 2, .int 3, .int 4], ρ4) := by
        show (if small62 5 then some (rangeD 0 (5 : Int).toNat, ρ4) else none) = _
        rw [if_pos (by decide)]
        rfl
      unfold mFor
      rw [er]
      exact i2
    have b : outBody ρ1 = some (.nx, [S, K, some (.ol (.l g4.d)), some (.fz (.int k)), some (.fz q.d), oF w5, oF w6, oF w7]) := (mSeq_nx s2).trans ((mSeq_nx s3).trans ((mSeq_nx s4).trans s5))
    obtain ⟨ρ', e⟩ := outer ns xs (some (.int x)) (some (.int k)) (some q.d) w5 w6 w7 (some (.l g4.d)) (fun y hy => hx y (List.mem_cons_of_mem _ hy))
    exact ⟨ρ', by rw [List.map_cons]; exact (for_nx g b).trans e⟩
theorem main : ∀ ns : List Int, ns.length ≤ 63 → ∃ l, mf_law [AV.fz (.list (ns.map PyData.int))] = some (.fz (.bool true), l) := fun ns hn => by
  let S : Option AV := some (.fz (.list (ns.map PyData.int)))
  have hN : ∃ N : Nat, N ≤ 16 ∧ (2 : Int) + (if (ns.length : Int) < 14 then (ns.length : Int) else 14) = N := by
    by_cases h : (ns.length : Int) < 14
    · exact ⟨2 + ns.length, by omega, by rw [if_pos h]; omega⟩
    · exact ⟨16, by omega, by rw [if_neg h]; rfl⟩
  obtain ⟨N, hN1, hN2⟩ := hN
  have er : mRange1 (mCons (mBin opAddI (mCon (.int 2)) (mCall fMin2 (mCons (mCon (.int 14)) (mCons (mCall fLen (mCons (mVar 0) mNil)) mNil)))) mNil) [S, none, none, none, none, none, none, none] = some (rangeD 0 N, [S, none, none, none, none, none, none, none]) := by
    show (if small62 (2 + (if (((ns.map PyData.int).length : Nat) : Int) < 14 then (((ns.map PyData.int).length : Nat) : Int) else 14)) then some (rangeD 0 (2 + (if (((ns.map PyData.int).length : Nat) : Int) < 14 then (((ns.map PyData.int).length : Nat) : Int) else 14)).toNat, [S, none, none, none, none, none, none, none]) else none) = _
    rw [List.length_map, hN2, if_pos (small_nat (by omega))]
    rfl
  obtain ⟨ρ', e⟩ := outer ns (rangeI N) none none none none none none none (fun x hx => by have := rangeI_in x hx; omega)
  rw [← rangeD_map] at e
  have ef : mFor (mRange1 (mCons (mBin opAddI (mCon (.int 2)) (mCall fMin2 (mCons (mCon (.int 14)) (mCons (mCall fLen (mCons (mVar 0) mNil)) mNil)))) mNil)) (gSet 1) outBody [S, none, none, none, none, none, none, none] = some (.nx, S :: ρ') := by
    unfold mFor
    rw [er]
    exact e
  exact ⟨_, fnOf_rt (n := 1) (k := 7) rfl ((mSeq_nx ef).trans rfl) rfl rfl⟩
end K03

namespace K03
open PySem PySem.Spec PyProof.Rows L2 L3
theorem all_mk {l : PySem.W.OpenLaw} {w : World} {K : Fg} {h : Heap} {mg : Str → Option Value} {fa f0 f1 f2 f3 f4 f5 f6 f7 f8 f9 f10 : Addr} (X : K.In h) (G : h.Ns mainGlobals mg) (hfa : mg "law" = some (.ref fa))
    {oc0 kV0 dc0 pm0 cd0 ct0 : Value} {od0 an0 : Option Addr} {sl0 : Array (Option Value)}
    {oc1 kV1 dc1 pm1 cd1 ct1 : Value} {od1 an1 : Option Addr} {sl1 : Array (Option Value)}
    {oc2 kV2 dc2 pm2 cd2 ct2 : Value} {od2 an2 : Option Addr} {sl2 : Array (Option Value)}
    {oc3 kV3 dc3 pm3 cd3 ct3 : Value} {od3 an3 : Option Addr} {sl3 : Array (Option Value)}
    {oc4 kV4 dc4 pm4 cd4 ct4 : Value} {od4 an4 : Option Addr} {sl4 : Array (Option Value)}
    {oc5 kV5 dc5 pm5 cd5 ct5 : Value} {od5 an5 : Option Addr} {sl5 : Array (Option Value)}
    {oc6 kV6 dc6 pm6 cd6 ct6 : Value} {od6 an6 : Option Addr} {sl6 : Array (Option Value)}
    {oc7 kV7 dc7 pm7 cd7 ct7 : Value} {od7 an7 : Option Addr} {sl7 : Array (Option Value)}
    {oc8 kV8 dc8 pm8 cd8 ct8 : Value} {od8 an8 : Option Addr} {sl8 : Array (Option Value)}
    {oc9 kV9 dc9 pm9 cd9 ct9 : Value} {od9 an9 : Option Addr} {sl9 : Array (Option Value)}
    {oc10 kV10 dc10 pm10 cd10 ct10 : Value} {od10 an10 : Option Addr} {sl10 : Array (Option Value)}
    (a0 : PySem.W.nsIn K mainGlobals "hands_of" = some (some (.ref f0))) (l0 : K.lookup f0 = some ⟨oc0, od0, .func (PySem.W.fnOf "hands_of" "hands_of" (defArgs s_hands_of) (defBody s_hands_of) (defScope s_hands_of) .none kV0 dc0 pm0 an0 cd0 ct0), sl0⟩) (c0 : PySem.W.codeIn K cd0 "hands_of" = true) (k0 : PySem.W.keepIn K (.ref f0) = true)
    (a1 : PySem.W.nsIn K mainGlobals "holds" = some (some (.ref f1))) (l1 : K.lookup f1 = some ⟨oc1, od1, .func (PySem.W.fnOf "holds" "holds" (defArgs s_holds) (defBody s_holds) (defScope s_holds) .none kV1 dc1 pm1 an1 cd1 ct1), sl1⟩) (c1 : PySem.W.codeIn K cd1 "holds" = true) (k1 : PySem.W.keepIn K (.ref f1) = true)
    (a2 : PySem.W.nsIn K mainGlobals "_law_feed" = some (some (.ref f2))) (l2 : K.lookup f2 = some ⟨oc2, od2, .func (PySem.W.fnOf "_law_feed" "_law_feed" (defArgs s__law_feed) (defBody s__law_feed) (defScope s__law_feed) .none kV2 dc2 pm2 an2 cd2 ct2), sl2⟩) (c2 : PySem.W.codeIn K cd2 "_law_feed" = true) (k2 : PySem.W.keepIn K (.ref f2) = true)
    (a3 : PySem.W.nsIn K mainGlobals "_law_next" = some (some (.ref f3))) (l3 : K.lookup f3 = some ⟨oc3, od3, .func (PySem.W.fnOf "_law_next" "_law_next" (defArgs s__law_next) (defBody s__law_next) (defScope s__law_next) .none kV3 dc3 pm3 an3 cd3 ct3), sl3⟩) (c3 : PySem.W.codeIn K cd3 "_law_next" = true) (k3 : PySem.W.keepIn K (.ref f3) = true)
    (a4 : PySem.W.nsIn K mainGlobals "_law_one" = some (some (.ref f4))) (l4 : K.lookup f4 = some ⟨oc4, od4, .func (PySem.W.fnOf "_law_one" "_law_one" (defArgs s__law_one) (defBody s__law_one) (defScope s__law_one) .none kV4 dc4 pm4 an4 cd4 ct4), sl4⟩) (c4 : PySem.W.codeIn K cd4 "_law_one" = true) (k4 : PySem.W.keepIn K (.ref f4) = true)
    (a5 : PySem.W.nsIn K mainGlobals "_law_some" = some (some (.ref f5))) (l5 : K.lookup f5 = some ⟨oc5, od5, .func (PySem.W.fnOf "_law_some" "_law_some" (defArgs s__law_some) (defBody s__law_some) (defScope s__law_some) .none kV5 dc5 pm5 an5 cd5 ct5), sl5⟩) (c5 : PySem.W.codeIn K cd5 "_law_some" = true) (k5 : PySem.W.keepIn K (.ref f5) = true)
    (a6 : PySem.W.nsIn K mainGlobals "_law_plain" = some (some (.ref f6))) (l6 : K.lookup f6 = some ⟨oc6, od6, .func (PySem.W.fnOf "_law_plain" "_law_plain" (defArgs s__law_plain) (defBody s__law_plain) (defScope s__law_plain) .none kV6 dc6 pm6 an6 cd6 ct6), sl6⟩) (c6 : PySem.W.codeIn K cd6 "_law_plain" = true) (k6 : PySem.W.keepIn K (.ref f6) = true)
    (a7 : PySem.W.nsIn K mainGlobals "_law_question" = some (some (.ref f7))) (l7 : K.lookup f7 = some ⟨oc7, od7, .func (PySem.W.fnOf "_law_question" "_law_question" (defArgs s__law_question) (defBody s__law_question) (defScope s__law_question) .none kV7 dc7 pm7 an7 cd7 ct7), sl7⟩) (c7 : PySem.W.codeIn K cd7 "_law_question" = true) (k7 : PySem.W.keepIn K (.ref f7) = true)
    (a8 : PySem.W.nsIn K mainGlobals "_law_counts" = some (some (.ref f8))) (l8 : K.lookup f8 = some ⟨oc8, od8, .func (PySem.W.fnOf "_law_counts" "_law_counts" (defArgs s__law_counts) (defBody s__law_counts) (defScope s__law_counts) .none kV8 dc8 pm8 an8 cd8 ct8), sl8⟩) (c8 : PySem.W.codeIn K cd8 "_law_counts" = true) (k8 : PySem.W.keepIn K (.ref f8) = true)
    (a9 : PySem.W.nsIn K mainGlobals "_law_truth" = some (some (.ref f9))) (l9 : K.lookup f9 = some ⟨oc9, od9, .func (PySem.W.fnOf "_law_truth" "_law_truth" (defArgs s__law_truth) (defBody s__law_truth) (defScope s__law_truth) .none kV9 dc9 pm9 an9 cd9 ct9), sl9⟩) (c9 : PySem.W.codeIn K cd9 "_law_truth" = true) (k9 : PySem.W.keepIn K (.ref f9) = true)
    (a10 : PySem.W.nsIn K mainGlobals "law" = some (some (.ref f10))) (l10 : K.lookup f10 = some ⟨oc10, od10, .func (PySem.W.fnOf "law" "law" (defArgs s_law) (defBody s_law) (defScope s_law) .none kV10 dc10 pm10 an10 cd10 ct10), sl10⟩) (c10 : PySem.W.codeIn K cd10 "law" = true) (k10 : PySem.W.keepIn K (.ref f10) = true)
    (z_range : PySem.W.nsIn K mainGlobals "range" = some none)
    (z_len : PySem.W.nsIn K mainGlobals "len" = some none)
    (z_tuple : PySem.W.nsIn K mainGlobals "tuple" = some none)
    (z_max : PySem.W.nsIn K mainGlobals "max" = some none)
    (z_min : PySem.W.nsIn K mainGlobals "min" = some none)
    (z_sum : PySem.W.nsIn K mainGlobals "sum" = some none)
    (z_abs : PySem.W.nsIn K mainGlobals "abs" = some none)
    (z_repr : PySem.W.nsIn K mainGlobals "repr" = some none)
    (z_enumerate : PySem.W.nsIn K mainGlobals "enumerate" = some none) :
    ∃ fd : FuncData, (∀ (s : Shared) (v : Value), BindsTo s fd ⟨[v], []⟩ [("_law_script", v)]) ∧ ∀ base : Heap, K.In base → base.Ns mainGlobals mg → FnOk l.prog w K mg base CX0 9 fa fd ["_law_script"] (spF K 1 mf_law) := by
  have e := hfa.symm.trans (PySem.W.mg_of X G a10)
  cases e
  have B : BN mg := ⟨PySem.W.mg_none_of X G z_range, PySem.W.mg_none_of X G z_len, PySem.W.mg_none_of X G z_tuple, PySem.W.mg_none_of X G z_max, PySem.W.mg_none_of X G z_min, PySem.W.mg_none_of X G z_sum, PySem.W.mg_none_of X G z_abs, PySem.W.mg_none_of X G z_repr, PySem.W.mg_none_of X G z_enumerate⟩
  have F0 := fun_mk (st := s_hands_of) l0 c0 k0
  have F1 := fun_mk (st := s_holds) l1 c1 k1
  have F2 := fun_mk (st := s__law_feed) l2 c2 k2
  have F3 := fun_mk (st := s__law_next) l3 c3 k3
  have F4 := fun_mk (st := s__law_one) l4 c4 k4
  have F5 := fun_mk (st := s__law_some) l5 c5 k5
  have F6 := fun_mk (st := s__law_plain) l6 c6 k6
  have F7 := fun_mk (st := s__law_question) l7 c7 k7
  have F8 := fun_mk (st := s__law_counts) l8 c8 k8
  have F9 := fun_mk (st := s__law_truth) l9 c9 k9
  have F10 := fun_mk (st := s_law) l10 c10 k10
  refine ⟨PySem.W.fnOf "law" "law" (defArgs s_law) (defBody s_law) (defScope s_law) .none kV10 dc10 pm10 an10 cd10 ct10, fun s v => .of_eq rfl, fun base _ _ => ?_⟩
  have C_hands_of := ok_hands_of (P := l.prog) (w := w) (base := base) F0 (PySem.W.mg_of X G a0) B 
  have C_holds := ok_holds (P := l.prog) (w := w) (base := base) F1 (PySem.W.mg_of X G a1) B C_hands_of 5
  have C__law_feed := ok__law_feed (P := l.prog) (w := w) (base := base) F2 (PySem.W.mg_of X G a2) B 
  have C__law_next := ok__law_next (P := l.prog) (w := w) (base := base) F3 (PySem.W.mg_of X G a3) B 
  have C__law_one := ok__law_one (P := l.prog) (w := w) (base := base) F4 (PySem.W.mg_of X G a4) B C__law_next
  have C__law_some := ok__law_some (P := l.prog) (w := w) (base := base) F5 (PySem.W.mg_of X G a5) B C__law_next
  have C__law_plain := ok__law_plain (P := l.prog) (w := w) (base := base) F6 (PySem.W.mg_of X G a6) B C__law_next C__law_some C__law_one
  have C__law_question := ok__law_question (P := l.prog) (w := w) (base := base) F7 (PySem.W.mg_of X G a7) B C__law_next C__law_plain 4
  have C__law_counts := ok__law_counts (P := l.prog) (w := w) (base := base) F8 (PySem.W.mg_of X G a8) B C__law_one C__law_next
  have C__law_truth := ok__law_truth (P := l.prog) (w := w) (base := base) F9 (PySem.W.mg_of X G a9) B  4
  exact fn_law F10 B C__law_feed C__law_question C__law_next C__law_counts C__law_truth C_holds
theorem walk {l : PySem.W.OpenLaw} {q : Program} {loose : List Str} {XP : (Str → Option Value) → Heap → Prop} {YP : World → Heap → Prop} {d : DefRec} {K : Params → Fg} (main : ∀ ns : List Int, ns.length ≤ 63 → ∃ l, mf_law [AV.fz (.list (ns.map PyData.int))] = some (.fz (.bool true), l)) (hn : l.most = some 63) (hdf : d.params.defaults = [])
    (hY : ∀ (w : World) (h : Heap), YP w h → (K w.params).In h)
    (F : ∀ (w : World) (mg : Str → Option Value) (fa : Addr) (h : Heap), (K w.params).In h → h.Ns mainGlobals mg → mg d.name = some (.ref fa) →
      ∃ fd : FuncData, (∀ (s : Shared) (u : Value), BindsTo s fd ⟨[u], []⟩ [("_law_script", u)]) ∧ ∀ base : Heap, (K w.params).In base → base.Ns mainGlobals mg → FnOk l.prog w (K w.params) mg base CX0 9 fa fd ["_law_script"] (spF (K w.params) 1 mf_law)) :
    PySem.W.WalkO q loose XP YP l.row.toRowW d [] (fun f vs => PySem.call f vs) :=
  L2.walk_of (n := 63) (k := 9) (x := "_law_script") (CX := fun _ => CX0) (sp := fun w => spF (K w.params) 1 mf_law) hn (by decide) hdf ⟨rfl, by decide, by decide, rfl⟩ hY F (fun w H a ns hl _ hS => by
    obtain ⟨l', e⟩ := main ns hl
    refine ⟨⟨fun _ => none, fun _ => none⟩, H, [AV.fz (.list (ns.map PyData.int))], _, l', rfl, rfl, ⟨Same.refl _, fun b o z => (nomatch z), fun b o z => (nomatch z), rfl, fun i d z => ?_, fun i c z => ?_, fun i j c e' a' z => ?_, fun i a' z => (nomatch z), fun i c z => ?_⟩, e, fun v F' H' s1 S1 r1 => ?_⟩
    · cases i with
      | zero => simp at z; subst z; exact ⟨_, rfl, .lst hS (RepL.ints ns)⟩
      | succ i => simp at z
    · exfalso; cases i with
      | zero => rcases z with z | z <;> simp at z
      | succ i => rcases z with z | z <;> simp at z
    · exfalso; cases i with
      | zero => rcases z with z | z <;> simp at z
      | succ i => rcases z with z | z <;> simp at z
    · exfalso; cases i with
      | zero => simp at z
      | succ i => simp at z
    · have r1' : Rep (K w.params) F' v (.bool true) := r1
      cases r1'
      rfl) fun _ _ _ _ _ z => z
end K03
open PySem PySem.W PyProof.Rows
set_option maxRecDepth 100000 in
set_option maxHeartbeats 0 in
theorem PySem.Challenge.cw_passersby_k03_truths_holds : PySem.Challenge.rw_passersby_k03_truths.Holds := by
  w_on; o_law; k_head; (case hw => w_witness2)
  k_fill
  refine K03.walk (l := PySem.Challenge.rw_passersby_k03_truths) K03.main rfl rfl (fun w h Y => PySem.W.kIn_of Y) ?F
  case F =>
    intro w mg fa h KX G hmg
    refine' K03.all_mk KX G hmg ?a0 ?l0 ?c0 ?k0 ?a1 ?l1 ?c1 ?k1 ?a2 ?l2 ?c2 ?k2 ?a3 ?l3 ?c3 ?k3 ?a4 ?l4 ?c4 ?k4 ?a5 ?l5 ?c5 ?k5 ?a6 ?l6 ?c6 ?k6 ?a7 ?l7 ?c7 ?k7 ?a8 ?l8 ?c8 ?k8 ?a9 ?l9 ?c9 ?k9 ?a10 ?l10 ?c10 ?k10 ?z_range ?z_len ?z_tuple ?z_max ?z_min ?z_sum ?z_abs ?z_repr ?z_enumerate
    (case a0 => k_is)
    (case l0 => k_is)
    (case c0 => k_is)
    (case k0 => k_is)
    (case a1 => k_is)
    (case l1 => k_is)
    (case c1 => k_is)
    (case k1 => k_is)
    (case a2 => k_is)
    (case l2 => k_is)
    (case c2 => k_is)
    (case k2 => k_is)
    (case a3 => k_is)
    (case l3 => k_is)
    (case c3 => k_is)
    (case k3 => k_is)
    (case a4 => k_is)
    (case l4 => k_is)
    (case c4 => k_is)
    (case k4 => k_is)
    (case a5 => k_is)
    (case l5 => k_is)
    (case c5 => k_is)
    (case k5 => k_is)
    (case a6 => k_is)
    (case l6 => k_is)
    (case c6 => k_is)
    (case k6 => k_is)
    (case a7 => k_is)
    (case l7 => k_is)
    (case c7 => k_is)
    (case k7 => k_is)
    (case a8 => k_is)
    (case l8 => k_is)
    (case c8 => k_is)
    (case k8 => k_is)
    (case a9 => k_is)
    (case l9 => k_is)
    (case c9 => k_is)
    (case k9 => k_is)
    (case a10 => k_is)
    (case l10 => k_is)
    (case c10 => k_is)
    (case k10 => k_is)
    (case z_range => k_is)
    (case z_len => k_is)
    (case z_tuple => k_is)
    (case z_max => k_is)
    (case z_min => k_is)
    (case z_sum => k_is)
    (case z_abs => k_is)
    (case z_repr => k_is)
    (case z_enumerate => k_is)

