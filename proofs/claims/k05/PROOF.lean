import PyProof.Rows.All
import Wide.All
import OpenK.AllK
import Wide.FinOn
import Lean
import PyProof.EqAt
import PyProof.EqKinds
import PyProof.TupleCall
import PyProof.P3In
import PyProof.NeData
import PySem.Challenge.RW_stavemill_k05_where_ticks_stand
set_option Elab.async false
set_option linter.all false
set_option maxRecDepth 100000
/-! THE HAND LAYER, for ints, bools, texts, own classes, LISTS and tuples (index, slices, in, append, pop ..), calls, loops. Paste it whole ahead of your own text; what your proof does not reach may be deleted. -/
namespace L2
open PySem PySem.Spec PyProof.Rows

/-- a key: an int or a str -/
abbrev Key := Sum Int Str
def keyIs : Key → Value → Bool
  | .inl k, v => Value.isInt k v
  | .inr x, v => Value.isStrOf x v
def keyH (w : World) : Key → Int
  | .inl k => hashInt k
  | .inr x => hashStr w x
theorem keyIs_shape : ∀ {k : Key} {v : Value}, keyIs k v = true → (∃ i t, k = Sum.inl i ∧ v = Value.int i t) ∨ (∃ x t, k = Sum.inr x ∧ v = Value.str x t)
  | .inl i, v, h => by
    obtain ⟨t, e⟩ := Value.isInt_shape (k := i) (v := v) h
    exact .inl ⟨i, t, rfl, e⟩
  | .inr x, v, h => by
    obtain ⟨t, e⟩ := Value.isStrOf_shape (x := x) (v := v) h
    exact .inr ⟨x, t, rfl, e⟩
theorem keyIs_int (i : Int) (t : Tok) : keyIs (.inl i) (.int i t) = true := by simp [keyIs, Value.isInt]
theorem keyIs_str (x : Str) (t : Tok) : keyIs (.inr x) (.str x t) = true := by simp [keyIs, Value.isStrOf]
theorem key_ll (a b : Int) : decide ((Sum.inl a : Key) = Sum.inl b) = (a == b) := by
  by_cases e : a = b
  · subst e; simp
  · have h : ¬ (Sum.inl a : Key) = Sum.inl b := fun q => e (Sum.inl.inj q)
    rw [decide_eq_false h]
    exact (beq_eq_false_iff_ne.mpr e).symm
theorem key_rr (a b : Str) : decide ((Sum.inr a : Key) = Sum.inr b) = decide (a = b) := by
  by_cases e : a = b
  · subst e; simp
  · have h : ¬ (Sum.inr a : Key) = Sum.inr b := fun q => e (Sum.inr.inj q)
    rw [decide_eq_false h, decide_eq_false e]
theorem key_lr (a : Int) (b : Str) : decide ((Sum.inl a : Key) = Sum.inr b) = false := decide_eq_false (fun q => nomatch q)
theorem key_rl (a : Str) (b : Int) : decide ((Sum.inr a : Key) = Sum.inl b) = false := decide_eq_false (fun q => nomatch q)

def mixKind (prog : Program) (w : World) : PySem.KeyKind prog w Key where
  is := keyIs
  hash := keyH w
  inj := fun v a b ha hb => by
    rcases keyIs_shape ha with ⟨i, t, rfl, rfl⟩ | ⟨x, t, rfl, rfl⟩
    · rcases keyIs_shape hb with ⟨j, u, rfl, e⟩ | ⟨y, u, rfl, e⟩
      · injection e with e1 _; rw [e1]
      · exact nomatch e
    · rcases keyIs_shape hb with ⟨j, u, rfl, e⟩ | ⟨y, u, rfl, e⟩
      · exact nomatch e
      · injection e with e1 _; rw [e1]
  byValue := fun k v h => by
    rcases keyIs_shape h with ⟨i, t, rfl, rfl⟩ | ⟨x, t, rfl, rfl⟩ <;> rfl
  pyHash := fun hv h => by
    rcases keyIs_shape hv with ⟨i, t, rfl, rfl⟩ | ⟨x, t, rfl, rfl⟩
    · exact wpAny_pyHash_int h
    · exact wpAny_pyHash_str h
  eqBool := fun hu hv h => by
    rcases keyIs_shape hu with ⟨i, t, rfl, rfl⟩ | ⟨x, t, rfl, rfl⟩
    · rcases keyIs_shape hv with ⟨j, u, rfl, rfl⟩ | ⟨y, u, rfl, rfl⟩
      · rw [key_ll] at h; exact wpAny_eqBool_int h
      · rw [key_lr] at h; exact SeqAt.EqAt.int_str i t y u _ _ _ _ h
    · rcases keyIs_shape hv with ⟨j, u, rfl, rfl⟩ | ⟨y, u, rfl, rfl⟩
      · rw [key_rl] at h; exact SeqAt.EqAt.str_int x t j u _ _ _ _ h
      · rw [key_rr] at h; exact wpAny_eqBool_str h
  «strs» := fun k x t v h => by
    rcases keyIs_shape h with ⟨i, u, rfl, e⟩ | ⟨y, u, rfl, e⟩
    · exact nomatch e
    · injection e with e1 _
      subst e1
      cases v <;> rfl

theorem mixKind_is (prog : Program) (w : World) (k : Key) (v : Value) : (mixKind prog w).is k v = keyIs k v := rfl
theorem mixKind_int (prog : Program) (w : World) (i : Int) (t : Tok) : (mixKind prog w).is (.inl i) (.int i t) = true := keyIs_int i t
theorem mixKind_str (prog : Program) (w : World) (x : Str) (t : Tok) : (mixKind prog w).is (.inr x) (.str x t) = true := keyIs_str x t
end L2

namespace L2
open PySem PySem.Spec PyProof.Rows

/-- a value, without the heap -/
inductive V where
  | non | bl (b : Bool) | int (i : Int) | str (x : Str) | byt (b : Array UInt8) | flt (b : UInt64) | ref (a : Addr) | ty (n : String)
  deriving DecidableEq

def RelV : V → Value → Prop
  | .non, u => u = Value.none
  | .bl b, u => u = Value.bool b
  | .int i, u => ∃ t, u = Value.int i t
  | .str x, u => ∃ t, u = Value.str x t
  | .byt b, u => ∃ t, u = Value.bytes b t
  | .flt b, u => ∃ t, u = Value.float b t
  | .ref a, u => u = Value.ref a
  | .ty n, u => u = Value.type n

abbrev Vals : List V → List Value → Prop := Paired RelV
theorem Vals.length {xs : List V} {us : List Value} (r : Vals xs us) : xs.length = us.length := Paired.length r
theorem Vals.get : ∀ {xs : List V} {us : List Value} {i : Nat} {x : V}, Vals xs us → xs[i]? = some x → ∃ u, us[i]? = some u ∧ RelV x u
  | _, _, _, _, .nil, e => by simp at e
  | _, _, 0, _, .cons r _, e => by simp at e; subst e; exact ⟨_, rfl, r⟩
  | _, _, i + 1, x, .cons _ t, e => by
    obtain ⟨u, h1, h2⟩ := Vals.get (i := i) (x := x) t (by simpa using e)
    exact ⟨u, by simpa using h1, h2⟩
theorem Vals.set {x : V} {u : Value} (r : RelV x u) : ∀ {xs : List V} {us : List Value} (i : Nat), Vals xs us → Vals (xs.set i x) (us.set i u)
  | _, _, _, .nil => .nil
  | _, _, 0, .cons _ t => .cons r t
  | _, _, i + 1, .cons q t => .cons q (Vals.set r i t)
theorem Vals.append : ∀ {xs ys : List V} {us ws : List Value}, Vals xs us → Vals ys ws → Vals (xs ++ ys) (us ++ ws)
  | _, _, _, _, .nil, s => s
  | _, _, _, _, .cons r t, s => .cons r (Vals.append t s)
theorem Vals.take : ∀ {xs : List V} {us : List Value} (n : Nat), Vals xs us → Vals (xs.take n) (us.take n)
  | _, _, 0, _ => .nil
  | _, _, _ + 1, .nil => .nil
  | _, _, n + 1, .cons r t => .cons r (Vals.take n t)
theorem Vals.drop : ∀ {xs : List V} {us : List Value} (n : Nat), Vals xs us → Vals (xs.drop n) (us.drop n)
  | _, _, 0, r => r
  | _, _, _ + 1, .nil => .nil
  | _, _, n + 1, .cons _ t => Vals.drop n t
theorem Vals.none_of : ∀ {xs : List V} {us : List Value} {i : Nat}, Vals xs us → xs[i]? = none → us[i]? = none := fun {xs us i} r e => by
  have h1 := r.length
  have h2 : xs.length ≤ i := List.getElem?_eq_none_iff.mp e
  exact List.getElem?_eq_none_iff.mpr (by omega)

def RelO : Option V → Option Value → Prop
  | some v, some u => RelV v u
  | none, none => True
  | _, _ => False
def KV {κ : Type} : List (κ × V) → List (κ × Value) → Prop := Paired fun (p : κ × V) (q : κ × Value) => p.1 = q.1 ∧ RelV p.2 q.2

/-- a key of a dict (00_mix): an int or a text -/
def kV : Key → V
  | .inl i => .int i
  | .inr x => .str x

/-- what stands at a tracked address -/
inductive HO where
  /-- a list -/
  | lst (xs : List V)
  /-- a tuple (never changes) -/
  | tup (xs : List V)
  /-- a dict whose keys are ints and texts; one whose keys are tuples of ints and texts (the empty one is both) -/
  | dK (kvs : List (Key × V)) | dT (kvs : List (List Key × V))
  /-- a set of ints: its members, its size -/
  | set (S : Int → Bool) (n : Nat)
  /-- an instance of the class at C, its dict at dx, its attributes -/
  | ins (C dx : Addr) (fs : List (Str × V))
  /-- the dict of the instance at x -/
  | own (x : Addr)
  /-- the dict of an exception -/
  | xd (fs : List (Str × V))
  /-- a bound method, f of x -/
  | met (f x : Addr)
  /-- a range object lo, lo + 1, .. below hi -/
  | rng (lo hi : Int)
  /-- a thing that is known to the object (the script; a dict while a loop walks it): read, never written while it is so -/
  | frz (o : Obj) (u : HO)
  /-- a code object's table -/
  | tbl (ps : Array Value)
  /-- any other thing, by what is true of its one object (a def of one's own: SetO a S n := HO.ext fun h => ..) -/
  | ext (φ : Heap → Prop)

abbrev Hp := Addr → Option HO
def upd (H : Hp) (a : Addr) (o : HO) : Hp := fun b => if b = a then some o else H b
theorem upd_same {H : Hp} {a : Addr} {o : HO} : upd H a o a = some o := by unfold upd; rw [if_pos rfl]
theorem upd_ne {H : Hp} {a b : Addr} {o : HO} (h : b ≠ a) : upd H a o b = H b := by unfold upd; rw [if_neg h]
theorem upd_upd {H : Hp} {a : Addr} {o u : HO} : upd (upd H a o) a u = upd H a u := by
  funext b; unfold upd; split <;> rfl
/-- two objects of different content stand apart -/
theorem ne_of {H : Hp} {a b : Addr} {o u : HO} (h : H a = some o) (h' : H b = some u) (d : o ≠ u) : a ≠ b := by
  intro e; subst e; rw [h] at h'; exact d (Option.some.inj h')
theorem ne_of_none {H : Hp} {a b : Addr} {o : HO} (h : H a = some o) (h' : H b = none) : a ≠ b := by
  intro e; subst e; rw [h] at h'; cases h'

section
variable (P : Program) (w : World)
def ObjOk (H : Hp) (h : Heap) (a : Addr) : HO → Prop
  | .lst xs => xs.length ≤ sizeLine ∧ ∃ (its : List Value) (n : Nat), Vals xs its ∧ h.get? a = some { cls := .type "list", data := .seq its.toArray n }
  | .tup xs => xs.length ≤ sizeLine ∧ ∃ its : List Value, Vals xs its ∧ IsTup h a its.toArray
  | .dK kvs => kvs.length ≤ sizeLine ∧ (a == sysModules) = false ∧ ∃ vs, KV kvs vs ∧ h.DictOf (mixKind P w) a vs
  | .dT kvs => kvs.length ≤ sizeLine ∧ (a == sysModules) = false ∧ ∃ xs : List (List Key × Addr × Value),
      Paired (fun (p : List Key × V) (q : List Key × Addr × Value) => p.1 = q.1 ∧ H q.2.1 = some (.tup (p.1.map kV)) ∧ RelV p.2 q.2.2) kvs xs ∧
      ∃ o es ep, h.get? a = some o ∧ o.ExactDict ∧ o.data = .dict es ep ∧ es.toList = xs.map (entryOfKey (tupleKind (mixKind P w))) ∧ (xs.map (·.1)).Nodup
  | .set S n => h.SetOf (intKind P w) a S n
  | .ins C dx fs => H dx = some (.own a) ∧ fs.length ≤ 1000 ∧ dx ≠ a ∧ h.get? a = some (PySem.W.instObj C dx) ∧
      ∃ mA, h.Ns1 dx mA ∧ (∀ f, RelO (fs.lookup f) (mA f)) ∧ PySem.Within mA (fs.map (·.1))
  | .own _ => ∃ o, h.get? a = some o
  | .xd fs => ∃ mA, h.Ns1 a mA ∧ ∀ f, RelO (fs.lookup f) (mA f)
  | .rng lo hi => ∃ t u v, h.get? a = some { cls := .type "range", data := .fields #[.int lo t, .int hi u, .int 1 v] }
  | .frz o u => h.get? a = some o ∧ ObjOk H h a u
  | .tbl ps => h.get? a = some { cls := .none, data := .fields ps }
  | .met f x => h.get? a = some (PySem.W.methodObj (.ref f) (.ref x))
  | .ext φ => φ h ∧ (∃ o, h.get? a = some o) ∧ ∀ h1 h2 : Heap, φ h1 → (∀ o, h1.get? a = some o → h2.get? a = some o) → φ h2
/-- the abstract heap is held -/
def HOk (H : Hp) (h : Heap) : Prop := ∀ a o, H a = some o → ObjOk P w H h a o
end

section
variable {P : Program} {w : World} {H H' : Hp} {h h' : Heap} {a : Addr} {o : HO}
theorem ObjOk.lt (x : ObjOk P w H h a o) : a < h.objs.size := by
  cases o with
  | lst xs => obtain ⟨_, _, _, _, e⟩ := x; exact Heap.lt_size e
  | tup xs => obtain ⟨_, _, _, p⟩ := x; exact p.lt
  | dK kvs => obtain ⟨_, _, _, _, o, _, _, e, _⟩ := x; exact Heap.lt_size e
  | dT kvs => obtain ⟨_, _, _, _, o, _, _, e, _⟩ := x; exact Heap.lt_size e
  | set S n => obtain ⟨o, _, _, _, e, _⟩ := x; exact Heap.lt_size e
  | ins C dx fs => obtain ⟨_, _, _, e, _⟩ := x; exact Heap.lt_size e
  | own y => obtain ⟨_, e⟩ := x; exact Heap.lt_size e
  | xd fs => obtain ⟨_, ⟨_, _, _, e, _⟩, _⟩ := x; exact Heap.lt_size e
  | rng lo hi => obtain ⟨_, _, _, e⟩ := x; exact Heap.lt_size e
  | frz ob u => obtain ⟨e, _⟩ := x; exact Heap.lt_size e
  | tbl ps => exact Heap.lt_size (show h.get? a = some _ from x)
  | met f y => exact Heap.lt_size (show h.get? a = some _ from x)
  | ext φ => obtain ⟨_, ⟨_, e⟩, _⟩ := x; exact Heap.lt_size e
theorem Paired.mapP {α β : Type} {F G : α → β → Prop} : ∀ {l₁ : List α} {l₂ : List β}, Paired F l₁ l₂ → (∀ a b, F a b → G a b) → Paired G l₁ l₂
  | _, _, .nil, _ => .nil
  | _, _, .cons r t, f => .cons (f _ _ r) (Paired.mapP t f)
theorem Paired.imp' {α β : Type} {F G : α → β → Prop} (f : ∀ a b, F a b → G a b) {l₁ : List α} {l₂ : List β} (r : Paired F l₁ l₂) : Paired G l₁ l₂ := Paired.mapP r f
/-- what an object's description leans on: its own object, its own dict, the tuples -/
theorem ObjOk.stay (x : ObjOk P w H h a o) (k : ∀ b u, (b = a ∨ H b = some (.own a)) → h.get? b = some u → h'.get? b = some u)
    (ho : ∀ b, H b = some (.own a) → H' b = some (.own a)) (ht : ∀ b xs, H b = some (.tup xs) → H' b = some (.tup xs)) : ObjOk P w H' h' a o := by
  induction o with
  | lst xs => obtain ⟨z, its, n, r, e⟩ := x; exact ⟨z, its, n, r, k _ _ (.inl rfl) e⟩
  | tup xs => obtain ⟨z, its, r, ob, e, c⟩ := x; exact ⟨z, its, r, ob, k _ _ (.inl rfl) e, c⟩
  | dK kvs => obtain ⟨z, y, vs, r, ob, es, ep, e, c⟩ := x; exact ⟨z, y, vs, r, ob, es, ep, k _ _ (.inl rfl) e, c⟩
  | dT kvs =>
    obtain ⟨z, y, xs, r, ob, es, ep, e, c⟩ := x
    exact ⟨z, y, xs, Paired.mapP r fun p q z => ⟨z.1, ht _ _ z.2.1, z.2.2⟩, ob, es, ep, k _ _ (.inl rfl) e, c⟩
  | set S n => obtain ⟨ob, es, ep, t, e, c⟩ := x; exact ⟨ob, es, ep, t, k _ _ (.inl rfl) e, c⟩
  | ins C dx fs =>
    obtain ⟨d, z, ne, e, mA, ⟨od, es, ep, e2, c⟩, r⟩ := x
    exact ⟨ho _ d, z, ne, k _ _ (.inl rfl) e, mA, ⟨od, es, ep, k _ _ (.inr d) e2, c⟩, r⟩
  | own y => obtain ⟨ob, e⟩ := x; exact ⟨ob, k _ _ (.inl rfl) e⟩
  | xd fs => obtain ⟨mA, ⟨od, es, ep, e, c⟩, r⟩ := x; exact ⟨mA, ⟨od, es, ep, k _ _ (.inl rfl) e, c⟩, r⟩
  | rng lo hi => obtain ⟨t, u, v, e⟩ := x; exact ⟨t, u, v, k _ _ (.inl rfl) e⟩
  | frz ob u ih => obtain ⟨e, q⟩ := x; exact ⟨k _ _ (.inl rfl) e, ih q⟩
  | tbl ps =>
    have e : h.get? a = some { cls := .none, data := .fields ps } := x
    show h'.get? a = some { cls := .none, data := .fields ps }
    exact k a _ (.inl rfl) e
  | met f y =>
    have e : h.get? a = some (PySem.W.methodObj (.ref f) (.ref y)) := x
    show h'.get? a = some (PySem.W.methodObj (.ref f) (.ref y))
    exact k a _ (.inl rfl) e
  | ext φ => obtain ⟨p, ⟨o, e⟩, st⟩ := x; exact ⟨st _ _ p fun o q => k _ _ (.inl rfl) q, ⟨o, k _ _ (.inl rfl) e⟩, st⟩
theorem HOk.lt (x : HOk P w H h) (e : H a = some o) : a < h.objs.size := (x a o e).lt
theorem HOk.fresh (x : HOk P w H h) (e : h.objs.size ≤ a) : H a = none := by
  cases q : H a with
  | none => rfl
  | some u => exact absurd (Nat.lt_of_lt_of_le (x.lt q) e) (Nat.lt_irrefl _)
/-- every object of the heap is kept -/
theorem HOk.kept (x : HOk P w H h) (k : ∀ b u, h.get? b = some u → h'.get? b = some u) : HOk P w H h' := fun a o e =>
  (x a o e).stay (fun b u _ q => k b u q) (fun _ q => q) fun _ _ q => q
/-- a new object is laid and tracked -/
theorem HOk.laid (x : HOk P w H h) (k : ∀ b u, h.get? b = some u → h'.get? b = some u) (hp : h.objs.size ≤ a) (new : ObjOk P w (upd H a o) h' a o) : HOk P w (upd H a o) h' := fun b u e => by
  have hn := x.fresh hp
  by_cases hb : b = a
  · subst hb; rw [upd_same] at e; cases e; exact new
  · rw [upd_ne hb] at e
    exact (x b u e).stay (fun c v _ q => k c v q) (fun c q => by rw [upd_ne (ne_of_none q hn)]; exact q) fun c xs q => by rw [upd_ne (ne_of_none q hn)]; exact q
end

/-- what may be read as u: it is u, or a known u -/
def Rd (H : Hp) (a : Addr) (u : HO) : Prop := H a = some u ∨ ∃ o, H a = some (.frz o u)
theorem Rd.of {H : Hp} {a : Addr} {u : HO} (h : H a = some u) : Rd H a u := .inl h
theorem Rd.ok {P : Program} {w : World} {H : Hp} {h : Heap} {a : Addr} {u : HO} (r : Rd H a u) (x : HOk P w H h) : ObjOk P w H h a u := by
  rcases r with r | ⟨o, r⟩
  · exact x a u r
  · obtain ⟨_, q⟩ := x a _ r
    exact q
/-- what may be written -/
def Mut : Option HO → Prop
  | some (.lst _) => True
  | some (.dK _) => True
  | some (.dT _) => True
  | some (.set _ _) => True
  | some (.ins _ _ _) => True
  | some (.ext _) => True
  | _ => False
section
variable {P : Program} {w : World} {H : Hp} {h h' : Heap} {x e : Addr} {o' : HO}
/-- the object at e is changed: x itself, or the dict of the instance x -/
theorem HOk.write (ok : HOk P w H h) (mu : Mut (H x)) (he : e = x ∨ H e = some (.own x)) (k : ∀ b u, b ≠ e → h.get? b = some u → h'.get? b = some u) (heo : ∃ u, h'.get? e = some u)
    (new : ObjOk P w (upd H x o') h' x o') : HOk P w (upd H x o') h' := fun b u q => by
  have nown : ∀ c y, H c = some (.own y) → c ≠ x := fun c y r z => by subst z; rw [r] at mu; exact mu
  have ntup : ∀ c xs, H c = some (.tup xs) → c ≠ x := fun c xs r z => by subst z; rw [r] at mu; exact mu
  by_cases hb : b = x
  · subst hb; rw [upd_same] at q; cases q; exact new
  · rw [upd_ne hb] at q
    by_cases hbe : b = e
    · have q' : H b = some (.own x) := by
        rcases he with z | z
        · exact absurd (hbe.trans z) hb
        · rw [hbe]; exact z
      rw [q] at q'; cases q'
      obtain ⟨v, hv⟩ := heo
      exact ⟨v, by rw [hbe]; exact hv⟩
    · refine (ok b u q).stay (fun c v hc r => k c v ?_ r) (fun c r => by rw [upd_ne (nown c b r)]; exact r) fun c xs r => by rw [upd_ne (ntup c xs r)]; exact r
      rcases hc with rfl | hc
      · exact hbe
      · rintro rfl
        rcases he with z | z
        · exact nown c b hc z
        · rw [hc] at z; cases z; exact hb rfl
end

/-! ### kept unless tracked; of the frames at fs (the callers') the slots may change (an exception that passes writes there); of the records at ex (iterators) nothing is said -/
structure Un (fs ex : List Addr) (H H' : Hp) (h h' : Heap) : Prop where
  keep : ∀ b o, h.get? b = some o → H b = none → b ∉ fs → b ∉ ex → h'.get? b = some o
  slot : ∀ b o, h.get? b = some o → H b = none → b ∈ fs → b ∉ ex → ∃ sl, h'.get? b = some { o with slots := sl }
  free : ∀ b o, h.get? b = some o → H b = none → b ∉ ex → H' b = none
  there : ∀ b o, h.get? b = some o → b ∉ ex → ∃ o', h'.get? b = some o'
  tups : ∀ b xs, H b = some (.tup xs) → H' b = some (.tup xs)
  frzs : ∀ b o u, H b = some (.frz o u) → H' b = some (.frz o u)
  tbls : ∀ b ps, H b = some (.tbl ps) → ∃ more, H' b = some (.tbl (ps ++ more))
section
variable {fs fs' ex ex' : List Addr} {H H1 H2 : Hp} {h h1 h2 h' : Heap} {a x e : Addr} {o : HO}
theorem Un.any (u : Un fs ex H H1 h h1) {b : Addr} {ob : Obj} (q : h.get? b = some ob) (n : H b = none) (hx : b ∉ ex) : ∃ sl, h1.get? b = some { ob with slots := sl } := by
  by_cases hb : b ∈ fs
  · exact u.slot b ob q n hb hx
  · exact ⟨ob.slots, u.keep b ob q n hb hx⟩
theorem Un.trans (a : Un fs ex H H1 h h1) (b : Un fs ex H1 H2 h1 h2) : Un fs ex H H2 h h2 where
  keep := fun c ob q n hc hx => b.keep c ob (a.keep c ob q n hc hx) (a.free c ob q n hx) hc hx
  slot := fun c ob q n hc hx => by
    obtain ⟨sl, e1⟩ := a.slot c ob q n hc hx
    obtain ⟨sl', e2⟩ := b.slot c _ e1 (a.free c ob q n hx) hc hx
    exact ⟨sl', e2⟩
  free := fun c ob q n hx => by
    obtain ⟨o', e1⟩ := a.there c ob q hx
    exact b.free c o' e1 (a.free c ob q n hx) hx
  there := fun c ob q hx => by
    obtain ⟨o', e1⟩ := a.there c ob q hx
    exact b.there c o' e1 hx
  tups := fun c xs q => b.tups c xs (a.tups c xs q)
  frzs := fun c ob xs q => b.frzs c ob xs (a.frzs c ob xs q)
  tbls := fun c ps q => by
    obtain ⟨m1, e1⟩ := a.tbls c ps q
    obtain ⟨m2, e2⟩ := b.tbls c _ e1
    exact ⟨m1 ++ m2, by rw [e2, Array.append_assoc]⟩
theorem Un.kept (k : ∀ b u, h.get? b = some u → h'.get? b = some u) : Un fs ex H H h h' :=
  ⟨fun b ob q _ _ _ => k b ob q, fun b ob q _ _ _ => ⟨ob.slots, k b ob q⟩, fun _ _ _ n _ => n, fun b ob q _ => ⟨ob, k b ob q⟩, fun _ _ q => q, fun _ _ _ q => q, fun _ ps q => ⟨#[], by rw [q]; simp⟩⟩
theorem Un.refl : Un fs ex H H h h := Un.kept fun _ _ q => q
theorem Un.laid (k : ∀ b u, h.get? b = some u → h'.get? b = some u) (hp : h.objs.size ≤ a) (hn : H a = none) : Un fs ex H (upd H a o) h h' where
  keep := fun b u q _ _ _ => k b u q
  slot := fun b u q _ _ _ => ⟨u.slots, k b u q⟩
  free := fun b u q n _ => by rw [upd_ne (Nat.ne_of_lt (Nat.lt_of_lt_of_le (Heap.lt_size q) hp))]; exact n
  there := fun b u q _ => ⟨u, k b u q⟩
  tups := fun b xs q => by rw [upd_ne (ne_of_none q hn)]; exact q
  frzs := fun b u xs q => by rw [upd_ne (ne_of_none q hn)]; exact q
  tbls := fun b ps q => ⟨#[], by rw [upd_ne (ne_of_none q hn), q]; simp⟩
theorem Un.write (mu : Mut (H x)) (he : e = x ∨ H e = some (.own x)) (k : ∀ b u, b ≠ e → h.get? b = some u → h'.get? b = some u) (heo : ∃ u, h'.get? e = some u) : Un fs ex H (upd H x o) h h' := by
  have hx : ∀ b, H b = none → b ≠ x := fun b n z => by subst z; rw [n] at mu; exact mu
  have hb : ∀ b, H b = none → b ≠ e := fun b n z => by
    subst z
    rcases he with r | r
    · exact hx b n r
    · rw [n] at r; cases r
  have hm : ∀ b u, H b = some u → ¬ Mut (some u) → b ≠ x := fun b u q nm z => by subst z; rw [q] at mu; exact nm mu
  refine ⟨fun b u q n _ _ => k b u (hb b n) q, fun b u q n _ _ => ⟨u.slots, k b u (hb b n) q⟩, fun b u q n _ => by rw [upd_ne (hx b n)]; exact n, fun b u q _ => ?_,
    fun b xs q => by rw [upd_ne (hm b _ q fun z => z)]; exact q, fun b u xs q => by rw [upd_ne (hm b _ q fun z => z)]; exact q, fun b ps q => ⟨#[], by rw [upd_ne (hm b _ q fun z => z), q]; simp⟩⟩
  by_cases hbe : b = e
  · subst hbe; exact heo
  · exact ⟨u, k b u hbe q⟩
theorem Un.mono (u : Un fs ex H H1 h h1) (hs : ∀ b ∈ fs, b ∈ fs') (hx : ∀ b ∈ ex, b ∈ ex') : Un fs' ex' H H1 h h1 :=
  ⟨fun b ob q n hb he => u.keep b ob q n (fun z => hb (hs b z)) fun z => he (hx b z), fun _ _ q n _ he => u.any q n fun z => he (hx _ z), fun b ob q n he => u.free b ob q n fun z => he (hx b z), fun b ob q he => u.there b ob q fun z => he (hx b z), u.tups, u.frzs, u.tbls⟩
end

/-! ### the heap without what is tracked -/
def trk (h : Heap) (H : Hp) : List Addr := (List.range h.objs.size).filter fun a => (H a).isSome
def hidT (h : Heap) (H : Hp) : Heap := PySem.W.hideAll h (trk h H)
theorem hidT_size (h : Heap) (H : Hp) : (hidT h H).objs.size = h.objs.size := PySem.W.hideAll_size _ _
theorem hidT_get {h : Heap} {H : Hp} {b : Addr} {o : Obj} (e : h.get? b = some o) (n : H b = none) : (hidT h H).get? b = some o :=
  PySem.W.hideAll_get _ e fun hm => by
    have q : (H b).isSome = true := (List.mem_filter.mp hm).2
    rw [n] at q; simp at q
theorem of_hidT {h : Heap} {H : Hp} {b : Addr} {o : Obj} (e : (hidT h H).get? b = some o) : h.get? b = some o ∧ H b = none := by
  have e' : h.get? b = some o := PySem.W.of_hideAll (trk h H) e
  refine ⟨e', ?_⟩
  cases q : H b with
  | none => rfl
  | some x =>
    have hm : b ∈ trk h H := List.mem_filter.mpr ⟨List.mem_range.mpr (Heap.lt_size e'), by simp [q]⟩
    have z : (hidT h H).get? b = none := PySem.W.hideAll_none (trk h H) hm
    rw [z] at e; cases e

/-! ### OpenK's ledger, filled with every new object but one -/
def allNews (g h : Heap) (L : Addr) : List (Addr × Obj) := (List.range h.objs.size).filterMap fun a => if a = L ∨ (g.get? a).isSome = true then none else (h.get? a).map fun o => (a, o)
theorem mem_allNews {g h : Heap} {L a : Addr} {o : Obj} (h1 : a ≠ L) (h2 : g.get? a = none) (h3 : h.get? a = some o) : (a, o) ∈ allNews g h L :=
  List.mem_filterMap.mpr ⟨a, List.mem_range.mpr (Heap.lt_size h3), by simp [h1, h2, h3]⟩
theorem of_mem_allNews {g h : Heap} {L : Addr} {p : Addr × Obj} (hp : p ∈ allNews g h L) : p.1 ≠ L ∧ g.get? p.1 = none ∧ h.get? p.1 = some p.2 := by
  obtain ⟨b, _, e⟩ := List.mem_filterMap.mp hp
  split at e
  · cases e
  · rename_i hn
    cases q : h.get? b with
    | none => rw [q] at e; simp at e
    | some u =>
      rw [q] at e
      simp only [Option.map_some, Option.some.injEq] at e
      subst e
      refine ⟨fun z => hn (.inl z), ?_, q⟩
      show g.get? b = none
      cases r : g.get? b with
      | none => rfl
      | some v => exact (hn (.inr (by simp [r]))).elim
def rest (g h : Heap) (L d : Addr) : List (Addr × Obj) := (allNews g h L).filter fun p => decide (p.1 ≠ d)
theorem rest_ne {g h : Heap} {L d : Addr} : ∀ p ∈ rest g h L d, p.1 ≠ d := fun p hp => of_decide_eq_true (List.mem_filter.mp hp).2
theorem mem_rest {g h : Heap} {L d a : Addr} {o : Obj} (h1 : a ≠ L) (h2 : g.get? a = none) (h3 : h.get? a = some o) (h4 : a ≠ d) : (a, o) ∈ rest g h L d :=
  List.mem_filter.mpr ⟨mem_allNews h1 h2 h3, decide_eq_true h4⟩
theorem news_all {g h : Heap} {L : Addr} : News g L h (allNews g h L) := fun p hp => let ⟨a, b, c⟩ := of_mem_allNews hp; ⟨c, a, b⟩
theorem news_at {g h : Heap} {L d : Addr} {o : Obj} (h1 : d ≠ L) (h2 : g.get? d = none) (h3 : h.get? d = some o) : News g L h ((d, o) :: rest g h L d) := fun p hp => by
  rcases List.mem_cons.mp hp with rfl | hp
  · exact ⟨h3, h1, h2⟩
  · exact news_all p (List.mem_filter.mp hp).1
/-- behind a rule that changed d alone: all else but the frame is kept -/
theorem kept_of_news {g h h' : Heap} {L d : Addr} {m : Str → Option Value} (k : ∀ b o, g.get? b = some o → h.get? b = some o) (F : Fr g L h' m) (N : News g L h' (rest g h L d)) :
    ∀ b o, b ≠ L → b ≠ d → h.get? b = some o → h'.get? b = some o := fun b o h1 h2 e => by
  cases q : g.get? b with
  | some u =>
    have := k b u q
    rw [e] at this; cases this
    exact F.keep b _ q
  | none => exact (N (b, o) (mem_rest h1 q e h2)).1
end L2

namespace L2
open PySem PySem.Spec PyProof.Rows

/-- the module's facts, over the base: the heap at the law's entry without what is tracked there -/
structure Mod (K : PySem.W.Frag) (mg : Str → Option Value) (base : Heap) : Prop where
  kin : K.In base
  glob : base.Ns mainGlobals mg
  blt : ∃ mb, base.Ns builtinsNs mb ∧ ∀ x : Str, x ≠ "__name__" → mb x = bootBuiltins x
  nolimit : base.NoLimit

/-- the context: a def's body (or a comprehension's block) running. base: fixed through the whole law; s₀, H₀: the entry; outer: the frames whose slots others may change (a def's callers); stack: all frames that run;
   ex: iterators that were made ahead of the entry and are walked here (a comprehension's); fn: the names whose cells were made at the entry (a def: all; a comprehension's block: its own); calm: not within an except suite; pn: pins that every state bears; xe: what is wanted of an exception that leaves the code -/
structure Cx where
  prog : Program
  w : World
  K : PySem.W.Frag
  mg : Str → Option Value
  base : Heap
  A : Around
  N : List Str
  s₀ : Shared
  H₀ : Hp
  env : Env
  outer : List Env
  stack : List Env
  ex : List Addr
  fn : Str → Bool
  calm : Bool
  pn : List (Addr × Obj)
  xe : Value → Shared → Prop
/-- the callers' frames -/
def frs (l : List Env) : List Addr := l.filterMap (·.frame)
abbrev Cx.fs (X : Cx) : List Addr := frs X.outer

def Vis (sc : Scope) (x : Str) : Prop := sc.names.lookup x = some .local ∨ sc.names.lookup x = some .cell ∨ sc.names.lookup x = some .free
def Loc (sc : Scope) (x : Str) : Prop := sc.names.lookup x = some .local ∨ sc.names.lookup x = some .cell
def Look (env : Env) (h : Heap) (m : Str → Option Value) (x : Str) (u : Value) : Prop :=
  (env.kindOf x = some .local ∧ m x = some u) ∨ ((env.kindOf x = some .cell ∨ env.kindOf x = some .free) ∧ ∃ c, env.cells.lookup x = some c ∧ h.IsCell c (some u))

structure Cx.Ok (X : Cx) : Prop where
  mod : Mod X.K X.mg X.base
  kind : X.env.scope.kind = .function
  glob : X.env.globals = mainGlobals
  blt : X.env.builtins = builtinsNs
  above : X.s₀.heap.objs.size ≤ X.env.locals
  inj : ∀ x y c, X.env.cells.lookup x = some c → X.env.cells.lookup y = some c → x = y
  has : ∀ x, (X.env.kindOf x = some .cell ∨ X.env.kindOf x = some .free) → ∃ c, X.env.cells.lookup x = some c
  cab : ∀ x c, X.fn x = true → X.env.cells.lookup x = some c → X.s₀.heap.objs.size ≤ c
  hd : X.calm = true → X.A.handled = none
  frames : X.A.frames = some X.stack
  stk : X.stack = X.outer ∨ (X.stack = X.env :: X.outer ∧ X.env.frame = some X.env.locals)
  exf : ∀ b ∈ X.ex, b ≠ X.env.locals ∧ ∀ x c, X.env.cells.lookup x = some c → c ≠ b
  bs : ∀ b o, X.base.get? b = some o → X.s₀.heap.get? b = some o ∧ X.H₀ b = none
  bsz : X.base.objs.size ≤ X.s₀.heap.objs.size
  noex : ∀ b o, X.base.get? b = some o → b ∉ X.ex
  exfs : ∀ b ∈ X.ex, b ∉ X.fs
  funs : X.s₀.heap.FunFrames X.base X.outer
  frf : ∀ b ∈ X.fs, X.H₀ b = none

structure Inv (X : Cx) (pins : List (Addr × Obj)) (σ : List (Option V)) (H : Hp) (s : Shared) : Prop where
  ok : X.Ok
  os : s.os = X.s₀.os
  bare : AllBare s.gens
  base : Un X.fs X.ex X.H₀ H X.s₀.heap s.heap
  loc : ∃ m, s.heap.Ns X.env.locals m ∧ ∀ (i : Nat) (x : Str) (v : V), X.N[i]? = some x → σ[i]? = some (some v) → Vis X.env.scope x → ∃ u, RelV v u ∧ Look X.env s.heap m x u
  cell : ∀ x c, X.env.cells.lookup x = some c → ∃ v, s.heap.IsCell c v
  free : H X.env.locals = none
  freeC : ∀ x c, X.env.cells.lookup x = some c → H c = none
  pin : ∀ p ∈ X.pn ++ pins, s.heap.get? p.1 = some p.2 ∧ H p.1 = none ∧ p.1 ≠ X.env.locals ∧ p.1 ∉ X.fs ∧ ∀ v, p.2.data ≠ .cell v
  hok : HOk X.prog X.w H s.heap
  len : σ.length = X.N.length

section
variable {X : Cx} {pins : List (Addr × Obj)} {σ : List (Option V)} {H H' : Hp} {s : Shared} {h' : Heap}

theorem Cx.Ok.nofr (ok : X.Ok) {b : Addr} {o : Obj} (e : X.base.get? b = some o) : b ∉ X.fs := fun hb => by
  have := (ok.funs.mem hb).1
  rw [e] at this; cases this
theorem Inv.bs (I : Inv X pins σ H s) : ∀ b o, X.base.get? b = some o → s.heap.get? b = some o ∧ H b = none := fun b o e =>
  ⟨I.base.keep b o (I.ok.bs b o e).1 (I.ok.bs b o e).2 (I.ok.nofr e) (I.ok.noex b o e), I.base.free b o (I.ok.bs b o e).1 (I.ok.bs b o e).2 (I.ok.noex b o e)⟩
theorem Inv.bk (I : Inv X pins σ H s) : ∀ b o, X.base.get? b = some o → s.heap.get? b = some o := fun b o e => (I.bs b o e).1
theorem Inv.mod (I : Inv X pins σ H s) : Mod X.K X.mg X.base := I.ok.mod
theorem Inv.kIn (I : Inv X pins σ H s) : X.K.In s.heap := I.ok.mod.kin.keeps I.bk
theorem Inv.nolimit (I : Inv X pins σ H s) : s.heap.NoLimit := I.ok.mod.nolimit.keeps I.bk
/-- the frame over the base: for OpenK's rules (K.In X.base is I.mod.kin) -/
theorem Inv.fr (I : Inv X pins σ H s) : ∃ m, Fr X.base X.env.locals s.heap m :=
  let ⟨m, hn, _⟩ := I.loc
  ⟨m, hn, I.bk, Nat.le_trans I.ok.bsz I.ok.above⟩
theorem Inv.lt (I : Inv X pins σ H s) : X.env.locals < s.heap.objs.size := let ⟨_, hn, _⟩ := I.loc; hn.lt
theorem Inv.sz (I : Inv X pins σ H s) : X.s₀.heap.objs.size ≤ s.heap.objs.size := Nat.le_trans I.ok.above (Nat.le_of_lt I.lt)
theorem Inv.nofs (I : Inv X pins σ H s) {a : Addr} (h : s.heap.objs.size ≤ a) : a ∉ X.fs := fun hb => by
  obtain ⟨_, o, ho, _⟩ := I.ok.funs.mem hb
  exact absurd (Nat.lt_of_lt_of_le (Heap.lt_size ho) (Nat.le_trans I.sz h)) (Nat.lt_irrefl _)
theorem Inv.cne (I : Inv X pins σ H s) : ∀ x c, X.env.cells.lookup x = some c → c ≠ X.env.locals := fun x c e z => by
  obtain ⟨v, o, ho, hd⟩ := I.cell x c e
  obtain ⟨m, ⟨o', es, ep, ho', hd', _⟩, _⟩ := I.loc
  rw [z, ho'] at ho; cases ho; rw [hd'] at hd; cases hd
theorem Inv.funs (I : Inv X pins σ H s) : s.heap.FunFrames X.base X.outer := by
  have all : ∀ (l : List Env), (∀ b ∈ frs l, b ∈ X.fs) → X.s₀.heap.FunFrames X.base l → s.heap.FunFrames X.base l := by
    intro l
    induction l with
    | nil => intro _ _; trivial
    | cons env r ih =>
      intro hs hl
      obtain ⟨hk, ⟨L, o, hf, hn, ho, hd⟩, hr⟩ := hl
      have hL : L ∈ X.fs := hs L (by unfold frs; rw [List.filterMap_cons, hf]; exact List.mem_cons_self)
      obtain ⟨sl, e⟩ := I.base.slot L o ho (I.ok.frf L hL) hL fun z => I.ok.exfs L z hL
      exact ⟨hk, ⟨L, _, hf, hn, e, hd⟩, ih (fun b hb => hs b (by unfold frs; rw [List.filterMap_cons, hf]; exact List.mem_cons_of_mem _ hb)) hr⟩
  exact all X.outer (fun _ hb => hb) I.ok.funs

/-- the frames that run, for a call -/
theorem Inv.stack (I : Inv X pins σ H s) : s.heap.FunFrames X.base X.stack := by
  rcases I.ok.stk with e | ⟨e, hf⟩
  · rw [e]; exact I.funs
  · rw [e]
    obtain ⟨m, hn, _⟩ := I.loc
    refine .cons (by rw [I.ok.kind]; decide) hf hn ?_ I.funs
    exact Heap.get?_none_of_le (Nat.le_trans I.ok.bsz I.ok.above)
theorem Inv.stkSub (I : Inv X pins σ H s) : ∀ b ∈ frs X.stack, b ∈ X.env.locals :: X.fs := fun b hb => by
  rcases I.ok.stk with e | ⟨e, hf⟩
  · rw [e] at hb; exact List.mem_cons_of_mem _ hb
  · rw [e] at hb
    unfold frs at hb
    rw [List.filterMap_cons, hf] at hb
    exact hb
theorem Inv.stkFree (I : Inv X pins σ H s) : ∀ b ∈ frs X.stack, H b = none := fun b hb => by
  rcases List.mem_cons.mp (I.stkSub b hb) with e | hb
  · rw [e]; exact I.free
  · obtain ⟨_, o, ho, _⟩ := I.ok.funs.mem hb
    exact I.base.free b o ho (I.ok.frf b hb) fun z => I.ok.exfs b z hb

/-- THE STEP: the untracked objects but the frame and the records at ch are kept (the callers' frames up to slots), the frame's map is kept, the new abstract heap is held -/
theorem Inv.step {g' : Array GenState} {t' : Nat} {d' : Drawn} {ch : List Addr} (I : Inv X pins σ H s)
    (hch : ∀ b ∈ ch, (b ∈ X.ex ∨ X.s₀.heap.objs.size ≤ b) ∧ b ≠ X.env.locals ∧ (∀ x c, X.env.cells.lookup x = some c → c ≠ b) ∧ ∀ p ∈ X.pn ++ pins, p.1 ≠ b)
    (keep : ∀ b o, b ≠ X.env.locals → b ∉ X.fs → b ∉ ch → s.heap.get? b = some o → H b = none → h'.get? b = some o)
    (slot : ∀ b o, b ≠ X.env.locals → b ∈ X.fs → b ∉ ch → s.heap.get? b = some o → H b = none → ∃ sl, h'.get? b = some { o with slots := sl }) (free : ∀ b o, b ∉ ch → s.heap.get? b = some o → H b = none → H' b = none)
    (there : ∀ b o, b ∉ ch → s.heap.get? b = some o → ∃ o', h'.get? b = some o')
    (tups : ∀ b xs, H b = some (.tup xs) → H' b = some (.tup xs)) (frzs : ∀ b o u, H b = some (.frz o u) → H' b = some (.frz o u)) (tbls : ∀ b ps, H b = some (.tbl ps) → ∃ more, H' b = some (.tbl (ps ++ more)))
    (ns : ∀ m, s.heap.Ns X.env.locals m → h'.Ns X.env.locals m) (hok : HOk X.prog X.w H' h') (hg : AllBare g') :
    Inv X pins σ H' { s with heap := h', gens := g', drawn := d', toks := t' } := by
  have neL : ∀ b o, X.s₀.heap.get? b = some o → b ≠ X.env.locals := fun b o e => Nat.ne_of_lt (Nat.lt_of_lt_of_le (Heap.lt_size e) I.ok.above)
  have neC : ∀ b o, X.s₀.heap.get? b = some o → b ∉ X.ex → b ∉ ch := fun b o e hx hb => by
    rcases (hch b hb).1 with z | z
    · exact hx z
    · exact absurd (Nat.lt_of_lt_of_le (Heap.lt_size e) z) (Nat.lt_irrefl _)
  have cellK : ∀ x c, X.env.cells.lookup x = some c → ∀ v, s.heap.IsCell c v → h'.IsCell c v := fun x c e v ⟨o, ho, hd⟩ => by
    have nch : c ∉ ch := fun z => (hch c z).2.2.1 x c e rfl
    by_cases hc : c ∈ X.fs
    · obtain ⟨sl, q⟩ := slot c o (I.cne x c e) hc nch ho (I.freeC x c e)
      exact ⟨_, q, hd⟩
    · exact ⟨o, keep c o (I.cne x c e) hc nch ho (I.freeC x c e), hd⟩
  refine ⟨I.ok, I.os, hg, ⟨fun b o e n hb hx => ?_, fun b o e n hb hx => ?_, fun b o e n hx => ?_, fun b o e hx => ?_, fun b xs e => tups b xs (I.base.tups b xs e), fun b o xs e => frzs b o xs (I.base.frzs b o xs e), fun b ps e => ?_⟩, ?_, fun x c e => ?_, ?_, fun x c e => ?_, fun p hp => ?_, hok, I.len⟩
  · exact keep b o (neL b o e) hb (neC b o e hx) (I.base.keep b o e n hb hx) (I.base.free b o e n hx)
  · obtain ⟨sl, e1⟩ := I.base.slot b o e n hb hx
    obtain ⟨sl', e2⟩ := slot b _ (neL b o e) hb (neC b o e hx) e1 (I.base.free b o e n hx)
    exact ⟨sl', e2⟩
  · obtain ⟨o', e1⟩ := I.base.there b o e hx
    exact free b o' (neC b o e hx) e1 (I.base.free b o e n hx)
  · obtain ⟨o', e1⟩ := I.base.there b o e hx
    exact there b o' (neC b o e hx) e1
  · obtain ⟨m1, e1⟩ := I.base.tbls b ps e
    obtain ⟨m2, e2⟩ := tbls b _ e1
    exact ⟨m1 ++ m2, by rw [e2, Array.append_assoc]⟩
  · obtain ⟨m, hn, hl⟩ := I.loc
    refine ⟨m, ns m hn, fun i x v e1 e2 e3 => ?_⟩
    obtain ⟨u, r, l⟩ := hl i x v e1 e2 e3
    refine ⟨u, r, ?_⟩
    rcases l with l | ⟨k, c, e, z⟩
    · exact .inl l
    · exact .inr ⟨k, c, e, cellK x c e _ z⟩
  · obtain ⟨v, z⟩ := I.cell x c e
    exact ⟨v, cellK x c e v z⟩
  · obtain ⟨m, ⟨o, _, _, ho, _⟩, _⟩ := I.loc
    exact free _ o (fun z => (hch _ z).2.1 rfl) ho I.free
  · obtain ⟨v, o, ho, hd⟩ := I.cell x c e
    exact free c o (fun z => (hch c z).2.2.1 x c e rfl) ho (I.freeC x c e)
  · obtain ⟨e, n, ne, nf, d⟩ := I.pin p hp
    have nch : p.1 ∉ ch := fun z => (hch p.1 z).2.2.2 p hp rfl
    exact ⟨keep p.1 p.2 ne nf nch e n, free p.1 p.2 nch e n, ne, nf, d⟩
/-- .. where the frame's own object is kept too -/
theorem Inv.un {t' : Nat} (I : Inv X pins σ H s) (u : Un X.fs [] H H' s.heap h') (hok : HOk X.prog X.w H' h') : Inv X pins σ H' { s with heap := h', toks := t' } := by
  obtain ⟨m, ⟨o, es, ep, ho, r⟩, _⟩ := id I.loc
  obtain ⟨sl, hL⟩ := u.any ho I.free (by simp)
  exact I.step (g' := s.gens) (d' := s.drawn) (ch := []) (fun _ z => nomatch z) (fun b o _ hb _ e n => u.keep b o e n hb (by simp)) (fun b o _ hb _ e n => u.slot b o e n hb (by simp)) (fun b o _ e n => u.free b o e n (by simp)) (fun b o _ e => u.there b o e (by simp)) u.tups u.frzs u.tbls (fun m' hm => by
    obtain ⟨o', es', ep', ho', r'⟩ := hm
    rw [ho] at ho'; cases ho'
    exact ⟨_, es', ep', hL, r'⟩) hok I.bare
/-- behind a call (or a comprehension's block): the slots of this frame may have changed too, the records at ch may have turned -/
theorem Inv.call {g' : Array GenState} {t' : Nat} {d' : Drawn} {ch : List Addr} (I : Inv X pins σ H s) (u : Un (frs X.stack) ch H H' s.heap h') (hok : HOk X.prog X.w H' h') (hg : AllBare g')
    (hch : ∀ b ∈ ch, (b ∈ X.ex ∨ X.s₀.heap.objs.size ≤ b) ∧ b ≠ X.env.locals ∧ (∀ x c, X.env.cells.lookup x = some c → c ≠ b) ∧ ∀ p ∈ X.pn ++ pins, p.1 ≠ b) :
    Inv X pins σ H' { s with heap := h', gens := g', drawn := d', toks := t' } := by
  obtain ⟨m, ⟨o, es, ep, ho, r⟩, _⟩ := id I.loc
  obtain ⟨sl, hL⟩ := u.any ho I.free fun z => (hch _ z).2.1 rfl
  exact I.step (ch := ch) hch (fun b o hL hb hc e n => u.keep b o e n (fun z => (List.mem_cons.mp (I.stkSub b z)).elim hL hb) hc) (fun b o _ _ hc e n => u.any e n hc) (fun b o hc e n => u.free b o e n hc) (fun b o hc e => u.there b o e hc) u.tups u.frzs u.tbls (fun m' hm => by
    obtain ⟨o', es', ep', ho', r'⟩ := hm
    rw [ho] at ho'; cases ho'
    exact ⟨_, es', ep', hL, r'⟩) hok hg
/-- an untracked record of ours (an iterator) has turned -/
theorem Inv.turned {t' : Nat} {it : Addr} (I : Inv X pins σ H s) (k : ∀ b o, b ≠ it → s.heap.get? b = some o → h'.get? b = some o) (hn : H it = none) (hL : it ≠ X.env.locals)
    (h1 : it ∈ X.ex ∨ X.s₀.heap.objs.size ≤ it) (h2 : ∀ x c, X.env.cells.lookup x = some c → c ≠ it) (h3 : ∀ p ∈ X.pn ++ pins, p.1 ≠ it) : Inv X pins σ H { s with heap := h', toks := t' } := by
  have nit : ∀ b u, H b = some u → b ≠ it := fun b u e z => by rw [z, hn] at e; cases e
  refine I.step (g' := s.gens) (d' := s.drawn) (ch := [it]) (fun b hb => ?_) (fun b o _ _ hc e _ => k b o (fun z => hc (by simp [z])) e) (fun b o _ _ hc e _ => ⟨o.slots, k b o (fun z => hc (by simp [z])) e⟩) (fun _ _ _ _ n => n)
    (fun b o hc e => ⟨o, k b o (fun z => hc (by simp [z])) e⟩) (fun _ _ e => e) (fun _ _ _ e => e) (fun b ps e => ⟨#[], by rw [e]; simp⟩) (fun m hm => ?_) (fun b u e => ?_) I.bare
  · have e : b = it := by simpa using hb
    subst e
    exact ⟨h1, hL, h2, h3⟩
  · obtain ⟨o, es, ep, ho, r⟩ := hm
    exact ⟨o, es, ep, k _ o (Ne.symm hL) ho, r⟩
  · refine (I.hok b u e).stay (fun c v hc q => k c v ?_ q) (fun _ q => q) fun _ _ q => q
    rcases hc with z | z
    · rw [z]; exact nit b u e
    · exact nit c _ z
theorem Inv.tok (I : Inv X pins σ H s) (t : Nat) : Inv X pins σ H { s with toks := t } := I.un (h' := s.heap) (t' := t) Un.refl I.hok
/-- all objects kept -/
theorem Inv.kept {t' : Nat} (I : Inv X pins σ H s) (k : ∀ b u, s.heap.get? b = some u → h'.get? b = some u) : Inv X pins σ H { s with heap := h', toks := t' } := I.un (Un.kept k) (I.hok.kept k)
/-- a new object laid and tracked -/
theorem Inv.laid {a : Addr} {o : HO} {t' : Nat} (I : Inv X pins σ H s) (k : ∀ b u, s.heap.get? b = some u → h'.get? b = some u) (hp : s.heap.objs.size ≤ a) (new : ObjOk X.prog X.w (upd H a o) h' a o) :
    Inv X pins σ (upd H a o) { s with heap := h', toks := t' } := I.un (Un.laid k hp (I.hok.fresh hp)) (I.hok.laid k hp new)
/-- an object written -/
theorem Inv.write {x e : Addr} {o : HO} {t' : Nat} (I : Inv X pins σ H s) (mu : Mut (H x)) (he : e = x ∨ H e = some (.own x)) (k : ∀ b u, b ≠ e → s.heap.get? b = some u → h'.get? b = some u) (heo : ∃ u, h'.get? e = some u)
    (new : ObjOk X.prog X.w (upd H x o) h' x o) : Inv X pins σ (upd H x o) { s with heap := h', toks := t' } := I.un (Un.write mu he k heo) (I.hok.write mu he k heo new)
/-- forgetting slots, pins -/
theorem Inv.weak {σ' : List (Option V)} (I : Inv X pins σ H s) (hl : σ'.length = σ.length) (w : ∀ (i : Nat) v, σ'[i]? = some (some v) → σ[i]? = some (some v)) : Inv X pins σ' H s :=
  ⟨I.ok, I.os, I.bare, I.base, let ⟨m, hn, hl'⟩ := I.loc; ⟨m, hn, fun i x v e1 e2 e3 => hl' i x v e1 (w i v e2) e3⟩, I.cell, I.free, I.freeC, I.pin, I.hok, hl.trans I.len⟩
theorem Inv.pins_of {pins' : List (Addr × Obj)} (I : Inv X pins σ H s) (h : ∀ p ∈ pins', s.heap.get? p.1 = some p.2 ∧ H p.1 = none ∧ p.1 ≠ X.env.locals ∧ p.1 ∉ X.fs ∧ ∀ v, p.2.data ≠ .cell v) : Inv X pins' σ H s :=
  ⟨I.ok, I.os, I.bare, I.base, I.loc, I.cell, I.free, I.freeC, fun p hp => (List.mem_append.mp hp).elim (fun z => I.pin p (List.mem_append_left _ z)) (h p), I.hok, I.len⟩

theorem nodup_ix {N : List Str} (hN : N.Nodup) {i j : Nat} {x : Str} (a : N[i]? = some x) (b : N[j]? = some x) : i = j := by
  obtain ⟨h1, e1⟩ := List.getElem?_eq_some_iff.mp a
  obtain ⟨h2, e2⟩ := List.getElem?_eq_some_iff.mp b
  exact (List.getElem_inj hN).mp (e1.trans e2.symm)

/-- a name is stored; what changed -/
theorem store_ok2 {M : Model} {A : Around} {E : Value → Shared → Prop} {i : Nat} {x : Str} {v : V} {u : Value} {Q : Unit → Shared → Prop} (I : Inv X pins σ H s) (hN : X.N.Nodup) (hi : X.N[i]? = some x) (hx : Loc X.env.scope x) (r : RelV v u)
    (h : ∀ s', Inv X pins (σ.set i (some v)) H s' → (∃ a, Heap.SameBut a s.heap s'.heap ∧ (a = X.env.locals ∨ X.env.cells.lookup x = some a)) → Q () s') (hf : X.fn x = true ∨ X.env.scope.names.lookup x = some .local := by first | exact .inl rfl | exact .inr rfl | assumption) : wpAny M A (storeName X.env x u) Q E s := by
  obtain ⟨m, hn, hl⟩ := id I.loc
  have hcls : (X.env.scope.kind == .class || (X.env.scope.kind == .module && X.env.locals != X.env.globals)) = false := by rw [I.ok.kind]; rfl
  have hiσ : i < σ.length := by rw [I.len]; exact (List.getElem?_eq_some_iff.mp hi).1
  have cne := I.cne
  have tracked : ∀ {a : Addr} {h' : Heap}, (∃ o, s.heap.get? a = some o ∧ H a = none) → Heap.SameBut a s.heap h' → HOk X.prog X.w H h' := fun {a h'} ha hs b ob e => by
    obtain ⟨_, _, hfree⟩ := ha
    refine (I.hok b ob e).stay (fun c w' hc q => (hs.2 c ?_).trans q) (fun _ q => q) fun _ _ q => q
    rintro rfl
    rcases hc with rfl | hc
    · rw [hfree] at e; cases e
    · rw [hfree] at hc; cases hc
  rcases hx with hk | hk
  · refine wpAny_storeName_local hk hn (fun h' hn' hs => ?_) hcls
    obtain ⟨oL, _, _, hoL, _⟩ := id hn
    refine h _ ⟨I.ok, I.os, I.bare, ⟨fun b o e n hb hx => ?_, fun b o e n hb hx => ?_, I.base.free, fun b o e hx => ?_, I.base.tups, I.base.frzs, I.base.tbls⟩, ⟨_, hn', fun j y v' e1 e2 e3 => ?_⟩, fun y c e => ?_, I.free, I.freeC, fun p hp => ?_, tracked ⟨oL, hoL, I.free⟩ hs, by simpa using I.len⟩ ⟨_, hs, .inl rfl⟩
    · exact (hs.2 b (Nat.ne_of_lt (Nat.lt_of_lt_of_le (Heap.lt_size e) I.ok.above))).trans (I.base.keep b o e n hb hx)
    · obtain ⟨sl, e1⟩ := I.base.slot b o e n hb hx
      exact ⟨sl, (hs.2 b (Nat.ne_of_lt (Nat.lt_of_lt_of_le (Heap.lt_size e) I.ok.above))).trans e1⟩
    · obtain ⟨o', e1⟩ := I.base.there b o e hx
      exact ⟨o', (hs.2 b (Nat.ne_of_lt (Nat.lt_of_lt_of_le (Heap.lt_size e) I.ok.above))).trans e1⟩
    · by_cases hj : j = i
      · subst hj
        rw [hi] at e1; cases e1
        rw [List.getElem?_set_self hiσ] at e2
        cases e2
        exact ⟨u, r, .inl ⟨hk, by simp⟩⟩
      · rw [List.getElem?_set_ne (Ne.symm hj)] at e2
        obtain ⟨u', r', q⟩ := hl j y v' e1 e2 e3
        refine ⟨u', r', ?_⟩
        rcases q with ⟨k, e⟩ | ⟨k, c, e, z⟩
        · refine .inl ⟨k, ?_⟩
          have : y ≠ x := fun e => hj (nodup_ix hN e1 (e ▸ hi))
          simp [this, e]
        · exact .inr ⟨k, c, e, z.sameBut hs (cne y c e)⟩
    · obtain ⟨w', z⟩ := I.cell y c e
      exact ⟨w', z.sameBut hs (cne y c e)⟩
    · obtain ⟨e, n, ne, nf, d⟩ := I.pin p hp
      exact ⟨(hs.2 p.1 ne).trans e, n, ne, nf, d⟩
  · have hfn : X.fn x = true := by
      rcases hf with z | z
      · exact z
      · rw [z] at hk; cases hk
    obtain ⟨c, hc⟩ := I.ok.has x (.inl hk)
    obtain ⟨w', z⟩ := I.cell x c hc
    refine wpAny_storeName_cell I.ok.kind hk hc z (fun h' hc' hs => ?_)
    obtain ⟨oc, hoc, hocd⟩ := id z
    refine h { s with heap := h' } ⟨I.ok, I.os, I.bare, ⟨fun b o e n hb hx => ?_, fun b o e n hb hx => ?_, I.base.free, fun b o e hx => ?_, I.base.tups, I.base.frzs, I.base.tbls⟩, ⟨m, hn.sameBut hs (Ne.symm (cne x c hc)), fun j y v' e1 e2 e3 => ?_⟩, fun y c' e => ?_, I.free, I.freeC, fun p hp => ?_, tracked ⟨oc, hoc, I.freeC x c hc⟩ hs, by simpa using I.len⟩ ⟨c, hs, .inr hc⟩
    · exact (hs.2 b (Nat.ne_of_lt (Nat.lt_of_lt_of_le (Heap.lt_size e) (I.ok.cab x c hfn hc)))).trans (I.base.keep b o e n hb hx)
    · obtain ⟨sl, e1⟩ := I.base.slot b o e n hb hx
      exact ⟨sl, (hs.2 b (Nat.ne_of_lt (Nat.lt_of_lt_of_le (Heap.lt_size e) (I.ok.cab x c hfn hc)))).trans e1⟩
    · obtain ⟨o', e1⟩ := I.base.there b o e hx
      exact ⟨o', (hs.2 b (Nat.ne_of_lt (Nat.lt_of_lt_of_le (Heap.lt_size e) (I.ok.cab x c hfn hc)))).trans e1⟩
    · by_cases hj : j = i
      · subst hj
        rw [hi] at e1; cases e1
        rw [List.getElem?_set_self hiσ] at e2
        cases e2
        exact ⟨u, r, .inr ⟨.inl hk, c, hc, hc'⟩⟩
      · rw [List.getElem?_set_ne (Ne.symm hj)] at e2
        obtain ⟨u', r', q⟩ := hl j y v' e1 e2 e3
        refine ⟨u', r', ?_⟩
        rcases q with q | ⟨k, c', e, z'⟩
        · exact .inl q
        · refine .inr ⟨k, c', e, z'.sameBut hs ?_⟩
          rintro rfl
          exact hj (nodup_ix hN e1 (I.ok.inj _ _ _ e hc ▸ hi))
    · by_cases hcc : c' = c
      · subst hcc; exact ⟨_, hc'⟩
      · obtain ⟨w2, z2⟩ := I.cell y c' e
        exact ⟨w2, z2.sameBut hs hcc⟩
    · obtain ⟨e, n, ne, nf, d⟩ := I.pin p hp
      refine ⟨(hs.2 p.1 ?_).trans e, n, ne, nf, d⟩
      intro q
      rw [q, hoc] at e
      have q' : oc = p.2 := Option.some.inj e
      exact d w' (by rw [← q']; exact hocd)
theorem store_ok {M : Model} {A : Around} {E : Value → Shared → Prop} {i : Nat} {x : Str} {v : V} {u : Value} {Q : Unit → Shared → Prop} (I : Inv X pins σ H s) (hN : X.N.Nodup) (hi : X.N[i]? = some x) (hx : Loc X.env.scope x) (r : RelV v u)
    (h : ∀ s', Inv X pins (σ.set i (some v)) H s' → Q () s') (hf : X.fn x = true ∨ X.env.scope.names.lookup x = some .local := by first | exact .inl rfl | exact .inr rfl | assumption) : wpAny M A (storeName X.env x u) Q E s :=
  store_ok2 I hN hi hx r (fun s' I' _ => h s' I') hf
/-- behind a call or a block, the state as it is -/
theorem Inv.call' {s' : Shared} {ch : List Addr} (I : Inv X pins σ H s) (ho : s'.os = s.os) (u : Un (frs X.stack) ch H H' s.heap s'.heap) (hok : HOk X.prog X.w H' s'.heap) (hg : AllBare s'.gens)
    (hch : ∀ b ∈ ch, (b ∈ X.ex ∨ X.s₀.heap.objs.size ≤ b) ∧ b ≠ X.env.locals ∧ (∀ x c, X.env.cells.lookup x = some c → c ≠ b) ∧ ∀ p ∈ X.pn ++ pins, p.1 ≠ b) : Inv X pins σ H' s' := by
  obtain ⟨h', g', d', t', o'⟩ := s'
  have e : o' = s.os := ho
  subst e
  exact I.call (g' := g') (t' := t') (d' := d') u hok hg hch
end

/-! ### the judgements -/
/-- an exception: its class, its own dict's address (where it has one), the abstract heap behind it -/
abbrev XK := Value → Option Addr → Hp → Prop
abbrev St := List (Option V)
abbrev VK := V → Hp → Prop
/-- an expression's reading; a test's; an argument list's -/
abbrev TE := St → Hp → VK → Prop
abbrev TT := St → Hp → (Bool → Hp → Prop) → Prop
abbrev TA := St → Hp → (List V → Hp → Prop) → Prop
/-- what is wanted behind a statement -/
structure Ends where
  nx : St → Hp → Prop
  rt : VK
  bk : St → Hp → Prop := fun _ _ => False
  ct : St → Hp → Prop := fun _ _ => False
abbrev TS := Ends → St → Hp → Prop

def EP (X : Cx) (pins : List (Addr × Obj)) (σ : St) (Q : VK) (u : Value) (s' : Shared) : Prop := ∃ v H', Inv X pins σ H' s' ∧ RelV v u ∧ Q v H'
def TP (X : Cx) (pins : List (Addr × Obj)) (σ : St) (Q : Bool → Hp → Prop) (b : Bool) (s' : Shared) : Prop := ∃ H', Inv X pins σ H' s' ∧ Q b H'
def AP (X : Cx) (pins : List (Addr × Obj)) (σ : St) (Q : List V → Hp → Prop) (us : List Value) (s' : Shared) : Prop := ∃ vs H', Inv X pins σ H' s' ∧ Vals vs us ∧ Q vs H'
def SP (X : Cx) (pins : List (Addr × Obj)) (D : Ends) (f : Flow) (s' : Shared) : Prop :=
  match f with
  | .next => ∃ σ' H', Inv X pins σ' H' s' ∧ D.nx σ' H'
  | .brk => ∃ σ' H', Inv X pins σ' H' s' ∧ D.bk σ' H'
  | .cont => ∃ σ' H', Inv X pins σ' H' s' ∧ D.ct σ' H'
  | .ret u => ∃ v σ' H', Inv X pins σ' H' s' ∧ RelV v u ∧ D.rt v H'

def PE (X : Cx) (e : Expr) (t : TE) : Prop :=
  ∀ (pins : List (Addr × Obj)) (s : Shared) (σ : St) (H : Hp) (Q : VK), Inv X pins σ H s → t σ H Q → wpAny (model X.prog X.w) X.A (eval e X.env) (EP X pins σ Q) X.xe s
def PT (X : Cx) (e : Expr) (t : TT) : Prop :=
  ∀ (pins : List (Addr × Obj)) (s : Shared) (σ : St) (H : Hp) (Q : Bool → Hp → Prop), Inv X pins σ H s → t σ H Q → wpAny (model X.prog X.w) X.A (isTrue e X.env (eval e X.env)) (TP X pins σ Q) X.xe s
/-- a test whatever its 'whole' is (and, or) -/
def PW (X : Cx) (e : Expr) (t : TT) : Prop :=
  ∀ (whole : Sem Value) (pins : List (Addr × Obj)) (s : Shared) (σ : St) (H : Hp) (Q : Bool → Hp → Prop), Inv X pins σ H s → t σ H Q → wpAny (model X.prog X.w) X.A (isTrue e X.env whole) (TP X pins σ Q) X.xe s
theorem PW.pt {X : Cx} {e : Expr} {t : TT} (h : PW X e t) : PT X e t := h _
/-- an argument list (no star), from the left -/
def PA (X : Cx) (es : List Expr) (t : TA) : Prop :=
  ∀ (pos : Pos) (pins : List (Addr × Obj)) (s : Shared) (σ : St) (H : Hp) (Q : List V → Hp → Prop), Inv X pins σ H s → t σ H Q → wpAny (model X.prog X.w) X.A (spliced (backTo pos (starEach es X.env))) (AP X pins σ Q) X.xe s
def PS (X : Cx) (st : Stmt) (t : TS) : Prop :=
  ∀ (pins : List (Addr × Obj)) (s : Shared) (σ : St) (H : Hp) (D : Ends), Inv X pins σ H s → t D σ H → wpAny (model X.prog X.w) X.A (exec st X.env) (SP X pins D) X.xe s
def PSs (X : Cx) (st : List Stmt) (t : TS) : Prop :=
  ∀ (pins : List (Addr × Obj)) (s : Shared) (σ : St) (H : Hp) (D : Ends), Inv X pins σ H s → t D σ H → wpAny (model X.prog X.w) X.A (execs st X.env) (SP X pins D) X.xe s
/-- weaken the end -/
theorem thn {α : Type} {t : Sem α} {Q Q' : α → Shared → Prop} {M : Model} {A : Around} {E : Value → Shared → Prop} {s : Shared} (h : wpAny M A t Q E s) (hQ : ∀ a s, Q a s → Q' a s) : wpAny M A t Q' E s := wpAny_mono h hQ fun _ _ x => x
end L2

namespace L2
open PySem PySem.Spec PyProof.Rows
section
variable {X : Cx}

/-- two expressions in a row -/
theorem bin {a b : Expr} {ta tb : TE} (ha : PE X a ta) (hb : PE X b tb) {pins : List (Addr × Obj)} {s : Shared} {σ : St} {H : Hp} {R : V → V → Hp → Prop} (I : Inv X pins σ H s) (h : ta σ H fun x H1 => tb σ H1 fun y H2 => R x y H2)
    {α : Type} {Q : α → Shared → Prop} {f : Value → Value → Sem α}
    (hf : ∀ v u s2 x y H2, Inv X pins σ H2 s2 → RelV x v → RelV y u → R x y H2 → wpAny (model X.prog X.w) X.A (f v u) Q X.xe s2) :
    wpAny (model X.prog X.w) X.A (eval a X.env) (fun v s₁ => wpAny (model X.prog X.w) X.A (eval b X.env) (fun u s₂ => wpAny (model X.prog X.w) X.A (f v u) Q X.xe s₂) X.xe s₁) X.xe s := by
  refine thn (ha pins s σ H _ I h) fun v s1 ⟨x, H1, I1, r1, q1⟩ => ?_
  refine thn (hb pins s1 σ H1 _ I1 q1) fun u s2 ⟨y, H2, I2, r2, q2⟩ => ?_
  exact hf v u s2 x y H2 I2 r1 r2 q2

/-! ### names and constants -/
def tVar (i : Nat) : TE := fun σ H Q => ∃ v, σ[i]? = some (some v) ∧ Q v H
def tC (v : V) : TE := fun _ H Q => Q v H
theorem pe_var {i : Nat} {x : Str} {pos : Pos} (hN : X.N[i]? = some x) (hv : Vis X.env.scope x) (hd : (x == ("__debug__" : Str)) = false := by decide) (hcd : (x == ("__classdict__" : Str)) = false := by decide) : PE X (.Name x pos) (tVar i) := by
  intro pins s σ H Q I h
  obtain ⟨v, e, h⟩ := h
  obtain ⟨m, hn, hl⟩ := I.loc
  obtain ⟨u, r, l⟩ := hl i x v hN e hv
  have fin : EP X pins σ Q u s := ⟨v, H, I, r, h⟩
  rcases l with ⟨hk, hm⟩ | ⟨hk, c, hc, hcell⟩
  · exact wpAny_Name (wpAny_loadName_local I.ok.kind hk hn hm fin) hd
  · rcases hk with hk | hk
    · exact wpAny_Name (wpAny_loadName_cell I.ok.kind hk hc hcell fin) hd
    · exact wpAny_Name (wpAny_loadName_free I.ok.kind hk hc hcell fin hcd) hd
theorem pe_int {i j pos} : PE X (.Constant (.int i) j pos) (tC (.int i)) := fun _ _ _ H _ I h => wpAny_Constant_int ⟨.int i, H, I.tok _, ⟨_, rfl⟩, h⟩
theorem pe_bl {b j pos} : PE X (.Constant (.bool b) j pos) (tC (.bl b)) := fun _ _ _ H _ I h => Constant_bool ⟨.bl b, H, I, rfl, h⟩
theorem pe_non {j pos} : PE X (.Constant .none j pos) (tC .non) := fun _ _ _ H _ I h => Constant_none ⟨.non, H, I, rfl, h⟩
theorem pe_str {x j pos} : PE X (.Constant (.str x) j pos) (tC (.str x)) := fun _ _ _ H _ I h => Calls.Constant_str ⟨.str x, H, I.tok _, ⟨_, rfl⟩, h⟩

/-- a global name of the def -/
def Gl (X : Cx) (x : Str) : Prop := X.env.kindOf x = some .globalImplicit
theorem ld_glob {E : Value → Shared → Prop} {pins : List (Addr × Obj)} {s : Shared} {σ : St} {H : Hp} {x : Str} {u : Value} {pos : Pos} {Q : Value → Shared → Prop} (I : Inv X pins σ H s) (hg : Gl X x) (hm : X.mg x = some u) (h : Q u s)
    (hd : (x == ("__debug__" : Str)) = false := by decide) : wpAny (model X.prog X.w) X.A (eval (.Name x pos) X.env) Q E s :=
  Calls.Name_function_global I.ok.kind hg (Calls.loadGlobal_global (by rw [I.ok.glob]; exact I.mod.glob.keeps I.bk) hm h) hd
theorem ld_blt {E : Value → Shared → Prop} {pins : List (Addr × Obj)} {s : Shared} {σ : St} {H : Hp} {x : Str} {u : Value} {pos : Pos} {Q : Value → Shared → Prop} (I : Inv X pins σ H s) (hg : Gl X x) (hm : X.mg x = none) (hv : bootBuiltins x = some u) (h : Q u s)
    (hn : x ≠ "__name__" := by decide) (hd : (x == ("__debug__" : Str)) = false := by decide) : wpAny (model X.prog X.w) X.A (eval (.Name x pos) X.env) Q E s := by
  obtain ⟨mb, h1, h2⟩ := I.mod.blt
  exact Calls.Name_function_global I.ok.kind hg (Calls.loadGlobal_builtin (by rw [I.ok.glob]; exact I.mod.glob.keeps I.bk) hm (by rw [I.ok.blt]; exact h1.keeps I.bk) ((h2 x hn).trans hv) h) hd
/-- a module's constant, a class, a function, as a value -/
theorem pe_glob {x : Str} {v : V} {u : Value} {pos : Pos} (hg : Gl X x) (hm : X.mg x = some u) (r : RelV v u) (hd : (x == ("__debug__" : Str)) = false := by decide) : PE X (.Name x pos) (tC v) :=
  fun _ _ _ H _ I h => ld_glob I hg hm ⟨v, H, I, r, h⟩ hd
theorem pe_bltn {x : Str} {v : V} {u : Value} {pos : Pos} (hg : Gl X x) (hm : X.mg x = none) (hv : bootBuiltins x = some u) (r : RelV v u) (hn : x ≠ "__name__" := by decide) (hd : (x == ("__debug__" : Str)) = false := by decide) : PE X (.Name x pos) (tC v) :=
  fun _ _ _ H _ I h => ld_blt I hg hm hv ⟨v, H, I, r, h⟩ hn hd

/-! ### arithmetic -/
/-- two ints -/
def t2I (ta tb : TE) (k : Int → Int → Hp → Prop) : St → Hp → Prop := fun σ H => ta σ H fun x H1 => tb σ H1 fun y H2 => ∃ i j, x = .int i ∧ y = .int j ∧ k i j H2
def tAdd (ta tb : TE) : TE := fun σ H Q => t2I ta tb (fun i j H2 => Q (.int (i + j)) H2) σ H
def tSub (ta tb : TE) : TE := fun σ H Q => t2I ta tb (fun i j H2 => Q (.int (i - j)) H2) σ H
/-- the left factor below 2^64 -/
def tMul (ta tb : TE) : TE := fun σ H Q => t2I ta tb (fun i j H2 => (-(2 ^ 64) < i ∧ i < 2 ^ 64) ∧ Q (.int (i * j)) H2) σ H
variable {a b : Expr} {ta tb : TE} {pos : Pos}
theorem pe_add (ha : PE X a ta) (hb : PE X b tb) : PE X (.BinOp a .Add b pos) (tAdd ta tb) := by
  intro pins s σ H Q I h
  refine wpAny_BinOp (bin ha hb I h fun v u s2 x y H2 I2 rx ry q => ?_)
  obtain ⟨i, j, rfl, rfl, q⟩ := q
  obtain ⟨t, rfl⟩ := rx
  obtain ⟨t', rfl⟩ := ry
  exact add_int ⟨.int _, H2, I2.tok _, ⟨_, rfl⟩, q⟩
theorem pe_sub (ha : PE X a ta) (hb : PE X b tb) : PE X (.BinOp a .Sub b pos) (tSub ta tb) := by
  intro pins s σ H Q I h
  refine wpAny_BinOp (bin ha hb I h fun v u s2 x y H2 I2 rx ry q => ?_)
  obtain ⟨i, j, rfl, rfl, q⟩ := q
  obtain ⟨t, rfl⟩ := rx
  obtain ⟨t', rfl⟩ := ry
  exact sub_int ⟨.int _, H2, I2.tok _, ⟨_, rfl⟩, q⟩
theorem pe_mul (ha : PE X a ta) (hb : PE X b tb) : PE X (.BinOp a .Mult b pos) (tMul ta tb) := by
  intro pins s σ H Q I h
  refine wpAny_BinOp (bin ha hb I h fun v u s2 x y H2 I2 rx ry q => ?_)
  obtain ⟨i, j, rfl, rfl, ⟨q1, q2⟩, q⟩ := q
  obtain ⟨t, rfl⟩ := rx
  obtain ⟨t', rfl⟩ := ry
  exact mul_int ⟨.int _, H2, I2.tok _, ⟨_, rfl⟩, q⟩ (.of_left (intBits_le_64 q1 q2))

/-! ### comparisons -/
def PC (X : Cx) (op : CmpOp) (a b : Expr) (t : TE) : Prop :=
  ∀ (pins : List (Addr × Obj)) (s : Shared) (σ : St) (H : Hp) (Q : VK), Inv X pins σ H s → t σ H Q →
    wpAny (model X.prog X.w) X.A (eval a X.env) (fun v s₁ => wpAny (model X.prog X.w) X.A (eval b X.env) (fun u s₂ => wpAny (model X.prog X.w) X.A (compareOp op v u) (EP X pins σ Q) X.xe s₂) X.xe s₁) X.xe s
theorem nobehind (b : Expr) {op : CmpOp} (h : op ≠ .In) (h2 : op ≠ .NotIn) : behindInMarks op b = false := by
  have e1 : (op == CmpOp.In) = false := by cases op <;> first | rfl | exact absurd rfl h
  have e2 : (op == CmpOp.NotIn) = false := by cases op <;> first | rfl | exact absurd rfl h2
  cases b <;> simp [behindInMarks, e1, e2]
def tCmp (p : Int → Int → Bool) (ta tb : TE) : TE := fun σ H Q => t2I ta tb (fun i j H2 => Q (.bl (p i j)) H2) σ H
abbrev tLt : TE → TE → TE := tCmp fun i j => decide (i < j)
abbrev tLe : TE → TE → TE := tCmp fun i j => decide (i ≤ j)
abbrev tGt : TE → TE → TE := tCmp fun i j => decide (j < i)
abbrev tGe : TE → TE → TE := tCmp fun i j => decide (j ≤ i)
abbrev tEqI : TE → TE → TE := tCmp fun i j => decide (i = j)
abbrev tNeI : TE → TE → TE := tCmp fun i j => !decide (i = j)
/-- a comparison of two ints, by its rule -/
theorem pc_int {op : CmpOp} {p : Int → Int → Bool} (ha : PE X a ta) (hb : PE X b tb)
    (rule : ∀ (i j : Int) (t u : Tok) (Q : Value → Shared → Prop) (s : Shared), Q (.bool (p i j)) s → wpAny (model X.prog X.w) X.A (compareOp op (.int i t) (.int j u)) Q X.xe s) : PC X op a b (tCmp p ta tb) := by
  intro pins s σ H Q I h
  refine bin ha hb I h fun v u s2 x y H2 I2 rx ry q => ?_
  obtain ⟨i, j, rfl, rfl, q⟩ := q
  obtain ⟨t, rfl⟩ := rx
  obtain ⟨t', rfl⟩ := ry
  exact rule i j t t' _ s2 ⟨.bl _, H2, I2, rfl, q⟩
theorem pc_lt (ha : PE X a ta) (hb : PE X b tb) : PC X .Lt a b (tLt ta tb) := pc_int ha hb fun _ _ _ _ _ _ h => lt_int h
theorem pc_le (ha : PE X a ta) (hb : PE X b tb) : PC X .LtE a b (tLe ta tb) := pc_int ha hb fun _ _ _ _ _ _ h => le_int h
theorem pc_gt (ha : PE X a ta) (hb : PE X b tb) : PC X .Gt a b (tGt ta tb) := pc_int ha hb fun _ _ _ _ _ _ h => gt_int h
theorem pc_ge (ha : PE X a ta) (hb : PE X b tb) : PC X .GtE a b (tGe ta tb) := pc_int ha hb fun _ _ _ _ _ _ h => ge_int h
theorem pc_eqI (ha : PE X a ta) (hb : PE X b tb) : PC X .Eq a b (tEqI ta tb) := pc_int ha hb fun _ _ _ _ _ _ h => eq_int (by rw [Bool.beq_eq_decide_eq]; exact h)
theorem pc_neI (ha : PE X a ta) (hb : PE X b tb) : PC X .NotEq a b (tNeI ta tb) := pc_int ha hb fun _ _ _ _ _ _ h => ne_int (by rw [bne, Bool.beq_eq_decide_eq]; exact h)
/-- is None -/
def tIsN (ta : TE) : TE := fun σ H Q => ta σ H fun x H1 => Q (.bl (decide (x = .non))) H1
def tNotN (ta : TE) : TE := fun σ H Q => ta σ H fun x H1 => Q (.bl (!decide (x = .non))) H1
theorem RelV.none_iff {x : V} {v : Value} (r : RelV x v) : (v == Value.none) = decide (x = .non) := by
  cases x with
  | non => cases r; rfl
  | bl _ => cases r; rfl
  | int _ => obtain ⟨t, rfl⟩ := r; rfl
  | str _ => obtain ⟨t, rfl⟩ := r; rfl
  | byt _ => obtain ⟨t, rfl⟩ := r; rfl
  | flt _ => obtain ⟨t, rfl⟩ := r; rfl
  | ref _ => cases r; rfl
  | ty _ => cases r; rfl
theorem pc_isN {j pos'} (ha : PE X a ta) : PC X .Is a (.Constant .none j pos') (tIsN ta) := by
  intro pins s σ H Q I h
  refine thn (ha pins s σ H _ I h) fun v s1 ⟨x, H1, I1, r1, q1⟩ => ?_
  exact Constant_none (is_none_gen ⟨.bl _, H1, I1, by rw [r1.none_iff]; rfl, q1⟩)
theorem pc_notN {j pos'} (ha : PE X a ta) : PC X .IsNot a (.Constant .none j pos') (tNotN ta) := by
  intro pins s σ H Q I h
  refine thn (ha pins s σ H _ I h) fun v s1 ⟨x, H1, I1, r1, q1⟩ => ?_
  exact Constant_none (isnot_none_gen ⟨.bl _, H1, I1, by rw [r1.none_iff]; rfl, q1⟩)
/-- a comparison as a value, as a test -/
def tB (t : TE) : TT := fun σ H Q => t σ H fun x H1 => ∃ c, x = .bl c ∧ Q c H1
theorem pe_cmp {op : CmpOp} {t : TE} (h : PC X op a b t) (h1 : behindInMarks op b = false := by first | exact nobehind _ (by decide) (by decide) | rfl) : PE X (.Compare a [op] [b] pos) t := fun pins s σ H Q I hw => wpAny_Compare1 (h pins s σ H Q I hw) h1
theorem pt_cmp {op : CmpOp} {t : TE} (h : PC X op a b t) (h1 : behindInMarks op b = false := by first | exact nobehind _ (by decide) (by decide) | rfl) : PT X (.Compare a [op] [b] pos) (tB t) := by
  intro pins s σ H Q I hw
  refine wpAny_isTrue_Compare1 (thn (h pins s σ H _ I hw) fun v s1 h1 => thn h1 fun u s2 h2 => thn h2 fun c s3 ⟨x, H1, I1, r1, q1⟩ => ?_) h1
  obtain ⟨d, rfl, q⟩ := q1
  cases r1
  exact wpAny_truthy_bool ⟨H1, I1, q⟩
/-- an expression whose value is a bool, as a test -/
theorem pt_val {e : Expr} {t : TE} (h : PE X e t) (he : ∀ whole, isTrue e X.env whole = (do let v ← whole; standAt e.pos; holding [v] (truthy v)) := by intro _; rfl) : PT X e (tB t) := by
  intro pins s σ H Q I hw
  refine isTrue_plain (thn (h pins s σ H _ I hw) fun v s1 ⟨x, H1, I1, r1, q1⟩ => ?_) (he _)
  obtain ⟨d, rfl, q⟩ := q1
  cases r1
  exact wpAny_truthy_bool ⟨H1, I1, q⟩

/-! ### and, or, not -/
variable {tA tB' : TT} {rest : List Expr}
def tAnd (t u : TT) : TT := fun σ H Q => t σ H fun c H1 => if c = true then u σ H1 Q else Q false H1
def tOr (t u : TT) : TT := fun σ H Q => t σ H fun c H1 => if c = true then Q true H1 else u σ H1 Q
def tNot (t : TT) : TT := fun σ H Q => t σ H fun c H1 => Q (!c) H1
theorem pw_and1 (ha : PT X a tA) : PW X (.BoolOp .And [a] pos) tA := by
  intro wh pins s σ H Q I h
  refine isTrue_and (thn (ha pins s σ H Q I h) fun c s1 e => ?_)
  cases c with
  | true => exact isTrue_and_nil e
  | false => exact e
theorem pw_or1 (ha : PT X a tA) : PW X (.BoolOp .Or [a] pos) tA := by
  intro wh pins s σ H Q I h
  refine isTrue_or (thn (ha pins s σ H Q I h) fun c s1 e => ?_)
  cases c with
  | false => exact isTrue_or_nil e
  | true => exact e
theorem pw_and (ha : PT X a tA) (hb : PW X (.BoolOp .And (b :: rest) pos) tB') : PW X (.BoolOp .And (a :: b :: rest) pos) (tAnd tA tB') := by
  intro wh pins s σ H Q I h
  refine isTrue_and (thn (ha pins s σ H _ I h) fun c s1 ⟨H1, I1, q1⟩ => ?_)
  cases c with
  | true => exact hb wh pins s1 σ H1 Q I1 q1
  | false => exact ⟨H1, I1, q1⟩
theorem pw_or (ha : PT X a tA) (hb : PW X (.BoolOp .Or (b :: rest) pos) tB') : PW X (.BoolOp .Or (a :: b :: rest) pos) (tOr tA tB') := by
  intro wh pins s σ H Q I h
  refine isTrue_or (thn (ha pins s σ H _ I h) fun c s1 ⟨H1, I1, q1⟩ => ?_)
  cases c with
  | true => exact ⟨H1, I1, q1⟩
  | false => exact hb wh pins s1 σ H1 Q I1 q1
theorem pt_not (ha : PT X a tA) : PT X (.UnaryOp .Not a pos) (tNot tA) := by
  intro pins s σ H Q I h
  exact isTrue_not (ha pins s σ H (fun c H1 => Q (!c) H1) I h)
/-- .. as values (bools) -/
def tAndV (ta tb : TE) : TE := fun σ H Q => ta σ H fun x H1 => ∃ c, x = .bl c ∧ if c = true then tb σ H1 Q else Q (.bl false) H1
def tOrV (ta tb : TE) : TE := fun σ H Q => ta σ H fun x H1 => ∃ c, x = .bl c ∧ if c = true then Q (.bl true) H1 else tb σ H1 Q
def tNotV (ta : TE) : TE := fun σ H Q => ta σ H fun x H1 => ∃ c, x = .bl c ∧ Q (.bl (!c)) H1
theorem pe_one {op} {t : TE} (h : PE X a t) : PE X (.BoolOp op [a] pos) t := fun pins s σ H Q I hw => BoolOp_one (h pins s σ H Q I hw)
theorem pe_and (ha : PE X a ta) (hb : PE X (.BoolOp .And (b :: rest) pos) tb) : PE X (.BoolOp .And (a :: b :: rest) pos) (tAndV ta tb) := by
  intro pins s σ H Q I h
  refine BoolOp_and (thn (ha pins s σ H _ I h) fun v s1 ⟨x, H1, I1, r1, q1⟩ => ?_)
  obtain ⟨c, rfl, q1⟩ := q1
  cases r1
  refine wpAny_truthy_bool ?_
  cases c with
  | true => exact hb pins s1 σ H1 Q I1 q1
  | false => exact ⟨.bl false, H1, I1, rfl, q1⟩
theorem pe_or (ha : PE X a ta) (hb : PE X (.BoolOp .Or (b :: rest) pos) tb) : PE X (.BoolOp .Or (a :: b :: rest) pos) (tOrV ta tb) := by
  intro pins s σ H Q I h
  refine BoolOp_or (thn (ha pins s σ H _ I h) fun v s1 ⟨x, H1, I1, r1, q1⟩ => ?_)
  obtain ⟨c, rfl, q1⟩ := q1
  cases r1
  refine wpAny_truthy_bool ?_
  cases c with
  | false => exact hb pins s1 σ H1 Q I1 q1
  | true => exact ⟨.bl true, H1, I1, rfl, q1⟩
theorem pe_not (ha : PE X a ta) : PE X (.UnaryOp .Not a pos) (tNotV ta) := by
  intro pins s σ H Q I h
  refine UnaryOp_ (thn (ha pins s σ H _ I h) fun v s1 ⟨x, H1, I1, r1, q1⟩ => ?_)
  obtain ⟨c, rfl, q1⟩ := q1
  cases r1
  exact not_of (wpAny_truthy_bool ⟨.bl (!c), H1, I1, rfl, q1⟩)
/-- a if t else b -/
def tIf (t : TT) (ta tb : TE) : TE := fun σ H Q => t σ H fun c H1 => if c = true then ta σ H1 Q else tb σ H1 Q
theorem pe_ifExp {c : Expr} (hc : PT X c tA) (ha : PE X a ta) (hb : PE X b tb) : PE X (.IfExp c a b pos) (tIf tA ta tb) := by
  intro pins s σ H Q I h
  refine wpAny_IfExp (thn (hc pins s σ H _ I h) fun d s1 ⟨H1, I1, q1⟩ => ?_)
  cases d with
  | true => exact ha pins s1 σ H1 Q I1 q1
  | false => exact hb pins s1 σ H1 Q I1 q1
end
end L2

namespace L2
open PySem PySem.Spec PyProof.Rows

/-! ### a list, a tuple that is read: tracked, frozen, or an object of the module -/
def SqL (K : PySem.W.Frag) (H : Hp) (a : Addr) (xs : List V) : Prop :=
  Rd H a (.lst xs) ∨
    ∃ (o : Obj) (its : Array Value) (n : Nat), K.lookup a = some o ∧ o.cls = .type "list" ∧ o.dict = none ∧ o.data = .seq its n ∧ its.size ≤ sizeLine ∧ Vals xs its.toList
def SqT (K : PySem.W.Frag) (H : Hp) (a : Addr) (xs : List V) : Prop :=
  Rd H a (.tup xs) ∨
    ∃ (o : Obj) (its : Array Value) (n : Nat), K.lookup a = some o ∧ o.cls = .type "tuple" ∧ o.data = .seq its n ∧ its.size ≤ sizeLine ∧ Vals xs its.toList
def absV : Value → Option V
  | .none => some .non
  | .bool b => some (.bl b)
  | .int i _ => some (.int i)
  | .str x _ => some (.str x)
  | .bytes b _ => some (.byt b)
  | .float b _ => some (.flt b)
  | .ref a => some (.ref a)
  | .type n => some (.ty n)
  | _ => none
theorem RelV.abs {x : V} {u : Value} (r : RelV x u) : absV u = some x := by
  cases x with
  | non => cases r; rfl
  | bl _ => cases r; rfl
  | int _ => obtain ⟨t, rfl⟩ := r; rfl
  | str _ => obtain ⟨t, rfl⟩ := r; rfl
  | byt _ => obtain ⟨t, rfl⟩ := r; rfl
  | flt _ => obtain ⟨t, rfl⟩ := r; rfl
  | ref _ => cases r; rfl
  | ty _ => cases r; rfl
theorem RelV.inj {x y : V} {u : Value} (r : RelV x u) (q : RelV y u) : x = y := Option.some.inj (r.abs.symm.trans q.abs)
theorem Vals.inj : ∀ {xs ys : List V} {us : List Value}, Vals xs us → Vals ys us → xs = ys
  | _, _, _, .nil, .nil => rfl
  | _, _, _, .cons r t, .cons r' t' => by rw [r.inj r', Vals.inj t t']
section
variable {X : Cx} {pins : List (Addr × Obj)} {σ : St} {H : Hp} {s : Shared} {a : Addr} {xs ys : List V}
theorem SqL.of {K : PySem.W.Frag} (h : H a = some (.lst xs)) : SqL K H a xs := .inl (.inl h)
theorem SqT.of {K : PySem.W.Frag} (h : H a = some (.tup xs)) : SqT K H a xs := .inl (.inl h)
theorem Inv.list (I : Inv X pins σ H s) (h : SqL X.K H a xs) : ∃ its : List Value, Vals xs its ∧ PlainL s.heap a its.toArray ∧ xs.length ≤ sizeLine := by
  rcases h with h | ⟨o, its, n, hk, hc, hd, hs, hz, r⟩
  · obtain ⟨z, its, n, r, e⟩ := h.ok I.hok
    exact ⟨its, r, ⟨_, n, e, rfl, rfl, rfl⟩, z⟩
  · refine ⟨its.toList, r, ⟨o, n, I.kIn a o hk, hc, hd, by simpa using hs⟩, ?_⟩
    have e := r.length
    simp only [Array.length_toList] at e
    omega
theorem Inv.tuple (I : Inv X pins σ H s) (h : SqT X.K H a xs) : ∃ its : List Value, Vals xs its ∧ IsTup s.heap a its.toArray ∧ xs.length ≤ sizeLine := by
  rcases h with h | ⟨o, its, n, hk, hc, hs, hz, r⟩
  · obtain ⟨z, its, r, p⟩ := h.ok I.hok
    exact ⟨its, r, p, z⟩
  · refine ⟨its.toList, r, ⟨o, I.kIn a o hk, hc, n, by simpa using hs⟩, ?_⟩
    have e := r.length
    simp only [Array.length_toList] at e
    omega
theorem Inv.list_inj (I : Inv X pins σ H s) (h : SqL X.K H a xs) (h' : SqL X.K H a ys) : xs = ys := by
  obtain ⟨its, r, ⟨o, n, e, _, _, d⟩, _⟩ := I.list h
  obtain ⟨its', r', ⟨o', n', e', _, _, d'⟩, _⟩ := I.list h'
  rw [e] at e'; cases e'
  rw [d] at d'
  injection d' with d1 _
  have : its = its' := by simpa using congrArg Array.toList d1
  subst this
  exact r.inj r'
theorem Inv.tuple_inj (I : Inv X pins σ H s) (h : SqT X.K H a xs) (h' : SqT X.K H a ys) : xs = ys := by
  obtain ⟨its, r, ⟨o, e, _, n, d⟩, _⟩ := I.tuple h
  obtain ⟨its', r', ⟨o', e', _, n', d'⟩, _⟩ := I.tuple h'
  rw [e] at e'; cases e'
  rw [d] at d'
  injection d' with d1 _
  have : its = its' := by simpa using congrArg Array.toList d1
  subst this
  exact r.inj r'
end

/-! ### another wish about exceptions -/
abbrev Cx.wish (X : Cx) (E : Value → Shared → Prop) : Cx := { X with xe := E }
/-- no exception leaves -/
abbrev Cx.nox (X : Cx) : Cx := X.wish fun _ _ => False
theorem Cx.Ok.wish {X : Cx} (ok : X.Ok) (E : Value → Shared → Prop) : (X.wish E).Ok :=
  ⟨ok.mod, ok.kind, ok.glob, ok.blt, ok.above, ok.inj, ok.has, ok.cab, ok.hd, ok.frames, ok.stk, ok.exf, ok.bs, ok.bsz, ok.noex, ok.exfs, ok.funs, ok.frf⟩
theorem Cx.Ok.unwish {X : Cx} {E : Value → Shared → Prop} (ok : (X.wish E).Ok) : X.Ok :=
  ⟨ok.mod, ok.kind, ok.glob, ok.blt, ok.above, ok.inj, ok.has, ok.cab, ok.hd, ok.frames, ok.stk, ok.exf, ok.bs, ok.bsz, ok.noex, ok.exfs, ok.funs, ok.frf⟩
section
variable {X : Cx} {pins : List (Addr × Obj)} {σ : St} {H : Hp} {s : Shared} {E : Value → Shared → Prop}
theorem Inv.wish (I : Inv X pins σ H s) (E : Value → Shared → Prop) : Inv (X.wish E) pins σ H s := ⟨I.ok.wish E, I.os, I.bare, I.base, I.loc, I.cell, I.free, I.freeC, I.pin, I.hok, I.len⟩
theorem Inv.unwish (I : Inv (X.wish E) pins σ H s) : Inv X pins σ H s := ⟨I.ok.unwish, I.os, I.bare, I.base, I.loc, I.cell, I.free, I.freeC, I.pin, I.hok, I.len⟩
theorem SP.unwish {D : Ends} {f : Flow} {s' : Shared} (h : SP (X.wish E) pins D f s') : SP X pins D f s' := by
  cases f with
  | next => obtain ⟨σ', H', I, q⟩ := h; exact ⟨σ', H', I.unwish, q⟩
  | brk => obtain ⟨σ', H', I, q⟩ := h; exact ⟨σ', H', I.unwish, q⟩
  | cont => obtain ⟨σ', H', I, q⟩ := h; exact ⟨σ', H', I.unwish, q⟩
  | ret u => obtain ⟨v, σ', H', I, r, q⟩ := h; exact ⟨v, σ', H', I.unwish, r, q⟩
theorem PE.nox {e : Expr} {t : TE} (h : PE X.nox e t) : PE X e t := fun pins s σ H Q I hw =>
  wpAny_mono (h pins s σ H Q (I.wish _) hw) (fun _ _ ⟨v, H', I', r, q⟩ => ⟨v, H', I'.unwish, r, q⟩) fun _ _ z => False.elim z
theorem PT.nox {e : Expr} {t : TT} (h : PT X.nox e t) : PT X e t := fun pins s σ H Q I hw =>
  wpAny_mono (h pins s σ H Q (I.wish _) hw) (fun _ _ ⟨H', I', q⟩ => ⟨H', I'.unwish, q⟩) fun _ _ z => False.elim z
theorem PSs.nox {st : List Stmt} {t : TS} (h : PSs X.nox st t) : PSs X st t := fun pins s σ H D I hw =>
  wpAny_mono (h pins s σ H D (I.wish _) hw) (fun _ _ q => q.unwish) fun _ _ z => False.elim z
end

/-! ### blocks and small statements -/
section
variable {X : Cx} {st : Stmt} {rest : List Stmt} {t u : TS} {e : Expr} {te : TE} {pos : Pos}
def tNext : TS := fun D σ H => D.nx σ H
def tSeq (t u : TS) : TS := fun D σ H => t { D with nx := u D } σ H
theorem pss_nil : PSs X [] tNext := fun _ _ σ H _ I h => wpAny_execs_nil ⟨σ, H, I, h⟩
theorem pss_cons (h1 : PS X st t) (h2 : PSs X rest u) : PSs X (st :: rest) (tSeq t u) := by
  intro pins s σ H D I h
  refine wpAny_execs_cons (thn (h1 pins s σ H { D with nx := u D } I h) fun f s1 q => ?_)
  cases f with
  | next =>
    obtain ⟨σ', H', I', q⟩ := q
    exact h2 pins s1 σ' H' D I' q
  | ret v => exact q
  | brk => exact q
  | cont => exact q
theorem pss_one (h1 : PS X st t) : PSs X [st] t := by
  intro pins s σ H D I h
  refine wpAny_execs_cons (thn (h1 pins s σ H D I h) fun f s1 q => ?_)
  cases f with
  | next => exact wpAny_execs_nil q
  | ret v => exact q
  | brk => exact q
  | cont => exact q
def tBreak : TS := fun D σ H => D.bk σ H
def tCont : TS := fun D σ H => D.ct σ H
theorem ps_pass : PS X (.Pass pos) tNext := fun _ _ σ H _ I h => wpAny_Pass ⟨σ, H, I, h⟩
theorem ps_break : PS X (.Break pos) tBreak := fun _ _ σ H _ I h => wpAny_Break ⟨σ, H, I, h⟩
theorem ps_continue : PS X (.Continue pos) tCont := fun _ _ σ H _ I h => wpAny_Continue ⟨σ, H, I, h⟩
/-- in a def's body nothing is shown -/
theorem Inv.quiet {pins : List (Addr × Obj)} {σ : St} {H : Hp} {s : Shared} (I : Inv X pins σ H s) : interactive X.env = false := by simp [interactive, I.ok.kind]
/-- a docstring -/
theorem ps_doc {x j pos pos'} : PS X (.Expr (.Constant (.str x) j pos) pos') tNext := fun _ s σ H _ I h => wpAny_Expr (Calls.Constant_str (show SP X _ _ .next { s with toks := s.toks + 1 } from ⟨σ, H, I.tok _, h⟩)) I.quiet
/-- an expression whose value is dropped -/
def tDrop (te : TE) : TS := fun D σ H => te σ H fun _ H1 => D.nx σ H1
theorem ps_expr (he : PE X e te) (hs : swapsWith e none pos.line X.env = pure false := by rfl) : PS X (.Expr e pos) (tDrop te) := by
  intro pins s σ H D I h
  exact wpAny_Expr_any (thn (he pins s σ H _ I h) fun v s1 ⟨x, H1, I1, r1, q1⟩ => ⟨σ, H1, I1, q1⟩) I.quiet hs
def tRet (te : TE) : TS := fun D σ H => te σ H D.rt
theorem ps_ret (he : PE X e te) : PS X (.Return (some e) pos) (tRet te) := by
  intro pins s σ H D I h
  exact wpAny_Return_some (thn (he pins s σ H _ I h) fun v s1 ⟨x, H1, I1, r1, q1⟩ => ⟨x, σ, H1, I1, r1, q1⟩)
def tRetN : TS := fun D _ H => D.rt .non H
theorem ps_retN : PS X (.Return none pos) tRetN := fun _ _ σ H _ I h => wpAny_Return_none ⟨.non, σ, H, I, rfl, h⟩
def tIfS (c : TT) (t u : TS) : TS := fun D σ H => c σ H fun b H1 => if b = true then t D σ H1 else u D σ H1
theorem ps_if {c : Expr} {a b : List Stmt} {tc : TT} (hc : PT X c tc) (ha : PSs X a t) (hb : PSs X b u) : PS X (.If c a b pos) (tIfS tc t u) := by
  intro pins s σ H D I h
  refine wpAny_If (thn (hc pins s σ H _ I h) fun d s1 ⟨H1, I1, q1⟩ => ?_)
  cases d with
  | true => exact ha pins s1 σ H1 D I1 q1
  | false => exact hb pins s1 σ H1 D I1 q1
/-- code that the proof never comes to -/
def tNever : TS := fun _ _ _ => False
theorem ps_never : PS X st tNever := fun _ _ _ _ _ _ h => h.elim
theorem pss_never {sts : List Stmt} : PSs X sts tNever := fun _ _ _ _ _ _ h => h.elim
end

/-! ### targets -/
abbrev TG := V → St → Hp → (St → Hp → Prop) → Prop
abbrev TGs := List V → St → Hp → (St → Hp → Prop) → Prop
def PG (X : Cx) (target : Expr) (t : TG) : Prop :=
  ∀ (pins : List (Addr × Obj)) (s : Shared) (σ : St) (H : Hp) (v : V) (u : Value) (Q : St → Hp → Prop), Inv X pins σ H s → RelV v u → t v σ H Q →
    wpAny (model X.prog X.w) X.A (assign target X.env u) (fun _ s' => ∃ σ' H', Inv X pins σ' H' s' ∧ Q σ' H') X.xe s
/-- several targets, one after another -/
def PGs (X : Cx) (ts : List Expr) (t : TGs) : Prop :=
  ∀ (pins : List (Addr × Obj)) (s : Shared) (σ : St) (H : Hp) (vs : List V) (us : List Value) (Q : St → Hp → Prop), Inv X pins σ H s → Vals vs us → t vs σ H Q →
    wpAny (model X.prog X.w) X.A (assignInOrder ((assignEach ts X.env).map (·.2)) us) (fun _ s' => ∃ σ' H', Inv X pins σ' H' s' ∧ Q σ' H') X.xe s
/-- o[i] = v, by values -/
abbrev TSet := V → V → V → Hp → (Hp → Prop) → Prop
def PSet (X : Cx) (t : TSet) : Prop :=
  ∀ (pins : List (Addr × Obj)) (s : Shared) (σ : St) (H : Hp) (o i v : V) (ov iv u : Value) (Q : Hp → Prop), Inv X pins σ H s → RelV o ov → RelV i iv → RelV v u → t o i v H Q →
    wpAny (model X.prog X.w) X.A (setItem ov iv u) (fun _ s' => ∃ H', Inv X pins σ H' s' ∧ Q H') X.xe s
/-- a op= b, by values -/
abbrev TIp := V → V → Hp → VK → Prop
def PIp (X : Cx) (op : Operator) (t : TIp) : Prop :=
  ∀ (pins : List (Addr × Obj)) (s : Shared) (σ : St) (H : Hp) (x y : V) (v u : Value) (Q : VK), Inv X pins σ H s → RelV x v → RelV y u → t x y H Q →
    wpAny (model X.prog X.w) X.A (inplaceOp op v u) (EP X pins σ Q) X.xe s
section
variable {X : Cx} {pos : Pos}
def gName (i : Nat) : TG := fun v σ H Q => Q (σ.set i (some v)) H
theorem pg_name {i : Nat} {x : Str} (hN : X.N.Nodup) (hi : X.N[i]? = some x) (hx : Loc X.env.scope x) (hf : X.fn x = true ∨ X.env.scope.names.lookup x = some .local := by first | exact .inl rfl | exact .inr rfl | assumption) : PG X (.Name x pos) (gName i) := by
  intro pins s σ H v u Q I r h
  exact wpAny_assign_Name (store_ok I hN hi hx r (fun s' I' => ⟨_, H, I', h⟩) hf)
def gNil : TGs := fun vs σ H Q => vs = [] ∧ Q σ H
def gCons (t : TG) (u : TGs) : TGs := fun vs σ H Q => ∃ v r, vs = v :: r ∧ t v σ H fun σ' H' => u r σ' H' Q
theorem pgs_nil : PGs X [] gNil := by
  intro pins s σ H vs us Q I r h
  obtain ⟨e, h⟩ := h
  subst e
  cases r
  exact assignInOrder_nil ⟨σ, H, I, h⟩
theorem pgs_cons {e : Expr} {es : List Expr} {t : TG} {u : TGs} (h1 : PG X e t) (h2 : PGs X es u)
    (hs : (assignEach (e :: es) X.env).map (·.2) = assign e X.env :: (assignEach es X.env).map (·.2) := by rfl) : PGs X (e :: es) (gCons t u) := by
  intro pins s σ H vs us Q I r h
  obtain ⟨v, vr, e1, h⟩ := h
  subst e1
  cases r with
  | cons r rr =>
    rw [hs]
    refine assignInOrder_cons (thn (h1 pins s σ H _ _ _ I r h) fun _ s1 ⟨σ1, H1, I1, q1⟩ => ?_)
    exact h2 pins s1 σ1 H1 _ _ Q I1 rr q1
/-- (a, b, ..) = a tuple of that length -/
def gTup (K : PySem.W.Frag) (n : Nat) (t : TGs) : TG := fun v σ H Q => ∃ a xs, v = .ref a ∧ SqT K H a xs ∧ xs.length = n ∧ t xs σ H Q
theorem pg_tup {es : List Expr} {k : Nat} {t : TGs} {n : Nat} (hc : X.calm = true) (h : PGs X es t)
    (hn : (assignEach es X.env).length = n := by rfl) (hst : (assignEach es X.env).findIdx? (·.1) = none := by rfl) : PG X (.Tuple es k pos) (gTup X.K n t) := by
  intro pins s σ H v u Q I r hw
  obtain ⟨a, xs, e1, hq, hl, hw⟩ := hw
  subst e1
  cases r
  obtain ⟨its, rv, ht, hz⟩ := I.tuple hq
  refine assign_Tuple_tuple (I.ok.hd hc) ht (by simp [hn, ← hl, rv.length]) hst fun h' hx => ?_
  have I1 : Inv X pins σ H { s with heap := h' } := I.kept (t' := s.toks) fun b o e => hx b o (Nat.ne_of_lt (Heap.lt_size e)) e
  exact h pins _ σ H xs _ Q I1 (by simpa using rv) hw
/-- o[i] = .. -/
def gSub (to ti : TE) (t : TSet) : TG := fun v σ H Q => to σ H fun o H1 => ti σ H1 fun i H2 => t o i v H2 fun H3 => Q σ H3
theorem pg_sub {o i : Expr} {to ti : TE} {t : TSet} (ho : PE X o to) (hi : PE X i ti) (hs : PSet X t)
    (ha : ∀ v, assign (.Subscript o i pos) X.env v = (do
      let ov ← holding [v] (eval o X.env)
      let iv ← holding [v, ov] (eval i X.env)
      standAt pos
      holding [v, ov, iv] (setItem ov iv v)
      release [v, ov, iv] []) := by intro _; rfl) : PG X (.Subscript o i pos) (gSub to ti t) := by
  intro pins s σ H v u Q I r h
  rw [ha]
  refine wpAny_bind (wpAny_holding (thn (ho pins s σ H _ I h) fun ov s1 ⟨x, H1, I1, r1, q1⟩ => ?_))
  refine wpAny_bind (wpAny_holding (thn (hi pins s1 σ H1 _ I1 q1) fun iv s2 ⟨y, H2, I2, r2, q2⟩ => ?_))
  refine wpAny_bind (wpAny_standAt (wpAny_bind (wpAny_holding (thn (hs pins s2 σ H2 x y v ov iv u _ I2 r1 r2 r q2) fun _ s3 ⟨H3, I3, q3⟩ => ?_))))
  exact wpAny_release ⟨σ, H3, I3, q3⟩
/-- target = value -/
def tAsg (te : TE) (g : TG) : TS := fun D σ H => te σ H fun x H1 => g x σ H1 D.nx
theorem ps_asg {tg e : Expr} {te : TE} {g : TG} (he : PE X e te) (hg : PG X tg g) (hs : swapsWithSole [tg] e pos.line X.env = pure false := by rfl) (hw : swappedStores [tg] e X.env = pure none := by rfl)
    (h1 : (assignEach [tg] X.env).map (·.2) = [assign tg X.env] := by rfl) : PS X (.Assign [tg] e pos) (tAsg te g) := by
  intro pins s σ H D I h
  refine wpAny_Assign_stores (thn (he pins s σ H _ I h) fun v s1 ⟨x, H1, I1, r1, q1⟩ => ?_) hs hw
  rw [h1]
  exact thn (hg pins s1 σ H1 x v _ I1 r1 q1) fun _ s2 q => q
/-- name = value -/
theorem ps_set {i : Nat} {x : Str} {e : Expr} {te : TE} {pos' : Pos} (hN : X.N.Nodup) (hi : X.N[i]? = some x) (hx : Loc X.env.scope x) (he : PE X e te) (hs : swapsWith e (some (.Name x pos')) pos.line X.env = pure false := by rfl) (hf : X.fn x = true ∨ X.env.scope.names.lookup x = some .local := by first | exact .inl rfl | exact .inr rfl | assumption) :
    PS X (.Assign [.Name x pos'] e pos) (tAsg te (gName i)) := by
  intro pins s σ H D I h
  refine wpAny_Assign_Name (thn (he pins s σ H _ I h) fun v s1 ⟨y, H1, I1, r1, q1⟩ => ?_) hs
  exact store_ok I1 hN hi hx r1 (fun s2 I2 => ⟨_, H1, I2, q1⟩) hf
/-- a, b = x, y with plain local names: stored from the right; the pair itself is not tracked (the opening rows as in PyProof/Rows/TupAssign.lean:23) -/
def tPar (i j : Nat) (ta : TA) : TS := fun D σ H => ta σ H fun vs H1 => ∃ v w, vs = [v, w] ∧ D.nx ((σ.set i (some v)).set j (some w)) H1
theorem ps_par {i j : Nat} {x y : Str} {a b : Expr} {ta : TA} {px py pt : Pos} {kt k2 pt2} (hc : X.calm = true) (hN : X.N.Nodup) (hi : X.N[i]? = some x) (hj : X.N[j]? = some y) (hij : i ≠ j)
    (hx : X.env.scope.names.lookup x = some .local) (hy : X.env.scope.names.lookup y = some .local) (ha : PA X [a, b] ta)
    (hw : swappedStores [.Tuple [.Name x px, .Name y py] kt pt] (.Tuple [a, b] k2 pt2) X.env = pure (some [x, y]))
    (hs : swapsWithSole [.Tuple [.Name x px, .Name y py] kt pt] (.Tuple [a, b] k2 pt2) pos.line X.env = pure false := by rfl) :
    PS X (.Assign [.Tuple [.Name x px, .Name y py] kt pt] (.Tuple [a, b] k2 pt2) pos) (tPar i j ta) := by
  intro pins s σ H D I h
  rw [exec_Assign_arm]
  refine wpAny_bind (wpAny_standAt ?_)
  rw [hs]
  refine wpAny_bind (wpAny_pure ?_)
  rw [if_neg (by decide)]
  refine wpAny_bind (Tuple_ (thn (ha _ pins s σ H _ I h) fun us s1 ⟨vs, H1, I1, r1, q1⟩ => ?_))
  obtain ⟨v, w, e1, q1⟩ := q1
  subst e1
  obtain ⟨u1, u2, rfl, rv, rw'⟩ : ∃ u1 u2, us = [u1, u2] ∧ RelV v u1 ∧ RelV w u2 := by
    cases r1 with
    | cons p q =>
      cases q with
      | cons p' q' =>
        cases q'
        exact ⟨_, _, rfl, p, p'⟩
  refine wpAny_newObj_type ?_ (by show 2 ≤ sizeLine; decide)
  have I2 : Inv X pins σ H1 { s1 with heap := s1.heap.push { cls := .type "tuple", data := .seq [u1, u2].toArray } } := I1.kept (t' := s1.toks) fun b o e => Heap.get?_push_of_some _ e
  rw [hw]
  refine wpAny_bind (wpAny_pure ?_)
  show wpAny (model X.prog X.w) X.A (do rule "assign.swapped-stores"; let items ← unpackItems (.ref s1.heap.objs.size) 2 none; assignInOrder [fun v => bindName X.env y v, fun v => bindName X.env x v] items.reverse; pure Flow.next) _ _ _
  refine wpAny_bind (wpAny_rule (wpAny_bind (unpackItems_tuple (items := #[u1, u2]) (I.ok.hd hc) (IsTup.new s1.heap _) fun h' hx' => ?_)))
  have I3 := I2.kept (h' := h') (t' := s1.toks) fun b o e => hx' b o (Nat.ne_of_lt (Heap.lt_size e)) e
  show wpAny _ _ (assignInOrder [fun v => bindName X.env y v, fun v => bindName X.env x v] [u2, u1] >>= fun _ => pure Flow.next) _ _ _
  refine wpAny_bind (assignInOrder_cons (wpAny_bindName (store_ok I3 hN hj (.inl hy) rw' (fun s2 I4 => ?_) (.inr hy))))
  refine assignInOrder_cons (wpAny_bindName (store_ok I4 hN hi (.inl hx) rv (fun s3 I5 => assignInOrder_nil (wpAny_pure ?_)) (.inr hx)))
  rw [List.set_comm _ _ (Ne.symm hij)] at I5
  exact ⟨_, H1, I5, q1⟩
/-- name op= e -/
def tAug (i : Nat) (te : TE) (ti : TIp) : TS := fun D σ H => ∃ x, σ[i]? = some (some x) ∧ te σ H fun y H1 => ti x y H1 fun z H2 => D.nx (σ.set i (some z)) H2
theorem ps_aug {i : Nat} {x : Str} {e : Expr} {te : TE} {op : Operator} {ti : TIp} {pos' : Pos} (hN : X.N.Nodup) (hi : X.N[i]? = some x) (hx : Loc X.env.scope x) (he : PE X e te) (ho : PIp X op ti) (hf : X.fn x = true ∨ X.env.scope.names.lookup x = some .local := by first | exact .inl rfl | exact .inr rfl | assumption) :
    PS X (.AugAssign (.Name x pos') op e pos) (tAug i te ti) := by
  intro pins s σ H D I h
  obtain ⟨v, e1, h⟩ := h
  obtain ⟨m, hn, hl⟩ := I.loc
  have vis : Vis X.env.scope x := by rcases hx with k | k; exact .inl k; exact .inr (.inl k)
  obtain ⟨u, r, l⟩ := hl i x v hi e1 vis
  refine wpAny_AugAssign_Name ?_
  have go : wpAny (model X.prog X.w) X.A (eval e X.env) (fun w s₂ => wpAny (model X.prog X.w) X.A (inplaceOp op u w) (fun r s₃ => wpAny (model X.prog X.w) X.A (storeName X.env x r) (fun _ => SP X pins D .next) X.xe s₃) X.xe s₂) X.xe s := by
    refine thn (he pins s σ H _ I h) fun w s1 ⟨y, H1, I1, r1, q1⟩ => ?_
    refine thn (ho pins s1 σ H1 v y u w _ I1 r r1 q1) fun z s2 ⟨zv, H2, I2, r2, q2⟩ => ?_
    exact store_ok I2 hN hi hx r2 (fun s3 I3 => ⟨_, H2, I3, q2⟩) hf
  rcases l with ⟨hk, hm⟩ | ⟨hk, c, hc, hcell⟩
  · exact wpAny_loadName_local I.ok.kind hk hn hm go
  · rcases hk with hk | hk
    · exact wpAny_loadName_cell I.ok.kind hk hc hcell go
    · rcases hx with k | k
      · have : X.env.scope.names.lookup x = some .free := hk
        rw [k] at this; cases this
      · have : X.env.scope.names.lookup x = some .free := hk
        rw [k] at this; cases this
/-- o[i] op= e -/
def tAugS (to ti te : TE) (tget : V → V → Hp → VK → Prop) (tip : TIp) (tset : TSet) : TS := fun D σ H => to σ H fun o H1 => ti σ H1 fun i H2 => tget o i H2 fun x H3 => te σ H3 fun y H4 => tip x y H4 fun z H5 => tset o i z H5 fun H6 => D.nx σ H6
/-- o[i], by values -/
def PGet (X : Cx) (t : V → V → Hp → VK → Prop) : Prop :=
  ∀ (pins : List (Addr × Obj)) (s : Shared) (σ : St) (H : Hp) (o i : V) (ov iv : Value) (Q : VK), Inv X pins σ H s → RelV o ov → RelV i iv → t o i H Q →
    wpAny (model X.prog X.w) X.A (getItem ov iv) (EP X pins σ Q) X.xe s
theorem ps_augS {o i e : Expr} {to ti te : TE} {tget : V → V → Hp → VK → Prop} {tip : TIp} {tset : TSet} {op : Operator} {tpos : Pos} (ho : PE X o to) (hi : PE X i ti) (hg : PGet X tget) (he : PE X e te) (hp : PIp X op tip) (hs : PSet X tset)
    (ha : ∀ ov iv new, augStore i ov iv new = (do holding [new, ov, iv] (setItem ov iv new); release [new, ov, iv] []; pure .next) := by intros; rfl) : PS X (.AugAssign (.Subscript o i tpos) op e pos) (tAugS to ti te tget tip tset) := by
  intro pins s σ H D I h
  refine wpAny_AugAssign_SubscriptAny (thn (ho pins s σ H _ I h) fun ov s1 ⟨x1, H1, I1, r1, q1⟩ => ?_) ha
  refine thn (hi pins s1 σ H1 _ I1 q1) fun iv s2 ⟨x2, H2, I2, r2, q2⟩ => ?_
  refine thn (hg pins s2 σ H2 x1 x2 ov iv _ I2 r1 r2 q2) fun old s3 ⟨x3, H3, I3, r3, q3⟩ => ?_
  refine thn (he pins s3 σ H3 _ I3 q3) fun v s4 ⟨x4, H4, I4, r4, q4⟩ => ?_
  refine thn (hp pins s4 σ H4 x3 x4 old v _ I4 r3 r4 q4) fun new s5 ⟨x5, H5, I5, r5, q5⟩ => ?_
  exact thn (hs pins s5 σ H5 x1 x2 x5 ov iv new _ I5 r1 r2 r5 q5) fun _ s6 ⟨H6, I6, q6⟩ => ⟨σ, H6, I6, q6⟩
/-- ints -/
def ipI (f : Int → Int → Int) : TIp := fun x y H Q => ∃ i j, x = .int i ∧ y = .int j ∧ Q (.int (f i j)) H
theorem ip_add : PIp X .Add (ipI fun i j => i + j) := by
  intro pins s σ H x y v u Q I r1 r2 h
  obtain ⟨i, j, e1, e2, q⟩ := h
  subst e1; subst e2
  obtain ⟨t, rfl⟩ := r1
  obtain ⟨t', rfl⟩ := r2
  exact iadd_int ⟨.int _, H, I.tok _, ⟨_, rfl⟩, q⟩
theorem ip_sub : PIp X .Sub (ipI fun i j => i - j) := by
  intro pins s σ H x y v u Q I r1 r2 h
  obtain ⟨i, j, e1, e2, q⟩ := h
  subst e1; subst e2
  obtain ⟨t, rfl⟩ := r1
  obtain ⟨t', rfl⟩ := r2
  exact isub_int ⟨.int _, H, I.tok _, ⟨_, rfl⟩, q⟩
end

/-! ### while -/
section
variable {X : Cx} {pos : Pos}
/-- the invariant W with its measure -/
def tWhile (c : TT) (tb : TS) : TS := fun D σ H => ∃ W : Nat → St → Hp → Prop, (∃ m, W m σ H) ∧ ∀ m σ H, W m σ H →
  c σ H fun b H1 => if b = true then ∃ N : St → Hp → Prop, (∀ σ' H', N σ' H' → ∃ m', m' < m ∧ W m' σ' H') ∧ tb { D with nx := N, ct := N, bk := D.nx } σ H1 else D.nx σ H1
theorem ps_while {c : Expr} {body : List Stmt} {tc : TT} {tb : TS} (hp : PassesOwn (model X.prog X.w) X.A X.env X.xe) (hc : PT X c tc) (hb : PSs X body tb) : PS X (.While c body [] pos) (tWhile tc tb) := by
  intro pins s σ H D I h
  obtain ⟨W, ⟨m0, w0⟩, turn⟩ := h
  refine wpAny_While (codeAny_whileLoop (fun n s' => ∃ σ' H', Inv X pins σ' H' s' ∧ W n σ' H') ?_ m0 ⟨σ, H, I, w0⟩)
  rintro n s1 ⟨σ1, H1, I1, w1⟩
  refine wpAny_passesOwn hp (thn (hc pins s1 σ1 H1 _ I1 (turn n σ1 H1 w1)) fun b s2 ⟨H2, I2, q2⟩ => ?_)
  cases b with
  | true =>
    obtain ⟨N, hN, q2⟩ := q2
    rw [if_pos rfl]
    refine wpAny_passesOwn hp (thn (hb pins s2 σ1 H2 _ I2 q2) fun f s3 q3 => ?_)
    cases f with
    | next =>
      obtain ⟨σ3, H3, I3, n3⟩ := q3
      obtain ⟨m', hm, w3⟩ := hN σ3 H3 n3
      exact ⟨m', hm, σ3, H3, I3, w3⟩
    | cont =>
      obtain ⟨σ3, H3, I3, n3⟩ := q3
      obtain ⟨m', hm, w3⟩ := hN σ3 H3 n3
      exact ⟨m', hm, σ3, H3, I3, w3⟩
    | brk => exact q3
    | ret v => exact q3
  | false =>
    rw [if_neg Bool.false_ne_true]
    exact wpAny_execs_nil ⟨σ1, H2, I2, q2⟩
end

/-! ### what a loop or a comprehension walks -/
/-- at turn i: it yields x (the heap may grow), or it stops -/
structure It where
  go : Nat → Hp → Prop
  yld : Nat → Hp → V → Hp → Prop
  stop : Nat → Hp → Prop
/-- the iterator's own objects may turn: they are not the frame's, not pinned, younger than the entry (or a comprehension's own) -/
def FpOk (X : Cx) (pins : List (Addr × Obj)) (H : Hp) (b : Addr) : Prop :=
  H b = none ∧ b ≠ X.env.locals ∧ b ∉ X.fs ∧ (b ∈ X.ex ∨ X.s₀.heap.objs.size ≤ b) ∧ (∀ x c, X.env.cells.lookup x = some c → c ≠ b) ∧ ∀ p ∈ X.pn ++ pins, p.1 ≠ b
theorem Inv.fpOk {X : Cx} {pins : List (Addr × Obj)} {σ : St} {H H' : Hp} {s : Shared} {b : Addr} (I : Inv X pins σ H s) (hb : s.heap.objs.size ≤ b) (hn : H' b = none) : FpOk X pins H' b := by
  refine ⟨hn, Nat.ne_of_gt (Nat.lt_of_lt_of_le I.lt hb), I.nofs hb, .inr (Nat.le_trans I.sz hb), fun x c e z => ?_, fun p hp z => ?_⟩
  · obtain ⟨v, q⟩ := I.cell x c e
    exact absurd (Nat.lt_of_lt_of_le q.lt (by rw [z]; exact hb)) (Nat.lt_irrefl _)
  · exact absurd (Nat.lt_of_lt_of_le (Heap.lt_size (I.pin p hp).1) (by rw [z]; exact hb)) (Nat.lt_irrefl _)
structure Turn (P : Program) (w : World) (K : PySem.W.Frag) (tg : Expr) (J : It) (fp : List Addr) (it : Addr) (tn : Nat → Heap → Prop) : Prop where
  mem : it ∈ fp
  obj : ∀ i h, tn i h → ∀ b ∈ fp, ∃ o, h.get? b = some o ∧ ∀ v, o.data ≠ .cell v
  keep : ∀ i h h', tn i h → (∀ b ∈ fp, ∀ o, h.get? b = some o → h'.get? b = some o) → tn i h'
  item : ∀ (X : Cx), X.prog = P → X.w = w → X.K = K → X.calm = true → ∀ (i : Nat) (pins : List (Addr × Obj)) (s : Shared) (σ : St) (H : Hp) (E : Value → Shared → Prop), Inv X pins σ H s → (∀ b ∈ fp, FpOk X pins H b) → tn i s.heap → J.go i H →
    wpAny (model P w) X.A (pyNext (.ref it)) (fun r s1 => ∃ u, r = some u ∧
      wpAny (model P w) X.A (letOwnedTupleGo tg (.ref it) u) (fun _ s2 => ∃ x H', Inv X pins σ H' s2 ∧ RelV x u ∧ J.yld i H x H' ∧ tn (i + 1) s2.heap ∧ ∀ b ∈ fp, H' b = none) E s1) E s
  done : ∀ (X : Cx), X.prog = P → X.w = w → X.K = K → X.calm = true → ∀ (i : Nat) (pins : List (Addr × Obj)) (s : Shared) (σ : St) (H : Hp) (E : Value → Shared → Prop), Inv X pins σ H s → (∀ b ∈ fp, FpOk X pins H b) → tn i s.heap → J.stop i H →
    wpAny (model P w) X.A (pyNext (.ref it)) (fun r s1 => r = none ∧ Inv X pins σ H s1) E s
  self : ∀ (A : Around) (i : Nat) (s : Shared) (Q : Value → Shared → Prop) (E : Value → Shared → Prop), tn i s.heap → Q (.ref it) s → wpAny (model P w) A (pyIter (.ref it)) Q E s
abbrev TI := St → Hp → (It → Hp → Prop) → Prop
/-- an iterator has come -/
def PIE (X : Cx) (pins : List (Addr × Obj)) (σ : St) (tg : Expr) (R : It → Hp → Prop) (itv : Value) (s2 : Shared) : Prop :=
  ∃ (it : Addr) (fp : List Addr) (tn : Nat → Heap → Prop) (J : It) (H' : Hp), itv = .ref it ∧ Inv X pins σ H' s2 ∧ Turn X.prog X.w X.K tg J fp it tn ∧ tn 0 s2.heap ∧ (∀ b ∈ fp, FpOk X pins H' b) ∧ R J H'
def PI (X : Cx) (tg iter : Expr) (wi : TI) : Prop :=
  ∀ (pins : List (Addr × Obj)) (s : Shared) (σ : St) (H : Hp) (R : It → Hp → Prop), Inv X pins σ H s → wi σ H R →
    wpAny (model X.prog X.w) X.A (eval iter X.env) (fun v s1 => wpAny (model X.prog X.w) X.A (pyIter v) (PIE X pins σ tg R) X.xe s1) X.xe s

/-- the step ahead of the store is nothing for an iterator that keeps no tuple -/
theorem go_of {M : Model} {A : Around} {E : Value → Shared → Prop} {s : Shared} {tg : Expr} {it : Addr} {u : Value} {o : Obj} {n : String} {vs : Array Value} {Q : Unit → Shared → Prop} (ho : s.heap.get? it = some o) (hc : o.cls = .type n) (hd : o.data = .fields vs)
    (hn : ["enumerate", "zip", "dict_itemiterator", "dict_reverseitemiterator", "odict_iterator", "itertools.zip_longest", "itertools.pairwise"].contains n = false) (hQ : Q () s) : wpAny M A (letOwnedTupleGo tg (.ref it) u) Q E s := by
  unfold letOwnedTupleGo
  cases tg <;> first
    | exact wpAny_pure hQ
    | (cases u <;> first
        | exact wpAny_pure hQ
        | (refine wpAny_bind (wpAny_load ho ?_)
           rw [hc, hd]
           show wpAny M A (if (["enumerate", "zip", "dict_itemiterator", "dict_reverseitemiterator", "odict_iterator", "itertools.zip_longest", "itertools.pairwise"].contains n && vs[0]? == some (rawInt _)) = true then _ else _) Q E s
           rw [if_neg (by intro h; rw [hn, Bool.false_and] at h; cases h)]
           exact wpAny_pure hQ))

/-- the list at a, as it stands at each turn (a loop may append to it) -/
def Itl (K : PySem.W.Frag) (a : Addr) : It :=
  ⟨fun i H => ∃ xs x, SqL K H a xs ∧ xs[i]? = some x, fun i H x H' => H' = H ∧ ∀ xs, SqL K H a xs → xs[i]? = some x, fun i H => ∃ xs, SqL K H a xs ∧ xs.length ≤ i⟩
def Itt (K : PySem.W.Frag) (a : Addr) : It :=
  ⟨fun i H => ∃ xs x, SqT K H a xs ∧ xs[i]? = some x, fun i H x H' => H' = H ∧ ∀ xs, SqT K H a xs → xs[i]? = some x, fun i H => ∃ xs, SqT K H a xs ∧ xs.length ≤ i⟩
/-- lo, lo + 1, .. (n of them) -/
def Itr (lo : Int) (n : Nat) : It := ⟨fun i _ => i < n, fun i H x H' => H' = H ∧ x = .int (lo + i), fun i _ => n ≤ i⟩
theorem turn_list {P : Program} {w : World} {K : PySem.W.Frag} {tg : Expr} (a it : Addr) : Turn P w K tg (Itl K a) [it] it (fun i h => h.IsListIter it a i) where
  mem := by simp
  obj := fun i h st b hb => by
    have e : b = it := by simpa using hb
    subst e
    obtain ⟨o, e, c, d⟩ := st
    exact ⟨o, e, fun v z => by rw [d] at z; cases z⟩
  keep := fun i h h' st k => st.at fun o e => k it (by simp) o e
  item := by
    intro X hP hw hK hc i pins s σ H E I hf st hg
    subst hP hw hK
    obtain ⟨xs, x, hq, hx⟩ := hg
    obtain ⟨its, rv, p, hz⟩ := I.list hq
    obtain ⟨u, hu, ru⟩ := rv.get hx
    obtain ⟨f0, f1, f2, f3, f4, f5⟩ := hf it (by simp)
    refine wpAny_pyNext_list_item st p.isList (x := u) (by simpa using hu) fun h' st' sb => ?_
    have I1 : Inv X pins σ H { s with heap := h' } := I.turned (t' := s.toks) (fun b o hb e => (sb.2 b hb).trans e) f0 f1 f3 f4 f5
    obtain ⟨o, e, c, d⟩ := id st'
    exact ⟨u, rfl, go_of (s := { s with heap := h' }) e c d (by decide) ⟨x, H, I1, ru, ⟨rfl, fun ys hy => by rw [I.list_inj hy hq]; exact hx⟩, st', fun b hb => (hf b hb).1⟩⟩
  done := by
    intro X hP hw hK hc i pins s σ H E I hf st hg
    subst hP hw hK
    obtain ⟨xs, hq, hx⟩ := hg
    obtain ⟨its, rv, p, hz⟩ := I.list hq
    obtain ⟨f0, f1, f2, f3, f4, f5⟩ := hf it (by simp)
    have hl := rv.length
    exact wpAny_pyNext_list_end (I.ok.hd hc) st p.isList (by simp; omega) fun h' eb => ⟨rfl, I.turned (t' := s.toks) (fun b o hb e => eb b o hb e) f0 f1 f3 f4 f5⟩
  self := fun _ _ _ _ _ st h => wpAny_pyIter_listiter st h
theorem turn_tuple {P : Program} {w : World} {K : PySem.W.Frag} {tg : Expr} (a it : Addr) : Turn P w K tg (Itt K a) [it] it (fun i h => h.IsTupleIter it a i) where
  mem := by simp
  obj := fun i h st b hb => by
    have e : b = it := by simpa using hb
    subst e
    obtain ⟨o, e, c, d⟩ := st
    exact ⟨o, e, fun v z => by rw [d] at z; cases z⟩
  keep := fun i h h' st k => st.at fun o e => k it (by simp) o e
  item := by
    intro X hP hw hK hc i pins s σ H E I hf st hg
    subst hP hw hK
    obtain ⟨xs, x, hq, hx⟩ := hg
    obtain ⟨its, rv, p, hz⟩ := I.tuple hq
    obtain ⟨u, hu, ru⟩ := rv.get hx
    obtain ⟨f0, f1, f2, f3, f4, f5⟩ := hf it (by simp)
    refine wpAny_pyNext_tuple_item st (show s.heap.IsTuple a its.toArray from p) (x := u) (by simpa using hu) fun h' st' sb => ?_
    have I1 : Inv X pins σ H { s with heap := h' } := I.turned (t' := s.toks) (fun b o hb e => (sb.2 b hb).trans e) f0 f1 f3 f4 f5
    obtain ⟨o, e, c, d⟩ := id st'
    exact ⟨u, rfl, go_of (s := { s with heap := h' }) e c d (by decide) ⟨x, H, I1, ru, ⟨rfl, fun ys hy => by rw [I.tuple_inj hy hq]; exact hx⟩, st', fun b hb => (hf b hb).1⟩⟩
  done := by
    intro X hP hw hK hc i pins s σ H E I hf st hg
    subst hP hw hK
    obtain ⟨xs, hq, hx⟩ := hg
    obtain ⟨its, rv, p, hz⟩ := I.tuple hq
    obtain ⟨f0, f1, f2, f3, f4, f5⟩ := hf it (by simp)
    have hl := rv.length
    exact wpAny_pyNext_tuple_end (I.ok.hd hc) st (show s.heap.IsTuple a its.toArray from p) (by simp; omega) fun h' eb => ⟨rfl, I.turned (t' := s.toks) (fun b o hb e => eb b o hb e) f0 f1 f3 f4 f5⟩
  self := fun _ _ _ _ _ st h => wpAny_pyIter_tupleiter st h
theorem turn_range {P : Program} {w : World} {K : PySem.W.Frag} {tg : Expr} (it : Addr) (lo : Int) (n : Nat) : Turn P w K tg (Itr lo n) [it] it (fun i h => IsRangeIter h it (lo + (i : Nat) * 1) ((n : Int) - (i : Nat)) 1) where
  mem := by simp
  obj := fun i h st b hb => by
    have e : b = it := by simpa using hb
    subst e
    exact ⟨_, st, fun v z => by
      have z' : Data.fields _ = Data.cell v := z
      cases z'⟩
  keep := fun i h h' st k => k it (by simp) _ st
  item := by
    intro X hP hw hK hc i pins s σ H E I hf st hg
    subst hP hw hK
    obtain ⟨f0, f1, f2, f3, f4, f5⟩ := hf it (by simp)
    have W := Walks.range (prog := X.prog) (w := X.w) (I.ok.hd hc) it lo 1 n
    refine W.item i s _ _ hg st fun v h' tk hv st' kk => ?_
    obtain ⟨t, rfl⟩ := hv
    have I1 : Inv X pins σ H { s with heap := h', toks := tk } := I.turned (fun b o hb e => kk b o (by simpa using hb) e) f0 f1 f3 f4 f5
    refine ⟨_, rfl, go_of (s := { s with heap := h', toks := tk }) (n := "range_iterator") st' rfl rfl (by decide) ⟨.int (lo + i), H, I1, ⟨t, ?_⟩, ⟨rfl, rfl⟩, st', fun b hb => (hf b hb).1⟩⟩
    rw [Int.mul_one]
  done := by
    intro X hP hw hK hc i pins s σ H E I hf st hg
    subst hP hw hK
    obtain ⟨f0, f1, f2, f3, f4, f5⟩ := hf it (by simp)
    exact wpAny_pyNext_range_end (I.ok.hd hc) st (by have : n ≤ i := hg; omega) fun h' eb => ⟨rfl, I.turned (t' := s.toks) (fun b o hb e => eb b o hb e) f0 f1 f3 f4 f5⟩
  self := fun _ _ _ _ _ st h => wpAny_pyIter_rangeiter st h
end L2

namespace L2
open PySem PySem.Spec PyProof.Rows
section
variable {X : Cx} {tg : Expr}
def iList (K : PySem.W.Frag) (tl : TE) : TI := fun σ H R => tl σ H fun x H1 => ∃ a, x = .ref a ∧ (∃ xs, SqL K H1 a xs) ∧ R (Itl K a) H1
def iTup (K : PySem.W.Frag) (tl : TE) : TI := fun σ H R => tl σ H fun x H1 => ∃ a, x = .ref a ∧ (∃ xs, SqT K H1 a xs) ∧ R (Itt K a) H1
theorem pi_list {l : Expr} {tl : TE} (hl : PE X l tl) : PI X tg l (iList X.K tl) := by
  intro pins s σ H R I h
  refine thn (hl pins s σ H _ I h) fun v s1 ⟨x, H1, I1, r1, q1⟩ => ?_
  obtain ⟨a, e, ⟨xs, hq⟩, q⟩ := q1
  subst e
  cases r1
  obtain ⟨its, rv, p, hz⟩ := I1.list hq
  refine wpAny_pyIter_list p.isList ?_
  refine ⟨s1.heap.objs.size, [s1.heap.objs.size], _, _, H1, rfl, I1.kept (t' := s1.toks) fun b o e => Heap.get?_push_of_some _ e, turn_list a _, ⟨_, Heap.get?_push_size _ rfl, rfl, rfl⟩, fun b hb => ?_, q⟩
  have e : b = s1.heap.objs.size := by simpa using hb
  subst e
  exact I1.fpOk (Nat.le_refl _) (I1.hok.fresh (Nat.le_refl _))
theorem pi_tup {l : Expr} {tl : TE} (hl : PE X l tl) : PI X tg l (iTup X.K tl) := by
  intro pins s σ H R I h
  refine thn (hl pins s σ H _ I h) fun v s1 ⟨x, H1, I1, r1, q1⟩ => ?_
  obtain ⟨a, e, ⟨xs, hq⟩, q⟩ := q1
  subst e
  cases r1
  obtain ⟨its, rv, p, hz⟩ := I1.tuple hq
  refine wpAny_pyIter_tuple (show s1.heap.IsTuple a its.toArray from p) ?_
  refine ⟨s1.heap.objs.size, [s1.heap.objs.size], _, _, H1, rfl, I1.kept (t' := s1.toks) fun b o e => Heap.get?_push_of_some _ e, turn_tuple a _, ⟨_, Heap.get?_push_size _ rfl, rfl, rfl⟩, fun b hb => ?_, q⟩
  have e : b = s1.heap.objs.size := by simpa using hb
  subst e
  exact I1.fpOk (Nat.le_refl _) (I1.hok.fresh (Nat.le_refl _))
/-- a range object just made, walked -/
theorem range_it {pins : List (Addr × Obj)} {σ : St} {H : Hp} {s : Shared} {R : It → Hp → Prop} {E : Value → Shared → Prop} {lo hi : Int} {t u v : Tok} {tk : Nat} (I : Inv X pins σ H s) (h1 : -(2 ^ 62) ≤ lo) (h2 : lo < 2 ^ 62) (h3 : -(2 ^ 62) ≤ hi) (h4 : hi < 2 ^ 62)
    (q : R (Itr lo (hi - lo).toNat) H) : wpAny (model X.prog X.w) X.A (pyIter (.ref s.heap.objs.size)) (PIE X pins σ tg R) E { s with heap := s.heap.push { cls := .type "range", data := .fields #[.int lo t, .int hi u, .int 1 v] }, toks := tk } := by
  refine wpAny_pyIter_range (IsRange.new ..) (small_one h1 h2 h3 h4) ?_
  have I1 : Inv X pins σ H { s with heap := s.heap.push { cls := .type "range", data := .fields #[.int lo t, .int hi u, .int 1 v] }, toks := tk } := I.kept fun b o e => Heap.get?_push_of_some _ e
  refine ⟨(s.heap.push { cls := .type "range", data := .fields #[.int lo t, .int hi u, .int 1 v] }).objs.size, [(s.heap.push { cls := .type "range", data := .fields #[.int lo t, .int hi u, .int 1 v] }).objs.size], _, _, H, rfl,
    I1.kept (t' := tk) fun b o e => Heap.get?_push_of_some _ e, turn_range _ lo (hi - lo).toNat, ?_, fun b hb => ?_, q⟩
  · have e1 : lo + ((0 : Nat) : Int) * 1 = lo := by simp
    have e2 : (((hi - lo).toNat : Nat) : Int) - ((0 : Nat) : Int) = Builtin.Range.rangeSize lo hi 1 := by rw [rangeSize_one]; split <;> omega
    show IsRangeIter _ _ (lo + ((0 : Nat) : Int) * 1) ((((hi - lo).toNat : Nat) : Int) - ((0 : Nat) : Int)) 1
    rw [e1, e2]
    exact Heap.get?_push_size _ rfl
  · have e : b = (s.heap.push { cls := .type "range", data := .fields #[.int lo t, .int hi u, .int 1 v] }).objs.size := by simpa using hb
    subst e
    exact I1.fpOk (Nat.le_refl _) (I1.hok.fresh (Nat.le_refl _))
def iRng1 (ta : TA) : TI := fun σ H R => ta σ H fun vs H1 => ∃ j : Int, vs = [.int j] ∧ -(2 ^ 62) ≤ j ∧ j < 2 ^ 62 ∧ R (Itr 0 j.toNat) H1
def iRng2 (ta : TA) : TI := fun σ H R => ta σ H fun vs H1 => ∃ i j : Int, vs = [.int i, .int j] ∧ (-(2 ^ 62) ≤ i ∧ i < 2 ^ 62 ∧ -(2 ^ 62) ≤ j ∧ j < 2 ^ 62) ∧ R (Itr i (j - i).toNat) H1
theorem pi_range1 {a : Expr} {ta : TA} {p pos : Pos} (hg : Gl X "range") (hm : X.mg "range" = none) (ha : PA X [a] ta) (hs : starEach [a] X.env = [(false, eval a X.env)] := by rfl) : PI X tg (.Call (.Name "range" p) [a] [] pos) (iRng1 ta) := by
  intro pins s σ H R I h
  refine Call_ (ld_blt I hg hm boot_range (PyProof.Rows.callWith_type1 (thn (ha pos pins s σ H _ I h) fun us s1 ⟨vs, H1, I1, r1, q1⟩ => ?_) hs rfl))
  obtain ⟨j, e, q1, q2, q⟩ := q1
  subst e
  cases r1 with
  | cons r rr =>
    cases rr
    obtain ⟨t, rfl⟩ := r
    exact call_range_1 (range_it I1 (by omega) (by omega) q1 q2 (by simpa using q))
theorem pi_range2 {a b : Expr} {ta : TA} {p pos : Pos} (hg : Gl X "range") (hm : X.mg "range" = none) (ha : PA X [a, b] ta) (hs : starEach [a, b] X.env = [(false, eval a X.env), (false, eval b X.env)] := by rfl) (hs2 : starEach [b] X.env = [(false, eval b X.env)] := by rfl) :
    PI X tg (.Call (.Name "range" p) [a, b] [] pos) (iRng2 ta) := by
  intro pins s σ H R I h
  refine Call_ (ld_blt I hg hm boot_range (PyProof.Rows.callWith_type1 (thn (ha pos pins s σ H _ I h) fun us s1 ⟨vs, H1, I1, r1, q1⟩ => ?_) (by rw [hs, hs2]) (by rw [hs2]; rfl)))
  obtain ⟨i, j, e, ⟨q1, q2, q3, q4⟩, q⟩ := q1
  subst e
  cases r1 with
  | cons r rr =>
    cases rr with
    | cons r' rr =>
      cases rr
      obtain ⟨t, rfl⟩ := r
      obtain ⟨t', rfl⟩ := r'
      exact call_range_2 (range_it I1 q1 q2 q3 q4 q)

/-! ### for -/
/-- W: the invariant by the turn and a measure; N: what the body is to reach -/
def tFor (wi : TI) (g : TG) (tb : TS) : TS := fun D σ H => wi σ H fun J H1 => ∃ W : Nat → Nat → St → Hp → Prop, (∃ m, W 0 m σ H1) ∧ ∀ i m σ H, W i m σ H →
  (J.stop i H ∧ D.nx σ H) ∨ (J.go i H ∧ ∃ N : St → Hp → Prop, (∀ σ' H', N σ' H' → ∃ m', m' < m ∧ W (i + 1) m' σ' H') ∧ ∀ x H', J.yld i H x H' → g x σ H' fun σ2 H2 => tb { D with nx := N, ct := N, bk := D.nx } σ2 H2)
/-- the records at fp as they stand -/
def pinsAt (fp : List Addr) (h : Heap) : List (Addr × Obj) := fp.filterMap fun b => (h.get? b).map fun o => (b, o)
theorem mem_pinsAt {fp : List Addr} {h : Heap} {b : Addr} {o : Obj} (hb : b ∈ fp) (e : h.get? b = some o) : (b, o) ∈ pinsAt fp h := List.mem_filterMap.mpr ⟨b, hb, by rw [e]; rfl⟩
theorem of_pinsAt {fp : List Addr} {h : Heap} {p : Addr × Obj} (hp : p ∈ pinsAt fp h) : p.1 ∈ fp ∧ h.get? p.1 = some p.2 := by
  obtain ⟨b, hb, e⟩ := List.mem_filterMap.mp hp
  cases q : h.get? b with
  | none => rw [q] at e; cases e
  | some o =>
    rw [q] at e
    have e' : (b, o) = p := Option.some.inj e
    subst e'
    exact ⟨hb, q⟩
theorem Inv.pinned {pins : List (Addr × Obj)} {σ : St} {H : Hp} {s : Shared} {fp : List Addr} (I : Inv X pins σ H s) (hf : ∀ b ∈ fp, FpOk X pins H b) (ho : ∀ b ∈ fp, ∃ o, s.heap.get? b = some o ∧ ∀ v, o.data ≠ .cell v) : Inv X (pins ++ pinsAt fp s.heap) σ H s :=
  I.pins_of fun p hp => (List.mem_append.mp hp).elim (fun z => I.pin p (List.mem_append_right _ z)) fun z => by
    obtain ⟨hb, e⟩ := of_pinsAt z
    obtain ⟨f0, f1, f2, _⟩ := hf p.1 hb
    obtain ⟨o, e', d⟩ := ho p.1 hb
    rw [e] at e'; cases e'
    exact ⟨e, f0, f1, f2, d⟩
theorem Inv.unpinned {pins pl : List (Addr × Obj)} {σ : St} {H : Hp} {s : Shared} (I : Inv X (pins ++ pl) σ H s) : Inv X pins σ H s := I.pins_of fun p hp => I.pin p (List.mem_append_right _ (List.mem_append_left _ hp))
theorem ps_for {iter : Expr} {body : List Stmt} {wi : TI} {g : TG} {tb : TS} {pos : Pos} (hp : PassesOwn (model X.prog X.w) X.A X.env X.xe) (hc : X.calm = true) (hi : PI X tg iter wi) (hg : PG X tg g) (hb : PSs X body tb)
    (hs : ∀ x, foldedSetIterable iter X.env x = pure x := by intro _; rfl) : PS X (.For tg iter body [] pos) (tFor wi g tb) := by
  intro pins s σ H D I h
  refine wpAny_For (thn (hi pins s σ H _ I h) fun v s1 h1 => thn h1 fun itv s2 h2 => ?_) hs
  obtain ⟨it, fp, tn, J, H2, e, I2, T, st2, f2, W, ⟨m0, w0⟩, turn⟩ := h2
  subst e
  -- what stays true of the iterator's objects through the loop
  have stat : ∀ {H' : Hp}, (∀ b ∈ fp, H' b = none) → ∀ b ∈ fp, FpOk X pins H' b := fun hn b hb => ⟨hn b hb, (f2 b hb).2⟩
  refine codeAny_forLoop_any (fun n s' => ∃ i σ' H', Inv X pins σ' H' s' ∧ tn i s'.heap ∧ (∀ b ∈ fp, H' b = none) ∧ W i n σ' H') ?_ m0 ⟨0, σ, H2, I2, st2, fun b hb => (f2 b hb).1, w0⟩
  rintro n s3 ⟨i, σ3, H3, I3, st3, fr3, w3⟩
  rcases turn i n σ3 H3 w3 with ⟨stop, qn⟩ | ⟨go, N, hN, step⟩
  · refine wpAny_passesOwn hp (thn (T.done X rfl rfl rfl hc i pins s3 σ3 H3 X.xe I3 (stat fr3) st3 stop) fun r s4 ⟨hr, I4⟩ => ?_)
    subst hr
    exact wpAny_execs_nil ⟨σ3, H3, I4, qn⟩
  · refine wpAny_passesOwn hp (thn (T.item X rfl rfl rfl hc i pins s3 σ3 H3 X.xe I3 (stat fr3) st3 go) fun r s4 ⟨u, hr, h4⟩ => ?_)
    subst hr
    refine wpAny_passesOwn hp (thn h4 fun _ s5 ⟨x, H5, I5, r5, y5, st5, fr5⟩ => ?_)
    have I5' := I5.pinned (stat fr5) (T.obj _ _ st5)
    refine wpAny_passesOwn hp (thn (hg _ s5 σ3 H5 x u _ I5' r5 (step x H5 y5)) fun _ s6 ⟨σ6, H6, I6, q6⟩ => ?_)
    refine wpAny_passesOwn hp (thn (hb _ s6 σ6 H6 _ I6 q6) fun f s7 q7 => ?_)
    have again : ∀ {σ7 : St} {H7 : Hp}, Inv X (pins ++ pinsAt fp s5.heap) σ7 H7 s7 → N σ7 H7 → ∃ m, m < n ∧ ∃ i σ' H', Inv X pins σ' H' s7 ∧ tn i s7.heap ∧ (∀ b ∈ fp, H' b = none) ∧ W i m σ' H' := fun {σ7 H7} I7 n7 => by
      obtain ⟨m', hm, w7⟩ := hN σ7 H7 n7
      refine ⟨m', hm, i + 1, σ7, H7, I7.unpinned, T.keep _ _ _ st5 fun b hb o e => (I7.pin (b, o) (List.mem_append_right _ (List.mem_append_right _ (mem_pinsAt hb e)))).1, fun b hb => ?_, w7⟩
      obtain ⟨o, e, d⟩ := T.obj _ _ st5 b hb
      exact (I7.pin (b, o) (List.mem_append_right _ (List.mem_append_right _ (mem_pinsAt hb e)))).2.1
    cases f with
    | next => obtain ⟨σ7, H7, I7, n7⟩ := q7; exact again I7 n7
    | cont => obtain ⟨σ7, H7, I7, n7⟩ := q7; exact again I7 n7
    | brk => obtain ⟨σ7, H7, I7, q7⟩ := q7; exact ⟨σ7, H7, I7.unpinned, q7⟩
    | ret v => obtain ⟨x7, σ7, H7, I7, r7, q7⟩ := q7; exact ⟨x7, σ7, H7, I7.unpinned, r7, q7⟩
end

/-! ### the forms one uses -/
/-- over a list that the body leaves as it is -/
theorem for_list {K : PySem.W.Frag} {a : Addr} {xs : List V} {g : TG} {tb : TS} {D : Ends} {σ : St} {H : Hp} (Pv : Nat → St → Hp → Prop) (h0 : Pv 0 σ H) (hl : ∀ i σ H, i ≤ xs.length → Pv i σ H → SqL K H a xs)
    (hs : ∀ i x σ H, xs[i]? = some x → Pv i σ H → g x σ H fun σ2 H2 => tb { D with nx := Pv (i + 1), ct := Pv (i + 1), bk := D.nx } σ2 H2) (hd : ∀ σ H, Pv xs.length σ H → D.nx σ H) :
    ∃ W : Nat → Nat → St → Hp → Prop, (∃ m, W 0 m σ H) ∧ ∀ i m σ H, W i m σ H →
      ((Itl K a).stop i H ∧ D.nx σ H) ∨ ((Itl K a).go i H ∧ ∃ N : St → Hp → Prop, (∀ σ' H', N σ' H' → ∃ m', m' < m ∧ W (i + 1) m' σ' H') ∧ ∀ x H', (Itl K a).yld i H x H' → g x σ H' fun σ2 H2 => tb { D with nx := N, ct := N, bk := D.nx } σ2 H2) := by
  refine ⟨fun i m σ H => m = xs.length - i ∧ i ≤ xs.length ∧ Pv i σ H, ⟨xs.length, by simp, Nat.zero_le _, h0⟩, ?_⟩
  rintro i m σ H ⟨rfl, hi, p⟩
  have q := hl i σ H hi p
  by_cases hlt : i < xs.length
  · refine .inr ⟨⟨xs, xs[i], q, by simp [hlt]⟩, Pv (i + 1), fun σ' H' p' => ⟨xs.length - (i + 1), by omega, rfl, hlt, p'⟩, fun x H' y => ?_⟩
    obtain ⟨e, y⟩ := y
    subst e
    exact hs i x σ _ (y xs q) p
  · have e : i = xs.length := by omega
    subst e
    exact .inl ⟨⟨xs, q, Nat.le_refl _⟩, hd σ H p⟩
theorem for_tup {K : PySem.W.Frag} {a : Addr} {xs : List V} {g : TG} {tb : TS} {D : Ends} {σ : St} {H : Hp} (Pv : Nat → St → Hp → Prop) (h0 : Pv 0 σ H) (hl : ∀ i σ H, i ≤ xs.length → Pv i σ H → SqT K H a xs)
    (hs : ∀ i x σ H, xs[i]? = some x → Pv i σ H → g x σ H fun σ2 H2 => tb { D with nx := Pv (i + 1), ct := Pv (i + 1), bk := D.nx } σ2 H2) (hd : ∀ σ H, Pv xs.length σ H → D.nx σ H) :
    ∃ W : Nat → Nat → St → Hp → Prop, (∃ m, W 0 m σ H) ∧ ∀ i m σ H, W i m σ H →
      ((Itt K a).stop i H ∧ D.nx σ H) ∨ ((Itt K a).go i H ∧ ∃ N : St → Hp → Prop, (∀ σ' H', N σ' H' → ∃ m', m' < m ∧ W (i + 1) m' σ' H') ∧ ∀ x H', (Itt K a).yld i H x H' → g x σ H' fun σ2 H2 => tb { D with nx := N, ct := N, bk := D.nx } σ2 H2) := by
  refine ⟨fun i m σ H => m = xs.length - i ∧ i ≤ xs.length ∧ Pv i σ H, ⟨xs.length, by simp, Nat.zero_le _, h0⟩, ?_⟩
  rintro i m σ H ⟨rfl, hi, p⟩
  have q := hl i σ H hi p
  by_cases hlt : i < xs.length
  · refine .inr ⟨⟨xs, xs[i], q, by simp [hlt]⟩, Pv (i + 1), fun σ' H' p' => ⟨xs.length - (i + 1), by omega, rfl, hlt, p'⟩, fun x H' y => ?_⟩
    obtain ⟨e, y⟩ := y
    subst e
    exact hs i x σ _ (y xs q) p
  · have e : i = xs.length := by omega
    subst e
    exact .inl ⟨⟨xs, q, Nat.le_refl _⟩, hd σ H p⟩
theorem for_range {lo : Int} {n : Nat} {g : TG} {tb : TS} {D : Ends} {σ : St} {H : Hp} (Pv : Nat → St → Hp → Prop) (h0 : Pv 0 σ H)
    (hs : ∀ i σ H, i < n → Pv i σ H → g (.int (lo + i)) σ H fun σ2 H2 => tb { D with nx := Pv (i + 1), ct := Pv (i + 1), bk := D.nx } σ2 H2) (hd : ∀ σ H, Pv n σ H → D.nx σ H) :
    ∃ W : Nat → Nat → St → Hp → Prop, (∃ m, W 0 m σ H) ∧ ∀ i m σ H, W i m σ H →
      ((Itr lo n).stop i H ∧ D.nx σ H) ∨ ((Itr lo n).go i H ∧ ∃ N : St → Hp → Prop, (∀ σ' H', N σ' H' → ∃ m', m' < m ∧ W (i + 1) m' σ' H') ∧ ∀ x H', (Itr lo n).yld i H x H' → g x σ H' fun σ2 H2 => tb { D with nx := N, ct := N, bk := D.nx } σ2 H2) := by
  refine ⟨fun i m σ H => m = n - i ∧ i ≤ n ∧ Pv i σ H, ⟨n, by simp, Nat.zero_le _, h0⟩, ?_⟩
  rintro i m σ H ⟨rfl, hi, p⟩
  by_cases hlt : i < n
  · refine .inr ⟨hlt, Pv (i + 1), fun σ' H' p' => ⟨n - (i + 1), by omega, rfl, hlt, p'⟩, fun x H' y => ?_⟩
    obtain ⟨e, y⟩ := y
    subst e y
    exact hs i σ _ hlt p
  · have e : i = n := by omega
    subst e
    exact .inl ⟨Nat.le_refl _, hd σ H p⟩
/-- while, by a word and a measure of the state -/
theorem while_by {c : TT} {tb : TS} {D : Ends} {σ : St} {H : Hp} (Pv : St → Hp → Prop) (μ : St → Hp → Nat) (h0 : Pv σ H)
    (hs : ∀ σ H, Pv σ H → c σ H fun b H1 => if b = true then tb { D with nx := fun σ' H' => Pv σ' H' ∧ μ σ' H' < μ σ H, ct := fun σ' H' => Pv σ' H' ∧ μ σ' H' < μ σ H, bk := D.nx } σ H1 else D.nx σ H1)
    (mono : ∀ σ H Q Q', (∀ b H1, Q b H1 → Q' b H1) → c σ H Q → c σ H Q') : tWhile c tb D σ H := by
  refine ⟨fun m σ H => m = μ σ H ∧ Pv σ H, ⟨_, rfl, h0⟩, ?_⟩
  rintro m σ H ⟨rfl, p⟩
  refine mono σ H _ _ (fun b H1 q => ?_) (hs σ H p)
  cases b with
  | true => exact ⟨_, fun σ' H' ⟨p', l⟩ => ⟨_, l, rfl, p'⟩, q⟩
  | false => exact q
end L2

namespace L2
open PySem PySem.Spec PyProof.Rows

abbrev R2 := V → V → Hp → VK → Prop
/-- a two-place operation on values: f is binaryOp op, inplaceOp op or compareOp op -/
def OpR (X : Cx) (f : Value → Value → Sem Value) (r : R2) : Prop :=
  ∀ (pins : List (Addr × Obj)) (s : Shared) (σ : St) (H : Hp) (x y : V) (v u : Value) (Q : VK), Inv X pins σ H s → RelV x v → RelV y u → r x y H Q →
    wpAny (model X.prog X.w) X.A (f v u) (EP X pins σ Q) X.xe s
/-- a one-place operation -/
def UnR (X : Cx) (f : Value → Sem Value) (r : V → Hp → VK → Prop) : Prop :=
  ∀ (pins : List (Addr × Obj)) (s : Shared) (σ : St) (H : Hp) (x : V) (v : Value) (Q : VK), Inv X pins σ H s → RelV x v → r x H Q →
    wpAny (model X.prog X.w) X.A (f v) (EP X pins σ Q) X.xe s
/-- a call of a value that is known (a builtin, a type) with values -/
def CallR (X : Cx) (f : Value) (r : List V → Hp → VK → Prop) : Prop :=
  ∀ (pins : List (Addr × Obj)) (s : Shared) (σ : St) (H : Hp) (xs : List V) (us : List Value) (Q : VK), Inv X pins σ H s → Vals xs us → r xs H Q →
    wpAny (model X.prog X.w) X.A (call f us) (EP X pins σ Q) X.xe s
/-- a value's truth -/
def TruR (X : Cx) (r : V → Hp → (Bool → Hp → Prop) → Prop) : Prop :=
  ∀ (pins : List (Addr × Obj)) (s : Shared) (σ : St) (H : Hp) (x : V) (v : Value) (Q : Bool → Hp → Prop), Inv X pins σ H s → RelV x v → r x H Q →
    wpAny (model X.prog X.w) X.A (truthy v) (TP X pins σ Q) X.xe s

def tOp (r : R2) (ta tb : TE) : TE := fun σ H Q => ta σ H fun x H1 => tb σ H1 fun y H2 => r x y H2 Q
def tUn (r : V → Hp → VK → Prop) (ta : TE) : TE := fun σ H Q => ta σ H fun x H1 => r x H1 Q
/-- ints in, under C, and a value out -/
def rI (C : Int → Int → Prop) (g : Int → Int → V) : R2 := fun x y H Q => ∃ i j, x = .int i ∧ y = .int j ∧ C i j ∧ Q (g i j) H
def rI0 (g : Int → Int → V) : R2 := fun x y H Q => ∃ i j, x = .int i ∧ y = .int j ∧ Q (g i j) H
def rU (g : Int → V) : V → Hp → VK → Prop := fun x H Q => ∃ i, x = .int i ∧ Q (g i) H

section
variable {X : Cx} {a b c : Expr} {ta tb tc : TE} {pos : Pos}

theorem binT (ha : PE X a ta) (hb : PE X b tb) {pins : List (Addr × Obj)} {s : Shared} {σ : St} {H : Hp} {R : V → V → Hp → Prop} (I : Inv X pins σ H s)
    (h : ta σ H fun x H1 => tb σ H1 fun y H2 => R x y H2) {Q : Value → Shared → Prop} {f : Value → Value → Sem Value}
    (hf : ∀ v u s2 x y H2, Inv X pins σ H2 s2 → RelV x v → RelV y u → R x y H2 → wpAny (model X.prog X.w) X.A (f v u) Q X.xe s2) :
    wpAny (model X.prog X.w) X.A (eval a X.env) (fun v s₁ => wpAny (model X.prog X.w) X.A (eval b X.env) (fun u s₂ => wpAny (model X.prog X.w) X.A (f v u) Q X.xe s₂) X.xe s₁) X.xe s := by
  refine thn (ha pins s σ H _ I h) fun v s1 ⟨x, H1, I1, r1, q1⟩ => ?_
  refine thn (hb pins s1 σ H1 _ I1 q1) fun u s2 ⟨y, H2, I2, r2, q2⟩ => ?_
  exact hf v u s2 x y H2 I2 r1 r2 q2

theorem pe_op {op : Operator} {r : R2} (ho : OpR X (binaryOp op) r) (ha : PE X a ta) (hb : PE X b tb) : PE X (.BinOp a op b pos) (tOp r ta tb) := by
  intro pins s σ H Q I h
  exact wpAny_BinOp (binT ha hb I h fun v u s2 x y H2 I2 rx ry q => ho pins s2 σ H2 x y v u Q I2 rx ry q)
theorem pe_un {op : UnaryOp} {r : V → Hp → VK → Prop} (ho : UnR X (unaryOp op) r) (ha : PE X a ta) : PE X (.UnaryOp op a pos) (tUn r ta) := by
  intro pins s σ H Q I h
  exact UnaryOp_ (thn (ha pins s σ H _ I h) fun v s1 ⟨x, H1, I1, r1, q1⟩ => ho pins s1 σ H1 x v Q I1 r1 q1)
/-- a op= e at a name: the name's slot i -/
theorem augR {op : Operator} {r : R2} (ho : OpR X (inplaceOp op) r) {pins : List (Addr × Obj)} {s : Shared} {σ : St} {H : Hp} {x y : V} {v u : Value} {Q : VK} (I : Inv X pins σ H s)
    (rx : RelV x v) (ry : RelV y u) (q : r x y H Q) : wpAny (model X.prog X.w) X.A (inplaceOp op v u) (EP X pins σ Q) X.xe s := ho pins s σ H x y v u Q I rx ry q

/-! ### ints -/
theorem opI {f : Value → Value → Sem Value} {C : Int → Int → Prop} {g : Int → Int → Int}
    (rule : ∀ (i j : Int) (t u : Tok) (s : Shared) (Q : Value → Shared → Prop) (E : Value → Shared → Prop), C i j → Q (.int (g i j) s.toks) { s with toks := s.toks + 1 } → wpAny (model X.prog X.w) X.A (f (.int i t) (.int j u)) Q E s) :
    OpR X f (rI C fun i j => .int (g i j)) := by
  intro pins s σ H x y v u Q I rx ry h
  obtain ⟨i, j, rfl, rfl, hc, q⟩ := h
  obtain ⟨t, rfl⟩ := rx
  obtain ⟨t', rfl⟩ := ry
  exact rule i j t t' s _ _ hc ⟨.int (g i j), H, I.tok _, ⟨_, rfl⟩, q⟩
theorem opI0 {f : Value → Value → Sem Value} {g : Int → Int → Int}
    (rule : ∀ (i j : Int) (t u : Tok) (s : Shared) (Q : Value → Shared → Prop) (E : Value → Shared → Prop), Q (.int (g i j) s.toks) { s with toks := s.toks + 1 } → wpAny (model X.prog X.w) X.A (f (.int i t) (.int j u)) Q E s) :
    OpR X f (rI0 fun i j => .int (g i j)) := by
  intro pins s σ H x y v u Q I rx ry h
  obtain ⟨i, j, rfl, rfl, q⟩ := h
  obtain ⟨t, rfl⟩ := rx
  obtain ⟨t', rfl⟩ := ry
  exact rule i j t t' s _ _ ⟨.int (g i j), H, I.tok _, ⟨_, rfl⟩, q⟩
theorem opB0 {f : Value → Value → Sem Value} {g : Int → Int → Bool}
    (rule : ∀ (i j : Int) (t u : Tok) (s : Shared) (Q : Value → Shared → Prop) (E : Value → Shared → Prop), Q (.bool (g i j)) s → wpAny (model X.prog X.w) X.A (f (.int i t) (.int j u)) Q E s) :
    OpR X f (rI0 fun i j => .bl (g i j)) := by
  intro pins s σ H x y v u Q I rx ry h
  obtain ⟨i, j, rfl, rfl, q⟩ := h
  obtain ⟨t, rfl⟩ := rx
  obtain ⟨t', rfl⟩ := ry
  exact rule i j t t' s _ _ ⟨.bl (g i j), H, I, rfl, q⟩

def CDiv (i j : Int) : Prop := 0 < j ∧ j < 1073741824
def CDivN (i j : Int) : Prop := j ≠ 0 ∧ j.natAbs < 1073741824
def CPow (i j : Int) : Prop := 0 ≤ j ∧ j ≤ 1000000 ∧ i.natAbs < 2 ^ 64
def CMul (i j : Int) : Prop := (-(2 ^ 64) < i ∧ i < 2 ^ 64) ∨ (-(2 ^ 64) < j ∧ j < 2 ^ 64)
theorem CMul.ok {i j : Int} (h : CMul i j) : IntMulOk i j := by
  rcases h with ⟨h1, h2⟩ | ⟨h1, h2⟩
  · exact .of_left (intBits_le_64 h1 h2)
  · exact .of_right (intBits_le_64 h1 h2)
theorem two_pow_nn (k : Nat) : (0 : Int) ≤ 2 ^ k := by
  rw [two_pow_cast]
  exact Int.natCast_nonneg _

theorem op_add : OpR X (binaryOp .Add) (rI0 fun i j => .int (i + j)) := opI0 fun _ _ _ _ _ _ _ q => add_int q
theorem op_sub : OpR X (binaryOp .Sub) (rI0 fun i j => .int (i - j)) := opI0 fun _ _ _ _ _ _ _ q => sub_int q
theorem op_mul : OpR X (binaryOp .Mult) (rI CMul fun i j => .int (i * j)) := opI fun _ _ _ _ _ _ _ hc q => mul_int q hc.ok
/-- // by a positive divisor -/
theorem op_fdiv : OpR X (binaryOp .FloorDiv) (rI CDiv fun i j => .int (i / j)) := opI fun i j _ _ _ _ _ hc q => by
  have h1 : (0 : Int) < j := hc.1
  have h2 : j < 1073741824 := hc.2
  exact floordiv_int (by omega) (by rw [Int.fdiv_eq_ediv_of_nonneg i (by omega)]; exact q) (.inl (PyProof.noPylong_small (by omega)))
theorem op_fdivN : OpR X (binaryOp .FloorDiv) (rI CDivN fun i j => .int (i.fdiv j)) := opI fun _ _ _ _ _ _ _ hc q => floordiv_int hc.1 q (.inl (PyProof.noPylong_small hc.2))
/-- % by a positive divisor of any size -/
theorem op_mod : OpR X (binaryOp .Mod) (rI (fun _ j => 0 < j) fun i j => .int (i % j)) := opI fun i j _ _ _ _ _ hc q => by
  have h1 : (0 : Int) < j := hc
  exact mod_int' (by omega) (by rw [Int.fmod_eq_emod_of_nonneg i (by omega)]; exact q)
theorem op_modN : OpR X (binaryOp .Mod) (rI (fun _ j => j ≠ 0) fun i j => .int (i.fmod j)) := opI fun _ _ _ _ _ _ _ hc q => mod_int' hc q
theorem op_pow : OpR X (binaryOp .Pow) (rI CPow fun i j => .int (i ^ j.toNat)) := opI fun _ _ _ _ _ _ _ hc q => pow_int_small hc.1 hc.2.1 hc.2.2 q
theorem op_shl : OpR X (binaryOp .LShift) (rI CPow fun i j => .int (i * 2 ^ j.toNat)) := opI fun _ _ _ _ _ _ _ hc q => lshift_int_small hc.1 hc.2.1 hc.2.2 q
theorem op_shr : OpR X (binaryOp .RShift) (rI (fun _ j => 0 ≤ j) fun i j => .int (i / 2 ^ j.toNat)) := opI fun i j _ _ _ _ _ hc q =>
  rshift_int hc (by rw [Int.fdiv_eq_ediv_of_nonneg i (two_pow_nn _)]; exact q)
theorem op_and : OpR X (binaryOp .BitAnd) (rI0 fun i j => .int (Builtin.bitAnd i j)) := opI0 fun _ _ _ _ _ _ _ q => and_int q
theorem op_or : OpR X (binaryOp .BitOr) (rI0 fun i j => .int (Builtin.bitOr i j)) := opI0 fun _ _ _ _ _ _ _ q => or_int q
theorem op_xor : OpR X (binaryOp .BitXor) (rI0 fun i j => .int (Builtin.bitXor i j)) := opI0 fun _ _ _ _ _ _ _ q => xor_int q

theorem iop_add : OpR X (inplaceOp .Add) (rI0 fun i j => .int (i + j)) := opI0 fun _ _ _ _ _ _ _ q => iadd_int q
theorem iop_sub : OpR X (inplaceOp .Sub) (rI0 fun i j => .int (i - j)) := opI0 fun _ _ _ _ _ _ _ q => isub_int q
theorem iop_mul : OpR X (inplaceOp .Mult) (rI CMul fun i j => .int (i * j)) := opI fun _ _ _ _ _ _ _ hc q => imul_int q hc.ok
theorem iop_fdiv : OpR X (inplaceOp .FloorDiv) (rI CDiv fun i j => .int (i / j)) := opI fun i j _ _ _ _ _ hc q => by
  have h1 : (0 : Int) < j := hc.1
  have h2 : j < 1073741824 := hc.2
  exact ifloordiv_int (by omega) (by rw [Int.fdiv_eq_ediv_of_nonneg i (by omega)]; exact q) (.inl (PyProof.noPylong_small (by omega)))
theorem iop_mod : OpR X (inplaceOp .Mod) (rI (fun _ j => 0 < j) fun i j => .int (i % j)) := opI fun i j _ _ _ _ _ hc q => by
  have h1 : (0 : Int) < j := hc
  exact imod_int (by omega) (by rw [Int.fmod_eq_emod_of_nonneg i (by omega)]; exact q)
theorem iop_shl : OpR X (inplaceOp .LShift) (rI CPow fun i j => .int (i * 2 ^ j.toNat)) := opI fun _ _ _ _ _ _ _ hc q => ilshift_int_small hc.1 hc.2.1 hc.2.2 q
theorem iop_shr : OpR X (inplaceOp .RShift) (rI (fun _ j => 0 ≤ j) fun i j => .int (i / 2 ^ j.toNat)) := opI fun i j _ _ _ _ _ hc q =>
  irshift_int hc (by rw [Int.fdiv_eq_ediv_of_nonneg i (two_pow_nn _)]; exact q)
theorem iop_and : OpR X (inplaceOp .BitAnd) (rI0 fun i j => .int (Builtin.bitAnd i j)) := opI0 fun _ _ _ _ _ _ _ q => iand_int q
theorem iop_or : OpR X (inplaceOp .BitOr) (rI0 fun i j => .int (Builtin.bitOr i j)) := opI0 fun _ _ _ _ _ _ _ q => ior_int q
theorem iop_xor : OpR X (inplaceOp .BitXor) (rI0 fun i j => .int (Builtin.bitXor i j)) := opI0 fun _ _ _ _ _ _ _ q => ixor_int q

theorem unI {f : Value → Sem Value} {g : Int → Int}
    (rule : ∀ (i : Int) (t : Tok) (s : Shared) (Q : Value → Shared → Prop) (E : Value → Shared → Prop), Q (.int (g i) s.toks) { s with toks := s.toks + 1 } → wpAny (model X.prog X.w) X.A (f (.int i t)) Q E s) :
    UnR X f (rU fun i => .int (g i)) := by
  intro pins s σ H x v Q I rx h
  obtain ⟨i, rfl, q⟩ := h
  obtain ⟨t, rfl⟩ := rx
  exact rule i t s _ _ ⟨.int (g i), H, I.tok _, ⟨_, rfl⟩, q⟩
theorem un_neg : UnR X (unaryOp .USub) (rU fun i => .int (-i)) := unI fun _ _ _ _ _ q => neg_int q
theorem un_inv : UnR X (unaryOp .Invert) (rU fun i => .int (Builtin.bitNot i)) := unI fun _ _ _ _ _ q => invert_int q

/-! ### bools among ints: n += (a < b) -/
theorem op_add_ib : OpR X (binaryOp .Add) (fun x y H Q => ∃ i k, x = .int i ∧ y = .bl k ∧ Q (.int (i + b2i k)) H) := by
  intro pins s σ H x y v u Q I rx ry h
  obtain ⟨i, k, rfl, rfl, q⟩ := h
  obtain ⟨t, rfl⟩ := rx
  cases ry
  exact add_int_bool ⟨.int (i + b2i k), H, I.tok _, ⟨_, rfl⟩, q⟩
end

/-! ### comparisons -/
/-- the scalars that == tells apart as data does -/
def scal : V → V → Bool
  | .non, .non => true | .non, .int _ => true | .int _, .non => true | .non, .bl _ => true | .bl _, .non => true | .non, .str _ => true | .str _, .non => true
  | .int _, .int _ => true | .bl _, .bl _ => true | .str _, .str _ => true | .byt _, .byt _ => true
  | .int _, .str _ => true | .str _, .int _ => true | .bl _, .str _ => true | .str _, .bl _ => true
  | _, _ => false
def rEq : R2 := fun x y H Q => scal x y = true ∧ Q (.bl (decide (x = y))) H
def rNe : R2 := fun x y H Q => scal x y = true ∧ Q (.bl (!decide (x = y))) H

theorem dec_int {i j : Int} : decide (V.int i = V.int j) = (i == j) := by
  rw [Bool.eq_iff_iff]
  simp
theorem dec_bl {i j : Bool} : decide (V.bl i = V.bl j) = (i == j) := by
  rw [Bool.eq_iff_iff]
  simp
theorem dec_str {i j : Str} : decide (V.str i = V.str j) = (i == j) := by
  rw [Bool.eq_iff_iff]
  simp
theorem dec_byt {i j : Array UInt8} : decide (V.byt i = V.byt j) = (i.toList == j.toList) := by
  rw [Bool.eq_iff_iff]
  cases i
  cases j
  simp

section
variable {X : Cx} {a b c : Expr} {ta tb tc : TE} {pos : Pos}
theorem fin_bl {pins : List (Addr × Obj)} {σ : St} {H : Hp} {s : Shared} {Q : VK} {k k' : Bool} (I : Inv X pins σ H s) (q : Q (.bl k) H) (e : k = k') : EP X pins σ Q (.bool k') s := by
  subst e
  exact ⟨.bl k, H, I, rfl, q⟩
theorem op_eq : OpR X (compareOp .Eq) rEq := by
  intro pins s σ H x y v u Q I rx ry h
  obtain ⟨hs, q⟩ := h
  cases x with
  | non =>
    cases rx
    cases y with
    | non => cases ry; exact PySem.EqNone.eq_none_none (fin_bl I q (by simp))
    | bl j => cases ry; exact PySem.EqNone.eq_none_bool (fin_bl I q (by simp))
    | int j => obtain ⟨t', rfl⟩ := ry; exact PySem.EqNone.eq_none_int (fin_bl I q (by simp))
    | str j => obtain ⟨t', rfl⟩ := ry; exact PySem.EqNone.eq_none_str (fin_bl I q (by simp))
    | _ => exact absurd (show false = true from hs) Bool.false_ne_true
  | bl i =>
    cases rx
    cases y with
    | non => cases ry; exact PySem.EqNone.eq_bool_none (fin_bl I q (by simp))
    | bl j => cases ry; exact eq_bool (fin_bl I q dec_bl)
    | str j => obtain ⟨t', rfl⟩ := ry; exact PySem.EqMixed.eq_bool_str (fin_bl I q (by simp))
    | _ => exact absurd (show false = true from hs) Bool.false_ne_true
  | int i =>
    obtain ⟨t, rfl⟩ := rx
    cases y with
    | non => cases ry; exact PySem.EqNone.eq_int_none (fin_bl I q (by simp))
    | int j => obtain ⟨t', rfl⟩ := ry; exact eq_int (fin_bl I q dec_int)
    | str j => obtain ⟨t', rfl⟩ := ry; exact PySem.EqMixed.eq_int_str (fin_bl I q (by simp))
    | _ => exact absurd (show false = true from hs) Bool.false_ne_true
  | str i =>
    obtain ⟨t, rfl⟩ := rx
    cases y with
    | non => cases ry; exact PySem.EqNone.eq_str_none (fin_bl I q (by simp))
    | bl j => cases ry; exact PySem.EqMixed.eq_str_bool (fin_bl I q (by simp))
    | int j => obtain ⟨t', rfl⟩ := ry; exact PySem.EqMixed.eq_str_int (fin_bl I q (by simp))
    | str j => obtain ⟨t', rfl⟩ := ry; exact eq_str (fin_bl I q dec_str)
    | _ => exact absurd (show false = true from hs) Bool.false_ne_true
  | byt i =>
    obtain ⟨t, rfl⟩ := rx
    cases y with
    | byt j => obtain ⟨t', rfl⟩ := ry; exact PySem.W.eq_bytes (fin_bl I q dec_byt)
    | _ => exact absurd (show false = true from hs) Bool.false_ne_true
  | _ => cases y <;> exact absurd (show false = true from hs) Bool.false_ne_true
theorem op_ne : OpR X (compareOp .NotEq) rNe := by
  intro pins s σ H x y v u Q I rx ry h
  obtain ⟨hs, q⟩ := h
  cases x with
  | non =>
    cases rx
    cases y with
    | non => cases ry; exact PySem.EqNone.ne_none_none (fin_bl I q (by simp))
    | bl j => cases ry; exact PySem.EqNone.ne_none_bool (fin_bl I q (by simp))
    | int j => obtain ⟨t', rfl⟩ := ry; exact PySem.EqNone.ne_none_int (fin_bl I q (by simp))
    | str j => obtain ⟨t', rfl⟩ := ry; exact PySem.EqNone.ne_none_str (fin_bl I q (by simp))
    | _ => exact absurd (show false = true from hs) Bool.false_ne_true
  | bl i =>
    cases rx
    cases y with
    | non => cases ry; exact PySem.EqNone.ne_bool_none (fin_bl I q (by simp))
    | bl j => cases ry; exact ne_bool (fin_bl I q (congrArg not dec_bl))
    | str j => obtain ⟨t', rfl⟩ := ry; exact PySem.EqMixed.ne_bool_str (fin_bl I q (by simp))
    | _ => exact absurd (show false = true from hs) Bool.false_ne_true
  | int i =>
    obtain ⟨t, rfl⟩ := rx
    cases y with
    | non => cases ry; exact PySem.EqNone.ne_int_none (fin_bl I q (by simp))
    | int j => obtain ⟨t', rfl⟩ := ry; exact ne_int (fin_bl I q (congrArg not dec_int))
    | str j => obtain ⟨t', rfl⟩ := ry; exact PySem.EqMixed.ne_int_str (fin_bl I q (by simp))
    | _ => exact absurd (show false = true from hs) Bool.false_ne_true
  | str i =>
    obtain ⟨t, rfl⟩ := rx
    cases y with
    | non => cases ry; exact PySem.EqNone.ne_str_none (fin_bl I q (by simp))
    | bl j => cases ry; exact PySem.EqMixed.ne_str_bool (fin_bl I q (by simp))
    | int j => obtain ⟨t', rfl⟩ := ry; exact PySem.EqMixed.ne_str_int (fin_bl I q (by simp))
    | str j => obtain ⟨t', rfl⟩ := ry; exact ne_str (fin_bl I q (congrArg not dec_str))
    | _ => exact absurd (show false = true from hs) Bool.false_ne_true
  | byt i =>
    obtain ⟨t, rfl⟩ := rx
    cases y with
    | byt j => obtain ⟨t', rfl⟩ := ry; exact PySem.W.ne_bytes (fin_bl I q (congrArg not dec_byt))
    | _ => exact absurd (show false = true from hs) Bool.false_ne_true
  | _ => cases y <;> exact absurd (show false = true from hs) Bool.false_ne_true

theorem op_lt : OpR X (compareOp .Lt) (rI0 fun i j => .bl (decide (i < j))) := opB0 fun _ _ _ _ _ _ _ q => lt_int q
theorem op_le : OpR X (compareOp .LtE) (rI0 fun i j => .bl (decide (i ≤ j))) := opB0 fun _ _ _ _ _ _ _ q => le_int q
theorem op_gt : OpR X (compareOp .Gt) (rI0 fun i j => .bl (decide (j < i))) := opB0 fun _ _ _ _ _ _ _ q => gt_int q
theorem op_ge : OpR X (compareOp .GtE) (rI0 fun i j => .bl (decide (j ≤ i))) := opB0 fun _ _ _ _ _ _ _ q => ge_int q
theorem op_lt_str : OpR X (compareOp .Lt) (fun x y H Q => ∃ i j, x = .str i ∧ y = .str j ∧ Q (.bl (decide (i.cps.toList < j.cps.toList))) H) := by
  intro pins s σ H x y v u Q I rx ry h
  obtain ⟨i, j, rfl, rfl, q⟩ := h
  obtain ⟨t, rfl⟩ := rx
  obtain ⟨t', rfl⟩ := ry
  exact lt_str (fin_bl I q rfl)
/-- the one string within the other -/
theorem op_in_str : OpR X (compareOp .In) (fun x y H Q => ∃ i j, x = .str i ∧ y = .str j ∧ Q (.bl (!(Builtin.Str.occurrences j i 0 j.length 1).isEmpty)) H) := by
  intro pins s σ H x y v u Q I rx ry h
  obtain ⟨i, j, rfl, rfl, q⟩ := h
  obtain ⟨t, rfl⟩ := rx
  obtain ⟨t', rfl⟩ := ry
  exact in_str (fin_bl I q rfl)

/-- is None, is not None: the right side a value none -/
theorem op_isN : OpR X (compareOp .Is) (fun x y H Q => y = .non ∧ Q (.bl (decide (x = .non))) H) := by
  intro pins s σ H x y v u Q I rx ry h
  obtain ⟨rfl, q⟩ := h
  cases ry
  refine is_none_gen (fin_bl I q ?_)
  cases x <;> first
    | (cases rx; rfl)
    | (obtain ⟨t, rfl⟩ := rx; rfl)
theorem op_notN : OpR X (compareOp .IsNot) (fun x y H Q => y = .non ∧ Q (.bl (!decide (x = .non))) H) := by
  intro pins s σ H x y v u Q I rx ry h
  obtain ⟨rfl, q⟩ := h
  cases ry
  refine isnot_none_gen (fin_bl I q ?_)
  cases x <;> first
    | (cases rx; rfl)
    | (obtain ⟨t, rfl⟩ := rx; rfl)

theorem op_notin_str : OpR X (compareOp .NotIn) (fun x y H Q => ∃ i j, x = .str i ∧ y = .str j ∧ Q (.bl (!(!(Builtin.Str.occurrences j i 0 j.length 1).isEmpty))) H) := by
  intro pins s σ H x y v u Q I rx ry h
  obtain ⟨i, j, rfl, rfl, q⟩ := h
  obtain ⟨t, rfl⟩ := rx
  obtain ⟨t', rfl⟩ := ry
  exact notIn_str (fin_bl I q rfl)
/-- is, is not of two objects that are tracked lists or instances -/
def isObj : HO → Bool
  | .lst _ => true
  | .ins _ _ _ => true
  | _ => false
theorem obj_there {pins : List (Addr × Obj)} {s : Shared} {σ : St} {H : Hp} {a : Addr} {o : HO} (I : Inv X pins σ H s) (h : H a = some o) (p : isObj o = true) : ∃ ob, s.heap.get? a = some ob ∧ ob.cls ≠ .type "tuple" := by
  cases o with
  | lst xs =>
    obtain ⟨_, its, n, _, e⟩ : xs.length ≤ sizeLine ∧ ∃ (its : List Value) (n : Nat), Vals xs its ∧ s.heap.get? a = some { cls := .type "list", data := .seq its.toArray n } := I.hok a _ h
    exact ⟨_, e, (by show Value.type "list" ≠ .type "tuple"; decide +kernel)⟩
  | ins C dx fs =>
    have x := I.hok a _ h
    obtain ⟨_, _, _, e, _⟩ := x
    exact ⟨_, e, (by show Value.ref C ≠ .type "tuple"; exact fun z => by cases z)⟩
  | _ => exact absurd (show false = true from p) Bool.false_ne_true
theorem op_is_ref : OpR X (compareOp .Is) (fun x y H Q => ∃ a b oa ob, x = .ref a ∧ y = .ref b ∧ H a = some oa ∧ isObj oa = true ∧ H b = some ob ∧ isObj ob = true ∧ Q (.bl (decide (a = b))) H) := by
  intro pins s σ H x y v u Q I rx ry h
  obtain ⟨a, b, oa, ob, rfl, rfl, ha, pa, hb, pb, q⟩ := h
  cases rx
  cases ry
  obtain ⟨o1, e1, n1⟩ := obj_there I ha pa
  obtain ⟨o2, e2, _⟩ := obj_there I hb pb
  by_cases z : a = b
  · subst z
    exact wpAny_is_ref_self (fin_bl I q (by simp))
  · exact wpAny_is_ref_other z e1 e2 n1 (fin_bl I q (by simp [z]))
theorem op_isnot_ref : OpR X (compareOp .IsNot) (fun x y H Q => ∃ a b oa ob, x = .ref a ∧ y = .ref b ∧ H a = some oa ∧ isObj oa = true ∧ H b = some ob ∧ isObj ob = true ∧ Q (.bl (!decide (a = b))) H) := by
  intro pins s σ H x y v u Q I rx ry h
  obtain ⟨a, b, oa, ob, rfl, rfl, ha, pa, hb, pb, q⟩ := h
  cases rx
  cases ry
  obtain ⟨o1, e1, n1⟩ := obj_there I ha pa
  obtain ⟨o2, e2, _⟩ := obj_there I hb pb
  by_cases z : a = b
  · subst z
    exact wpAny_isNot_ref_self (fin_bl I q (by simp))
  · exact wpAny_isNot_ref_other z e1 e2 n1 (fin_bl I q (by simp [z]))

/-- two rules for one operation: by cases -/
theorem OpR.or {f : Value → Value → Sem Value} {r r' : R2} (h : OpR X f r) (h' : OpR X f r') : OpR X f (fun x y H Q => r x y H Q ∨ r' x y H Q) := by
  intro pins s σ H x y v u Q I rx ry q
  rcases q with q | q
  · exact h pins s σ H x y v u Q I rx ry q
  · exact h' pins s σ H x y v u Q I rx ry q

theorem nomark (b : Expr) {op : CmpOp} (h : op ≠ .In := by decide) (h2 : op ≠ .NotIn := by decide) : behindInMarks op b = false := by
  have e1 : (op == CmpOp.In) = false := by cases op <;> first | rfl | exact absurd rfl h
  have e2 : (op == CmpOp.NotIn) = false := by cases op <;> first | rfl | exact absurd rfl h2
  cases b <;> simp [behindInMarks, e1, e2]
/-- a comparison as a value; hm: nomark b, or (for in, not in) by with_unfolding_all rfl -/
theorem pe_cmpR {op : CmpOp} {r : R2} (ho : OpR X (compareOp op) r) (ha : PE X a ta) (hb : PE X b tb) (hm : behindInMarks op b = false) : PE X (.Compare a [op] [b] pos) (tOp r ta tb) := by
  intro pins s σ H Q I h
  exact wpAny_Compare1 (binT ha hb I h fun v u s2 x y H2 I2 rx ry q => ho pins s2 σ H2 x y v u Q I2 rx ry q) hm
/-- a reading of a value as a test -/
def tTest (t : TE) : TT := fun σ H Q => t σ H fun x H' => ∃ k, x = .bl k ∧ Q k H'
theorem pt_cmpR {op : CmpOp} {r : R2} (ho : OpR X (compareOp op) r) (ha : PE X a ta) (hb : PE X b tb) (hm : behindInMarks op b = false) : PT X (.Compare a [op] [b] pos) (tTest (tOp r ta tb)) := by
  intro pins s σ H Q I h
  refine wpAny_isTrue_Compare1 (thn (ha pins s σ H _ I h) fun v s1 ⟨x, H1, I1, r1, q1⟩ => thn (hb pins s1 σ H1 _ I1 q1) fun u s2 ⟨y, H2, I2, r2, q2⟩ =>
    thn (ho pins s2 σ H2 x y v u _ I2 r1 r2 q2) fun c s3 ⟨z, H3, I3, r3, k, e, q3⟩ => ?_) hm
  subst e
  cases r3
  exact wpAny_truthy_bool ⟨H3, I3, q3⟩
/-- a op1 b op2 c -/
def tChain (r r' : R2) (ta tb tc : TE) : TE := fun σ H Q => ta σ H fun x H1 => tb σ H1 fun y H2 => r x y H2 fun z H3 => ∃ k, z = .bl k ∧
  (if k = true then tc σ H3 fun w' H4 => r' y w' H4 Q else Q (.bl false) H3)
theorem pe_chain {op op' : CmpOp} {r r' : R2} (ho : OpR X (compareOp op) r) (ho' : OpR X (compareOp op') r') (ha : PE X a ta) (hb : PE X b tb) (hc : PE X c tc)
    (hm : lastMarks [op, op'] [b, c] = false := by with_unfolding_all rfl) : PE X (.Compare a [op, op'] [b, c] pos) (tChain r r' ta tb tc) := by
  intro pins s σ H Q I h
  refine Compare_chain (thn (ha pins s σ H _ I h) fun v s1 ⟨x, H1, I1, r1, q1⟩ => chain_link (thn (hb pins s1 σ H1 _ I1 q1) fun u s2 ⟨y, H2, I2, r2, q2⟩ =>
    thn (ho pins s2 σ H2 x y v u _ I2 r1 r2 q2) fun d s3 ⟨z, H3, I3, r3, k, e, q3⟩ => ?_)) hm
  subst e
  cases r3
  refine wpAny_truthy_bool ?_
  cases k with
  | false => exact ite_ff ⟨.bl false, H3, I3, rfl, q3⟩
  | true => exact ite_tt (chain_last (thn (hc pins s3 σ H3 _ I3 q3) fun w' s4 ⟨z', H4, I4, r4, q4⟩ => ho' pins s4 σ H4 y z' u w' Q I4 r2 r4 q4))
theorem pt_chain {op op' : CmpOp} {r r' : R2} (ho : OpR X (compareOp op) r) (ho' : OpR X (compareOp op') r') (ha : PE X a ta) (hb : PE X b tb) (hc : PE X c tc)
    (hm : lastMarks [op, op'] [b, c] = false := by with_unfolding_all rfl) : PT X (.Compare a [op, op'] [b, c] pos) (tTest (tChain r r' ta tb tc)) := by
  intro pins s σ H Q I h
  refine isTrue_chain (thn (ha pins s σ H _ I h) fun v s1 ⟨x, H1, I1, r1, q1⟩ => test_link (thn (hb pins s1 σ H1 _ I1 q1) fun u s2 ⟨y, H2, I2, r2, q2⟩ =>
    thn (ho pins s2 σ H2 x y v u _ I2 r1 r2 q2) fun d s3 ⟨z, H3, I3, r3, k, e, q3⟩ => ?_)) hm
  subst e
  cases r3
  refine wpAny_truthy_bool ?_
  cases k with
  | false =>
    obtain ⟨k', e', q'⟩ := q3
    cases e'
    exact ite_ff ⟨H3, I3, q'⟩
  | true =>
    refine ite_tt (test_last (thn (hc pins s3 σ H3 _ I3 q3) fun w' s4 ⟨z', H4, I4, r4, q4⟩ => thn (ho' pins s4 σ H4 y z' u w' _ I4 r2 r4 q4) fun d' s5 ⟨z2, H5, I5, r5, k2, e2, q5⟩ => ?_))
    subst e2
    cases r5
    exact wpAny_truthy_bool ⟨H5, I5, q5⟩

/-! ### truth -/
/-- a value's truth by the abstract heap -/
def TruV (K : PySem.W.Frag) (x : V) (H : Hp) (k : Bool) : Prop :=
  match x with
  | .non => k = false
  | .bl b => k = b
  | .int i => k = (i != 0)
  | .str y => y.length ≤ sizeLine ∧ k = ((y.length : Int) != 0)
  | .byt y => y.size ≤ sizeLine ∧ k = ((y.size : Int) != 0)
  | .ref p => (∃ xs, SqL K H p xs ∧ k = !xs.isEmpty) ∨ (∃ xs, SqT K H p xs ∧ k = !xs.isEmpty) ∨ ∃ kvs, H p = some (.dK kvs) ∧ k = !kvs.isEmpty
  | _ => False
theorem isEmpty_kv {κ : Type} {kvs : List (κ × V)} {vs : List (κ × Value)} (r : KV kvs vs) : (!vs.isEmpty) = !kvs.isEmpty := by
  cases r <;> rfl
theorem isEmpty_of {xs : List V} {its : List Value} (r : Vals xs its) : (!its.toArray.isEmpty) = !xs.isEmpty := by
  cases r <;> simp
theorem line63 : (sizeLine : Nat) < 2 ^ 63 := by rw [sizeLine_eq]; decide
theorem tru_ok : TruR X (fun x H Q => ∃ k, TruV X.K x H k ∧ Q k H) := by
  intro pins s σ H x v Q I rx h
  obtain ⟨k, e, q⟩ := h
  have hl := line63
  have hs : sizeLine = 16777216 := sizeLine_eq
  cases x with
  | non =>
    cases rx
    have e' : k = false := e
    subst e'
    exact truthy_none ⟨H, I, q⟩
  | bl b =>
    cases rx
    have e' : k = b := e
    subst e'
    exact wpAny_truthy_bool ⟨H, I, q⟩
  | int i =>
    obtain ⟨t, rfl⟩ := rx
    have e' : k = (i != 0) := e
    subst e'
    exact PySem.P.truthy_int ⟨H, I, q⟩
  | str y =>
    obtain ⟨t, rfl⟩ := rx
    obtain ⟨hy, e'⟩ : y.length ≤ sizeLine ∧ k = ((y.length : Int) != 0) := e
    subst e'
    exact PySem.P.truthy_str (by omega) ⟨H, I.tok _, q⟩
  | byt y =>
    obtain ⟨t, rfl⟩ := rx
    obtain ⟨hy, e'⟩ : y.size ≤ sizeLine ∧ k = ((y.size : Int) != 0) := e
    subst e'
    exact PySem.W.truthy_bytes (by omega) ⟨H, I.tok _, q⟩
  | ref p =>
    cases rx
    have e' : (∃ xs, SqL X.K H p xs ∧ k = !xs.isEmpty) ∨ (∃ xs, SqT X.K H p xs ∧ k = !xs.isEmpty) ∨ ∃ kvs, H p = some (.dK kvs) ∧ k = !kvs.isEmpty := e
    rcases e' with ⟨xs, hx, e'⟩ | ⟨xs, hx, e'⟩ | ⟨kvs, hx, e'⟩
    · subst e'
      obtain ⟨its, r, pl, hz⟩ := I.list hx
      have hlen := r.length
      exact wpAny_truthy_list pl.isList (by simp only [List.size_toArray]; omega) ⟨H, I.tok _, by rw [isEmpty_of r]; exact q⟩
    · subst e'
      obtain ⟨its, r, pl, hz⟩ := I.tuple hx
      have hlen := r.length
      exact truthy_tuple pl (by simp only [List.size_toArray]; omega) ⟨H, I.tok _, by rw [isEmpty_of r]; exact q⟩
    · subst e'
      obtain ⟨hz, hS, vs, r, m⟩ : kvs.length ≤ sizeLine ∧ (p == sysModules) = false ∧ ∃ vs, KV kvs vs ∧ s.heap.DictOf (mixKind X.prog X.w) p vs := I.hok p _ hx
      have hlen : kvs.length = vs.length := Paired.length r
      exact wpAny_truthy_dict hS m (by omega) ⟨H, I.tok _, by rw [isEmpty_kv r]; exact q⟩
  | _ => exact (show False from e).elim
/-- any expression whose test is its value's truth (a name, a call, a subscript, a field ..: he by fun _ => rfl) -/
theorem pt_truth (ha : PE X a ta) (he : ∀ whole, isTrue a X.env whole = (do let v ← whole; standAt a.pos; holding [v] (truthy v))) :
    PT X a (fun σ H Q => ta σ H fun x H' => ∃ k, TruV X.K x H' k ∧ Q k H') := by
  intro pins s σ H Q I h
  exact isTrue_plain (thn (ha pins s σ H _ I h) fun v s1 ⟨x, H1, I1, r1, q1⟩ => tru_ok pins s1 σ H1 x v Q I1 r1 q1) (he _)

/-! ### strs and bytes -/
theorem pe_byt {x : List UInt8} {k : Nat} : PE X (.Constant (.bytes x) k pos) (fun _ H Q => Q (.byt x.toArray) H) := fun _ _ _ H _ I h => PySem.W.Constant_bytes ⟨.byt x.toArray, H, I.tok _, ⟨_, rfl⟩, h⟩
theorem op_add_str : OpR X (binaryOp .Add) (fun x y H Q => ∃ i j, x = .str i ∧ y = .str j ∧ i.length + j.length ≤ sizeLine ∧ Q (.str (i ++ j)) H) := by
  intro pins s σ H x y v u Q I rx ry h
  obtain ⟨i, j, rfl, rfl, hz, q⟩ := h
  obtain ⟨t, rfl⟩ := rx
  obtain ⟨t', rfl⟩ := ry
  exact add_str (fun t' tk => ⟨.str (i ++ j), H, I.tok _, ⟨_, rfl⟩, q⟩) hz
theorem iop_add_str : OpR X (inplaceOp .Add) (fun x y H Q => ∃ i j, x = .str i ∧ y = .str j ∧ i.length + j.length ≤ sizeLine ∧ Q (.str (i ++ j)) H) := by
  intro pins s σ H x y v u Q I rx ry h
  obtain ⟨i, j, rfl, rfl, hz, q⟩ := h
  obtain ⟨t, rfl⟩ := rx
  obtain ⟨t', rfl⟩ := ry
  exact iadd_str (fun t' tk => ⟨.str (i ++ j), H, I.tok _, ⟨_, rfl⟩, q⟩) hz
theorem op_add_byt : OpR X (binaryOp .Add) (fun x y H Q => ∃ i j, x = .byt i ∧ y = .byt j ∧ i.size + j.size ≤ 16777216 ∧ Q (.byt (i ++ j)) H) := by
  intro pins s σ H x y v u Q I rx ry h
  obtain ⟨i, j, rfl, rfl, hz, q⟩ := h
  obtain ⟨t, rfl⟩ := rx
  obtain ⟨t', rfl⟩ := ry
  exact PySem.W.KBy.add_bytes hz (fun t' tk => ⟨.byt (i ++ j), H, I.tok _, ⟨_, rfl⟩, q⟩)

def PlainIxT (b : Expr) : Prop := ∀ o i, subscripted b false o i = operate [o, i] (getItem o i)
/-- s[i], 0 ≤ i < len -/
theorem pe_item_str (ha : PE X a ta) (hb : PE X b tb) (hs : PlainIxT b) :
    PE X (.Subscript a b pos) (tOp (fun x y H Q => ∃ z i c, x = .str z ∧ y = .int i ∧ 0 ≤ i ∧ i < 2 ^ 63 ∧ i < z.length ∧ z.cps[i.toNat]? = some c ∧ Q (.str ⟨#[c]⟩) H) ta tb) := by
  intro pins s σ H Q I h
  refine Subscript_ (binT ha hb I h fun v u s2 x y H2 I2 rx ry q => ?_)
  obtain ⟨z, i, c, rfl, rfl, h0, h63, h1, hc, q⟩ := q
  obtain ⟨t, rfl⟩ := rx
  obtain ⟨t', rfl⟩ := ry
  have e : seqIndex? i z.length = some i.toNat := PySem.StrLaws.seqIndex_nonneg h0 h1
  exact tail_any (typeIs_str s2 z t) slot_str_getitem.lookup (getItem_str (c := c) (by
    have e1 : decide (i < -(2 ^ 63 : Int)) = false := decide_eq_false (by omega)
    have e2 : decide (i ≥ 2 ^ 63) = false := decide_eq_false (by omega)
    rw [e1, e2] <;> rfl) (by rw [e]; exact hc) ⟨.str ⟨#[c]⟩, H2, I2.tok _, ⟨_, rfl⟩, q⟩) (hs _ _)
/-- b[i], 0 ≤ i < len -/
theorem pe_item_byt (ha : PE X a ta) (hb : PE X b tb) (hs : PlainIxT b) :
    PE X (.Subscript a b pos) (tOp (fun x y H Q => ∃ (z : List UInt8) (i : Int), x = .byt z.toArray ∧ y = .int i ∧ z.length ≤ sizeLine ∧ 0 ≤ i ∧ i < z.length ∧ Q (.int ((z.getD i.toNat 0).toNat : Nat)) H) ta tb) := by
  intro pins s σ H Q I h
  refine Subscript_ (binT ha hb I h fun v u s2 x y H2 I2 rx ry q => ?_)
  obtain ⟨z, i, rfl, rfl, hz, h0, h1, q⟩ := q
  obtain ⟨t, rfl⟩ := rx
  obtain ⟨t', rfl⟩ := ry
  have hl : sizeLine = 16777216 := sizeLine_eq
  exact tail_any (PySem.W.typeIs_bytes s2 z.toArray t) PySem.W.FB.slot_bytes_getitem.lookup (PySem.W.getItem_bytes (by omega) h0 h1 ⟨.int ((z.getD i.toNat 0).toNat : Nat), H2, I2.tok _, ⟨_, rfl⟩, q⟩) (hs _ _)

/-! ### scalar builtins, by CallR -/
theorem vals1 {x : V} {us : List Value} (r : Vals [x] us) : ∃ u, us = [u] ∧ RelV x u := by
  cases r with
  | cons r1 r2 => cases r2; exact ⟨_, rfl, r1⟩
theorem vals2 {x y : V} {us : List Value} (r : Vals [x, y] us) : ∃ u w', us = [u, w'] ∧ RelV x u ∧ RelV y w' := by
  cases r with
  | cons r1 r2 =>
    cases r2 with
    | cons r3 r4 => cases r4; exact ⟨_, _, rfl, r1, r3⟩
theorem call_abs : CallR X (.builtin "abs") (fun xs H Q => ∃ i, xs = [.int i] ∧ Q (.int (if i < 0 then -i else i)) H) := by
  intro pins s σ H xs us Q I r h
  obtain ⟨i, rfl, q⟩ := h
  obtain ⟨u, rfl, t, rfl⟩ := vals1 r
  exact call_abs_int fun u tk => ⟨.int (if i < 0 then -i else i), H, I.tok _, ⟨_, rfl⟩, q⟩
theorem call_max2 (hc : X.calm = true) : CallR X (.builtin "max") (fun xs H Q => ∃ i j, xs = [.int i, .int j] ∧ Q (.int (if j > i then j else i)) H) := by
  intro pins s σ H xs us Q I r h
  obtain ⟨i, j, rfl, q⟩ := h
  obtain ⟨u, w', rfl, ⟨t, rfl⟩, ⟨t', rfl⟩⟩ := vals2 r
  refine max_two_ints (I.ok.hd hc) fun h' tk k => ⟨_, H, I.kept k, ?_, q⟩
  by_cases hj : j > i
  · rw [if_pos hj, if_pos hj]; exact ⟨_, rfl⟩
  · rw [if_neg hj, if_neg hj]; exact ⟨_, rfl⟩
theorem call_min2 (hc : X.calm = true) : CallR X (.builtin "min") (fun xs H Q => ∃ i j, xs = [.int i, .int j] ∧ Q (.int (if j < i then j else i)) H) := by
  intro pins s σ H xs us Q I r h
  obtain ⟨i, j, rfl, q⟩ := h
  obtain ⟨u, w', rfl, ⟨t, rfl⟩, ⟨t', rfl⟩⟩ := vals2 r
  refine min_two_ints (I.ok.hd hc) fun h' tk k => ⟨_, H, I.kept k, ?_, q⟩
  by_cases hj : j < i
  · rw [if_pos hj, if_pos hj]; exact ⟨_, rfl⟩
  · rw [if_neg hj, if_neg hj]; exact ⟨_, rfl⟩
theorem call_int1 : CallR X (.type "int") (fun xs H Q => (∃ i, xs = [.int i] ∧ Q (.int i) H) ∨ ∃ k, xs = [.bl k] ∧ Q (.int (if k then 1 else 0)) H) := by
  intro pins s σ H xs us Q I r h
  rcases h with ⟨i, rfl, q⟩ | ⟨k, rfl, q⟩
  · obtain ⟨u, rfl, t, rfl⟩ := vals1 r
    exact call_int_int ⟨.int i, H, I, ⟨_, rfl⟩, q⟩
  · obtain ⟨u, rfl, r1⟩ := vals1 r
    cases r1
    exact call_int_bool ⟨.int (if k then 1 else 0), H, I.tok _, ⟨_, rfl⟩, q⟩
theorem call_bool1 : CallR X (.type "bool") (fun xs H Q => (∃ i, xs = [.int i] ∧ Q (.bl (i != 0)) H) ∨ ∃ k, xs = [.bl k] ∧ Q (.bl k) H) := by
  intro pins s σ H xs us Q I r h
  rcases h with ⟨i, rfl, q⟩ | ⟨k, rfl, q⟩
  · obtain ⟨u, rfl, t, rfl⟩ := vals1 r
    exact call_bool_int ⟨.bl (i != 0), H, I, rfl, q⟩
  · obtain ⟨u, rfl, r1⟩ := vals1 r
    cases r1
    exact call_bool_bool ⟨.bl k, H, I, rfl, q⟩
theorem call_str_int : CallR X (.type "str") (fun xs H Q => ∃ i, xs = [.int i] ∧ i.natAbs.log2 < 1920 ∧ Q (.str (toString i)) H) := by
  intro pins s σ H xs us Q I r h
  obtain ⟨i, rfl, hz, q⟩ := h
  obtain ⟨u, rfl, t, rfl⟩ := vals1 r
  exact PySem.P.str_of_int hz ⟨.str _, H, I.tok _, ⟨_, rfl⟩, q⟩
theorem call_ord : CallR X (.builtin "ord") (fun xs H Q => ∃ x, xs = [.str x] ∧ x.length = 1 ∧ Q (.int (x.cps.getD 0 0 : Nat)) H) := by
  intro pins s σ H xs us Q I r h
  obtain ⟨x, rfl, hz, q⟩ := h
  obtain ⟨u, rfl, t, rfl⟩ := vals1 r
  exact ord_of_one hz ⟨.int _, H, I.tok _, ⟨_, rfl⟩, q⟩
theorem call_chr : CallR X (.builtin "chr") (fun xs H Q => ∃ i, xs = [.int i] ∧ 0 ≤ i ∧ i ≤ 1114111 ∧ Q (.str ⟨#[i.toNat]⟩) H) := by
  intro pins s σ H xs us Q I r h
  obtain ⟨i, rfl, h0, h1, q⟩ := h
  obtain ⟨u, rfl, t, rfl⟩ := vals1 r
  exact chr_of_range h0 h1 ⟨.str _, H, I.tok _, ⟨_, rfl⟩, q⟩
/-- len of a str, a bytes, a list, a tuple -/
def LenV (K : PySem.W.Frag) (x : V) (H : Hp) (n : Nat) : Prop :=
  match x with
  | .str y => y.length ≤ sizeLine ∧ n = y.length
  | .byt y => y.size ≤ sizeLine ∧ n = y.size
  | .ref p => (∃ xs, SqL K H p xs ∧ n = xs.length) ∨ ∃ xs, SqT K H p xs ∧ n = xs.length
  | _ => False
theorem call_len : CallR X (.builtin "len") (fun xs H Q => ∃ x n, xs = [x] ∧ LenV X.K x H n ∧ Q (.int n) H) := by
  intro pins s σ H xs us Q I r h
  obtain ⟨x, n, rfl, e, q⟩ := h
  obtain ⟨u, rfl, rx⟩ := vals1 r
  have hl := line63
  have hs : sizeLine = 16777216 := sizeLine_eq
  cases x with
  | str y =>
    obtain ⟨t, rfl⟩ := rx
    obtain ⟨hy, e'⟩ : y.length ≤ sizeLine ∧ n = y.length := e
    subst e'
    exact len_str (by omega) ⟨.int _, H, I.tok _, ⟨_, rfl⟩, q⟩
  | byt y =>
    obtain ⟨t, rfl⟩ := rx
    obtain ⟨hy, e'⟩ : y.size ≤ sizeLine ∧ n = y.size := e
    subst e'
    exact PySem.W.len_bytes (by omega) ⟨.int _, H, I.tok _, ⟨_, rfl⟩, q⟩
  | ref p =>
    cases rx
    have e' : (∃ xs, SqL X.K H p xs ∧ n = xs.length) ∨ ∃ xs, SqT X.K H p xs ∧ n = xs.length := e
    rcases e' with ⟨xs, hx, e'⟩ | ⟨xs, hx, e'⟩
    · subst e'
      obtain ⟨its, r', pl, hz⟩ := I.list hx
      have hlen := r'.length
      exact Calls.call_len_list pl.isList (by simp only [List.size_toArray]; omega) ⟨.int xs.length, H, I.tok _, ⟨_, by simp only [List.size_toArray]; rw [hlen]⟩, q⟩
    · subst e'
      obtain ⟨its, r', pl, hz⟩ := I.tuple hx
      have hlen := r'.length
      exact len_tuple pl (by simp only [List.size_toArray]; omega) ⟨.int xs.length, H, I.tok _, ⟨_, by simp only [List.size_toArray]; rw [hlen]⟩, q⟩
  | _ => exact (show False from e).elim
/-- divmod: a new tuple -/
theorem call_divmod : CallR X (.builtin "divmod") (fun xs H Q => ∃ i j, xs = [.int i, .int j] ∧ CDiv i j ∧ ∀ p, H p = none → Q (.ref p) (upd H p (.tup [.int (i / j), .int (i % j)]))) := by
  intro pins s σ H xs us Q I r h
  obtain ⟨i, j, rfl, ⟨h1, h2⟩, q⟩ := h
  obtain ⟨u, w', rfl, ⟨t, rfl⟩, ⟨t', rfl⟩⟩ := vals2 r
  refine divmod_int (by omega) ?_ (.inl (PyProof.noPylong_small (by omega)))
  rw [Int.fdiv_eq_ediv_of_nonneg i (by omega), Int.fmod_eq_emod_of_nonneg i (by omega)]
  have hn : H s.heap.objs.size = none := I.hok.fresh (Nat.le_refl _)
  refine ⟨.ref s.heap.objs.size, _, ?_, rfl, q _ hn⟩
  refine I.laid (fun b o e => Heap.get?_push_of_some _ e) (Nat.le_refl _) ⟨by simp only [List.length_cons, List.length_nil]; rw [sizeLine_eq]; decide, [.int (i / j) s.toks, .int (i % j) (s.toks + 1)], .cons ⟨_, rfl⟩ (.cons ⟨_, rfl⟩ .nil), ?_⟩
  exact ⟨_, Heap.get?_push_size s.heap rfl, rfl, 0, rfl⟩
end
end L2

namespace L2
open PySem PySem.Spec PyProof.Rows

/-! ### an instance, its attributes a map -/
structure ObjM (h : Heap) (x dx C : Addr) (mA : Str → Option Value) : Prop where
  obj : h.get? x = some (PySem.W.instObj C dx)
  ns : h.Ns1 dx mA
  ne : dx ≠ x

theorem lookIn_ns {h : Heap} {dx : Addr} {mA : Str → Option Value} (n : h.Ns1 dx mA) : ∃ od, h.get? dx = some od ∧ ∀ name, PySem.W.lookIn name od = some (mA name) := by
  obtain ⟨o, es, ep, ho, hd, hk, _, hm⟩ := n
  refine ⟨o, ho, fun name => ?_⟩
  have e := hm name
  unfold nsFind findBy at e
  rw [← Array.find?_toList] at e
  unfold PySem.W.lookIn
  rw [hd]
  dsimp only
  split
  · rename_i y q
    rw [q] at e
    exact congrArg some e
  · rename_i q
    rw [q] at e
    have a : es.toList.any (·.refKey) = false := by
      rw [List.any_eq_false]
      intro y hy
      obtain ⟨z, t, hkey⟩ := hk y (Array.mem_toList_iff.mp hy)
      simp [DictEntry.refKey, hkey]
    have a' : ¬ es.toList.any (·.refKey) = true := by rw [a]; exact Bool.false_ne_true
    rw [if_neg a']
    exact congrArg some e

theorem ObjM.look {h : Heap} {x dx C : Addr} {mA : Str → Option Value} (I : ObjM h x dx C mA) : ∃ od, PySem.W.InstAt h x (PySem.W.instObj C dx) C (some od) ∧ ∀ name, PySem.W.lookIn name od = some (mA name) :=
  let ⟨od, ho, hl⟩ := lookIn_ns I.ns
  ⟨od, ⟨I.obj, rfl, rfl, ho⟩, hl⟩

section
variable {prog : Program} {w : World} {A : Around} {E : Value → Shared → Prop} {s : Shared} {K : PySem.W.Frag} {x dx C f : Addr} {mA : Str → Option Value} {name : Str} {v : Value}

theorem get_map {expr : Bool} {Q : Value → Shared → Prop} (X : K.In s.heap) (I : ObjM s.heap x dx C mA) (hg : PySem.W.plainGet K C name = true) (hh : PySem.W.hasDictIn K C = true)
    (ha : PySem.W.findIn K (.ref C) name = some none) (hv : mA name = some v) (hv' : PySem.W.handedIn v = true) (h : Q v { s with toks := s.toks + 1 }) :
    wpAny (model prog w) A (getAttr (.ref x) name expr) Q E s := by
  obtain ⟨od, J, hl⟩ := I.look
  exact PySem.W.get_value X J (PySem.W.plainGet_of hg).1 (PySem.W.findObj_own hh ha rfl (by rw [hl, hv])) hv' h

theorem get_const {expr : Bool} {a : Value} {Q : Value → Shared → Prop} (X : K.In s.heap) (I : ObjM s.heap x dx C mA) (hg : PySem.W.plainGet K C name = true) (hh : PySem.W.hasDictIn K C = true)
    (ha : PySem.W.findIn K (.ref C) name = some (some a)) (hn : PySem.W.specialIn K a "__get__" = some none) (hc : PySem.W.copiedNames.contains name = false) (hv : mA name = none) (hv' : PySem.W.handedIn a = true)
    (h : Q a { s with toks := s.toks + 1 }) : wpAny (model prog w) A (getAttr (.ref x) name expr) Q E s := by
  obtain ⟨od, J, hl⟩ := I.look
  exact PySem.W.get_value X J (PySem.W.plainGet_of hg).1 (PySem.W.findObj_cls hh ha hn hv' hc (by rw [hl, hv])) hv' h

theorem get_meth {pl : Sem Bool} {Q : Value × List Value → Shared → Prop} (X : K.In s.heap) (I : ObjM s.heap x dx C mA) (hg : PySem.W.plainGet K C name = true)
    (hf : PySem.W.findIn K (.ref C) name = some (some (.ref f))) (ht : PySem.W.isFn K (.ref f) = true) (hv : mA name = none) (h : Q (.ref f, [.ref x]) s) :
    wpAny (model prog w) A (getMethod (.ref x) name pl) Q E s := by
  obtain ⟨od, J, hl⟩ := I.look
  exact PySem.W.method_fn X J (PySem.W.plainGet_of hg).1 (PySem.W.plainGet_of hg).2 hf (beq_iff_eq.mp ht) (by show (PySem.W.lookIn name od).map (·.isSome) = some false; rw [hl, hv]; rfl) h

theorem set_map {ns : List Str} {Q : Unit → Shared → Prop} (X : K.In s.heap) (I : ObjM s.heap x dx C mA)
    (hs : PySem.W.findIn K (.ref C) "__setattr__" = some (some (.builtin "object.__setattr__"))) (hp : PySem.W.plainOver K C = true) (ht : PySem.W.takerIn K C name = some none) (hh : PySem.W.hasDictIn K C = true)
    (hw : PySem.Within mA ns) (hsz : ns.length ≤ sizeLine)
    (h : ∀ h', ObjM h' x dx C (fun y => if y = name then some v else mA y) → Heap.SameBut dx s.heap h' → Q () { s with heap := h', toks := s.toks + 2 }) :
    wpAny (model prog w) A (setAttr (.ref x) name v) Q E s := by
  obtain ⟨od, J, hl⟩ := I.look
  refine PySem.W.set_plain X J hs (PySem.W.osa_open (s := { s with toks := s.toks + 1 }) (r := none) X J hp ht fun b => ?_)
  obtain ⟨cd, hc, hd'⟩ := PySem.W.any_some hh
  have hx : s.heap.get? x = some ⟨.ref C, some dx, .plain, #[]⟩ := I.obj
  refine wpAny_bind (wpAny_pure (wpAny_bind (wpAny_bind (wpAny_loadPart hx (wpAny_bind (PySem.W.Looks.here (s := { s with toks := s.toks + 1 }) (PySem.W.looks_clsIn X hc) ?_))))))
  rw [hd']
  refine wpAny_pure (a := some dx) (wpAny_bind (wpAny_pure (wpAny_bind ?_)))
  refine wpAny_nsSet1 (s := { s with toks := s.toks + 1 }) I.ns fun h' hn2 hs2 => ?_
  obtain ⟨oD, esD, epD, hoD, hdD, hcD⟩ := hn2.count (PySem.Within.cons name v hw)
  refine wpAny_bind (wpAny_lookBehind hoD (by rw [hdD]; exact pastItsLine_dict (Nat.le_trans hcD (by rw [List.length_cons]; omega))) ?_)
  exact wpAny_pure (h _ ⟨(hs2.2 _ (Ne.symm I.ne)).trans I.obj, hn2, I.ne⟩ hs2)

/-- C(..): the dict at the heap's end, the instance behind it; then its __init__ -/
theorem make_map {R : Result → Shared → Prop} {vs : List Value} {kw : List (Str × Value)} (X : K.In s.heap) (hm : PySem.W.makesIn K C = true)
    (hi : PySem.W.findIn K (.ref C) "__init__" = some (some (.ref f))) (hf : PySem.W.typeIn K (.ref f) = some (.type "function"))
    (h : codeAny (model prog w) (A.under (.builtin "type.__call__" ⟨.ref C :: vs, kw⟩)) (.call (.ref f) ⟨.ref (s.heap.objs.size + 1) :: vs, kw⟩) (PySem.W.InitBack (s.heap.objs.size + 1) R)
      { s with heap := (s.heap.push PySem.W.emptyDict).push (PySem.W.instObj C s.heap.objs.size) }) :
    codeAny (model prog w) A (.call (.ref C) ⟨vs, kw⟩) R s := by
  obtain ⟨hh, g, d, t, os⟩ := s
  exact PySem.W.make_core (PySem.W.makes_of X hm) (PySem.W.looks_findIn X hi) (fun self => PySem.W.bind_fn X self hf) (.inl rfl) h
/-- C() where there is no __init__ but object's -/
theorem make_map0 {R : Result → Shared → Prop} (X : K.In s.heap) (hm : PySem.W.makesIn K C = true)
    (hi : PySem.W.findIn K (.ref C) "__init__" = some (some (.builtin "object.__init__")))
    (hb : ∀ self, PySem.W.Looks (model prog w) s.heap (bindSpecial (.builtin "object.__init__") self) (.builtin "object.__init__", [self]))
    (h : codeAny (model prog w) (A.under (.builtin "type.__call__" ⟨[.ref C], []⟩)) (.call (.builtin "object.__init__") ⟨[.ref (s.heap.objs.size + 1)], []⟩) (PySem.W.InitBack (s.heap.objs.size + 1) R)
      { s with heap := (s.heap.push PySem.W.emptyDict).push (PySem.W.instObj C s.heap.objs.size) }) :
    codeAny (model prog w) A (.call (.ref C) ⟨[], []⟩) R s := by
  obtain ⟨hh, g, d, t, os⟩ := s
  exact PySem.W.make_core (PySem.W.makes_of X hm) (PySem.W.looks_findIn X hi) hb (.inr ⟨rfl, rfl⟩) h
end

/-! ### the attributes as a list of pairs -/
def putF (f : Str) (v : V) : List (Str × V) → List (Str × V)
  | [] => [(f, v)]
  | (g, x) :: r => if g = f then (g, v) :: r else (g, x) :: putF f v r
theorem lookup_putF (f g : Str) (v : V) : ∀ fs : List (Str × V), (putF f v fs).lookup g = if g = f then some v else fs.lookup g
  | [] => by
    show List.lookup g [(f, v)] = _
    by_cases h : g = f
    · have hb : (g == f) = true := beq_iff_eq.mpr h
      simp only [List.lookup, hb, if_pos h]
    · have hb : (g == f) = false := beq_eq_false_iff_ne.mpr h
      simp only [List.lookup, hb, if_neg h]
  | (k, x) :: r => by
    have ih := lookup_putF f g v r
    rw [show putF f v ((k, x) :: r) = (if k = f then (k, v) :: r else (k, x) :: putF f v r) from rfl]
    by_cases hk : k = f
    · rw [if_pos hk]
      by_cases h : g = k
      · have hb : (g == k) = true := beq_iff_eq.mpr h
        simp only [List.lookup, hb, if_pos (h.trans hk)]
      · have hb : (g == k) = false := beq_eq_false_iff_ne.mpr h
        simp only [List.lookup, hb, if_neg (fun e : g = f => h (e.trans hk.symm))]
    · rw [if_neg hk]
      by_cases h : g = k
      · have hb : (g == k) = true := beq_iff_eq.mpr h
        simp only [List.lookup, hb, if_neg (fun e : g = f => hk (h.symm.trans e))]
      · have hb : (g == k) = false := beq_eq_false_iff_ne.mpr h
        simp only [List.lookup, hb]
        exact ih
theorem keys_putF (f : Str) (v : V) : ∀ fs : List (Str × V), f ∈ (putF f v fs).map (·.1) ∧ ∀ g, g ∈ fs.map (·.1) → g ∈ (putF f v fs).map (·.1)
  | [] => ⟨by simp [putF], fun g h => by simp at h⟩
  | (k, x) :: r => by
    obtain ⟨i1, i2⟩ := keys_putF f v r
    rw [show putF f v ((k, x) :: r) = (if k = f then (k, v) :: r else (k, x) :: putF f v r) from rfl]
    by_cases hk : k = f
    · rw [if_pos hk]
      subst hk
      exact ⟨by simp, fun g h => by simpa using h⟩
    · rw [if_neg hk]
      refine ⟨?_, fun g h => ?_⟩
      · rw [List.map_cons]
        exact List.mem_cons_of_mem _ i1
      · rw [List.map_cons] at h ⊢
        rcases List.mem_cons.mp h with e | e
        · exact List.mem_cons.mpr (.inl e)
        · exact List.mem_cons_of_mem _ (i2 g e)
theorem length_putF (f : Str) (v : V) : ∀ fs : List (Str × V), (putF f v fs).length ≤ fs.length + 1
  | [] => by simp [putF]
  | (k, x) :: r => by
    have ih := length_putF f v r
    rw [show putF f v ((k, x) :: r) = (if k = f then (k, v) :: r else (k, x) :: putF f v r) from rfl]
    by_cases hk : k = f
    · rw [if_pos hk, List.length_cons, List.length_cons]; omega
    · rw [if_neg hk, List.length_cons, List.length_cons]; omega

theorem RelO.some_of {v : V} {o : Option Value} (r : RelO (some v) o) : ∃ u, o = some u ∧ RelV v u := by
  cases o with
  | none => exact (show False from r).elim
  | some u => exact ⟨u, rfl, r⟩
theorem RelO.none_of {o : Option Value} (r : RelO none o) : o = none := by
  cases o with
  | none => rfl
  | some u => exact (show False from r).elim
theorem handed_of {v : V} {u : Value} (r : RelV v u) : PySem.W.handedIn u = true := by
  cases v with
  | non => cases (show u = Value.none from r); rfl
  | bl b => cases (show u = Value.bool b from r); rfl
  | int i => obtain ⟨t, e⟩ := (show ∃ t, u = Value.int i t from r); cases e; rfl
  | str x => obtain ⟨t, e⟩ := (show ∃ t, u = Value.str x t from r); cases e; rfl
  | byt b => obtain ⟨t, e⟩ := (show ∃ t, u = Value.bytes b t from r); cases e; rfl
  | flt b => obtain ⟨t, e⟩ := (show ∃ t, u = Value.float b t from r); cases e; rfl
  | ref a => cases (show u = Value.ref a from r); rfl
  | ty n => cases (show u = Value.type n from r); rfl

section
variable {P : Program} {w : World} {H H' : Hp} {h h' : Heap} {a C dx : Addr} {fs fs' : List (Str × V)}
theorem ins_get (hok : HOk P w H h) (e : H a = some (.ins C dx fs)) : ∃ mA, ObjM h a dx C mA ∧ (∀ f, RelO (fs.lookup f) (mA f)) ∧ PySem.Within mA (fs.map (·.1)) ∧ fs.length ≤ 1000 ∧ H dx = some (.own a) := by
  obtain ⟨d, z, ne, ob, mA, n, r, q⟩ := (show ObjOk P w H h a (.ins C dx fs) from hok a _ e)
  exact ⟨mA, ⟨ob, n, ne⟩, r, q, z, d⟩
end

/-! ### what of the text a class must have -/
structure Cls (K : PySem.W.Frag) (C : Addr) : Prop where
  pg : PySem.W.plainGet K C Str.empty = true
  hd : PySem.W.hasDictIn K C = true
  po : PySem.W.plainOver K C = true
  sa : PySem.W.findIn K (.ref C) "__setattr__" = some (some (.builtin "object.__setattr__"))
theorem Cls.get {K : PySem.W.Frag} {C : Addr} (c : Cls K C) (f : Str) : PySem.W.plainGet K C f = true := c.pg
/-- no class of it has the name -/
def NoAttr (K : PySem.W.Frag) (C : Addr) (f : Str) : Prop := PySem.W.findIn K (.ref C) f = some none
theorem NoAttr.taker {K : PySem.W.Frag} {C : Addr} {f : Str} (n : NoAttr K C f) : PySem.W.takerIn K C f = some none := by
  unfold PySem.W.takerIn
  rw [show PySem.W.findIn K (.ref C) f = some none from n]
  rfl
/-- a constant of the class -/
structure Con (K : PySem.W.Frag) (C : Addr) (f : Str) (v : V) (u : Value) : Prop where
  at_ : PySem.W.findIn K (.ref C) f = some (some u)
  rel : RelV v u
  get : PySem.W.specialIn K u "__get__" = some none
  cp : PySem.W.copiedNames.contains f = false
/-- a method: a plain def of the class or of one above it -/
structure Meth (K : PySem.W.Frag) (C : Addr) (m : Str) (f : Addr) : Prop where
  at_ : PySem.W.findIn K (.ref C) m = some (some (.ref f))
  fn : PySem.W.isFn K (.ref f) = true
  kp : PySem.W.keepIn K (.ref f) = true

section
variable {X : Cx} {pins : List (Addr × Obj)} {σ : St} {H : Hp} {s : Shared} {a C dx : Addr} {fs : List (Str × V)} {f : Str} {v : V} {A : Around} {E : Value → Shared → Prop}

theorem getattr_ok {b : Bool} {Q : Value → Shared → Prop} (I : Inv X pins σ H s) (e : H a = some (.ins C dx fs)) (c : Cls X.K C) (n : NoAttr X.K C f) (l : fs.lookup f = some v)
    (h : ∀ u s', Inv X pins σ H s' → RelV v u → Q u s') : wpAny (model X.prog X.w) A (getAttr (.ref a) f b) Q E s := by
  obtain ⟨mA, O, r, _, _, _⟩ := ins_get I.hok e
  obtain ⟨u, hu, ru⟩ := RelO.some_of (v := v) (o := mA f) (by rw [← l]; exact r f)
  exact get_map I.kIn O (c.get f) c.hd n hu (handed_of ru) (h u _ (I.tok _) ru)

theorem getcon_ok {b : Bool} {u : Value} {Q : Value → Shared → Prop} (I : Inv X pins σ H s) (e : H a = some (.ins C dx fs)) (c : Cls X.K C) (k : Con X.K C f v u) (l : fs.lookup f = none)
    (h : ∀ s', Inv X pins σ H s' → Q u s') : wpAny (model X.prog X.w) A (getAttr (.ref a) f b) Q E s := by
  obtain ⟨mA, O, r, _, _, _⟩ := ins_get I.hok e
  have hn : mA f = none := RelO.none_of (by rw [← l]; exact r f)
  exact get_const I.kIn O (c.get f) c.hd k.at_ k.get k.cp hn (handed_of k.rel) (h _ (I.tok _))

theorem getmeth_ok {m : Str} {g : Addr} {pl : Sem Bool} {Q : Value × List Value → Shared → Prop} (I : Inv X pins σ H s) (e : H a = some (.ins C dx fs)) (c : Cls X.K C) (k : Meth X.K C m g) (l : fs.lookup m = none)
    (h : Q (.ref g, [.ref a]) s) : wpAny (model X.prog X.w) A (getMethod (.ref a) m pl) Q E s := by
  obtain ⟨mA, O, r, _, _, _⟩ := ins_get I.hok e
  have hn : mA m = none := RelO.none_of (by rw [← l]; exact r m)
  exact get_meth I.kIn O (c.get m) k.at_ k.fn hn h

theorem setattr_ok {y : V} {u : Value} {Q : Unit → Shared → Prop} (I : Inv X pins σ H s) (e : H a = some (.ins C dx fs)) (c : Cls X.K C) (n : NoAttr X.K C f) (hl : fs.length < 1000) (ry : RelV y u)
    (h : ∀ s', Inv X pins σ (upd H a (.ins C dx (putF f y fs))) s' → Q () s') : wpAny (model X.prog X.w) A (setAttr (.ref a) f u) Q E s := by
  obtain ⟨mA, O, r, wi, _, ho⟩ := ins_get I.hok e
  have hz : (fs.map (·.1)).length ≤ sizeLine := by rw [List.length_map, sizeLine_eq]; omega
  refine set_map I.kIn O c.sa c.po n.taker c.hd wi hz fun h' O' sb => h _ ?_
  have hd : ∃ o, h'.get? dx = some o := let ⟨o, _, _, e', _⟩ := O'.ns; ⟨o, e'⟩
  refine I.write (x := a) (e := dx) (by rw [e]; exact True.intro) (.inr ho) (fun b q hb z => (sb.2 b hb).trans z) hd ?_
  refine ⟨by rw [upd_ne O.ne]; exact ho, ?_, O.ne, O'.obj, _, O'.ns, fun g => ?_, fun g hg => ?_⟩
  · have := length_putF f y fs; omega
  · show RelO ((putF f y fs).lookup g) (if g = f then some u else mA g)
    rw [lookup_putF]
    by_cases q : g = f
    · rw [if_pos q, if_pos q]; exact ry
    · rw [if_neg q, if_neg q]; exact r g
  · by_cases q : g = f
    · rw [q]; exact (keys_putF f y fs).1
    · refine (keys_putF f y fs).2 g (wi g fun z => hg ?_)
      show (if g = f then some u else mA g) = none
      rw [if_neg q]; exact z

/-- a new instance, tracked, without attributes -/
theorem Inv.made (I : Inv X pins σ H s) : Inv X pins σ (upd (upd H s.heap.objs.size (.own (s.heap.objs.size + 1))) (s.heap.objs.size + 1) (.ins C s.heap.objs.size []))
    { s with heap := (s.heap.push PySem.W.emptyDict).push (PySem.W.instObj C s.heap.objs.size) } := by
  have e1 : (s.heap.push PySem.W.emptyDict).get? s.heap.objs.size = some PySem.W.emptyDict := Heap.get?_push_size s.heap rfl
  have e2 : ((s.heap.push PySem.W.emptyDict).push (PySem.W.instObj C s.heap.objs.size)).get? (s.heap.objs.size + 1) = some (PySem.W.instObj C s.heap.objs.size) := by
    have := Heap.get?_push_size (s.heap.push PySem.W.emptyDict) (o := PySem.W.instObj C s.heap.objs.size) rfl
    rwa [Heap.size_push] at this
  have e3 : (s.heap.push PySem.W.emptyDict).Ns s.heap.objs.size (fun _ => none) := ⟨PySem.W.emptyDict, #[], _, e1, rfl, (fun e he => absurd he (by simp)), fun _ => rfl⟩
  have I1 := I.laid (a := s.heap.objs.size) (o := .own (s.heap.objs.size + 1)) (h' := s.heap.push PySem.W.emptyDict) (t' := s.toks) (fun b u q => Heap.get?_push_of_some _ q) (Nat.le_refl _) ⟨_, e1⟩
  refine I1.laid (a := s.heap.objs.size + 1) (o := .ins C s.heap.objs.size []) (t' := s.toks) (fun b u q => Heap.get?_push_of_some _ q) (Nat.le_of_eq (Heap.size_push _ _)) ?_
  have ne : s.heap.objs.size ≠ s.heap.objs.size + 1 := Nat.ne_of_lt (Nat.lt_succ_self _)
  refine ⟨by rw [upd_ne ne, upd_same], Nat.zero_le _, ne, e2, fun _ => none, (Heap.Ns1.of_empty e3).at fun o q => Heap.get?_push_of_some _ q, fun _ => True.intro, fun y hy => absurd rfl hy⟩

/-- e.f where nothing but the object is asked: through attributeBase (super) and the last hold -/
theorem attr_of {prog : Program} {w : World} {env : Env} {e : Expr} {f : Str} {pos : Pos} {s : Shared} {Q : Value → Shared → Prop} (hb : attributeBase e f env (eval e env) = eval e env)
    (h : wpAny (model prog w) A (eval e env) (fun o s₁ => wpAny (model prog w) A (getAttr o f true) Q E s₁) E s) : wpAny (model prog w) A (eval (.Attribute e f pos) env) Q E s :=
  Attribute_any_ h (by rw [arm_eval_Attribute, hb])
end

/-! ### readings and rules -/
/-- e.f, an attribute of the instance -/
def tFld (K : PySem.W.Frag) (ta : TE) (f : Str) : TE := fun σ H Q => ta σ H fun x H1 => ∃ a C dx fs v, x = .ref a ∧ H1 a = some (.ins C dx fs) ∧ Cls K C ∧ NoAttr K C f ∧ fs.lookup f = some v ∧ Q v H1
/-- e.f, a constant of the class -/
def tCon (K : PySem.W.Frag) (ta : TE) (f : Str) : TE := fun σ H Q => ta σ H fun x H1 => ∃ a C dx fs v u, x = .ref a ∧ H1 a = some (.ins C dx fs) ∧ Cls K C ∧ Con K C f v u ∧ fs.lookup f = none ∧ Q v H1
/-- e.f = value -/
def sFld (K : PySem.W.Frag) (ta tv : TE) (f : Str) : TS := fun D σ H => tv σ H fun y H1 => ta σ H1 fun x H2 => ∃ a C dx fs, x = .ref a ∧ H2 a = some (.ins C dx fs) ∧ Cls K C ∧ NoAttr K C f ∧ fs.length < 1000 ∧
  D.nx σ (upd H2 a (.ins C dx (putF f y fs)))
/-- an augmented operator on two values -/
def InOp (X : Cx) (op : Operator) (rd : V → V → Hp → VK → Prop) : Prop :=
  ∀ (pins : List (Addr × Obj)) (s : Shared) (σ : St) (H : Hp) (x y : V) (u v : Value) (Q : VK), Inv X pins σ H s → RelV x u → RelV y v → rd x y H Q → wpAny (model X.prog X.w) X.A (inplaceOp op u v) (EP X pins σ Q) X.xe s
/-- e.f op= value -/
def sFldAug (K : PySem.W.Frag) (ta tv : TE) (rd : V → V → Hp → VK → Prop) (f : Str) : TS := fun D σ H => ta σ H fun x H1 => ∃ a C dx fs v, x = .ref a ∧ H1 a = some (.ins C dx fs) ∧ Cls K C ∧ NoAttr K C f ∧ fs.lookup f = some v ∧
  tv σ H1 fun y H2 => rd v y H2 fun z H3 => ∃ dx' fs', H3 a = some (.ins C dx' fs') ∧ fs'.length < 1000 ∧ D.nx σ (upd H3 a (.ins C dx' (putF f z fs')))

section
variable {X : Cx} {o e value : Expr} {f : Str} {pos pos' tpos : Pos} {ta tv : TE}
theorem pe_fld (he : PE X e ta) (hb : attributeBase e f X.env (eval e X.env) = eval e X.env) : PE X (.Attribute e f pos) (tFld X.K ta f) := by
  intro pins s σ H Q I h
  refine attr_of hb (thn (he pins s σ H _ I h) fun u s1 ⟨x, H1, I1, rx, a, C, dx, fs, v, ex, ea, c, n, l, q⟩ => ?_)
  subst ex
  obtain rfl : u = Value.ref a := rx
  exact getattr_ok I1 ea c n l fun u' s2 I2 ru => ⟨v, H1, I2, ru, q⟩
theorem pe_con (he : PE X e ta) (hb : attributeBase e f X.env (eval e X.env) = eval e X.env) : PE X (.Attribute e f pos) (tCon X.K ta f) := by
  intro pins s σ H Q I h
  refine attr_of hb (thn (he pins s σ H _ I h) fun u s1 ⟨x, H1, I1, rx, a, C, dx, fs, v, u0, ex, ea, c, k, l, q⟩ => ?_)
  subst ex
  obtain rfl : u = Value.ref a := rx
  exact getcon_ok I1 ea c k l fun s2 I2 => ⟨v, H1, I2, k.rel, q⟩
theorem ps_fld (ha : PE X o ta) (hv : PE X value tv) (hs : swapsWith value (some (.Attribute o f pos')) pos.line X.env = pure false) : PS X (.Assign [.Attribute o f pos'] value pos) (sFld X.K ta tv f) := by
  intro pins s σ H D I h
  refine plainObj_wpAny_Assign_Attribute (thn (hv pins s σ H _ I h) fun u s1 ⟨y, H1, I1, ry, q⟩ => thn (ha pins s1 σ H1 _ I1 q) fun ov s2 ⟨x, H2, I2, rx, a, C, dx, fs, ex, ea, c, n, l, q2⟩ => ?_) hs
  subst ex
  obtain rfl : ov = Value.ref a := rx
  exact setattr_ok I2 ea c n l ry fun s3 I3 => ⟨σ, _, I3, q2⟩
theorem ps_fldaug {op : Operator} {rd : V → V → Hp → VK → Prop} (ha : PE X o ta) (hv : PE X value tv) (hop : InOp X op rd) : PS X (.AugAssign (.Attribute o f tpos) op value pos) (sFldAug X.K ta tv rd f) := by
  intro pins s σ H D I h
  refine wpAny_AugAssign_AttributeAny (thn (ha pins s σ H _ I h) fun ov s1 ⟨x, H1, I1, rx, a, C, dx, fs, v, ex, ea, c, n, l, q⟩ => ?_)
  subst ex
  obtain rfl : ov = Value.ref a := rx
  refine getattr_ok I1 ea c n l fun u s2 I2 ru => thn (hv pins s2 σ H1 _ I2 q) fun w3 s3 ⟨y, H2, I3, ry, q3⟩ => thn (hop pins s3 σ H2 v y u w3 _ I3 ru ry q3) fun w4 s4 ⟨z, H3, I4, rz, dx', fs', ea', l', q4⟩ => ?_
  exact setattr_ok I4 ea' c n l' rz fun s5 I5 => ⟨σ, _, I5, q4⟩
def rAdd : V → V → Hp → VK → Prop := fun x y H Q => ∃ i j, x = .int i ∧ y = .int j ∧ Q (.int (i + j)) H
def rSub : V → V → Hp → VK → Prop := fun x y H Q => ∃ i j, x = .int i ∧ y = .int j ∧ Q (.int (i - j)) H
theorem in_add : InOp X .Add rAdd := by
  rintro pins s σ H x y u v Q I rx ry ⟨i, j, rfl, rfl, q⟩
  obtain ⟨t, rfl⟩ := (show ∃ t, u = Value.int i t from rx)
  obtain ⟨t', rfl⟩ := (show ∃ t', v = Value.int j t' from ry)
  exact PyProof.Rows.iadd_int ⟨.int (i + j), H, I.tok _, ⟨_, rfl⟩, q⟩
theorem in_sub : InOp X .Sub rSub := by
  rintro pins s σ H x y u v Q I rx ry ⟨i, j, rfl, rfl, q⟩
  obtain ⟨t, rfl⟩ := (show ∃ t, u = Value.int i t from rx)
  obtain ⟨t', rfl⟩ := (show ∃ t', v = Value.int j t' from ry)
  exact PyProof.Rows.isub_int ⟨.int (i - j), H, I.tok _, ⟨_, rfl⟩, q⟩

/-- what is between an instance and its method: the tree of a method call -/
theorem methcall_of {pl : Sem Bool} {m : Str} {apos : Pos} {args : List Expr} {pins : List (Addr × Obj)} {s : Shared} {σ : St} {H : Hp} {Q : Value → Shared → Prop} {te : TE} (he : PE X e te) (I : Inv X pins σ H s)
    (h : te σ H fun x H1 => ∃ a C dx fs g, x = .ref a ∧ H1 a = some (.ins C dx fs) ∧ Cls X.K C ∧ Meth X.K C m g ∧ fs.lookup m = none ∧
      ∀ s1, Inv X pins σ H1 s1 → wpAny (model X.prog X.w) X.A (callWith pos (.ref g) [.ref a] (backTo pos (starEach args X.env)) (backToKw pos (keywordEach [] X.env))) Q X.xe s1)
    (ht : eval (.Call (.Attribute e m apos) args [] pos) X.env = (do
      let ov ← eval e X.env
      standAt apos.atName
      let (f, first) ← holding [ov] (getMethod ov m pl)
      callWith pos f first (backTo pos (starEach args X.env)) (backToKw pos (keywordEach [] X.env)))) :
    wpAny (model X.prog X.w) X.A (eval (.Call (.Attribute e m apos) args [] pos) X.env) Q X.xe s := by
  refine PySem.W.methodCall_KW (pl := pl) (thn (he pins s σ H _ I h) fun u s1 ⟨x, H1, I1, rx, a, C, dx, fs, g, ex, ea, c, k, l, q⟩ => ?_) ht
  subst ex
  obtain rfl : u = Value.ref a := rx
  exact getmeth_ok I1 ea c k l (q s1 I1)
end

/-! ### isinstance -/
section
variable {X : Cx} {pins : List (Addr × Obj)} {σ : St} {H : Hp} {s : Shared} {A : Around} {E : Value → Shared → Prop} {Q : Value → Shared → Prop} {c : Value} {b : Bool}
/-- the type of a value, as the fragment's deciders take it; for an instance its class -/
inductive TyOf (K : PySem.W.Frag) (H : Hp) : V → Value → Prop where
  | non : TyOf K H .non (.type "NoneType")
  | bl (x : Bool) : TyOf K H (.bl x) (.type "bool")
  | int (i : Int) : TyOf K H (.int i) (.type "int")
  | str (x : Str) : TyOf K H (.str x) (.type "str")
  | flt (x : UInt64) : TyOf K H (.flt x) (.type "float")
  | lst {a : Addr} {xs : List V} (e : H a = some (.lst xs)) : TyOf K H (.ref a) (.type "list")
  | frz {a : Addr} {o : Obj} {xs : List V} (e : H a = some (.frz o (.lst xs))) : TyOf K H (.ref a) (.type "list")
  | tup {a : Addr} {xs : List V} (e : H a = some (.tup xs)) : TyOf K H (.ref a) (.type "tuple")
  | dK {a : Addr} {kvs : List (Key × V)} (e : H a = some (.dK kvs)) : TyOf K H (.ref a) (.type "dict")
  | dT {a : Addr} {kvs : List (List Key × V)} (e : H a = some (.dT kvs)) : TyOf K H (.ref a) (.type "dict")
  | ins {a C dx : Addr} {fs : List (Str × V)} (e : H a = some (.ins C dx fs)) (cl : Cls K C) (ha : PySem.W.findIn K (.ref C) "__class__" = some (some (.builtin "object.__class__")))
      (hn : PySem.W.specialIn K (.builtin "object.__class__") "__get__" = some (some (.builtin "getset_descriptor.__get__"))) (htk : PySem.W.takesIn K (.builtin "object.__class__") = some true)
      (hm : PySem.W.mroIn K C (.type "object") = some true) : TyOf K H (.ref a) (.ref C)
/-- isinstance(x, c) for one class c, a built-in or an own one: kitOne's answer -/
theorem isinst_ok {x : V} {u t : Value} (I : Inv X pins σ H s) (rx : RelV x u) (ty : TyOf X.K H x t) (e : PySem.W.kitOne X.K t c = some b) (h : ∀ tk, Q (.bool b) { s with toks := tk }) :
    wpAny (model X.prog X.w) A (call (.builtin "isinstance") [u, c]) Q E s := by
  cases ty with
  | non => cases (show u = Value.none from rx); exact PySem.W.kia_one PySem.W.kitx_none I.kIn True.intro e (fun z => nomatch z) h
  | bl y => cases (show u = Value.bool y from rx); exact PySem.W.kia_one PySem.W.kitx_bool I.kIn True.intro e (fun z => nomatch z) h
  | int i => obtain ⟨t, q⟩ := (show ∃ t, u = Value.int i t from rx); cases q; exact PySem.W.kia_one PySem.W.kitx_int I.kIn True.intro e (fun z => nomatch z) h
  | str y => obtain ⟨t, q⟩ := (show ∃ t, u = Value.str y t from rx); cases q; exact PySem.W.kia_one PySem.W.kitx_str I.kIn True.intro e (fun z => nomatch z) h
  | flt y => obtain ⟨t, q⟩ := (show ∃ t, u = Value.float y t from rx); cases q; exact PySem.W.kia_one PySem.W.kitx_float I.kIn True.intro e (fun z => nomatch z) h
  | @lst a xs ea =>
    cases (show u = Value.ref a from rx)
    obtain ⟨_, _, n, _, h1⟩ := (show ObjOk X.prog X.w H s.heap a (.lst xs) from I.hok a _ ea)
    exact PySem.W.kia_one PySem.W.kitx_list I.kIn ⟨_, h1, rfl⟩ e (fun z => nomatch z) h
  | @frz a ob xs ea =>
    cases (show u = Value.ref a from rx)
    obtain ⟨_, _, _, n, _, h1⟩ := (show ObjOk X.prog X.w H s.heap a (.frz ob (.lst xs)) from I.hok a _ ea)
    exact PySem.W.kia_one PySem.W.kitx_list I.kIn ⟨_, h1, rfl⟩ e (fun z => nomatch z) h
  | @tup a xs ea =>
    cases (show u = Value.ref a from rx)
    obtain ⟨_, _, _, p⟩ := (show ObjOk X.prog X.w H s.heap a (.tup xs) from I.hok a _ ea)
    obtain ⟨o, h1, h2, _⟩ := p
    exact PySem.W.kia_one PySem.W.kitx_tuple I.kIn ⟨o, h1, h2⟩ e (fun z => nomatch z) h
  | @dK a kvs ea =>
    cases (show u = Value.ref a from rx)
    obtain ⟨_, _, vs, _, p⟩ := (show ObjOk X.prog X.w H s.heap a (.dK kvs) from I.hok a _ ea)
    obtain ⟨o, es, ep, h1, h2, _⟩ := p
    exact PySem.W.kia_one PySem.W.kitx_dict I.kIn ⟨o, h1, h2.1⟩ e (fun z => nomatch z) h
  | @dT a kvs ea =>
    cases (show u = Value.ref a from rx)
    obtain ⟨_, _, xs, _, o, es, ep, h1, h2, _⟩ := (show ObjOk X.prog X.w H s.heap a (.dT kvs) from I.hok a _ ea)
    exact PySem.W.kia_one PySem.W.kitx_dict I.kIn ⟨o, h1, h2.1⟩ e (fun z => nomatch z) h
  | @ins a C dx fs ea cl ha hn htk hm =>
    cases (show u = Value.ref a from rx)
    obtain ⟨mA, O, _⟩ := ins_get I.hok ea
    obtain ⟨od, J, _⟩ := O.look
    exact PySem.W.kia_one (PySem.W.kitx_own (cl.get _) cl.hd ha hn htk hm) I.kIn J e (fun z => nomatch z) h
end
end L2

namespace L2
open PySem PySem.Spec PyProof.Rows

/-! ### room -/
structure Room (k : Nat) (A : Around) : Prop where
  hd : A.handled = none
  dp : A.depth + 3 * k + 5 < recursionLimit
  un : A.units + 16 * k + 200 < cLine
theorem Room.mono {j k : Nat} {A : Around} (r : Room k A) (h : j ≤ k) : Room j A := ⟨r.hd, by have := r.dp; omega, by have := r.un; omega⟩
theorem Room.deeper {k : Nat} {A : Around} (r : Room (k + 1) A) (env : Env) : Room k (A.deeper env) :=
  ⟨r.hd, by have := r.dp; show A.depth + 1 + 3 * k + 5 < _; omega, by have := r.un; show A.units + 3 + 16 * k + 200 < _; omega⟩
theorem Room.in1 {k : Nat} {A : Around} (r : Room (k + 1) A) : Room k A.in1 :=
  ⟨r.hd, by have := r.dp; show A.depth + 3 * k + 5 < _; omega, by have := r.un; show A.units + 1 + 16 * k + 200 < _; omega⟩
theorem make_depth {A : Around} {C : Addr} {us : List Value} {kw : List (Str × Value)} : (A.under (.builtin "type.__call__" ⟨.ref C :: us, kw⟩)).depth = A.depth + 1 := by
  first | rfl | simp [Around.under, Code.weight, Code.isCreation, Code.isGuard, Code.isCaller, Code.frames, Code.isFrame, guardIds]
theorem make_units {A : Around} {C : Addr} {us : List Value} {kw : List (Str × Value)} : (A.under (.builtin "type.__call__" ⟨.ref C :: us, kw⟩)).units = A.units + 1 := by
  first | rfl | simp [Around.under, Code.cUnits, Code.frames, Code.isFrame]
theorem Room.make {k : Nat} {A : Around} (r : Room (k + 1) A) (C : Addr) (us : List Value) (kw : List (Str × Value)) : Room k (A.under (.builtin "type.__call__" ⟨.ref C :: us, kw⟩)) :=
  ⟨r.hd, by have := r.dp; rw [make_depth]; omega, by have := r.un; rw [make_units]; omega⟩
theorem Room.depth {k : Nat} {A : Around} (r : Room k A) : A.depth < recursionLimit := by have := r.dp; omega
theorem Room.units {k : Nat} {A : Around} (r : Room k A) : A.units + 64 < cLine := by have := r.un; omega
theorem Room.units0 {k : Nat} {A : Around} (r : Room k A) : A.units < cLine := by have := r.un; omega

/-! ### argument lists and displays -/
def tNil : TA := fun _ H Q => Q [] H
def tCons (ta : TE) (tr : TA) : TA := fun σ H Q => ta σ H fun x H1 => tr σ H1 fun xs H2 => Q (x :: xs) H2
section
variable {X : Cx} {e : Expr} {es : List Expr} {te : TE} {t : TA} {pos : Pos}
theorem pa_nil : PA X [] tNil := fun _ _ _ _ H Q I h => Calls.spliced_nil ⟨[], H, I, .nil, h⟩
theorem pa_cons (ha : PE X e te) (hr : PA X es t) (hs : starEach (e :: es) X.env = (false, eval e X.env) :: starEach es X.env := by rfl) : PA X (e :: es) (tCons te t) := by
  intro pos pins s σ H Q I h
  rw [hs]
  show wpAny _ _ (spliced ((false, eval e X.env) :: backTo pos (starEach es X.env))) _ _ s
  refine Calls.spliced_cons (thn (ha pins s σ H _ I h) fun u s1 ⟨x, H1, I1, r1, q1⟩ => ?_)
  exact thn (hr pos pins s1 σ H1 _ I1 q1) fun us s2 ⟨xs, H2, I2, r2, q2⟩ => ⟨x :: xs, H2, I2, .cons r1 r2, q2⟩

/-- a tuple, a list of written items -/
def tTup (t : TA) : TE := fun σ H Q => t σ H fun xs H1 => xs.length ≤ sizeLine ∧ ∀ p, H1 p = none → Q (.ref p) (upd H1 p (.tup xs))
def tLst (t : TA) : TE := fun σ H Q => t σ H fun xs H1 => xs.length ≤ sizeLine ∧ ∀ p, H1 p = none → Q (.ref p) (upd H1 p (.lst xs))
theorem pe_tup {x1} (h : PA X es t) : PE X (.Tuple es x1 pos) (tTup t) := by
  intro pins s σ H Q I hq
  refine wpAny_Tuple_spliced (thn (h pos pins s σ H _ I hq) fun us s1 ⟨xs, H1, I1, r, z, q⟩ => ⟨by rw [← r.length]; exact z, ?_⟩)
  have hf : H1 s1.heap.objs.size = none := I1.hok.fresh (Nat.le_refl _)
  refine ⟨.ref s1.heap.objs.size, upd H1 s1.heap.objs.size (.tup xs), I1.laid (t' := s1.toks) (fun b u e => Heap.get?_push_of_some _ e) (Nat.le_refl _) ?_, rfl, q _ hf⟩
  exact ⟨z, us, r, ⟨_, Heap.get?_push_size _ rfl, rfl, _, rfl⟩⟩
theorem pe_lst (h : PA X es t) : PE X (.List es pos) (tLst t) := by
  intro pins s σ H Q I hq
  refine wpAny_List_spliced (thn (h pos pins s σ H _ I hq) fun us s1 ⟨xs, H1, I1, r, z, q⟩ => ⟨by rw [← r.length]; exact z, ?_⟩)
  have hf : H1 s1.heap.objs.size = none := I1.hok.fresh (Nat.le_refl _)
  refine ⟨.ref s1.heap.objs.size, upd H1 s1.heap.objs.size (.lst xs), I1.laid (t' := s1.toks) (fun b u e => Heap.get?_push_of_some _ e) (Nat.le_refl _) ?_, rfl, q _ hf⟩
  exact ⟨z, us, 0, r, Heap.get?_push_size _ rfl⟩
end

/-! ### what a def promises -/
/-- a def's promise: the bound arguments in the parameters' order, the heap, the wanted end, the wanted exception -/
abbrev Sp := List V → Hp → VK → XK → Prop
/-- how an exception lies behind a call (file 08 gives it): the callers' frames, abstract heap and state ahead of the call, the wish, the exception, the state -/
abbrev CXT := List Env → Hp → Shared → XK → Value → Shared → Prop

/-- the state at a call -/
structure Env0 (P : Program) (w : World) (K : PySem.W.Frag) (mg : Str → Option Value) (base : Heap) (A : Around) (outer : List Env) (s : Shared) (H : Hp) : Prop where
  frames : A.frames = some outer
  mod : Mod K mg base
  bs : ∀ b o, base.get? b = some o → s.heap.get? b = some o ∧ H b = none
  bsz : base.objs.size ≤ s.heap.objs.size
  funs : s.heap.FunFrames base outer
  frf : ∀ b ∈ frs outer, H b = none
  hok : HOk P w H s.heap
  bare : AllBare s.gens
/-- a call's end -/
def CE (outer : List Env) (P : Program) (w : World) (H : Hp) (s : Shared) (Q : VK) (u : Value) (s' : Shared) : Prop :=
  ∃ v H', s'.os = s.os ∧ AllBare s'.gens ∧ Un (frs outer) [] H H' s.heap s'.heap ∧ HOk P w H' s'.heap ∧ RelV v u ∧ Q v H'
def CR (CX : CXT) (outer : List Env) (P : Program) (w : World) (H : Hp) (s : Shared) (Q : VK) (E : XK) (r : Result) (s' : Shared) : Prop :=
  match r with
  | .ok (.ret u) => CE outer P w H s Q u s'
  | .ok _ => False
  | .error e => CX outer H s E e s'
structure FnOk (P : Program) (w : World) (K : PySem.W.Frag) (mg : Str → Option Value) (base : Heap) (CX : CXT) (k : Nat) (f : Addr) (fd : FuncData) (ps : List Str) (sp : Sp) : Prop where
  len : ∀ vs H Q E, sp vs H Q E → vs.length = ps.length
  run : ∀ (A : Around) (outer : List Env) (s : Shared) (H : Hp) (args : Args) (us : List Value) (vs : List V) (Q : VK) (E : XK), Room k A → Env0 P w K mg base A outer s H → BindsTo s fd args (ps.zip us) → Vals vs us → sp vs H Q E →
    codeAny (model P w) A (.call (.ref f) args) (CR CX outer P w H s Q E) s
theorem FnOk.mono {P : Program} {w : World} {K : PySem.W.Frag} {mg : Str → Option Value} {base : Heap} {CX : CXT} {j k : Nat} {f : Addr} {fd : FuncData} {ps : List Str} {sp : Sp} (F : FnOk P w K mg base CX j f fd ps sp) (h : j ≤ k) :
    FnOk P w K mg base CX k f fd ps sp := ⟨F.len, fun A outer s H args us vs Q E hr => F.run A outer s H args us vs Q E (hr.mono h)⟩
/-- a weaker promise -/
theorem FnOk.imp {P : Program} {w : World} {K : PySem.W.Frag} {mg : Str → Option Value} {base : Heap} {CX : CXT} {k : Nat} {f : Addr} {fd : FuncData} {ps : List Str} {sp sp' : Sp} (F : FnOk P w K mg base CX k f fd ps sp)
    (h : ∀ vs H Q E, sp' vs H Q E → sp vs H Q E) : FnOk P w K mg base CX k f fd ps sp' :=
  ⟨fun vs H Q E q => F.len vs H Q E (h _ _ _ _ q), fun A outer s H args us vs Q E hr he hb hv hs => F.run A outer s H args us vs Q E hr he hb hv (h _ _ _ _ hs)⟩

theorem Env0.make {P : Program} {w : World} {K : PySem.W.Frag} {mg : Str → Option Value} {base : Heap} {A : Around} {outer : List Env} {s : Shared} {H : Hp} (e : Env0 P w K mg base A outer s H) (C : Addr) (us : List Value) (kw : List (Str × Value)) :
    Env0 P w K mg base (A.under (.builtin "type.__call__" ⟨.ref C :: us, kw⟩)) outer s H := ⟨by first | exact e.frames | (simpa [Around.under, Code.envs, Code.isFrame, pushEnvs] using e.frames), e.mod, e.bs, e.bsz, e.funs, e.frf, e.hok, e.bare⟩
theorem Env0.in1 {P : Program} {w : World} {K : PySem.W.Frag} {mg : Str → Option Value} {base : Heap} {A : Around} {outer : List Env} {s : Shared} {H : Hp} (e : Env0 P w K mg base A outer s H) :
    Env0 P w K mg base A.in1 outer s H := ⟨e.frames, e.mod, e.bs, e.bsz, e.funs, e.frf, e.hok, e.bare⟩

section
variable {X : Cx} {pins : List (Addr × Obj)} {σ : St} {H : Hp} {s s' : Shared}
/-- from a body: what a callee wants -/
theorem Inv.env0 (I : Inv X pins σ H s) : Env0 X.prog X.w X.K X.mg X.base X.A X.stack s H :=
  ⟨I.ok.frames, I.ok.mod, I.bs, Nat.le_trans I.ok.bsz I.sz, I.stack, I.stkFree, I.hok, I.bare⟩
/-- behind a call -/
theorem Inv.after {Q : VK} {u : Value} (I : Inv X pins σ H s) (h : CE X.stack X.prog X.w H s Q u s') : EP X pins σ Q u s' := by
  obtain ⟨v, H', os, bare, un, hok, r, q⟩ := h
  obtain ⟨hh, g, d, t, os'⟩ := s'
  obtain rfl : os' = s.os := os
  exact ⟨v, H', I.call (h' := hh) (g' := g) (d' := d) (t' := t) (ch := []) un hok bare (fun b z => absurd z (by simp)), r, q⟩
end

/-! ### calls -/
/-- f(..): the written arguments, then the defaults dvs; E: what is wanted of an exception -/
def tCall (sp : Sp) (dvs : List V) (E : XK) (t : TA) : TE := fun σ H Q => t σ H fun vs H1 => sp (vs ++ dvs) H1 Q E
/-- o.m(..) of an instance of the class at C -/
def tMeth (C : Addr) (m : Str) (sp : Sp) (dvs : List V) (E : XK) (ta : TE) (t : TA) : TE := fun σ H Q => ta σ H fun x H1 => ∃ a dx fs, x = .ref a ∧ H1 a = some (.ins C dx fs) ∧ fs.lookup m = none ∧
  t σ H1 fun vs H2 => sp (x :: (vs ++ dvs)) H2 Q E
/-- C(..): a new instance and its dict, then __init__ -/
def tMake (C : Addr) (sp : Sp) (dvs : List V) (E : XK) (t : TA) : TE := fun σ H Q => t σ H fun vs H1 => ∀ x dx, H1 x = none → H1 dx = none → dx ≠ x →
  sp (.ref x :: (vs ++ dvs)) (upd (upd H1 dx (.own x)) x (.ins C dx [])) (fun v H2 => v = .non ∧ Q (.ref x) H2) E

/-- how the parameters are bound: us the positional arguments, kw the keywords' values by name, ds the defaults that fill up -/
def Binds (K : PySem.W.Frag) (fd : FuncData) (ps : List Str) (ds : List Value) : Prop :=
  ∀ (s : Shared) (us : List Value), K.In s.heap → (us ++ ds).length = ps.length → BindsTo s fd ⟨us, []⟩ (ps.zip (us ++ ds))
/-- every parameter is given -/
theorem Binds.all {K : PySem.W.Frag} {fd : FuncData} {ps : List Str} (h : ∀ us : List Value, us.length = ps.length → bindArgs fd ⟨us, []⟩ = pure (ps.zip us)) : Binds K fd ps [] := fun s us _ hl => by
  rw [List.append_nil] at hl ⊢
  exact .of_eq (h us hl)

/-- an exception of a callee reaches what this body wants of exceptions -/
def Passes (CX : CXT) (X : Cx) (E : XK) : Prop := ∀ (pins : List (Addr × Obj)) (σ : St) (H : Hp) (s : Shared) (e : Value) (s' : Shared), Inv X pins σ H s → CX X.stack H s E e s' → X.xe e s'

section
variable {X : Cx} {CX : CXT} {k : Nat} {f C : Addr} {fd : FuncData} {ps : List Str} {sp : Sp} {dvs : List V} {ds : List Value} {E : XK} {x m : Str} {p pos apos : Pos} {e o : Expr} {es : List Expr} {ta : TE} {t : TA}

/-- the callee runs -/
theorem run_fn {pins : List (Addr × Obj)} {σ : St} {H : Hp} {s : Shared} {Q : VK} {us : List Value} {vs : List V} (F : FnOk X.prog X.w X.K X.mg X.base CX k f fd ps sp) (hr : Room k X.A) (hb : Binds X.K fd ps ds) (hd : Vals dvs ds) (hx : Passes CX X E)
    (I : Inv X pins σ H s) (r : Vals vs us) (h : sp (vs ++ dvs) H Q E) : wpAny (model X.prog X.w) X.A (call (.ref f) us) (EP X pins σ Q) X.xe s := by
  have r2 : Vals (vs ++ dvs) (us ++ ds) := r.append hd
  have hl : (us ++ ds).length = ps.length := by rw [← r2.length]; exact F.len _ _ _ _ h
  refine wpAny_call (codeAny_mono (F.run X.A X.stack s H ⟨us, []⟩ (us ++ ds) (vs ++ dvs) Q E hr I.env0 (hb s us I.kIn hl) r2 h) fun r s' hq => ?_)
  cases r with
  | error e => exact hx pins σ H s e s' I hq
  | ok fl =>
    cases fl with
    | ret u => exact I.after hq
    | next => exact False.elim hq
    | brk => exact False.elim hq
    | cont => exact False.elim hq

theorem pe_call (F : FnOk X.prog X.w X.K X.mg X.base CX k f fd ps sp) (hr : Room k X.A) (hg : Gl X x) (hm : X.mg x = some (.ref f)) (hk : PySem.W.keepIn X.K (.ref f) = true) (hb : Binds X.K fd ps ds) (hd : Vals dvs ds) (hx : Passes CX X E)
    (ha : PA X (e :: es) t) (hdb : (x == ("__debug__" : Str)) = false := by decide) (he : starEach (e :: es) X.env = (false, eval e X.env) :: starEach es X.env := by rfl) (hpl : (backTo pos (starEach es X.env)).any (·.1) = false := by rfl) :
    PE X (.Call (.Name x p) (e :: es) [] pos) (tCall sp dvs E t) := by
  intro pins s σ H Q I h
  refine wpAny_Call_Name_kw (ld_glob I hg hm ?_ hdb)
  refine PySem.W.callWith_K (h₀ := X.base) I.ok.mod.kin hk (thn (ha pos pins s σ H _ I h) fun us s1 ⟨vs, H1, I1, r, q⟩ => ⟨I1.kIn, ?_⟩) he hpl
  exact run_fn F hr hb hd hx I1 r q
theorem pe_call0 (F : FnOk X.prog X.w X.K X.mg X.base CX k f fd ps sp) (hr : Room k X.A) (hg : Gl X x) (hm : X.mg x = some (.ref f)) (hk : PySem.W.keepIn X.K (.ref f) = true) (hb : Binds X.K fd ps ds) (hd : Vals dvs ds) (hx : Passes CX X E)
    (hdb : (x == ("__debug__" : Str)) = false := by decide) : PE X (.Call (.Name x p) [] [] pos) (tCall sp dvs E tNil) := by
  intro pins s σ H Q I h
  refine wpAny_Call_Name_kw (ld_glob I hg hm ?_ hdb)
  exact PySem.W.callWith_K0 I.kIn hk (run_fn (us := []) F hr hb hd hx I .nil h)

/-- o.m(e, ..) -/
theorem pe_meth {pl : Sem Bool} (he : PE X o ta) (c : Cls X.K C) (hm : Meth X.K C m f) (F : FnOk X.prog X.w X.K X.mg X.base CX k f fd ps sp) (hr : Room k X.A) (hb : Binds X.K fd ps ds) (hd : Vals dvs ds) (hx : Passes CX X E) (ha : PA X (e :: es) t)
    (hst : starEach (e :: es) X.env = (false, eval e X.env) :: starEach es X.env := by rfl) (hpl : (backTo pos (starEach es X.env)).any (·.1) = false := by rfl)
    (ht : eval (.Call (.Attribute o m apos) (e :: es) [] pos) X.env = (do
      let ov ← eval o X.env
      standAt apos.atName
      let (f, first) ← holding [ov] (getMethod ov m pl)
      callWith pos f first (backTo pos (starEach (e :: es) X.env)) (backToKw pos (keywordEach [] X.env))) := by rfl) :
    PE X (.Call (.Attribute o m apos) (e :: es) [] pos) (tMeth C m sp dvs E ta t) := by
  intro pins s σ H Q I h
  refine PySem.W.methodCall_KW (pl := pl) (thn (he pins s σ H _ I h) fun u s1 ⟨x, H1, I1, rx, a, dx, fs, ex, ea, l, q⟩ => ?_) ht
  subst ex
  obtain rfl : u = Value.ref a := rx
  refine getmeth_ok I1 ea c hm l ?_
  refine PySem.W.callWith_K (first := [.ref a]) (h₀ := X.base) I.ok.mod.kin hm.kp (thn (ha pos pins s1 σ H1 _ I1 q) fun us s2 ⟨vs, H2, I2, r, q2⟩ => ⟨I2.kIn, ?_⟩) hst hpl
  exact run_fn (us := .ref a :: us) (vs := .ref a :: vs) F hr hb hd hx I2 (.cons rfl r) q2
/-- o.m() -/
theorem pe_meth0 {pl : Sem Bool} (he : PE X o ta) (c : Cls X.K C) (hm : Meth X.K C m f) (F : FnOk X.prog X.w X.K X.mg X.base CX k f fd ps sp) (hr : Room k X.A) (hb : Binds X.K fd ps ds) (hd : Vals dvs ds) (hx : Passes CX X E)
    (ht : eval (.Call (.Attribute o m apos) [] [] pos) X.env = (do
      let ov ← eval o X.env
      standAt apos.atName
      let (f, first) ← holding [ov] (getMethod ov m pl)
      callWith pos f first (backTo pos (starEach [] X.env)) (backToKw pos (keywordEach [] X.env))) := by rfl) :
    PE X (.Call (.Attribute o m apos) [] [] pos) (tMeth C m sp dvs E ta tNil) := by
  intro pins s σ H Q I h
  refine PySem.W.methodCall_KW (pl := pl) (thn (he pins s σ H _ I h) fun u s1 ⟨x, H1, I1, rx, a, dx, fs, ex, ea, l, q⟩ => ?_) ht
  subst ex
  obtain rfl : u = Value.ref a := rx
  refine getmeth_ok I1 ea c hm l ?_
  exact PySem.W.callWith_K0 (first := [.ref a]) I1.kIn hm.kp (run_fn (us := [.ref a]) (vs := [.ref a]) F hr hb hd hx I1 (.cons rfl .nil) q)

/-- what a class must have to be made -/
structure Mk (K : PySem.W.Frag) (C f : Addr) : Prop where
  makes : PySem.W.makesIn K C = true
  init : PySem.W.findIn K (.ref C) "__init__" = some (some (.ref f))
  fn : PySem.W.isFn K (.ref f) = true
  kp : PySem.W.keepIn K (.ref C) = true

theorem run_make {pins : List (Addr × Obj)} {σ : St} {H : Hp} {s : Shared} {Q : VK} {us : List Value} {vs : List V} (M : Mk X.K C f) (F : FnOk X.prog X.w X.K X.mg X.base CX k f fd ps sp) (hr : Room (k + 1) X.A) (hb : Binds X.K fd ps ds) (hd : Vals dvs ds)
    (hx : Passes CX X E) (I : Inv X pins σ H s) (r : Vals vs us)
    (h : ∀ x dx, H x = none → H dx = none → dx ≠ x → sp (.ref x :: (vs ++ dvs)) (upd (upd H dx (.own x)) x (.ins C dx [])) (fun v H2 => v = .non ∧ Q (.ref x) H2) E) :
    wpAny (model X.prog X.w) X.A (call (.ref C) us) (EP X pins σ Q) X.xe s := by
  have hq := h (s.heap.objs.size + 1) s.heap.objs.size (I.hok.fresh (Nat.le_succ _)) (I.hok.fresh (Nat.le_refl _)) (Nat.ne_of_lt (Nat.lt_succ_self _))
  have I2 := Inv.made (C := C) I
  have r2 : Vals (V.ref (s.heap.objs.size + 1) :: (vs ++ dvs)) (Value.ref (s.heap.objs.size + 1) :: (us ++ ds)) := .cons rfl (r.append hd)
  have hl : (Value.ref (s.heap.objs.size + 1) :: us ++ ds).length = ps.length := by
    have e := r2.length
    rw [F.len _ _ _ _ hq] at e
    exact e.symm
  refine wpAny_call (make_map (f := f) I.kIn M.makes M.init (beq_iff_eq.mp M.fn) (codeAny_mono (F.run _ X.stack _ _ ⟨Value.ref (s.heap.objs.size + 1) :: us, []⟩ (Value.ref (s.heap.objs.size + 1) :: (us ++ ds)) _ _ E (hr.make C us [])
    (I2.env0.make C us []) (hb _ (Value.ref (s.heap.objs.size + 1) :: us) I2.kIn hl) r2 hq) fun r s' hq' => ?_))
  cases r with
  | error e => exact hx pins σ _ _ e s' I2 hq'
  | ok fl =>
    cases fl with
    | ret u =>
      obtain ⟨v, H', I3, rv, ev, q3⟩ := I2.after hq'
      subst ev
      exact ⟨rv, ⟨V.ref (s.heap.objs.size + 1), H', I3, rfl, q3⟩⟩
    | next => exact False.elim hq'
    | brk => exact False.elim hq'
    | cont => exact False.elim hq'
theorem pe_make (M : Mk X.K C f) (F : FnOk X.prog X.w X.K X.mg X.base CX k f fd ps sp) (hr : Room (k + 1) X.A) (hg : Gl X x) (hm : X.mg x = some (.ref C)) (hb : Binds X.K fd ps ds) (hd : Vals dvs ds) (hx : Passes CX X E)
    (ha : PA X (e :: es) t) (hdb : (x == ("__debug__" : Str)) = false := by decide) (he : starEach (e :: es) X.env = (false, eval e X.env) :: starEach es X.env := by rfl) (hpl : (backTo pos (starEach es X.env)).any (·.1) = false := by rfl) :
    PE X (.Call (.Name x p) (e :: es) [] pos) (tMake C sp dvs E t) := by
  intro pins s σ H Q I h
  refine wpAny_Call_Name_kw (ld_glob I hg hm ?_ hdb)
  refine PySem.W.callWith_K (h₀ := X.base) I.ok.mod.kin M.kp (thn (ha pos pins s σ H _ I h) fun us s1 ⟨vs, H1, I1, r, q⟩ => ⟨I1.kIn, ?_⟩) he hpl
  exact run_make M F hr hb hd hx I1 r q
theorem pe_make0 (M : Mk X.K C f) (F : FnOk X.prog X.w X.K X.mg X.base CX k f fd ps sp) (hr : Room (k + 1) X.A) (hg : Gl X x) (hm : X.mg x = some (.ref C)) (hb : Binds X.K fd ps ds) (hd : Vals dvs ds) (hx : Passes CX X E)
    (hdb : (x == ("__debug__" : Str)) = false := by decide) : PE X (.Call (.Name x p) [] [] pos) (tMake C sp dvs E tNil) := by
  intro pins s σ H Q I h
  refine wpAny_Call_Name_kw (ld_glob I hg hm ?_ hdb)
  exact PySem.W.callWith_K0 I.kIn M.kp (run_make (us := []) M F hr hb hd hx I .nil h)
end

/-! ### keywords -/
/-- the values of the keywords, from the left -/
def PK (X : Cx) (kws : List Keyword) (t : TA) : Prop :=
  ∀ (pos : Pos) (pins : List (Addr × Obj)) (s : Shared) (σ : St) (H : Hp) (Q : List V → Hp → Prop), Inv X pins σ H s → t σ H Q → wpAny (model X.prog X.w) X.A (evalAll ((backToKw pos (keywordEach kws X.env)).map (·.2))) (AP X pins σ Q) X.xe s
section
variable {X : Cx} {CX : CXT} {k : Nat} {f C : Addr} {fd : FuncData} {ps ks : List Str} {sp : Sp} {E : XK} {x m : Str} {p pos apos kpos : Pos} {e o : Expr} {es : List Expr} {kws : List Keyword} {te ta : TE} {t tk : TA} {nm : Option Str}
theorem pk_nil : PK X [] tNil := fun _ _ _ _ H Q I h => wpAny_evalAll_nil ⟨[], H, I, .nil, h⟩
theorem pk_cons (ha : PE X e te) (hr : PK X kws t) : PK X (⟨nm, e, kpos⟩ :: kws) (tCons te t) := by
  intro pos pins s σ H Q I h
  show wpAny _ _ (evalAll ((do let v ← eval e X.env; standAt pos; pure v) :: (backToKw pos (keywordEach kws X.env)).map (·.2))) _ _ s
  refine wpAny_evalAll_cons (wpAny_bind (thn (ha pins s σ H _ I h) fun u s1 ⟨x, H1, I1, r1, q1⟩ => wpAny_bind (wpAny_standAt (wpAny_pure ?_))))
  exact thn (hr pos pins s1 σ H1 _ I1 q1) fun us s2 ⟨xs, H2, I2, r2, q2⟩ => ⟨x :: xs, H2, I2, .cons r1 r2, q2⟩

/-- how a call with keywords binds: g puts the positional values us and the keywords' values ws (names ks) in the parameters' order, defaults among them -/
structure KBinds (K : PySem.W.Frag) (fd : FuncData) (ps ks : List Str) (g : List Value → List Value → List Value) (gV : List V → List V → List V) : Prop where
  to : ∀ (s : Shared) (us ws : List Value), K.In s.heap → (g us ws).length = ps.length → BindsTo s fd ⟨us, ks.zip ws⟩ (ps.zip (g us ws))
  rel : ∀ {vs : List V} {us : List Value} {zs : List V} {ws : List Value}, Vals vs us → Vals zs ws → Vals (gV vs zs) (g us ws)
def tCallK (sp : Sp) (gV : List V → List V → List V) (E : XK) (t tk : TA) : TE := fun σ H Q => t σ H fun vs H1 => tk σ H1 fun zs H2 => sp (gV vs zs) H2 Q E
variable {g : List Value → List Value → List Value} {gV : List V → List V → List V}
theorem run_fnk {pins : List (Addr × Obj)} {σ : St} {H : Hp} {s : Shared} {Q : VK} {us ws : List Value} {vs zs : List V} (F : FnOk X.prog X.w X.K X.mg X.base CX k f fd ps sp) (hr : Room k X.A) (hb : KBinds X.K fd ps ks g gV) (hx : Passes CX X E)
    (I : Inv X pins σ H s) (r : Vals vs us) (rz : Vals zs ws) (h : sp (gV vs zs) H Q E) : wpAny (model X.prog X.w) X.A (call (.ref f) us (ks.zip ws)) (EP X pins σ Q) X.xe s := by
  have r2 := hb.rel r rz
  have hl : (g us ws).length = ps.length := by rw [← r2.length]; exact F.len _ _ _ _ h
  refine wpAny_call (codeAny_mono (F.run X.A X.stack s H ⟨us, ks.zip ws⟩ (g us ws) (gV vs zs) Q E hr I.env0 (hb.to s us ws I.kIn hl) r2 h) fun r s' hq => ?_)
  cases r with
  | error e => exact hx pins σ H s e s' I hq
  | ok fl =>
    cases fl with
    | ret u => exact I.after hq
    | next => exact False.elim hq
    | brk => exact False.elim hq
    | cont => exact False.elim hq
/-- f(e, .., k = v, ..) -/
theorem pe_callK (F : FnOk X.prog X.w X.K X.mg X.base CX k f fd ps sp) (hr : Room k X.A) (hg : Gl X x) (hm : X.mg x = some (.ref f)) (hk : PySem.W.keepIn X.K (.ref f) = true) (hb : KBinds X.K fd ps ks g gV) (hx : Passes CX X E)
    (ha : PA X (e :: es) t) (hkw : PK X kws tk) (hall : (backToKw pos (keywordEach kws X.env)).all (·.1.isSome) = true := by rfl) (hks : (backToKw pos (keywordEach kws X.env)).filterMap (·.1) = ks := by rfl)
    (hdb : (x == ("__debug__" : Str)) = false := by decide) (he : starEach (e :: es) X.env = (false, eval e X.env) :: starEach es X.env := by rfl)
    (hpl : ((backTo pos (starEach (e :: es) X.env)).any (·.1) || (backToKw pos (keywordEach kws X.env)).any (·.1.isNone)) = false := by rfl) :
    PE X (.Call (.Name x p) (e :: es) kws pos) (tCallK sp gV E t tk) := by
  intro pins s σ H Q I h
  refine wpAny_Call_Name_kw (ld_glob I hg hm ?_ hdb)
  refine PySem.W.callWith_KW (h₀ := X.base) I.ok.mod.kin hk hall (thn (ha pos pins s σ H _ I h) fun us s1 ⟨vs, H1, I1, r, q⟩ => ?_) hpl he
  refine thn (hkw pos pins s1 σ H1 _ I1 q) fun ws s2 ⟨zs, H2, I2, rz, q2⟩ => ⟨I2.kIn, ?_⟩
  rw [hks]
  exact run_fnk F hr hb hx I2 r rz q2
end

/-! ### a def's body keeps its promise -/
/-- names: the parameters first -/
structure FnScope (N P : List Str) (sc : Scope) : Prop where
  kind : sc.kind = .function
  co : sc.isCoroutine = false
  gen : sc.isGenerator = false
  nd : N.Nodup
  pre : N.take P.length = P
  par : ∀ x ∈ P, sc.names.lookup x = some .local ∨ sc.names.lookup x = some .cell
  nofree : ∀ y ∈ sc.names, y.2 ≠ .free

theorem bindL_out {kindOf : Str → Option NameKind} {x : Str} : ∀ {binds : List (Str × Value)} {m : Str → Option Value}, (∀ v, (x, v) ∉ binds) → bindL kindOf binds m x = m x
  | [], _, _ => rfl
  | (n, v) :: r, m, h => by
    unfold bindL
    rw [bindL_out fun w hw => h w (List.mem_cons_of_mem _ hw)]
    split
    · have : x ≠ n := by rintro rfl; exact h v List.mem_cons_self
      simp [this]
    · rfl
theorem bindC_out {kindOf : Str → Option NameKind} {x : Str} : ∀ {binds : List (Str × Value)} {m : Str → Option Value}, (∀ v, (x, v) ∉ binds) → bindC kindOf binds m x = m x
  | [], _, _ => rfl
  | (n, v) :: r, m, h => by
    unfold bindC
    rw [bindC_out fun w hw => h w (List.mem_cons_of_mem _ hw)]
    split
    · rfl
    · have : x ≠ n := by rintro rfl; exact h v List.mem_cons_self
      simp [this]
theorem bindL_get {kindOf : Str → Option NameKind} {x : Str} {v : Value} : ∀ {P : List Str} {vs : List Value} {i : Nat} {m : Str → Option Value}, P.Nodup → P[i]? = some x → vs[i]? = some v → kindOf x = some .local →
    bindL kindOf (P.zip vs) m x = some v
  | [], _, _, _, _, h, _, _ => by simp at h
  | _ :: _, [], _, _, _, _, h, _ => by simp at h
  | p :: P, w :: vs, 0, m, nd, h1, h2, hk => by
    simp at h1 h2; subst h1; subst h2
    show bindL kindOf ((p, w) :: P.zip vs) m p = _
    unfold bindL
    rw [bindL_out fun v hv => (List.nodup_cons.mp nd).1 (List.of_mem_zip hv).1, if_pos hk]
    simp
  | p :: P, w :: vs, i + 1, m, nd, h1, h2, hk => by
    show bindL kindOf ((p, w) :: P.zip vs) m x = _
    unfold bindL
    exact bindL_get (i := i) (List.nodup_cons.mp nd).2 (by simpa using h1) (by simpa using h2) hk
theorem bindC_get {kindOf : Str → Option NameKind} {x : Str} {v : Value} : ∀ {P : List Str} {vs : List Value} {i : Nat} {m : Str → Option Value}, P.Nodup → P[i]? = some x → vs[i]? = some v → kindOf x ≠ some .local →
    bindC kindOf (P.zip vs) m x = some v
  | [], _, _, _, _, h, _, _ => by simp at h
  | _ :: _, [], _, _, _, _, h, _ => by simp at h
  | p :: P, w :: vs, 0, m, nd, h1, h2, hk => by
    simp at h1 h2; subst h1; subst h2
    show bindC kindOf ((p, w) :: P.zip vs) m p = _
    unfold bindC
    rw [bindC_out fun v hv => (List.nodup_cons.mp nd).1 (List.of_mem_zip hv).1, if_neg hk]
    simp
  | p :: P, w :: vs, i + 1, m, nd, h1, h2, hk => by
    show bindC kindOf ((p, w) :: P.zip vs) m x = _
    unfold bindC
    exact bindC_get (i := i) (List.nodup_cons.mp nd).2 (by simpa using h1) (by simpa using h2) hk

/-- the names' values at the entry -/
def start (N : List Str) (vs : List V) : St := vs.map some ++ List.replicate (N.length - vs.length) none

/-- the context of a def's body, at its entry; an exception leaves the frame, then lies as CX says -/
def cxOf (CX : CXT) (P : Program) (w : World) (K : PySem.W.Frag) (mg : Str → Option Value) (base : Heap) (N : List Str) (qual : Str) (scope : Scope) (f : Addr) (cd : Value) (A : Around) (outer : List Env) (s : Shared) (H : Hp) (E : XK) : Cx where
  prog := P
  w := w
  K := K
  mg := mg
  base := base
  A := A.deeper (envOfC qual scope s.heap.objs.size f cd)
  N := N
  s₀ := s
  H₀ := H
  env := envOfC qual scope s.heap.objs.size f cd
  outer := outer
  stack := envOfC qual scope s.heap.objs.size f cd :: outer
  ex := []
  calm := true
  fn := fun _ => true
  pn := []
  xe := fun e s' => wpAny (model P w) (A.deeper (envOfC qual scope s.heap.objs.size f cd)) (leaving (envOfC qual scope s.heap.objs.size f cd) e) (fun _ s'' => CX outer H s E e s'') (fun e' s'' => CX outer H s E e' s'') s'

theorem cell_has {sc : Scope} {n : Nat} {x : Str} (h : sc.names.lookup x = some .cell) : ∃ c, (cellsFrom n sc.names []).lookup x = some c := by
  have q := PySem.W.cellsFrom_some sc.names n [] (.inl h)
  exact Option.isSome_iff_exists.mp q

theorem inv_start {CX : CXT} {P : Program} {w : World} {K : PySem.W.Frag} {mg : Str → Option Value} {base : Heap} {N ps : List Str} {qual : Str} {scope : Scope} {f : Addr} {cd : Value} {A : Around} {outer : List Env} {s s1 : Shared} {H : Hp} {E : XK} {us : List Value} {vs : List V}
    (S : FnScope N ps scope) (hd : A.handled = none) (e0 : Env0 P w K mg base A outer s H) (hl : vs.length = ps.length) (r : Vals vs us)
    (x : InCallC s s.heap.objs.size (bindL (envOfC qual scope s.heap.objs.size f cd).kindOf (ps.zip us) fun _ => none) (cellsFrom (s.heap.objs.size + 1) scope.names []) (bindC (envOfC qual scope s.heap.objs.size f cd).kindOf (ps.zip us) fun _ => none) s1) :
    Inv (cxOf CX P w K mg base N qual scope f cd A outer s H E) [] (start N vs) H s1 := by
  have hpl : ps.length ≤ N.length := by have := congrArg List.length S.pre; rw [List.length_take] at this; omega
  obtain ⟨h1, tk, rfl, hk⟩ := x.done
  have noA : ∀ b : Addr, b ∉ (cxOf CX P w K mg base N qual scope f cd A outer s H E).ex := fun b z => absurd (show b ∈ ([] : List Addr) from z) (by simp)
  refine ⟨⟨e0.mod, S.kind, rfl, rfl, Nat.le_refl _, fun y z c h1 h2 => ?_, fun y hy => ?_, fun y c _ h => ?_, fun _ => hd, Around.frames_deeper e0.frames, .inr ⟨rfl, rfl⟩, fun b z => absurd z (noA b), e0.bs, e0.bsz, fun b _ _ => noA b, fun b z => absurd z (noA b), e0.funs, e0.frf⟩,
    rfl, e0.bare, Un.kept hk, ⟨_, x.toInCall.ns, fun i y v h1 h2 h3 => ?_⟩, fun y c h => ⟨_, x.cell y c h⟩, e0.hok.fresh (Nat.le_refl _), fun y c h => ?_, fun p hp => absurd (show p ∈ ([] : List (Addr × Obj)) from hp) (by simp), e0.hok.kept hk, ?_⟩
  · exact name_of_addr x.apart (PySem.mem_of_lookup h1) (PySem.mem_of_lookup h2)
  · have hy : scope.names.lookup y = some .cell ∨ scope.names.lookup y = some .free := hy
    rcases hy with hy | hy
    · exact cell_has hy
    · exact absurd rfl (S.nofree _ (PySem.mem_of_lookup hy))
  · exact Nat.le_of_lt (x.above y c (PySem.mem_of_lookup h))
  · have hi : i < vs.length := by
      unfold start at h2
      by_cases hi : i < vs.length
      · exact hi
      · rw [List.getElem?_append_right (by simpa using hi)] at h2
        rw [List.getElem?_replicate] at h2
        split at h2 <;> cases h2
    have ha : vs[i]? = some v := by
      unfold start at h2
      rw [List.getElem?_append_left (by simpa using hi), List.getElem?_map] at h2
      cases e : vs[i]? with
      | none => rw [e] at h2; cases h2
      | some a => rw [e] at h2; cases h2; rfl
    obtain ⟨u, hu, rv⟩ := r.get ha
    have hp : ps[i]? = some y := by
      rw [← S.pre, List.getElem?_take_of_lt (by omega)]; exact h1
    have ndP : ps.Nodup := by rw [← S.pre]; exact S.nd.sublist (List.take_sublist _ _)
    refine ⟨u, rv, ?_⟩
    rcases S.par y (List.mem_of_getElem? hp) with k | k
    · exact .inl ⟨k, bindL_get ndP hp hu k⟩
    · obtain ⟨c, e⟩ := cell_has (n := s.heap.objs.size + 1) k
      refine .inr ⟨.inl k, c, e, ?_⟩
      have q := x.cell y c e
      rw [bindC_get ndP hp hu (by show scope.names.lookup y ≠ _; rw [k]; decide)] at q
      exact q
  · exact e0.hok.fresh (Nat.le_of_lt (x.above y c (PySem.mem_of_lookup h)))
  · unfold start
    show _ = N.length
    rw [List.length_append, List.length_map, List.length_replicate]
    omega

/-- THE RULE: a def (or a method) of the text, by its body. The body's reading t is chosen for each entry; it is run at the parameters' values -/
theorem fn_of {CX : CXT} {P : Program} {w : World} {K : PySem.W.Frag} {mg : Str → Option Value} {base : Heap} {k : Nat} {f : Addr} {name qual : Str} {params : Arguments} {body : List Stmt} {scope : Scope} {dV kV doc pm cdv ct oc : Value} {an od : Option Addr}
    {osl : Array (Option Value)} {N ps : List Str} {sp : Sp} (lk : K.lookup f = some ⟨oc, od, .func (PySem.W.fnOf name qual params body scope dV kV doc pm an cdv ct), osl⟩) (hcd : PySem.W.codeIn K cdv qual = true) (S : FnScope N ps scope)
    (len : ∀ vs H Q E, sp vs H Q E → vs.length = ps.length)
    (hbody : ∀ (A : Around) (outer : List Env) (s : Shared) (H : Hp) (vs : List V) (Q : VK) (E : XK), Room k (A.deeper (envOfC qual scope s.heap.objs.size f cdv)) → sp vs H Q E →
      ∃ t, PSs (cxOf CX P w K mg base N qual scope f cdv A outer s H E) body t ∧ t { nx := fun _ H' => Q .non H', rt := Q } (start N vs) H) :
    FnOk P w K mg base CX (k + 1) f (PySem.W.fnOf name qual params body scope dV kV doc pm an cdv ct) ps sp := by
  refine ⟨len, fun A outer s H args us vs Q E hr e0 hb r hsp => ?_⟩
  have hl := len _ _ _ _ hsp
  have KX : K.In s.heap := e0.mod.kin.keeps fun b o e => (e0.bs b o e).1
  have lim : s.heap.NoLimit := e0.mod.nolimit.keeps fun b o e => (e0.bs b o e).1
  have hkind : ∀ y ∈ ps.zip us, scope.names.lookup y.1 = some .local ∨ (scope.names.lookup y.1 = some .cell ∧ ((cellsFrom (s.heap.objs.size + 1) scope.names []).lookup y.1).isSome = true) := fun ⟨n, v⟩ hy => by
    rcases S.par n (List.of_mem_zip hy).1 with q | q
    · exact .inl q
    · exact .inr ⟨q, PySem.W.cellsFrom_some _ _ _ (.inl q)⟩
  refine codeAny_call_function hr.depth (KX _ _ lk) rfl S.co S.gen rfl (PySem.W.codeRec_of KX hcd) (hb _ _ _ _ ?_)
  refine wpAny_newFunctionEnv_cells S.kind hkind fun env he s1 x => ?_
  subst he
  refine ⟨lim.keeps x.toInCall.keep, codeAny_func ?_⟩
  obtain ⟨t, ht, hq⟩ := hbody A outer s H vs Q E (hr.deeper _) hsp
  have I : Inv (cxOf CX P w K mg base N qual scope f cdv A outer s H E) [] (start N vs) H s1 := inv_start S hr.hd e0 hl r x
  refine wpAny_mono (ht [] s1 (start N vs) H _ I hq) (fun fl s' hs => ?_) fun e s' hs => hs
  have fin : ∀ {σ' : St} {H' : Hp} {v : V} {u : Value}, Inv (cxOf CX P w K mg base N qual scope f cdv A outer s H E) [] σ' H' s' → RelV v u → Q v H' → CE outer P w H s Q u s' :=
    fun {σ' H' v u} J rv q => ⟨v, H', J.os, J.bare, J.base, J.hok, rv, q⟩
  cases fl with
  | ret u =>
    obtain ⟨v, σ', H', J, rv, q⟩ := hs
    exact fin J rv q
  | next =>
    obtain ⟨σ', H', J, q⟩ := hs
    exact fin (v := V.non) (u := Value.none) J rfl q
  | brk =>
    obtain ⟨_, _, _, q⟩ := hs
    exact False.elim q
  | cont =>
    obtain ⟨_, _, _, q⟩ := hs
    exact False.elim q
end L2

namespace L2
open PySem PySem.Spec PyProof.Rows
section
variable {X : Cx} {x : Str} {p pos : Pos} {e : Expr} {es : List Expr} {t : TA} {id T : String} {r : List V → Hp → VK → Prop}

def tCB (r : List V → Hp → VK → Prop) (t : TA) : TE := fun σ H Q => t σ H fun vs H1 => r vs H1 Q
/-- f(e, ..), f a built-in function -/
theorem pe_callB (hc : CallR X (.builtin id) r) (hg : Gl X x) (hm : X.mg x = none) (hv : bootBuiltins x = some (.builtin id)) (ha : PA X (e :: es) t) (hn : x ≠ "__name__" := by decide) (hdb : (x == ("__debug__" : Str)) = false := by decide)
    (he : starEach (e :: es) X.env = (false, eval e X.env) :: starEach es X.env := by rfl) (hpl : (backTo pos (starEach es X.env)).any (·.1) = false := by rfl) : PE X (.Call (.Name x p) (e :: es) [] pos) (tCB r t) := by
  intro pins s σ H Q I h
  refine wpAny_Call_Name_kw (ld_blt I hg hm hv ?_ hn hdb)
  exact PyProof.Rows.callWith_builtin1 (thn (ha pos pins s σ H _ I h) fun us s1 ⟨vs, H1, I1, r1, q1⟩ => hc pins s1 σ H1 vs us Q I1 r1 q1) he hpl
/-- T(e, ..), T a built-in type -/
theorem pe_callTy (hc : CallR X (.type T) r) (hg : Gl X x) (hm : X.mg x = none) (hv : bootBuiltins x = some (.type T)) (ha : PA X (e :: es) t) (hn : x ≠ "__name__" := by decide) (hdb : (x == ("__debug__" : Str)) = false := by decide)
    (he : starEach (e :: es) X.env = (false, eval e X.env) :: starEach es X.env := by rfl) (hpl : (backTo pos (starEach es X.env)).any (·.1) = false := by rfl) : PE X (.Call (.Name x p) (e :: es) [] pos) (tCB r t) := by
  intro pins s σ H Q I h
  refine wpAny_Call_Name_kw (ld_blt I hg hm hv ?_ hn hdb)
  exact PyProof.Rows.callWith_type1 (thn (ha pos pins s σ H _ I h) fun us s1 ⟨vs, H1, I1, r1, q1⟩ => hc pins s1 σ H1 vs us Q I1 r1 q1) he hpl
/-- T() -/
theorem pe_callTy0 (hc : CallR X (.type T) r) (hg : Gl X x) (hm : X.mg x = none) (hv : bootBuiltins x = some (.type T)) (hn : x ≠ "__name__" := by decide) (hdb : (x == ("__debug__" : Str)) = false := by decide) :
    PE X (.Call (.Name x p) [] [] pos) (tCB r tNil) := by
  intro pins s σ H Q I h
  refine wpAny_Call_Name_kw (ld_blt I hg hm hv ?_ hn hdb)
  exact PyProof.Rows.callWith_type0 (hc pins s σ H [] [] Q I .nil h)
end
end L2

namespace HT
open PySem PyProof.Rows

/-- t < u of tuples of ints -/
def lexLt : List Int → List Int → Bool
  | [], [] => false
  | [], _ :: _ => true
  | _ :: _, [] => false
  | x :: xs, y :: ys => if x = y then lexLt xs ys else decide (x < y)
theorem lexLt_cons (x y : Int) (xs ys : List Int) : lexLt (x :: xs) (y :: ys) = if x = y then lexLt xs ys else decide (x < y) := rfl
theorem lexLt_nil_nil : lexLt [] [] = false := rfl
theorem lexLt_nil_cons (y : Int) (ys : List Int) : lexLt [] (y :: ys) = true := rfl
theorem lexLt_cons_nil (x : Int) (xs : List Int) : lexLt (x :: xs) [] = false := rfl

theorem eqAt_int (A : Around) (s : Shared) (a : Int) (t : Tok) (c : Int) (u : Tok) : ∃ e, SeqAt.EqAt A s (.int a t) (.int c u) e ∧ (e = true ↔ a = c) :=
  ⟨(a == c), SeqAt.EqAt.int_int a t c u, by simp⟩
theorem rcLt_int (A : Around) (s : Shared) (a : Int) (t : Tok) (c : Int) (u : Tok) (prog : Program) (w : World) (E : Value → Shared → Prop) (Q : Value → Shared → Prop) (h : Q (.bool (decide (a < c))) s) :
    wpAny (model prog w) A (richCompare .Lt (.int a t) (.int c u)) Q E s :=
  (PyProof.Rows.lt_int h : wpAny (model prog w) A (compareOp .Lt (.int a t) (.int c u)) Q E s)

section
open PySem.SeqAt
open PySem.AutoSeq1 (wpAny_loadPart')
open PySem.MeetsSeq PySem.MeetsSeq2 PySem.MeetsSeq3

theorem tuple_lt_ints (l b : Addr) (items items2 : Array Value) (n n2 : Nat) (dd dd2 : Option Addr) (sl sl2 : Array (Option Value)) (ns ms : List Int) (hi : IntsAre items.toList ns) (hj : IntsAre items2.toList ms) :
    Meets (Builtin.«tuple.__lt__» ⟨[.ref l, .ref b], []⟩)
      (fun _ R s => s.heap.get? l = some { cls := .type "tuple", dict := dd, data := .seq items n, slots := sl } ∧ s.heap.get? b = some { cls := .type "tuple", dict := dd2, data := .seq items2 n2, slots := sl2 } ∧
        R (.ok (.ret (.bool (lexLt ns ms)))) s) :=
  .of_wp fun prog w A R s h => by
    obtain ⟨hp, g, d, tk, os⟩ := s; obtain ⟨hl, hb, h⟩ := h
    have f2 := AutoSeq1.sub_tuple_tuple
    have z1 : items.size = ns.length := by rw [← hi.length]; simp
    have z2 : items2.size = ms.length := by rw [← hj.length]; simp
    wp_walk using wpAny_loadPart' hl, wpAny_loadPart' hb, wpAny_forIn_list _ (fun rest b s' => b.1 = none ∧ s' = ⟨hp, g, d, tk, os⟩ ∧ ∃ (vs ws : List Value) (ns' ms' : List Int), rest = vs.zip ws ∧
      IntsAre vs ns' ∧ IntsAre ws ms' ∧ ns'.length + items2.size = ms'.length + items.size ∧ R (.ok (.ret (.bool (lexLt ns' ms')))) ⟨hp, g, d, tk, os⟩) _
    case turn =>
      rintro ⟨y, x⟩ rest b s' ⟨hb', rfl, vs, ws, ns', ms', hz, hvi, hwi, hlen, hR⟩
      cases hvi with
      | nil => rw [List.zip_nil_left] at hz; cases hz
      | cons a t hvi' =>
        cases hwi with
        | nil => rw [List.zip_nil_right] at hz; cases hz
        | cons c u hwi' =>
          rw [List.zip_cons_cons] at hz
          injection hz with hyx hrest
          injection hyx with hy hx
          subst hy hx
          rw [lexLt_cons] at hR
          simp only [List.length_cons] at hlen
          obtain ⟨e, he, hiff⟩ := eqAt_int A.in1 ⟨hp, g, d, tk, os⟩ a t c u
          refine wpAny_bind (he prog w _ _ ?_)
          cases e with
          | true =>
            rw [if_pos (hiff.mp rfl)] at hR
            wp_walk
            exact ⟨rfl, rfl, _, _, _, _, hrest, hvi', hwi', by omega, hR⟩
          | false =>
            rw [if_neg (fun q => absurd (hiff.mpr q) Bool.false_ne_true)] at hR
            have hri := rcLt_int A.in1 ⟨hp, g, d, tk, os⟩ a t c u prog w
            wp_walk using hri
            exact ⟨_, rfl, by simpa using hR⟩
    case fin =>
      rintro ⟨b1, b2⟩ s' ⟨hb', rfl, vs, ws, ns', ms', hz, hvi, hwi, hlen, hR⟩
      simp only at hb'
      subst hb'
      have hv : lexLt ns' ms' = decide (items.size < items2.size) := by
        cases hvi with
        | nil =>
          cases hwi with
          | nil =>
            simp only [List.length_nil] at hlen
            rw [lexLt_nil_nil]
            exact (decide_eq_false (by omega)).symm
          | cons c u hw =>
            simp only [List.length_nil, List.length_cons] at hlen
            rw [lexLt_nil_cons]
            exact (decide_eq_true (by omega)).symm
        | cons a t hv =>
          cases hwi with
          | nil =>
            simp only [List.length_nil, List.length_cons] at hlen
            rw [lexLt_cons_nil]
            exact (decide_eq_false (by omega)).symm
          | cons c u hw =>
            rw [List.zip_cons_cons] at hz
            cases hz
      rw [hv] at hR
      wp_walk
      exact ⟨_, rfl, by simpa [Builtin.Tuple.tupleCompareSizes] using hR⟩
    case h =>
      exact ⟨rfl, rfl, items.toList, items2.toList, ns, ms, rfl, hi, hj, by omega, h⟩
end

section
variable {prog : Program} {w : World} {A : Around} {E : Value → Shared → Prop} {s : Shared}

theorem lt_tupInts {l b : Addr} {items items2 : Array Value} {ns ms : List Int} {Q : Value → Shared → Prop} (hl : IsTup s.heap l items) (hb : IsTup s.heap b items2) (hi : IntsAre items.toList ns) (hj : IntsAre items2.toList ms)
    (hu : A.units < cLine) (h : Q (.bool (lexLt ns ms)) s) : wpAny (model prog w) A (compareOp .Lt (.ref l) (.ref b)) Q E s := by
  obtain ⟨⟨cls, dd, data, sl⟩, ho, hc, n, hd⟩ := id hl
  obtain ⟨⟨cls2, dd2, data2, sl2⟩, ho2, hc2, n2, hd2⟩ := id hb
  simp only at hc hd hc2 hd2
  subst hc hd hc2 hd2
  exact richCompare_meets_room (op := .Lt) ⟨_, ho, rfl⟩ ⟨_, ho2, rfl⟩ PySem.F.slot_tuple_lt PySem.F.entry_tuple_lt (PySem.F.args_tuple_lt_2 _ _) (tuple_lt_ints l b items items2 n n2 dd dd2 sl sl2 ns ms hi hj)
    ⟨ho, ho2, show Value.bool (lexLt ns ms) ≠ Value.notImplemented ∧ Q (.bool (lexLt ns ms)) s from ⟨(fun x => nomatch x), h⟩⟩ hu

/-- t + u, t not empty -/
theorem cat_tup {t b : Addr} {vs ws : List Value} {Q : Value → Shared → Prop} (ht : IsTup s.heap t vs.toArray) (hb : IsTup s.heap b ws.toArray) (hv : vs ≠ [])
    (h1 : ws = [] → Q (.ref t) s) (h2 : ws ≠ [] → Q (.ref s.heap.objs.size) { s with heap := s.heap.push { cls := .type "tuple", data := .seq (vs ++ ws).toArray } })
    (hsz : vs.length + ws.length ≤ sizeLine) : wpAny (model prog w) A (binaryOp .Add (.ref t) (.ref b)) Q E s := by
  obtain ⟨⟨cls, dd, data, sl⟩, ho, hc, n, hd⟩ := id ht
  obtain ⟨⟨cls2, dd2, data2, sl2⟩, ho2, hc2, n2, hd2⟩ := id hb
  simp only at hc hd hc2 hd2
  subst hc hd hc2 hd2
  have e : vs.toArray ++ ws.toArray = (vs ++ ws).toArray := by simp
  by_cases hw : ws = []
  · exact concat_meets ⟨_, ho, rfl⟩ ⟨_, ho2, rfl⟩ noFill_tuple_add seq_tuple_add PySem.F.slot_tuple_add PySem.F.entry_tuple_add (PySem.F.args_tuple_add_2 _ _)
      (tuple_addW1 t b vs.toArray ws.toArray n n2 dd dd2 sl sl2 (by simpa using hv) (by simp [hw])) ⟨ho, ho2, h1 hw⟩
  · refine concat_meets ⟨_, ho, rfl⟩ ⟨_, ho2, rfl⟩ noFill_tuple_add seq_tuple_add PySem.F.slot_tuple_add PySem.F.entry_tuple_add (PySem.F.args_tuple_add_2 _ _)
      (tuple_addW2 t b vs.toArray ws.toArray n n2 dd dd2 sl sl2 (by simpa using hv) (by simpa using hw) (by rw [List.size_toArray, List.size_toArray]; exact hsz)) ⟨ho, ho2, ?_⟩
    rw [e]
    exact h2 hw

/-! ### t[a:b], not the whole -/
/-- a slice's bound as a place among n (d where it is left out) -/
def sIx (n d : Nat) : Option Int → Nat
  | none => d
  | some v => if v < 0 then (v + (n : Int)).toNat else min v.toNat n
theorem sIx_none (n d : Nat) : sIx n d none = d := rfl
theorem sIx_nat (n d k : Nat) : sIx n d (some (k : Int)) = min k n := by
  show (if (k : Int) < 0 then ((k : Int) + (n : Int)).toNat else min (k : Int).toNat n) = min k n
  rw [if_neg (by omega), Int.toNat_natCast]
theorem sIx_le (n d : Nat) (hd : d ≤ n) (o : Option Int) : sIx n d o ≤ n := by
  cases o with
  | none => exact hd
  | some v =>
    show (if v < 0 then (v + (n : Int)).toNat else min v.toNat n) ≤ n
    by_cases hv : v < 0
    · rw [if_pos hv]; omega
    · rw [if_neg hv]; exact Nat.min_le_right _ _
theorem clip_eq (v : Int) (n d : Nat) : (if v < 0 then max (v + (n : Int)) 0 else min v (n : Int)) = ((sIx n d (some v) : Nat) : Int) := by
  show (if v < 0 then max (v + (n : Int)) 0 else min v (n : Int)) = (((if v < 0 then (v + (n : Int)).toNat else min v.toNat n) : Nat) : Int)
  by_cases hv : v < 0
  · simp only [if_pos hv]; omega
  · simp only [if_neg hv]; omega
theorem adjust_gen (lo hi : Option Int) (n : Nat) : Builtin.Slice.sliceAdjust lo hi 1 (n : Int) = (((sIx n 0 lo : Nat) : Int), ((sIx n n hi : Nat) : Int)) := by
  have h1 : ¬ ((1 : Int) < 0) := by omega
  unfold Builtin.Slice.sliceAdjust
  simp only [h1, if_false]
  refine Prod.ext ?_ ?_
  · cases lo with
    | none => rfl
    | some v => exact clip_eq v n 0
  · cases hi with
    | none => rfl
    | some v => exact clip_eq v n n
theorem places_gen (i j : Nat) : Builtin.Slice.slicePlaces (i : Int) (j : Int) 1 = j - i := by
  unfold Builtin.Slice.slicePlaces
  have h1 : (1 : Int) > 0 := by omega
  simp only [h1, if_true, Int.ediv_one]
  split <;> omega
theorem slicePart_ {v : Value} {o : Option Int} {Q : Option Int → Shared → Prop} (p : IsPart v o) (h : Q o s) : wpAny (model prog w) A (Builtin.Slice.slicePartIndex v) Q E s := by
  cases p with
  | none => exact slicePart_none h
  | int i t => exact slicePart_int h
theorem sliceApplied_gen {sl : Addr} {vl vu : Value} {lo hi : Option Int} {n : Nat} {Q : Int × Int × Nat → Shared → Prop} (hs : s.heap.IsSliceOf sl vl vu .none) (pl : IsPart vl lo) (pu : IsPart vu hi)
    (h : Q (((sIx n 0 lo : Nat) : Int), 1, sIx n n hi - sIx n 0 lo) s) : wpAny (model prog w) A (Builtin.Slice.sliceApplied (.ref sl) (pure (n : Int))) Q E s := by
  obtain ⟨os, hos, hcs, hds⟩ := id hs
  unfold Builtin.Slice.sliceApplied Builtin.Slice.sliceFields
  refine wpAny_bind (wpAny_bind (wpAny_field hos hds (x := vl) rfl (wpAny_bind (wpAny_field hos hds (x := vu) rfl (wpAny_bind (wpAny_field hos hds (x := .none) rfl (wpAny_pure ?_)))))))
  refine wpAny_bind (slicePart_none ?_)
  show wpAny _ _ (if ((1 : Int) == 0) = true then _ else _) _ _ s
  rw [if_neg (by decide)]
  refine wpAny_bind (slicePart_ pl (wpAny_bind (slicePart_ pu (wpAny_bind (wpAny_pure ?_)))))
  show wpAny _ _ (match Builtin.Slice.sliceAdjust lo hi 1 (n : Int) with | (lo, hi) => pure (lo, (1 : Int), Builtin.Slice.slicePlaces lo hi 1)) _ _ s
  rw [adjust_gen lo hi n]
  show wpAny _ _ (pure (((sIx n 0 lo : Nat) : Int), (1 : Int), Builtin.Slice.slicePlaces ((sIx n 0 lo : Nat) : Int) ((sIx n n hi : Nat) : Int) 1)) _ _ s
  rw [places_gen]
  exact wpAny_pure h
theorem pick_gen (xs : Array Value) (i k : Nat) : ((List.range k).filterMap fun (m : Nat) => xs[((i : Int) + (m : Int) * 1).toNat]?).toArray = ((xs.toList.drop i).take k).toArray := by
  have e : (fun (m : Nat) => xs[((i : Int) + (m : Int) * 1).toNat]?) = fun m => xs[i + m]? := by
    funext m
    have : ((i : Int) + (m : Int) * 1).toNat = i + m := by omega
    rw [this]
  rw [e]
  have := pick_run xs i k
  rw [List.filterMap_map] at this
  have e2 : ((fun x => xs[x]?) ∘ fun x => i + x) = fun m => xs[i + m]? := rfl
  rw [e2] at this
  rw [this]

theorem getItem_tuple_cut {t sl : Addr} {items : Array Value} {vl vu : Value} {lo hi : Option Int} {Q : Value → Shared → Prop} (ht : IsTup s.heap t items) (hs : s.heap.IsSliceOf sl vl vu .none) (pl : IsPart vl lo) (pu : IsPart vu hi)
    (hw : ¬ (sIx items.size 0 lo = 0 ∧ sIx items.size items.size hi = items.size))
    (h : Q (.ref s.heap.objs.size) { s with heap := s.heap.push { cls := .type "tuple", data := .seq ((items.toList.drop (sIx items.size 0 lo)).take (sIx items.size items.size hi - sIx items.size 0 lo)).toArray } })
    (hsz : items.size ≤ sizeLine) : wpAny (model prog w) A (getItem (.ref t) (.ref sl)) Q E s := by
  have htake : sizeOk (.seq ((items.toList.drop (sIx items.size 0 lo)).take (sIx items.size items.size hi - sIx items.size 0 lo)).toArray) := by
    show ((items.toList.drop (sIx items.size 0 lo)).take (sIx items.size items.size hi - sIx items.size 0 lo)).toArray.size ≤ sizeLine
    rw [List.size_toArray, List.length_take, List.length_drop, Array.length_toList]
    omega
  have hj : sIx items.size items.size hi ≤ items.size := sIx_le _ _ (Nat.le_refl _) hi
  obtain ⟨os, hos, hcs, hds⟩ := id hs
  have hTs : s.TypeIs (.ref sl) "slice" := ⟨os, hos, hcs⟩
  unfold getItem
  try with_reducible refine wpAny_holding ?_
  first | refine wpAny_bind (wpAny_pure ?_) | skip
  refine wpAny_bind (wpAny_sequenceKey ht.typeIs (by decide) ?_)
  refine wpAny_bind (wpAny_callSpecial?_slot (name := Str.ofString "__getitem__") ht.typeIs PyProof.Rows.slot_tuple_getitem
    (wpAny_call_entry PyProof.Rows.slot_tuple_getitem ht.typeIs entry_tuple_getitem ?_ (args_tuple_getitem _ _)))
  show wpAny _ _ (Builtin.Tuple.tupleItemsOf (.ref t) >>= _) _ _ s
  refine wpAny_bind (tupleItemsOf_ ht ?_)
  refine wpAny_bind (wpAny_typeOf hTs ?_)
  rw [if_pos (by decide)]
  refine wpAny_bind (sliceApplied_gen hs pl pu ?_)
  have hno : ¬ ((((sIx items.size 0 lo : Nat) : Int) == 0 && (1 : Int) == 1 && (sIx items.size items.size hi - sIx items.size 0 lo) == items.size) = true) := by
    intro q
    rw [Bool.and_eq_true, Bool.and_eq_true] at q
    have q1 : ((sIx items.size 0 lo : Nat) : Int) = 0 := eq_of_beq q.1.1
    have q2 : sIx items.size items.size hi - sIx items.size 0 lo = items.size := eq_of_beq q.2
    exact hw ⟨by omega, by omega⟩
  show wpAny _ _ (if (((sIx items.size 0 lo : Nat) : Int) == 0 && (1 : Int) == 1 && (sIx items.size items.size hi - sIx items.size 0 lo) == items.size) = true then _ else _) _ _ s
  rw [if_neg hno, pick_gen]
  first
    | exact wpAny_bind (m := Builtin.Tuple.tupleExact _) (wpAny_newObj_type (wpAny_pure ⟨_, rfl, wpAny_pure h⟩) htake)
    | exact wpAny_bind (m := Builtin.Tuple.tupleExact _) (wpAny_newObj_type (wpAny_bind (wpAny_pure (wpAny_pure ⟨_, rfl, wpAny_pure h⟩))) htake)
    | exact wpAny_bind (wpAny_bind (m := Builtin.Tuple.tupleExact _) (wpAny_newObj_type (wpAny_pure (wpAny_pure ⟨_, rfl, wpAny_pure h⟩)) htake))
    | exact wpAny_bind (wpAny_bind (m := Builtin.Tuple.tupleExact _) (wpAny_newObj_type (wpAny_pure ⟨_, rfl, wpAny_pure h⟩) htake))
end
end HT

namespace L2
open PySem PySem.Spec PyProof.Rows

/-! ### the parts of a slice -/
abbrev TO := St → Hp → (Option Int → Hp → Prop) → Prop
/-- a slice's part (left out, or an int) -/
def PO (X : Cx) (e : Option Expr) (t : TO) : Prop :=
  ∀ (pins : List (Addr × Obj)) (s : Shared) (σ : St) (H : Hp) (Q : Option Int → Hp → Prop), Inv X pins σ H s → t σ H Q →
    wpAny (model X.prog X.w) X.A (evalPart e X.env) (fun u s' => ∃ o H', Inv X pins σ H' s' ∧ IsPart u o ∧ Q o H') X.xe s
def tNoPart : TO := fun _ H Q => Q none H
def tPart (t : TE) : TO := fun σ H Q => t σ H fun x H1 => ∃ i, x = .int i ∧ Q (some i) H1

theorem intsAre_of {ns : List Int} : ∀ {us : List Value}, Vals (ns.map V.int) us → IntsAre us ns := by
  induction ns with
  | nil => intro us r; rw [List.map_nil] at r; cases r; exact .nil
  | cons n ns ih =>
    intro us r
    rw [List.map_cons] at r
    cases r with
    | cons r1 r2 =>
      obtain ⟨t, e⟩ := r1
      subst e
      exact .cons n t (ih r2)

section
variable {X : Cx} {e : Expr} {te : TE} {lo hi : Option Expr} {tl th : TO} {pos p2 : Pos}

theorem po_none : PO X none tNoPart := by
  intro pins s σ H Q I h
  rw [evalPart_none]
  exact wpAny_pure ⟨none, H, I, .none, h⟩
theorem po_some (h : PE X e te) : PO X (some e) (tPart te) := by
  intro pins s σ H Q I hw
  rw [evalPart_some]
  refine thn (h pins s σ H _ I hw) fun u s1 ⟨x, H1, I1, r1, q1⟩ => ?_
  obtain ⟨i, rfl, q⟩ := q1
  obtain ⟨t, rfl⟩ := r1
  exact ⟨some i, H1, I1, .int i t, q⟩

/-- what a slice of a value is, by values: the slice object stands at sl -/
def SlR (X : Cx) (r : V → Option Int → Option Int → Hp → VK → Prop) : Prop :=
  ∀ (pins : List (Addr × Obj)) (s : Shared) (σ : St) (H : Hp) (x : V) (v vl vu : Value) (lo hi : Option Int) (sl : Addr) (Q : VK), Inv X pins σ H s → RelV x v → s.heap.IsSliceOf sl vl vu .none → IsPart vl lo → IsPart vu hi → r x lo hi H Q →
    ∃ T id, typeLookup (.type T) "__getitem__" = pure (some (.builtin id)) ∧ s.TypeIs v T ∧ wpAny (model X.prog X.w) X.A (getItem v (.ref sl)) (EP X pins σ Q) X.xe s
theorem SlR.or {r r' : V → Option Int → Option Int → Hp → VK → Prop} (h : SlR X r) (h' : SlR X r') : SlR X (fun x lo hi H Q => r x lo hi H Q ∨ r' x lo hi H Q) := by
  intro pins s σ H x v vl vu lo hi sl Q I rx hs pl pu q
  rcases q with q | q
  · exact h pins s σ H x v vl vu lo hi sl Q I rx hs pl pu q
  · exact h' pins s σ H x v vl vu lo hi sl Q I rx hs pl pu q
def tSl (r : V → Option Int → Option Int → Hp → VK → Prop) (te : TE) (tl th : TO) : TE := fun σ H Q => te σ H fun x H1 => tl σ H1 fun l H2 => th σ H2 fun u H3 => r x l u H3 Q
/-- a[lo:hi], any a -/
theorem pe_slice {r : V → Option Int → Option Int → Hp → VK → Prop} (hr : SlR X r) (he : PE X e te) (hl : PO X lo tl) (hu : PO X hi th) : PE X (.Subscript e (.Slice lo hi none p2) pos) (tSl r te tl th) := by
  intro pins s σ H Q I h
  refine Subscript_ (thn (he pins s σ H _ I h) fun v s1 ⟨x, H1, I1, r1, q1⟩ => ?_)
  refine wpAny_Slice (thn (hl pins s1 σ H1 _ I1 q1) fun vl s2 ⟨l, H2, I2, pl, q2⟩ => thn (hu pins s2 σ H2 _ I2 q2) fun vu s3 ⟨u, H3, I3, pu, q3⟩ => ?_)
  rw [evalPart_none]
  refine wpAny_pure ?_
  have I4 : Inv X pins σ H3 { s3 with heap := s3.heap.push { cls := .type "slice", data := .fields #[vl, vu, .none] } } := I3.kept (t' := s3.toks) fun b ob q => Heap.get?_push_of_some _ q
  obtain ⟨T, id, hT, ht, hg⟩ := hr pins { s3 with heap := s3.heap.push { cls := .type "slice", data := .fields #[vl, vu, .none] } } σ H3 x v vl vu l u s3.heap.objs.size Q I4 r1 (Heap.IsSliceOf.new ..) pl pu q3
  show wpAny (model X.prog X.w) X.A (subscriptTail e (.Slice lo hi none p2) v (.ref s3.heap.objs.size)) (EP X pins σ Q) X.xe { s3 with heap := s3.heap.push { cls := .type "slice", data := .fields #[vl, vu, .none] } }
  exact tail_any (ops := [.ref s3.heap.objs.size, v]) ht hT hg (by with_unfolding_all rfl)

/-- the items of xs[lo:hi] -/
def cutV (xs : List V) (lo hi : Option Int) : List V := (xs.drop (HT.sIx xs.length 0 lo)).take (HT.sIx xs.length xs.length hi - HT.sIx xs.length 0 lo)
theorem cutV_length (xs : List V) (lo hi : Option Int) : (cutV xs lo hi).length ≤ xs.length := by
  unfold cutV
  rw [List.length_take, List.length_drop]
  omega
/-- t[lo:hi], not the whole of it (the whole would be t itself) -/
def rSlT (K : PySem.W.Frag) : V → Option Int → Option Int → Hp → VK → Prop := fun x lo hi H Q => ∃ a xs, x = .ref a ∧ SqT K H a xs ∧
  ¬ (HT.sIx xs.length 0 lo = 0 ∧ HT.sIx xs.length xs.length hi = xs.length) ∧ ∀ p, H p = none → Q (.ref p) (upd H p (.tup (cutV xs lo hi)))
theorem sl_tup : SlR X (rSlT X.K) := by
  intro pins s σ H x v vl vu lo hi sl Q I rx hs pl pu h
  obtain ⟨a, xs, rfl, hx, hw, q⟩ := h
  cases rx
  obtain ⟨its, r, ht, hz⟩ := I.tuple hx
  have hlen : its.toArray.size = xs.length := by rw [List.size_toArray]; exact r.length.symm
  refine ⟨"tuple", _, PyProof.Rows.slot_tuple_getitem.lookup, ht.typeIs, ?_⟩
  refine HT.getItem_tuple_cut ht hs pl pu (by rw [hlen]; exact hw) ?_ (by rw [hlen]; exact hz)
  rw [hlen]
  refine ⟨.ref s.heap.objs.size, _, I.laid (t' := s.toks) (o := .tup (cutV xs lo hi)) (fun b ob q => Heap.get?_push_of_some _ q) (Nat.le_refl _) ?_, rfl, q _ (I.hok.fresh (Nat.le_refl _))⟩
  exact ⟨Nat.le_trans (cutV_length xs lo hi) hz, _, (r.drop (HT.sIx xs.length 0 lo)).take (HT.sIx xs.length xs.length hi - HT.sIx xs.length 0 lo), IsTup.new _ _⟩

/-! ### t < u, t + u -/
def rLtT (K : PySem.W.Frag) : R2 := fun x y H Q => ∃ a b ns ms, x = .ref a ∧ y = .ref b ∧ SqT K H a (ns.map V.int) ∧ SqT K H b (ms.map V.int) ∧ Q (.bl (HT.lexLt ns ms)) H
theorem op_ltT (hu : X.A.units < cLine) : OpR X (compareOp .Lt) (rLtT X.K) := by
  intro pins s σ H x y v u Q I rx ry h
  obtain ⟨a, b, ns, ms, rfl, rfl, ha, hb, q⟩ := h
  cases rx
  cases ry
  obtain ⟨its, r1, p1, _⟩ := I.tuple ha
  obtain ⟨its2, r2, p2, _⟩ := I.tuple hb
  have i1 : IntsAre its.toArray.toList ns := intsAre_of r1
  have i2 : IntsAre its2.toArray.toList ms := intsAre_of r2
  exact HT.lt_tupInts p1 p2 i1 i2 hu ⟨.bl (HT.lexLt ns ms), H, I, rfl, q⟩
/-- t + u, t not empty: u empty gives t itself -/
def rCatT (K : PySem.W.Frag) : R2 := fun x y H Q => ∃ a b xs ys, x = .ref a ∧ y = .ref b ∧ SqT K H a xs ∧ SqT K H b ys ∧ xs ≠ [] ∧ xs.length + ys.length ≤ sizeLine ∧
  (ys = [] → Q (.ref a) H) ∧ (ys ≠ [] → ∀ p, H p = none → Q (.ref p) (upd H p (.tup (xs ++ ys))))
theorem Vals.nil_iff {xs : List V} {us : List Value} (r : Vals xs us) : us = [] ↔ xs = [] := by
  cases r with
  | nil => simp
  | cons _ _ => simp
theorem op_catT : OpR X (binaryOp .Add) (rCatT X.K) := by
  intro pins s σ H x y v u Q I rx ry h
  obtain ⟨a, b, xs, ys, rfl, rfl, ha, hb, hx, hz, q1, q2⟩ := h
  cases rx
  cases ry
  obtain ⟨its, r1, p1, _⟩ := I.tuple ha
  obtain ⟨its2, r2, p2, _⟩ := I.tuple hb
  refine HT.cat_tup p1 p2 (fun z => hx (r1.nil_iff.mp z)) (fun z => ⟨.ref a, H, I, rfl, q1 (r2.nil_iff.mp z)⟩) (fun z => ?_) (by rw [← r1.length, ← r2.length]; exact hz)
  refine ⟨.ref s.heap.objs.size, _, I.laid (t' := s.toks) (o := .tup (xs ++ ys)) (fun b ob q => Heap.get?_push_of_some _ q) (Nat.le_refl _) ?_, rfl, q2 (fun w => z (r2.nil_iff.mpr w)) _ (I.hok.fresh (Nat.le_refl _))⟩
  exact ⟨by rw [List.length_append]; exact hz, _, r1.append r2, IsTup.new _ _⟩
/-- tuple(t) -/
theorem call_tupleT : CallR X (.type "tuple") (fun xs H Q => ∃ a ys, xs = [.ref a] ∧ SqT X.K H a ys ∧ Q (.ref a) H) := by
  intro pins s σ H xs us Q I r h
  obtain ⟨a, ys, rfl, ha, q⟩ := h
  obtain ⟨u, rfl, ru⟩ := vals1 r
  cases ru
  obtain ⟨its, _, p1, _⟩ := I.tuple ha
  exact call_tuple_same (items := its.toArray) p1 ⟨.ref a, H, I, rfl, q⟩
end
end L2

namespace L2
open PySem PySem.Spec PyProof.Rows

/-! ### places -/
/-- the place that an index of any sign means -/
def ixN (n : Nat) (i : Int) : Option Nat := if 0 ≤ i then (if i < n then some i.toNat else none) else if -(n : Int) ≤ i then some (i + n).toNat else none
def atI {α : Type} (xs : List α) (i : Int) : Option α := (ixN xs.length i).bind fun j => xs[j]?
theorem ixN_seq {n : Nat} {i : Int} {j : Nat} (h : ixN n i = some j) : seqIndex? i n = some j ∧ j < n ∧ -(n : Int) ≤ i ∧ i < n := by
  unfold ixN at h
  by_cases h0 : 0 ≤ i
  · rw [if_pos h0] at h
    by_cases h1 : i < n
    · rw [if_pos h1] at h
      have e : i.toNat = j := Option.some.inj h
      exact ⟨by rw [seqIndex_of h0 h1, e], by omega, by omega, h1⟩
    · rw [if_neg h1] at h; cases h
  · rw [if_neg h0] at h
    by_cases h1 : -(n : Int) ≤ i
    · rw [if_pos h1] at h
      have e : (i + n).toNat = j := Option.some.inj h
      exact ⟨by rw [seqIndex_neg (by omega) h1, e], by omega, h1, by omega⟩
    · rw [if_neg h1] at h; cases h
theorem atI_get {α : Type} {xs : List α} {i : Int} {v : α} (h : atI xs i = some v) : ∃ j, seqIndex? i xs.length = some j ∧ xs[j]? = some v ∧ j < xs.length ∧ -(xs.length : Int) ≤ i ∧ i < xs.length := by
  unfold atI at h
  cases e : ixN xs.length i with
  | none => rw [e] at h; cases h
  | some j =>
    rw [e] at h
    obtain ⟨h1, h2, h3, h4⟩ := ixN_seq e
    exact ⟨j, h1, h, h2, h3, h4⟩
theorem atI_nat {α : Type} {xs : List α} {j : Nat} {v : α} (h : xs[j]? = some v) : atI xs (j : Int) = some v := by
  have hj : j < xs.length := (List.getElem?_eq_some_iff.mp h).1
  have e : ixN xs.length (j : Int) = some j := by
    unfold ixN
    rw [if_pos (by omega), if_pos (by omega)]; simp
  unfold atI; rw [e]; exact h
theorem atI_last {α : Type} (xs : List α) (v : α) : atI (xs ++ [v]) (-1) = some v := by
  have hl : (xs ++ [v]).length = xs.length + 1 := by simp
  have e : ixN (xs ++ [v]).length (-1) = some xs.length := by
    unfold ixN
    rw [hl, if_neg (by decide), if_pos (by omega)]
    congr 1
    omega
  unfold atI
  rw [e]
  show (xs ++ [v])[xs.length]? = some v
  simp

/-! ### what may be subscripted -/
/-- what stands as an index of a plain subscript -/
def PlainIx (b : Expr) : Prop := ∀ o i, subscripted b false o i = operate [o, i] (getItem o i)
/-- a subscript by values -/
def IxR (X : Cx) (r : R2) : Prop :=
  ∀ (value slice : Expr) (pins : List (Addr × Obj)) (s : Shared) (σ : St) (H : Hp) (x y : V) (v u : Value) (Q : VK), Inv X pins σ H s → RelV x v → RelV y u → r x y H Q →
    subscripted slice false v u = operate [v, u] (getItem v u) → wpAny (model X.prog X.w) X.A (subscriptTail value slice v u) (EP X pins σ Q) X.xe s
/-- a call of a builtin's method by values: the receiver, the arguments -/
def MtR (X : Cx) (id : String) (r : V → List V → Hp → VK → Prop) : Prop :=
  ∀ (pins : List (Addr × Obj)) (s : Shared) (σ : St) (H : Hp) (x : V) (xs : List V) (v : Value) (us : List Value) (Q : VK), Inv X pins σ H s → RelV x v → Vals xs us → r x xs H Q →
    wpAny (model X.prog X.w) X.A (call (.builtin id) (v :: us)) (EP X pins σ Q) X.xe s
section
variable {X : Cx} {a b : Expr} {ta tb : TE} {pos : Pos}
theorem IxR.or {r r' : R2} (h : IxR X r) (h' : IxR X r') : IxR X (fun x y H Q => r x y H Q ∨ r' x y H Q) := by
  intro value slice pins s σ H x y v u Q I rx ry q hs
  rcases q with q | q
  · exact h value slice pins s σ H x y v u Q I rx ry q hs
  · exact h' value slice pins s σ H x y v u Q I rx ry q hs
theorem MtR.or {id : String} {r r' : V → List V → Hp → VK → Prop} (h : MtR X id r) (h' : MtR X id r') : MtR X id (fun x xs H Q => r x xs H Q ∨ r' x xs H Q) := by
  intro pins s σ H x xs v us Q I rx rs q
  rcases q with q | q
  · exact h pins s σ H x xs v us Q I rx rs q
  · exact h' pins s σ H x xs v us Q I rx rs q
/-- a[b] -/
theorem pe_ix {r : R2} (hr : IxR X r) (ha : PE X a ta) (hb : PE X b tb) (hs : PlainIx b) : PE X (.Subscript a b pos) (tOp r ta tb) := by
  intro pins s σ H Q I h
  exact Subscript_ (binT ha hb I h fun v u s2 x y H2 I2 rx ry q => hr a b pins s2 σ H2 x y v u Q I2 rx ry q (hs _ _))

def rIxL (K : PySem.W.Frag) : R2 := fun x y H Q => ∃ p xs i v, x = .ref p ∧ y = .int i ∧ SqL K H p xs ∧ atI xs i = some v ∧ Q v H
def rIxT (K : PySem.W.Frag) : R2 := fun x y H Q => ∃ p xs i v, x = .ref p ∧ y = .int i ∧ SqT K H p xs ∧ atI xs i = some v ∧ Q v H
def rIxS : R2 := fun x y H Q => ∃ z i c, x = .str z ∧ y = .int i ∧ z.length ≤ sizeLine ∧ atI z.cps.toList i = some c ∧ Q (.str ⟨#[c]⟩) H
theorem ix_list : IxR X (rIxL X.K) := by
  intro value slice pins s σ H x y v u Q I rx ry h hs
  obtain ⟨p, xs, i, z, rfl, rfl, hq, he, q⟩ := h
  cases rx
  obtain ⟨t, rfl⟩ := ry
  obtain ⟨its, r, pl, hz⟩ := I.list hq
  obtain ⟨j, h1, h2, h3, h4, h5⟩ := atI_get he
  obtain ⟨w, ew, rw'⟩ := r.get h2
  have hl := r.length
  have hn := line63
  have fin : EP X pins σ Q w s := ⟨z, H, I, rw', q⟩
  by_cases h0 : 0 ≤ i
  · have hj : i.toNat = j := by
      rw [seqIndex_of h0 h5] at h1
      exact Option.some.inj h1
    exact item_listR pl.isList h0 (by omega) (by rw [hj]; simpa using ew) fin hs
  · have hj : (i + (its.toArray.size : Int)).toNat = j := by
      rw [seqIndex_neg (by omega) h4] at h1
      rw [List.size_toArray, ← hl]
      exact Option.some.inj h1
    exact subscriptTail_builtinR (x := w) pl.isList.typeIs slot_list_getitem.lookup
      (wpAny_getItem_list_neg (Q := fun r s' => r = w ∧ EP X pins σ Q r s') pl.isList (by omega) (by rw [List.size_toArray] <;> omega) (by omega) (by rw [hj]; simpa using ew) ⟨rfl, fin⟩) hs
theorem ix_tup : IxR X (rIxT X.K) := by
  intro value slice pins s σ H x y v u Q I rx ry h hs
  obtain ⟨p, xs, i, z, rfl, rfl, hq, he, q⟩ := h
  cases rx
  obtain ⟨t, rfl⟩ := ry
  obtain ⟨its, r, pl, hz⟩ := I.tuple hq
  obtain ⟨j, h1, h2, h3, h4, h5⟩ := atI_get he
  obtain ⟨w, ew, rw'⟩ := r.get h2
  have hl := r.length
  have hn := line63
  have fin : EP X pins σ Q w s := ⟨z, H, I, rw', q⟩
  exact subscriptTail_builtinR (x := w) pl.typeIs slot_tuple_getitem.lookup
    (getItem_tuple (j := j) (Q := fun r s' => r = w ∧ EP X pins σ Q r s') pl (by omega) (by omega) (by rw [List.size_toArray, ← hl]; exact h1) (by simpa using ew) ⟨rfl, fin⟩) hs
theorem ix_str : IxR X rIxS := by
  intro value slice pins s σ H x y v u Q I rx ry h hs
  obtain ⟨z, i, c, rfl, rfl, hz, he, q⟩ := h
  obtain ⟨t, rfl⟩ := rx
  obtain ⟨t', rfl⟩ := ry
  obtain ⟨j, h1, h2, h3, h4, h5⟩ := atI_get he
  have hl : z.cps.toList.length = z.length := by simp [Str.length]
  rw [hl] at h1 h4 h5
  have hn := line63
  exact tail_any (typeIs_str s z t) slot_str_getitem.lookup (getItem_str (c := c) (by
    have e1 : decide (i < -(2 ^ 63 : Int)) = false := decide_eq_false (by omega)
    have e2 : decide (i ≥ 2 ^ 63) = false := decide_eq_false (by omega)
    rw [e1, e2, Bool.or_false]) (by rw [h1]; simpa using h2) ⟨.str ⟨#[c]⟩, H, I.tok _, ⟨_, rfl⟩, q⟩) hs
/-- list, tuple or str -/
def rIx (K : PySem.W.Frag) : R2 := fun x y H Q => rIxL K x y H Q ∨ rIxT K x y H Q ∨ rIxS x y H Q
theorem ix_seq : IxR X (rIx X.K) := ix_list.or (ix_tup.or ix_str)

/-! ### xs[i] = v, any sign -/
/-- the list's object behind a store -/
theorem mapSeq_set (its : List Value) (n j : Nat) (u : Value) : Obj.mapSeq (·.setIfInBounds j u) { cls := .type "list", data := .seq its.toArray n } = { cls := .type "list", data := .seq (its.set j u).toArray n } := by
  simp [Obj.mapSeq]
theorem Inv.lst {pins : List (Addr × Obj)} {σ : St} {H : Hp} {s : Shared} {p : Addr} {xs : List V} (I : Inv X pins σ H s) (h : H p = some (.lst xs)) :
    ∃ (its : List Value) (n : Nat), Vals xs its ∧ s.heap.get? p = some { cls := .type "list", data := .seq its.toArray n } ∧ xs.length ≤ sizeLine := by
  obtain ⟨z, its, n, r, e⟩ := I.hok p _ h
  exact ⟨its, n, r, e, z⟩
/-- the list at p is written by an update of its object -/
theorem Inv.lstUpd {pins : List (Addr × Obj)} {σ : St} {H : Hp} {s : Shared} {p : Addr} {xs ys : List V} {its its' : List Value} {n n' : Nat} {f : Obj → Obj} (I : Inv X pins σ H s) (h : H p = some (.lst xs))
    (ho : s.heap.get? p = some { cls := .type "list", data := .seq its.toArray n }) (hf : f { cls := .type "list", data := .seq its.toArray n } = { cls := .type "list", data := .seq its'.toArray n' }) (r : Vals ys its') (hz : ys.length ≤ sizeLine) (t : Nat) :
    Inv X pins σ (upd H p (.lst ys)) { s with heap := s.heap.update p f, toks := t } := by
  have e : (s.heap.update p f).get? p = some { cls := .type "list", data := .seq its'.toArray n' } := by
    rw [Heap.get?_update_self f ho (by rw [hf] <;> rfl), hf]
  refine I.write (x := p) (e := p) (by rw [h]; trivial) (.inl rfl) (fun b u hb q => (Heap.get?_update_other _ _ (Ne.symm hb)).trans q) ⟨_, e⟩ ?_
  exact ⟨hz, its', n', r, e⟩
def rSetL : V → V → V → Hp → (Hp → Prop) → Prop := fun o i v H Q => ∃ p xs k j, o = .ref p ∧ i = .int k ∧ H p = some (.lst xs) ∧ ixN xs.length k = some j ∧ Q (upd H p (.lst (xs.set j v)))
theorem set_list : PSet X rSetL := by
  intro pins s σ H o i v ov iv u Q I ro ri rv h
  obtain ⟨p, xs, k, j, rfl, rfl, hp, hj, q⟩ := h
  cases ro
  obtain ⟨t, rfl⟩ := ri
  obtain ⟨its, n, r, ho, hz⟩ := I.lst hp
  obtain ⟨h1, h2, h3, h4⟩ := ixN_seq hj
  have hl := r.length
  have hn := line63
  have I' : Inv X pins σ (upd H p (.lst (xs.set j v))) { s with heap := s.heap.update p (Obj.mapSeq (·.setIfInBounds j u)) } :=
    I.lstUpd hp ho (mapSeq_set its n j u) (r.set rv j) (by rw [List.length_set]; exact hz) s.toks
  by_cases h0 : 0 ≤ k
  · have hk : k.toNat = j := by
      rw [seqIndex_of h0 h4] at h1
      exact Option.some.inj h1
    exact PySem.W.ki_setAt ho h0 (by omega) (by rw [List.size_toArray, ← hl]; exact h4) (by rw [hk]; exact ⟨_, I', q⟩)
  · have hk : (k + (its.toArray.size : Int)).toNat = j := by
      rw [seqIndex_neg (by omega) h3] at h1
      rw [List.size_toArray, ← hl]
      exact Option.some.inj h1
    exact PySem.W.ki_setBack ho (by omega) (by rw [List.size_toArray, ← hl]; exact h3) (by omega) (by rw [hk]; exact ⟨_, I', q⟩)

/-! ### slices -/
theorem slice_bounds (lo hi : Option Int) (n : Nat) : (sliceBounds lo hi none n).1 = ((HT.sIx n 0 lo : Nat) : Int) ∧ (sliceBounds lo hi none n).2.1 = ((HT.sIx n n hi : Nat) : Int) ∧ (sliceBounds lo hi none n).2.2 = 1 := by
  refine ⟨?_, ?_, rfl⟩
  · cases lo with
    | none => simp [sliceBounds, HT.sIx]
    | some i =>
      simp only [sliceBounds, HT.sIx, Option.getD_none, show (1 : Int) > 0 by decide, if_true]
      by_cases h : i < 0
      · simp only [h, if_true] <;> omega
      · simp only [h, if_false] <;> omega
  · cases hi with
    | none => simp [sliceBounds, HT.sIx]
    | some i =>
      simp only [sliceBounds, HT.sIx, Option.getD_none, show (1 : Int) > 0 by decide, if_true]
      by_cases h : i < 0
      · simp only [h, if_true] <;> omega
      · simp only [h, if_false] <;> omega
theorem slicePick_cut (its : List Value) (lo hi : Option Int) : slicePick its.toArray lo hi none = ((its.drop (HT.sIx its.length 0 lo)).take (HT.sIx its.length its.length hi - HT.sIx its.length 0 lo)).toArray := by
  obtain ⟨h1, h2, h3⟩ := slice_bounds lo hi its.toArray.size
  unfold slicePick
  rw [h1, h2, h3]
  simp only [sliceRange_one, pick_run, List.size_toArray] <;> rfl
/-- xs[lo:hi] of a list: a new list -/
def rSlL (K : PySem.W.Frag) : V → Option Int → Option Int → Hp → VK → Prop := fun x lo hi H Q => ∃ a xs, x = .ref a ∧ SqL K H a xs ∧ ∀ p, H p = none → Q (.ref p) (upd H p (.lst (cutV xs lo hi)))
theorem sl_list : SlR X (rSlL X.K) := by
  intro pins s σ H x v vl vu lo hi sl Q I rx hs pl pu h
  obtain ⟨a, xs, rfl, hx, q⟩ := h
  cases rx
  obtain ⟨its, r, ht, hz⟩ := I.list hx
  have hlen := r.length
  refine ⟨"list", _, slot_list_getitem.lookup, ht.isList.typeIs, ?_⟩
  refine wpAny_getItem_list_slice ht.isList hs pl pu .none (by simp) ?_ (by rw [List.size_toArray] <;> omega)
  rw [slicePick_cut, ← hlen]
  refine ⟨.ref s.heap.objs.size, _, I.laid (t' := s.toks) (o := .lst (cutV xs lo hi)) (fun b ob q => Heap.get?_push_of_some _ q) (Nat.le_refl _) ?_, rfl, q _ (I.hok.fresh (Nat.le_refl _))⟩
  exact ⟨Nat.le_trans (cutV_length xs lo hi) hz, _, 0, (r.drop (HT.sIx xs.length 0 lo)).take (HT.sIx xs.length xs.length hi - HT.sIx xs.length 0 lo), Heap.get?_push_size _ rfl⟩

/-! ### in, not in: flat items -/
def flatV : V → Bool
  | .non => true
  | .bl _ => true
  | .int _ => true
  | .str _ => true
  | _ => false
/-- == of flat values -/
def eqV : V → V → Bool
  | .non, .non => true
  | .bl a, .bl b => a == b
  | .bl a, .int b => (if a then 1 else 0) == b
  | .int a, .bl b => a == (if b then 1 else 0)
  | .int a, .int b => a == b
  | .str a, .str b => a == b
  | _, _ => false
theorem eqAt_V {A : Around} {s : Shared} {y x : V} {u v : Value} (ry : RelV y u) (rx : RelV x v) (fy : flatV y = true) (fx : flatV x = true) : SeqAt.EqAt A s u v (eqV y x) := by
  cases y with
  | non =>
    cases ry
    cases x with
    | non => cases rx; exact SeqAt.EqAt.same _
    | bl b => cases rx; exact SeqAt.EqAt.none_bool b
    | int b => obtain ⟨t, rfl⟩ := rx; exact SeqAt.EqAt.none_int b t
    | str b => obtain ⟨t, rfl⟩ := rx; exact SeqAt.EqAt.none_str b t
    | _ => exact absurd (show false = true from fx) Bool.false_ne_true
  | bl a =>
    cases ry
    cases x with
    | non => cases rx; exact SeqAt.EqAt.bool_none a
    | bl b => cases rx; exact SeqAt.EqAt.bool_bool a b
    | int b => obtain ⟨t, rfl⟩ := rx; exact SeqAt.EqAt.bool_int a b t
    | str b => obtain ⟨t, rfl⟩ := rx; exact SeqAt.EqAt.bool_str a b t
    | _ => exact absurd (show false = true from fx) Bool.false_ne_true
  | int a =>
    obtain ⟨t', rfl⟩ := ry
    cases x with
    | non => cases rx; exact SeqAt.EqAt.int_none a t'
    | bl b => cases rx; exact SeqAt.EqAt.int_bool a t' b
    | int b => obtain ⟨t, rfl⟩ := rx; exact SeqAt.EqAt.int_int a t' b t
    | str b => obtain ⟨t, rfl⟩ := rx; exact SeqAt.EqAt.int_str a t' b t
    | _ => exact absurd (show false = true from fx) Bool.false_ne_true
  | str a =>
    obtain ⟨t', rfl⟩ := ry
    cases x with
    | non => cases rx; exact SeqAt.EqAt.str_none a t'
    | bl b => cases rx; exact SeqAt.EqAt.str_bool a t' b
    | int b => obtain ⟨t, rfl⟩ := rx; exact SeqAt.EqAt.str_int a t' b t
    | str b => obtain ⟨t, rfl⟩ := rx; exact SeqAt.EqAt.str_str a t' b t
    | _ => exact absurd (show false = true from fx) Bool.false_ne_true
  | _ => exact absurd (show false = true from fy) Bool.false_ne_true
/-- the items' answers, read off the values (a value's own answer does not lean on its token) -/
def eqU (x : V) (u : Value) : Bool := match u with
  | .none => eqV .non x
  | .bool b => eqV (.bl b) x
  | .int i _ => eqV (.int i) x
  | .str z _ => eqV (.str z) x
  | _ => false
theorem eqU_of {x y : V} {u : Value} (r : RelV y u) (f : flatV y = true) : eqU x u = eqV y x := by
  cases y with
  | non => cases r; rfl
  | bl b => cases r; rfl
  | int i => obtain ⟨t, rfl⟩ := r; rfl
  | str z => obtain ⟨t, rfl⟩ := r; rfl
  | _ => exact absurd (show false = true from f) Bool.false_ne_true
theorem any_eqU {x : V} : ∀ {xs : List V} {us : List Value}, Vals xs us → xs.all flatV = true → us.any (eqU x) = xs.any fun y => eqV y x
  | _, _, .nil, _ => rfl
  | y :: xs, u :: us, .cons r t, f => by
    rw [List.all_cons, Bool.and_eq_true] at f
    rw [List.any_cons, List.any_cons, eqU_of r f.1, any_eqU t f.2]
theorem mem_eqAt {A : Around} {s : Shared} {x : V} {v : Value} (rx : RelV x v) (fx : flatV x = true) : ∀ {xs : List V} {us : List Value}, Vals xs us → xs.all flatV = true → ∀ u ∈ us, SeqAt.EqAt A s u v (eqU x u)
  | _, _, .nil, _ => fun u hu => by cases hu
  | y :: xs, u :: us, .cons r t, f => fun u' hu => by
    rw [List.all_cons, Bool.and_eq_true] at f
    rcases List.mem_cons.mp hu with rfl | hu
    · rw [eqU_of r f.1]; exact eqAt_V r rx f.1 fx
    · exact mem_eqAt rx fx t f.2 u' hu
def inV (x : V) (xs : List V) : Bool := xs.any fun y => eqV y x
/-- x in a list or tuple of flat items -/
def rIn (K : PySem.W.Frag) (neg : Bool) : R2 := fun x y H Q => ∃ p xs, y = .ref p ∧ (SqL K H p xs ∨ SqT K H p xs) ∧ flatV x = true ∧ xs.all flatV = true ∧ Q (.bl (if neg then !inV x xs else inV x xs)) H
theorem op_in_seq : OpR X (compareOp .In) (rIn X.K false) := by
  intro pins s σ H x y v u Q I rx ry h
  obtain ⟨p, xs, rfl, hq, fx, fs, q⟩ := h
  cases ry
  rcases hq with hq | hq
  · obtain ⟨its, r, pl, hz⟩ := I.list hq
    refine SeqAt.in_listAt (eqU x) pl.isList (fun w hw => mem_eqAt rx fx r fs w (by simpa using hw)) ⟨.bl _, H, I, rfl, ?_⟩
    rw [show its.toArray.any (eqU x) = its.any (eqU x) by simp, any_eqU r fs]
    exact q
  · obtain ⟨its, r, pl, hz⟩ := I.tuple hq
    refine SeqAt.in_tupleAt (eqU x) pl (fun w hw => mem_eqAt rx fx r fs w (by simpa using hw)) ⟨.bl _, H, I, rfl, ?_⟩
    rw [show its.toArray.any (eqU x) = its.any (eqU x) by simp, any_eqU r fs]
    exact q
theorem op_notIn_seq : OpR X (compareOp .NotIn) (rIn X.K true) := by
  intro pins s σ H x y v u Q I rx ry h
  obtain ⟨p, xs, rfl, hq, fx, fs, q⟩ := h
  cases ry
  rcases hq with hq | hq
  · obtain ⟨its, r, pl, hz⟩ := I.list hq
    refine SeqAt.notIn_listAt (eqU x) pl.isList (fun w hw => mem_eqAt rx fx r fs w (by simpa using hw)) ⟨.bl _, H, I, rfl, ?_⟩
    rw [show its.toArray.any (eqU x) = its.any (eqU x) by simp, any_eqU r fs]
    exact q
  · obtain ⟨its, r, pl, hz⟩ := I.tuple hq
    refine SeqAt.notIn_tupleAt (eqU x) pl (fun w hw => mem_eqAt rx fx r fs w (by simpa using hw)) ⟨.bl _, H, I, rfl, ?_⟩
    rw [show its.toArray.any (eqU x) = its.any (eqU x) by simp, any_eqU r fs]
    exact q
theorem op_notIn_str : OpR X (compareOp .NotIn) (fun x y H Q => ∃ i j, x = .str i ∧ y = .str j ∧ Q (.bl (!(!(Builtin.Str.occurrences j i 0 j.length 1).isEmpty))) H) := by
  intro pins s σ H x y v u Q I rx ry h
  obtain ⟨i, j, rfl, rfl, q⟩ := h
  obtain ⟨t, rfl⟩ := rx
  obtain ⟨t', rfl⟩ := ry
  exact notIn_str ⟨.bl _, H, I, rfl, q⟩

/-! ### len, list(x), tuple(x) of any list or tuple that is read -/
theorem call_len_seq : CallR X (.builtin "len") (fun xs H Q => ∃ p ys, xs = [.ref p] ∧ (SqL X.K H p ys ∨ SqT X.K H p ys) ∧ Q (.int ys.length) H) := by
  intro pins s σ H xs us Q I r h
  obtain ⟨p, ys, rfl, hq, q⟩ := h
  obtain ⟨u, rfl, rx⟩ := vals1 r
  cases rx
  have hn := line63
  rcases hq with hq | hq
  · obtain ⟨its, r', pl, hz⟩ := I.list hq
    have hlen := r'.length
    exact Calls.call_len_list pl.isList (by simp only [List.size_toArray] <;> omega) ⟨.int ys.length, H, I.tok _, ⟨s.toks + 1, by rw [List.size_toArray, hlen]⟩, q⟩
  · obtain ⟨its, r', pl, hz⟩ := I.tuple hq
    have hlen := r'.length
    exact len_tuple pl (by simp only [List.size_toArray] <;> omega) ⟨.int ys.length, H, I.tok _, ⟨s.toks + 1, by rw [List.size_toArray, hlen]⟩, q⟩
theorem call_len_str : CallR X (.builtin "len") (fun xs H Q => ∃ z, xs = [.str z] ∧ z.length ≤ sizeLine ∧ Q (.int z.length) H) := by
  intro pins s σ H xs us Q I r h
  obtain ⟨z, rfl, hz, q⟩ := h
  obtain ⟨u, rfl, t, rfl⟩ := vals1 r
  have hn := line63
  exact len_str (by omega) ⟨.int z.length, H, I.tok _, ⟨_, rfl⟩, q⟩
theorem CallR.or {f : Value} {r r' : List V → Hp → VK → Prop} (h : CallR X f r) (h' : CallR X f r') : CallR X f (fun xs H Q => r xs H Q ∨ r' xs H Q) := by
  intro pins s σ H xs us Q I rs q
  rcases q with q | q
  · exact h pins s σ H xs us Q I rs q
  · exact h' pins s σ H xs us Q I rs q
theorem call_list_of : CallR X (.type "list") (fun xs H Q => ∃ p ys, xs = [.ref p] ∧ (SqL X.K H p ys ∨ SqT X.K H p ys) ∧ ∀ l, H l = none → Q (.ref l) (upd H l (.lst ys))) := by
  intro pins s σ H xs us Q I r h
  obtain ⟨p, ys, rfl, hq, q⟩ := h
  obtain ⟨u, rfl, rx⟩ := vals1 r
  cases rx
  have fin : ∀ (its : List Value), Vals ys its → ys.length ≤ sizeLine → ∀ (h' : Heap) (c' : Nat), (∀ b o', s.heap.get? b = some o' → h'.get? b = some o') →
      h'.get? s.heap.objs.size = some { cls := .type "list", dict := none, data := .seq its.toArray c', slots := #[] } → EP X pins σ Q (.ref s.heap.objs.size) { s with heap := h' } := fun its r' hz h' c' kp e =>
    ⟨.ref s.heap.objs.size, _, I.laid (t' := s.toks) kp (Nat.le_refl _) (show ObjOk X.prog X.w _ h' _ (.lst ys) from ⟨hz, its, c', r', e⟩), rfl, q _ (I.hok.fresh (Nat.le_refl _))⟩
  rcases hq with hq | hq
  · obtain ⟨its, r', pl, hz⟩ := I.list hq
    have hlen := r'.length
    obtain ⟨o, ho, hc, n, hd⟩ := pl.isList
    exact call_list_seq p (.inl rfl) ho hc hd (fun h' c' kp e => fin its r' hz h' c' kp e) (by simp only [List.size_toArray] <;> omega)
  · obtain ⟨its, r', pl, hz⟩ := I.tuple hq
    have hlen := r'.length
    obtain ⟨o, ho, hc, n, hd⟩ := pl
    exact call_list_seq p (.inr rfl) ho hc hd (fun h' c' kp e => fin its r' hz h' c' kp e) (by simp only [List.size_toArray] <;> omega)
theorem call_tuple_of : CallR X (.type "tuple") (fun xs H Q => ∃ p ys, xs = [.ref p] ∧ ((SqL X.K H p ys ∧ ∀ l, H l = none → Q (.ref l) (upd H l (.tup ys))) ∨ (SqT X.K H p ys ∧ Q (.ref p) H))) := by
  intro pins s σ H xs us Q I r h
  obtain ⟨p, ys, rfl, h⟩ := h
  obtain ⟨u, rfl, rx⟩ := vals1 r
  cases rx
  rcases h with ⟨hq, q⟩ | ⟨hq, q⟩
  · obtain ⟨its, r', pl, hz⟩ := I.list hq
    have hlen := r'.length
    refine call_tuple_list pl.isList (fun h' kp => ?_) (by simp only [List.size_toArray] <;> omega)
    have I1 : Inv X pins σ H { s with heap := h' } := I.kept (t' := s.toks) kp
    have I2 : Inv X pins σ (upd H h'.objs.size (.tup ys)) { s with heap := h'.push { cls := .type "tuple", data := .seq its.toArray } } :=
      I1.laid (t' := s.toks) (fun b o e => Heap.get?_push_of_some _ e) (Nat.le_refl _) (show ObjOk X.prog X.w _ _ _ (.tup ys) from ⟨hz, its, r', IsTup.new _ _⟩)
    exact ⟨.ref h'.objs.size, _, I2, rfl, q _ (I1.hok.fresh (Nat.le_refl _))⟩
  · obtain ⟨its, r', pl, hz⟩ := I.tuple hq
    exact call_tuple_same pl ⟨.ref p, H, I, rfl, q⟩

/-! ### the call of a builtin's method: o.m(..) -/
/-- the value is of that builtin type -/
def tyV (K : PySem.W.Frag) (T : String) (x : V) (H : Hp) : Prop := match x with
  | .str _ => T = "str"
  | .int _ => T = "int"
  | .ref p => (T = "list" ∧ ∃ xs, SqL K H p xs) ∨ (T = "tuple" ∧ ∃ o, K.lookup p = some o ∧ o.cls = .type "tuple" ∧ o.dict = none) ∨
      (T = "dict" ∧ ((∃ kvs, H p = some (.dK kvs)) ∨ ∃ kvs, H p = some (.dT kvs))) ∨ (T = "set" ∧ ∃ S n, H p = some (.set S n))
  | _ => False
theorem tyV_is {pins : List (Addr × Obj)} {σ : St} {H : Hp} {s : Shared} {T : String} {x : V} {v : Value} (I : Inv X pins σ H s) (r : RelV x v) (ty : tyV X.K T x H) :
    s.TypeIs v T ∧ ∀ a, v = .ref a → ∃ ob, s.heap.get? a = some ob ∧ ob.dict = none := by
  cases x with
  | str z =>
    obtain ⟨t, rfl⟩ := r
    cases (show T = "str" from ty)
    exact ⟨typeIs_str s z t, fun _ e => nomatch e⟩
  | int i =>
    obtain ⟨t, rfl⟩ := r
    cases (show T = "int" from ty)
    exact ⟨typeIs_int s i t, fun _ e => nomatch e⟩
  | ref p =>
    cases r
    rcases ty with ⟨rfl, xs, hq⟩ | ⟨rfl, o, hk, hc, hd⟩ | ⟨rfl, hk⟩ | ⟨rfl, S, n, hk⟩
    · obtain ⟨its, _, pl, _⟩ := I.list hq
      refine ⟨pl.isList.typeIs, fun a e => ?_⟩
      cases e
      obtain ⟨o, n, e, c, hd, _⟩ := pl
      exact ⟨o, e, hd⟩
    · refine ⟨⟨o, I.kIn p o hk, hc⟩, fun a e => ?_⟩
      cases e
      exact ⟨o, I.kIn _ o hk, hd⟩
    · have z : ∃ o, s.heap.get? p = some o ∧ o.ExactDict := by
        rcases hk with ⟨kvs, hk⟩ | ⟨kvs, hk⟩
        · obtain ⟨_, _, _, _, o, _, _, e, ex, _⟩ := I.hok p _ hk
          exact ⟨o, e, ex⟩
        · obtain ⟨_, _, _, _, o, _, _, e, ex, _⟩ := I.hok p _ hk
          exact ⟨o, e, ex⟩
      obtain ⟨o, e, ex⟩ := z
      refine ⟨⟨o, e, ex.1⟩, fun a e2 => ?_⟩
      cases e2
      exact ⟨o, e, ex.2.1⟩
    · obtain ⟨o, _, _, _, e, ex, _⟩ := I.hok p _ hk
      refine ⟨⟨o, e, ex.1⟩, fun a e2 => ?_⟩
      cases e2
      exact ⟨o, e, ex.2.1⟩
  | _ => exact False.elim ty
def tBM0 (K : PySem.W.Frag) (T : String) (r : V → List V → Hp → VK → Prop) (to : TE) : TE := fun σ H Q => to σ H fun x H1 => tyV K T x H1 ∧ r x [] H1 Q
def tBM (K : PySem.W.Frag) (T : String) (r : V → List V → Hp → VK → Prop) (to : TE) (t : TA) : TE := fun σ H Q => to σ H fun x H1 => tyV K T x H1 ∧ t σ H1 fun xs H2 => r x xs H2 Q
variable {o e : Expr} {es : List Expr} {to : TE} {t : TA} {name : Str} {apos cpos : Pos} {T id : String} {r : V → List V → Hp → VK → Prop}
theorem pe_bm0 (pa : PlainAttrs T) (slot : Slot T name id) (hty : typeOf (.builtin id) = pure (.type "method_descriptor")) (hm : MtR X id r) (ho : PE X o to)
    (hbase : attributeBase o name X.env (eval o X.env) = eval o X.env := by rfl) (hline : (apos.endLine == cpos.line) = true := by rfl) : PE X (.Call (.Attribute o name apos) [] [] cpos) (tBM0 X.K T r to) := by
  intro pins s σ H Q I h
  refine wpAny_Call_method0_late hbase hline (thn (ho pins s σ H _ I h) fun v s1 ⟨x, H1, I1, r1, ty, q1⟩ => ?_)
  obtain ⟨h1, h2⟩ := tyV_is I1 r1 ty
  exact ⟨T, id, pa, slot, hty, h1, h2, Calls.callWith_builtin rfl (PySem.evalArgs_none (hm pins s1 σ H1 x [] v [] Q I1 r1 .nil q1))⟩
theorem pe_bm (pa : PlainAttrs T) (slot : Slot T name id) (hty : typeOf (.builtin id) = pure (.type "method_descriptor")) (hm : MtR X id r) (ho : PE X o to) (ha : PA X (e :: es) t)
    (hbase : attributeBase o name X.env (eval o X.env) = eval o X.env := by rfl)
    (hfew : ((backTo cpos (starEach (e :: es) X.env)).all (fun x => !x.1) && (backToKw cpos (keywordEach [] X.env)).all (fun x => x.1.isSome)
      && decide ((e :: es).length + ([] : List Keyword).length + (if ([] : List Keyword).isEmpty then 0 else 1) < 30)) = true := by rfl)
    (hline : (apos.endLine == cpos.line) = true := by rfl) (hs : starEach (e :: es) X.env = (false, eval e X.env) :: starEach es X.env := by rfl) (hplain : (backTo cpos (starEach es X.env)).any (·.1) = false := by rfl) :
    PE X (.Call (.Attribute o name apos) (e :: es) [] cpos) (tBM X.K T r to t) := by
  intro pins s σ H Q I h
  refine wpAny_Call_method_late hbase hfew hline rfl (thn (ho pins s σ H _ I h) fun v s1 ⟨x, H1, I1, r1, ty, q1⟩ => ?_)
  obtain ⟨h1, h2⟩ := tyV_is I1 r1 ty
  refine ⟨T, id, pa, slot, hty, h1, h2, ?_⟩
  have hA := ha cpos pins s1 σ H1 _ I1 q1
  rw [hs] at hA ⊢
  refine Calls.callWith_builtin (by show (false || (backTo cpos (starEach es X.env)).any (·.1)) = false; rw [hplain] <;> rfl) (Calls.evalArgs_plain ?_)
  exact thn hA fun us s2 ⟨vs, H2, I2, r2, q2⟩ => hm pins s2 σ H2 x vs v us Q I2 r1 r2 q2
/- xs.append(e), list.index on a module's tuple .. are MtR facts of 06m -/
end
end L2

namespace L2
open PySem PySem.Spec PyProof.Rows

def MtM (X : Cx) (id : String) (r : V → List V → Hp → VK → Prop) : Prop :=
  ∀ (pins : List (Addr × Obj)) (s : Shared) (σ : St) (H : Hp) (x : V) (xs : List V) (v : Value) (us : List Value) (Q : VK), Inv X pins σ H s → RelV x v → Vals xs us → r x xs H Q →
    wpAny (model X.prog X.w) X.A (call (.builtin id) (v :: us)) (EP X pins σ Q) X.xe s

/-! ### lists of values -/
theorem Vals.one : ∀ {x : V} {us : List Value}, Vals [x] us → ∃ u, us = [u] ∧ RelV x u
  | _, _, .cons r .nil => ⟨_, rfl, r⟩
theorem Vals.two : ∀ {x y : V} {us : List Value}, Vals [x, y] us → ∃ u v, us = [u, v] ∧ RelV x u ∧ RelV y v
  | _, _, _, .cons r (.cons q .nil) => ⟨_, _, rfl, r, q⟩
theorem Vals.zero : ∀ {us : List Value}, Vals [] us → us = []
  | _, .nil => rfl
theorem Vals.dropLast {xs : List V} {us : List Value} (h : Vals xs us) : Vals xs.dropLast us.dropLast := by
  induction h with
  | nil => exact .nil
  | cons r t ih =>
    cases t with
    | nil => exact .nil
    | cons q t' => exact .cons r ih
theorem Vals.eraseIdx : ∀ {xs : List V} {us : List Value} (i : Nat), Vals xs us → Vals (xs.eraseIdx i) (us.eraseIdx i)
  | _, _, _, .nil => .nil
  | _, _, 0, .cons _ t => t
  | _, _, i + 1, .cons r t => .cons r (Vals.eraseIdx i t)
theorem Vals.reverse {xs : List V} {us : List Value} (h : Vals xs us) : Vals xs.reverse us.reverse := by
  induction h with
  | nil => exact .nil
  | cons r t ih => rw [List.reverse_cons, List.reverse_cons]; exact Vals.append ih (.cons r .nil)
theorem Vals.rep {xs : List V} {us : List Value} (h : Vals xs us) : ∀ k : Nat, Vals (List.replicate k xs).flatten (List.replicate k us).flatten
  | 0 => .nil
  | k + 1 => by
    rw [List.replicate_succ, List.replicate_succ, List.flatten_cons, List.flatten_cons]
    exact Vals.append h (Vals.rep h k)
theorem erase_last {α : Type} (l : List α) : l.eraseIdx (l.length - 1) = l.dropLast := by
  induction l with
  | nil => rfl
  | cons a r ih =>
    cases r with
    | nil => rfl
    | cons b r =>
      have e : (a :: b :: r).length - 1 = ((b :: r).length - 1) + 1 := by
        have h1 : (a :: b :: r).length = r.length + 2 := rfl
        have h2 : (b :: r).length = r.length + 1 := rfl
        omega
      rw [e, List.eraseIdx_cons_succ, ih]
      all_goals rfl
theorem len_erase {α : Type} : ∀ (l : List α) (i : Nat), (l.eraseIdx i).length ≤ l.length
  | [], _ => Nat.le_refl _
  | _ :: _, 0 => Nat.le_succ _
  | _ :: r, i + 1 => Nat.succ_le_succ (len_erase r i)
theorem foldl_rep (its : List Value) : ∀ (k : Nat) (acc : List Value),
    List.foldl (fun x1 x2 => x1 ++ x2) acc.toArray (List.replicate k its.toArray) = (acc ++ (List.replicate k its).flatten).toArray
  | 0, acc => by simp
  | k + 1, acc => by
    have e : acc.toArray ++ its.toArray = (acc ++ its).toArray := by simp
    have e2 : (acc ++ its) ++ (List.replicate k its).flatten = acc ++ (List.replicate (k + 1) its).flatten := by
      rw [List.replicate_succ, List.flatten_cons, List.append_assoc]
    rw [← e2, ← foldl_rep its k (acc ++ its), ← e, List.replicate_succ, List.foldl_cons]

section
variable {X : Cx} {pins : List (Addr × Obj)} {σ : St} {H : Hp} {s : Shared} {l b : Addr} {xs ys zs : List V}

/-! ### the two steps: a tracked list is rewritten, a new list is laid -/
theorem Inv.lset {its its' : List Value} {n : Nat} {f : Array Value → Array Value} {t' : Nat} (I : Inv X pins σ H s) (hH : H l = some (.lst xs))
    (e : s.heap.get? l = some { cls := .type "list", data := .seq its.toArray n }) (hf : f its.toArray = its'.toArray) (hv : Vals ys its') (hz : ys.length ≤ sizeLine) :
    Inv X pins σ (upd H l (.lst ys)) { s with heap := s.heap.update l (Obj.mapSeq f), toks := t' } := by
  have q := PySem.IsL.update e f
  rw [hf] at q
  refine I.write (x := l) (e := l) (by rw [hH]; exact trivial) (.inl rfl) (fun b' u hb hu => (Heap.get?_update_other s.heap (Obj.mapSeq f) (Ne.symm hb)).trans hu) ⟨_, q⟩ ?_
  exact ⟨hz, its', _, hv, q⟩
theorem Inv.lnew {its : List Value} {t' : Nat} (I : Inv X pins σ H s) (hv : Vals ys its) (hz : ys.length ≤ sizeLine) :
    Inv X pins σ (upd H s.heap.objs.size (.lst ys)) { s with heap := s.heap.push { cls := .type "list", data := .seq its.toArray }, toks := t' } :=
  I.laid (fun _ _ q => Heap.get?_push_of_some _ q) (Nat.le_refl _) ⟨hz, its, 0, hv, Heap.get?_push_size _ rfl⟩
theorem Inv.fresh (I : Inv X pins σ H s) : H s.heap.objs.size = none := I.hok.fresh (Nat.le_refl _)
theorem Inv.lstM (I : Inv X pins σ H s) (hH : H l = some (.lst xs)) : xs.length ≤ sizeLine ∧ ∃ (its : List Value) (n : Nat), Vals xs its ∧ xs.length = its.length ∧ s.heap.get? l = some { cls := .type "list", data := .seq its.toArray n } := by
  obtain ⟨z, its, n, r, e⟩ := I.hok l _ hH
  exact ⟨z, its, n, r, r.length, e⟩

theorem notLongL {n : Nat} (h : n ≤ sizeLine) : Builtin.List.listTooLong n = false := by
  unfold Builtin.List.listTooLong
  exact decide_eq_false (by omega)
end

section
variable {X : Cx}

/-! ### methods -/
def rAppend : V → List V → Hp → VK → Prop := fun x vs H Q => ∃ l xs y, x = .ref l ∧ vs = [y] ∧ H l = some (.lst xs) ∧ xs.length < sizeLine ∧ Q .non (upd H l (.lst (xs ++ [y])))
theorem mt_append : MtM X "list.append" rAppend := by
  intro pins s σ H x vs v us Q I rx rv h
  obtain ⟨l, xs, y, rfl, rfl, hH, hz, q⟩ := h
  cases rx
  obtain ⟨u, rfl, ru⟩ := rv.one
  obtain ⟨z, its, n, r, hl, e⟩ := I.lstM hH
  refine call_meets F.slot_list_append ⟨_, e, rfl⟩ F.entry_list_append (F.args_list_append_2 _ _) (PySem.list_append l its.toArray n u (by rw [List.size_toArray]; omega)) ⟨e, ?_⟩
  refine ⟨.non, _, I.lset (its' := its ++ [u]) hH e (by simp) (r.append (.cons ru .nil)) ?_, rfl, q⟩
  rw [List.length_append, List.length_singleton]
  omega

def rExtend : V → List V → Hp → VK → Prop := fun x vs H Q => ∃ l b xs zs, x = .ref l ∧ vs = [.ref b] ∧ H l = some (.lst xs) ∧ H b = some (.lst zs) ∧ xs.length + zs.length ≤ sizeLine ∧ Q .non (upd H l (.lst (xs ++ zs)))
theorem mt_extend : MtM X "list.extend" rExtend := by
  intro pins s σ H x vs v us Q I rx rv h
  obtain ⟨l, b, xs, zs, rfl, rfl, hH, hB, hz, q⟩ := h
  cases rx
  obtain ⟨u, rfl, ru⟩ := rv.one
  cases ru
  obtain ⟨z, its, n, r, hl, e⟩ := I.lstM hH
  obtain ⟨z2, its2, n2, r2, hl2, e2⟩ := I.lstM hB
  have hsz : its.toArray.size + its2.toArray.size ≤ sizeLine := by rw [List.size_toArray, List.size_toArray]; omega
  have hlong : ¬ (!its.toArray.isEmpty && Builtin.List.listTooLong (its.toArray.size + its2.toArray.size)) = true := by
    rw [notLongL hsz, Bool.and_false]
    exact Bool.false_ne_true
  refine call_meets F.slot_list_extend ⟨_, e, rfl⟩ F.entry_list_extend (F.args_list_extend_2 _ _)
    (AutoSeq1.list_extend_list_list_0 l its.toArray n b its2.toArray n2 hlong (by rw [List.size_toArray]; omega) (by omega)) ⟨e, e2, ?_⟩
  refine ⟨.non, _, I.lset (its' := its ++ its2) hH e (by simp) (r.append r2) ?_, rfl, q⟩
  rw [List.length_append]
  omega

def rPop : V → List V → Hp → VK → Prop := fun x vs H Q => ∃ l xs y, x = .ref l ∧ vs = [] ∧ H l = some (.lst xs) ∧ xs[xs.length - 1]? = some y ∧ Q y (upd H l (.lst xs.dropLast))
theorem mt_pop : MtM X "list.pop" rPop := by
  intro pins s σ H x vs v us Q I rx rv h
  obtain ⟨l, xs, y, rfl, rfl, hH, hy, q⟩ := h
  cases rx
  have hus := rv.zero
  subst hus
  obtain ⟨z, its, n, r, hl, e⟩ := I.lstM hH
  obtain ⟨u, hu, ru⟩ := r.get hy
  have hy' : its.toArray[its.toArray.size - 1]? = some u := by
    show its.toArray[its.length - 1]? = some u
    rw [← Array.getElem?_toList, ← hl]
    exact hu
  refine call_meets F.slot_list_pop ⟨_, e, rfl⟩ F.entry_list_pop (F.args_list_pop_1 _) (MeetsSeq.list_pop_last l its.toArray n u hy' (by rw [List.size_toArray]; omega)) ⟨e, ?_⟩
  refine ⟨y, _, I.lset (its' := its.dropLast) hH e ?_ r.dropLast ?_, ru, q⟩
  · show its.toArray.eraseIdxIfInBounds (its.toArray.size - 1) = its.dropLast.toArray
    rw [List.size_toArray, List.eraseIdxIfInBounds_toArray, erase_last]
  · rw [List.length_dropLast]
    omega

def rPopAt : V → List V → Hp → VK → Prop := fun x vs H Q => ∃ l xs i k y, x = .ref l ∧ vs = [.int i] ∧ H l = some (.lst xs) ∧ -(2 ^ 63) ≤ i ∧ i < 2 ^ 63 ∧ seqIndex? i xs.length = some k ∧ xs[k]? = some y ∧ Q y (upd H l (.lst (xs.eraseIdx k)))
theorem mt_popAt : MtM X "list.pop" rPopAt := by
  intro pins s σ H x vs v us Q I rx rv h
  obtain ⟨l, xs, i, k, y, rfl, rfl, hH, h1, h2, hk, hy, q⟩ := h
  cases rx
  obtain ⟨u, rfl, ru⟩ := rv.one
  obtain ⟨t, rfl⟩ := ru
  obtain ⟨z, its, n, r, hl, e⟩ := I.lstM hH
  obtain ⟨w, hw, rw'⟩ := r.get hy
  refine call_meets F.slot_list_pop ⟨_, e, rfl⟩ F.entry_list_pop (F.args_list_pop_2 _ _)
    (MeetsSeq.list_pop_at l its.toArray n i t k w (fitsIndex_both h1 h2) (by rw [List.size_toArray, ← hl]; exact hk) (by rw [← Array.getElem?_toList]; exact hw) (by rw [List.size_toArray]; omega)) ⟨e, ?_⟩
  refine ⟨y, _, I.lset (its' := its.eraseIdx k) hH e ?_ (r.eraseIdx k) ?_, rw', q⟩
  · show its.toArray.eraseIdxIfInBounds k = (its.eraseIdx k).toArray
    rw [List.eraseIdxIfInBounds_toArray]
  · have := len_erase xs k
    omega

def rReverse : V → List V → Hp → VK → Prop := fun x vs H Q => ∃ l xs, x = .ref l ∧ vs = [] ∧ H l = some (.lst xs) ∧ Q .non (upd H l (.lst xs.reverse))
theorem mt_reverse : MtM X "list.reverse" rReverse := by
  intro pins s σ H x vs v us Q I rx rv h
  obtain ⟨l, xs, rfl, rfl, hH, q⟩ := h
  cases rx
  have hus := rv.zero
  subst hus
  obtain ⟨z, its, n, r, hl, e⟩ := I.lstM hH
  refine call_meets F.slot_list_reverse ⟨_, e, rfl⟩ F.entry_list_reverse (F.args_list_reverse_1 _) (AutoSeq1.list_reverse_list_0 l its.toArray n (by rw [List.size_toArray]; omega)) ⟨e, ?_⟩
  refine ⟨.non, _, I.lset (its' := its.reverse) hH e (by simp) r.reverse ?_, rfl, q⟩
  rw [List.length_reverse]
  omega

def rClear : V → List V → Hp → VK → Prop := fun x vs H Q => ∃ l xs, x = .ref l ∧ vs = [] ∧ H l = some (.lst xs) ∧ Q .non (upd H l (.lst []))
theorem mt_clear : MtM X "list.clear" rClear := by
  intro pins s σ H x vs v us Q I rx rv h
  obtain ⟨l, xs, rfl, rfl, hH, q⟩ := h
  cases rx
  have hus := rv.zero
  subst hus
  obtain ⟨z, its, n, r, hl, e⟩ := I.lstM hH
  refine call_meets F.slot_list_clear ⟨_, e, rfl⟩ F.entry_list_clear (F.args_list_clear_1 _) (AutoSeq1.list_clear_list_0 l its.toArray n (by rw [List.size_toArray]; omega)) ⟨e, ?_⟩
  exact ⟨.non, _, I.lset (its' := []) (ys := []) hH e rfl .nil (Nat.zero_le _), rfl, q⟩

/-! ### list + list, list += list, list * int -/
def rCat : R2 := fun x y H Q => ∃ l b xs zs, x = .ref l ∧ y = .ref b ∧ H l = some (.lst xs) ∧ H b = some (.lst zs) ∧ xs.length + zs.length ≤ sizeLine ∧ ∀ p, H p = none → Q (.ref p) (upd H p (.lst (xs ++ zs)))
theorem op_cat : OpR X (binaryOp .Add) rCat := by
  intro pins s σ H x y v u Q I rx ry h
  obtain ⟨l, b, xs, zs, rfl, rfl, hH, hB, hz, q⟩ := h
  cases rx
  cases ry
  obtain ⟨z, its, n, r, hl, e⟩ := I.lstM hH
  obtain ⟨z2, its2, n2, r2, hl2, e2⟩ := I.lstM hB
  refine PySem.P.add_list e e2 ?_ (by rw [List.size_toArray, List.size_toArray]; omega)
  have ea : its.toArray ++ its2.toArray = (its ++ its2).toArray := by simp
  rw [ea]
  exact ⟨.ref _, _, I.lnew (t' := s.toks) (r.append r2) (by rw [List.length_append]; omega), rfl, q _ I.fresh⟩
/-- a list times an int (a negative one is nothing) -/
def rRep : R2 := fun x y H Q => ∃ l k xs, x = .ref l ∧ y = .int k ∧ H l = some (.lst xs) ∧ -(2 ^ 63) ≤ k ∧ k < 2 ^ 63 ∧ xs.length * k.toNat ≤ sizeLine ∧
  ∀ p, H p = none → Q (.ref p) (upd H p (.lst (List.replicate k.toNat xs).flatten))
theorem len_rep {α : Type} (xs : List α) (k : Nat) : (List.replicate k xs).flatten.length = k * xs.length := by
  induction k with
  | zero => simp
  | succ k ih => rw [List.replicate_succ, List.flatten_cons, List.length_append, ih, Nat.succ_mul, Nat.add_comm]
theorem op_rep : OpR X (binaryOp .Mult) rRep := by
  intro pins s σ H x y v u Q I rx ry h
  obtain ⟨l, k, xs, rfl, rfl, hH, h1, h2, hz, q⟩ := h
  cases rx
  obtain ⟨t, rfl⟩ := ry
  obtain ⟨z, its, n, r, hl, e⟩ := I.lstM hH
  have hlen : its.toArray.size * k.toNat ≤ sizeLine := by rw [List.size_toArray, ← hl]; exact hz
  have hcap : ¬ its.toArray.size * k.toNat > (2 ^ 63 - 1) / 8 := by
    have : (sizeLine : Nat) ≤ (2 ^ 63 - 1) / 8 := by decide
    omega
  have hfit : ¬ (!Builtin.List.listFitsIndex k) = true := by
    rw [fitsIndex_both h1 h2]
    exact Bool.false_ne_true
  have hlong : ¬ Builtin.List.listTooLong (its.toArray.size * k.toNat) = true := by
    rw [notLongL hlen]
    exact Bool.false_ne_true
  have hnew : List.foldl (fun x1 x2 => x1 ++ x2) #[] (List.replicate (if its.toArray.isEmpty = true then 0 else k.toNat) its.toArray) = (List.replicate k.toNat its).flatten.toArray := by
    have f0 : ∀ m : Nat, List.foldl (fun x1 x2 => x1 ++ x2) #[] (List.replicate m its.toArray) = (List.replicate m its).flatten.toArray := fun m => by
      have := foldl_rep its m []
      rw [List.nil_append] at this
      exact this
    rw [f0]
    cases its with
    | nil => simp
    | cons a r' => rw [if_neg (by simp)]
  refine wpAny_binaryOp_repeat_ref (T := "list") (U := "int") (by decide) ⟨_, e, rfl⟩ (fun s' => typeIs_int s' k t) noFill_list_mul F.fills_int_mul F.slot_int_rmul repeat_list F.slot_int_index.lookup
    (call_meets F.slot_int_rmul (typeIs_int s k t) F.entry_int_rmul (F.args_int_rmul_2 _ _) (int___rmul___int_list k t l its.toArray n)
      ⟨e, rfl, ⟨_, e, rfl⟩, call_meets F.slot_list_mul ⟨_, e, rfl⟩ F.entry_list_mul (F.args_list_mul_2 _ _) (AutoListH.list___mul___list_int_3 l its.toArray n k t hfit hcap hlong) ⟨e, ?_⟩⟩)
  rw [hnew]
  exact ⟨.ref _, _, I.lnew (t' := s.toks) (r.rep k.toNat) (by rw [len_rep, Nat.mul_comm]; exact hz), rfl, q _ I.fresh⟩

/-! ### del xs[i] -/
theorem del_list {pins : List (Addr × Obj)} {s : Shared} {σ : St} {H : Hp} {l : Addr} {xs : List V} {i : Int} {t : Tok} {k : Nat} {Q : Unit → Shared → Prop} (I : Inv X pins σ H s) (hH : H l = some (.lst xs))
    (h1 : -(2 ^ 63) ≤ i) (h2 : i < 2 ^ 63) (hk : seqIndex? i xs.length = some k) (h : ∀ s', Inv X pins σ (upd H l (.lst (xs.eraseIdx k))) s' → Q () s') :
    wpAny (model X.prog X.w) X.A (delItem (.ref l) (.int i t)) Q X.xe s := by
  obtain ⟨z, its, n, r, hl, e⟩ := I.lstM hH
  refine PySem.P.delItem_list (k := k) e (fitsIndex_both h1 h2) (by rw [List.size_toArray, ← hl]; exact hk) (h _ ?_) (by rw [List.size_toArray]; omega)
  refine I.lset (its' := its.eraseIdx k) (t' := s.toks) hH e ?_ (r.eraseIdx k) ?_
  · show its.toArray.eraseIdxIfInBounds k = (its.eraseIdx k).toArray
    rw [List.eraseIdxIfInBounds_toArray]
  · have := len_erase xs k
    omega
end

/-! ### xs[a:b] = ys -/
section
variable {prog : Program} {w : World} {A : Around} {E : Value → Shared → Prop} {s : Shared}
theorem splice_eq (its its2 : List Value) (a c : Nat) : its.toArray.extract 0 a ++ its2.toArray ++ its.toArray.extract c its.toArray.size = (its.take a ++ its2 ++ its.drop c).toArray := by
  apply Array.toList_inj.mp
  first
    | (simp
       exact List.take_of_length_le (by simp))
    | simp [List.take_of_length_le]
    | simp
theorem bounds_run {a c n : Nat} (hac : a ≤ c) (hc : c ≤ n) : sliceBounds (some (a : Int)) (some (c : Int)) none n = ((a : Int), (c : Int), 1) := by
  simp only [sliceBounds, Option.getD_none]
  have h1 : ¬ ((a : Int) < 0) := by omega
  have h2 : ¬ ((c : Int) < 0) := by omega
  simp only [h1, h2, if_false, show (1 : Int) > 0 by decide, if_true]
  congr 1
  · omega
  · congr 1; omega
set_option maxRecDepth 100000 in
/-- list.__setitem__ with a slice of step one and another list -/
theorem setItem_slice {l b sl : Addr} {items new : Array Value} {n n2 : Nat} {vl vu : Value} {a c : Nat} {Q : Unit → Shared → Prop}
    (e : s.heap.get? l = some { cls := .type "list", data := .seq items n }) (e2 : s.heap.get? b = some { cls := .type "list", data := .seq new n2 }) (hne : l ≠ b)
    (hs : s.heap.IsSliceOf sl vl vu .none) (pl : IsPart vl (some (a : Int))) (pu : IsPart vu (some (c : Int))) (hac : a ≤ c) (hc : c ≤ items.size)
    (hsz : items.size + new.size ≤ sizeLine) (h : Q () { s with heap := s.heap.update l (Obj.mapSeq fun xs => xs.extract 0 a ++ new ++ xs.extract c xs.size) }) :
    wpAny (model prog w) A (setItem (.ref l) (.ref sl) (.ref b)) Q E s := by
  have hl : s.heap.IsList l items := PySem.IsL.isList e
  have hb : s.heap.IsList b new := PySem.IsL.isList e2
  obtain ⟨os, hos, hcs, hds⟩ := id hs
  have hTs : s.TypeIs (.ref sl) "slice" := ⟨os, hos, hcs⟩
  have hstep : ¬ ((rawPart none == rawInt 0) = true) := Bool.false_ne_true
  have hsame : Builtin.List.listSameRef (.ref l) (.ref b) = false := by
    unfold Builtin.List.listSameRef
    exact beq_eq_false_iff_ne.mpr hne
  have hmax : (max (a : Int) (c : Int)).toNat = c := by omega
  have hz' : ((fun xs : Array Value => xs.extract 0 a ++ new ++ xs.extract c xs.size) items).size ≤ sizeLine + 1 := by
    simp only [Array.size_append, Array.size_extract]
    omega
  unfold setItem
  try with_reducible refine wpAny_holding ?_
  first | refine wpAny_bind (wpAny_pure ?_) | skip
  refine wpAny_bind (wpAny_sequenceKey hl.typeIs (by decide) ?_)
  refine wpAny_bind (wpAny_callSpecial?_slot (name := Str.ofString "__setitem__") hl.typeIs slot_list_setitem
    (wpAny_call_entry slot_list_setitem hl.typeIs entry_list_setitem ?_ (args_list_setitem _ _ _)))
  show wpAny _ _ (Builtin.List.listSubscript? (.ref sl) >>= _) _ _ s
  refine wpAny_bind ?_
  unfold Builtin.List.listSubscript?
  refine wpAny_bind (wpAny_specialOf hTs slice_no_index ?_)
  simp only [Option.isNone_none, if_true]
  refine wpAny_pure ?_
  show wpAny _ _ (typeOf (.ref sl) >>= _) _ _ s
  refine wpAny_bind (wpAny_typeOf hTs ?_)
  first
    | rw [if_neg (by decide)]
    | refine PySem.W.KFB.if_not (by decide) ?_
  rw [listSliceParts_eq]
  refine wpAny_bind (wpAny_bind (wpAny_field hos hds (x := .none) rfl (wpAny_bind (wpAny_listPart .none ?_))))
  rw [if_neg hstep]
  refine wpAny_bind (wpAny_field hos hds (x := vl) rfl (wpAny_bind (wpAny_listPart pl ?_)))
  refine wpAny_bind (wpAny_field hos hds (x := vu) rfl (wpAny_bind (wpAny_listPart pu (wpAny_pure ?_))))
  first
    | simp only [hsame, Bool.false_eq_true, if_false]
    | refine PySem.W.KFB.if_not hsame ?_
    | (dsimp only
       rw [if_neg (by rw [hsame]; exact Bool.false_ne_true)])
  refine wpAny_bind (m := Builtin.List.listAllItems (.ref b) "must assign iterable to extended slice") ?_
  unfold Builtin.List.listAllItems
  refine wpAny_bind (wpAny_typeOf hb.typeIs ?_)
  first
    | refine PySem.W.KFB.if_so (by decide) ?_
    | rw [if_pos (by decide)]
    | simp only [beq_self_eq_true, Bool.true_or, if_true]
  unfold Builtin.List.listItems
  refine wpAny_bind (wpAny_seqItems e2 rfl (wpAny_pure ?_))
  refine wpAny_bind (wpAny_bind (wpAny_seqItems e rfl (wpAny_pure ?_)))
  refine wpAny_bind (wpAny_of_eq ((sliceIndices_raw (some (a : Int)) (some (c : Int)) none items.size (by simp)).trans (congrArg (pure : Int × Int × Int → Sem (Int × Int × Int)) (bounds_run hac hc))) ?_)
  show wpAny _ _ (if ((1 : Int) == 1) = true then _ else _) _ _ s
  rw [if_pos (by decide)]
  refine wpAny_bind (wpAny_rule ?_)
  first
    | simp only [notLongL hsz, Bool.false_eq_true, if_false]
    | refine PySem.W.KFB.if_not (notLongL hsz) ?_
  first | refine wpAny_bind (wpAny_pure ?_) | skip
  show wpAny _ _ (updateSeq l (fun xs => xs.extract 0 ((a : Int)).toNat ++ new ++ xs.extract (max (a : Int) (c : Int)).toNat xs.size) >>= _) _ _ s
  rw [hmax, Int.toNat_natCast]
  refine wpAny_bind (wpAny_updateSeq (hz := Nat.le_trans (Nat.le_add_right _ _) hsz) (_hz' := hz') e rfl ?_)
  refine wpAny_bind (wpAny_letGo ?_)
  first
    | exact wpAny_bind (wpAny_pure (wpAny_pure ⟨.none, rfl, wpAny_pure h⟩))
    | exact wpAny_pure ⟨.none, rfl, wpAny_pure h⟩
end

section
variable {X : Cx}
/-- xs[a:c] = ys of another list, at the value level: sl is the slice object that was just made -/
theorem set_slice {pins : List (Addr × Obj)} {s : Shared} {σ : St} {H : Hp} {l b sl : Addr} {xs ys : List V} {a c : Int} {vl vu : Value} {Q : Unit → Shared → Prop} (I : Inv X pins σ H s)
    (hH : H l = some (.lst xs)) (hB : H b = some (.lst ys)) (hne : l ≠ b) (hs : s.heap.IsSliceOf sl vl vu .none) (ra : RelV (.int a) vl) (rc : RelV (.int c) vu) (h0 : 0 ≤ a) (hac : a ≤ c) (hc : c ≤ xs.length)
    (hz : xs.length + ys.length ≤ sizeLine) (h : ∀ s', Inv X pins σ (upd H l (.lst (xs.take a.toNat ++ ys ++ xs.drop c.toNat))) s' → Q () s') :
    wpAny (model X.prog X.w) X.A (setItem (.ref l) (.ref sl) (.ref b)) Q X.xe s := by
  obtain ⟨ta, rfl⟩ := ra
  obtain ⟨tc, rfl⟩ := rc
  obtain ⟨z, its, n, r, hl, e⟩ := I.lstM hH
  obtain ⟨z2, its2, n2, r2, hl2, e2⟩ := I.lstM hB
  obtain ⟨a', rfl⟩ := Int.eq_ofNat_of_zero_le h0
  obtain ⟨c', rfl⟩ := Int.eq_ofNat_of_zero_le (Int.le_trans h0 hac)
  simp only [Int.toNat_natCast] at h
  refine setItem_slice (a := a') (c := c') e e2 hne hs (.int _ _) (.int _ _) (by omega) (by rw [List.size_toArray]; omega) (by rw [List.size_toArray, List.size_toArray]; omega) (h _ ?_)
  refine I.lset (its' := its.take a' ++ its2 ++ its.drop c') (t' := s.toks) hH e ?_ (Vals.append (Vals.append (r.take _) r2) (r.drop _)) ?_
  · exact splice_eq its its2 a' c'
  · rw [List.length_append, List.length_append, List.length_take, List.length_drop]
    omega
end
end L2

namespace L2
open PySem PySem.Spec PyProof.Rows

/-! ### lists of pairs as tables -/
section
variable {κ : Type} [DecidableEq κ]
def valV (kvs : List (κ × V)) (k : κ) : Option V := (kvs.find? fun kv => decide (kv.1 = k)).map (·.2)
/-- in its place, or at the end -/
def putK (kvs : List (κ × V)) (k : κ) (v : V) : List (κ × V) :=
  if (kvs.any fun kv => decide (kv.1 = k)) = true then kvs.map (fun kv => if kv.1 = k then (kv.1, v) else kv) else kvs ++ [(k, v)]
def dropK (kvs : List (κ × V)) (k : κ) : List (κ × V) := kvs.filter fun kv => decide (kv.1 ≠ k)

theorem valV_nil {k : κ} : valV ([] : List (κ × V)) k = none := rfl
theorem valV_pos {p : κ × V} {r : List (κ × V)} {k : κ} (e : p.1 = k) : valV (p :: r) k = some p.2 := by simp [valV, List.find?_cons, e]
theorem valV_neg {p : κ × V} {r : List (κ × V)} {k : κ} (e : ¬ p.1 = k) : valV (p :: r) k = valV r k := by simp [valV, List.find?_cons, e]
theorem valV_any (k : κ) : ∀ kvs : List (κ × V), (kvs.any fun kv => decide (kv.1 = k)) = (valV kvs k).isSome
  | [] => rfl
  | p :: r => by
    rw [List.any_cons]
    by_cases e : p.1 = k
    · simp only [valV_pos e, decide_eq_true e, Bool.true_or, Option.isSome_some]
    · rw [valV_neg e, decide_eq_false e, Bool.false_or]; exact valV_any k r
theorem valV_map (k j : κ) (y : V) : ∀ kvs : List (κ × V), valV (kvs.map fun kv => if kv.1 = k then (kv.1, y) else kv) j = (valV kvs j).map fun x => if j = k then y else x
  | [] => rfl
  | p :: r => by
    have ih := valV_map k j y r
    rw [List.map_cons]
    by_cases h : p.1 = k
    · rw [if_pos h]
      by_cases e : p.1 = j
      · rw [valV_pos (p := (p.1, y)) e, valV_pos e, Option.map_some, if_pos (e.symm.trans h)]
      · rw [valV_neg (p := (p.1, y)) e, valV_neg e, ih]
    · rw [if_neg h]
      by_cases e : p.1 = j
      · rw [valV_pos (p := p) e, valV_pos e, Option.map_some, if_neg (fun z => h (e.trans z))]
      · rw [valV_neg (p := p) e, valV_neg e, ih]
theorem valV_snoc (k j : κ) (y : V) : ∀ kvs : List (κ × V), valV kvs k = none → valV (kvs ++ [(k, y)]) j = if j = k then some y else valV kvs j
  | [], _ => by
    by_cases e : k = j
    · rw [if_pos e.symm]; exact valV_pos (p := (k, y)) e
    · rw [if_neg (fun z => e z.symm)]; exact valV_neg (p := (k, y)) e
  | p :: r, hn => by
    rw [List.cons_append]
    have hk : ¬ p.1 = k := fun z => by rw [valV_pos z] at hn; cases hn
    rw [valV_neg hk] at hn
    have ih := valV_snoc k j y r hn
    by_cases e : p.1 = j
    · rw [valV_pos e, valV_pos e, if_neg (fun z => hk (e.trans z))]
    · rw [valV_neg e, valV_neg e, ih]
theorem valV_put (kvs : List (κ × V)) (k j : κ) (y : V) : valV (putK kvs k y) j = if j = k then some y else valV kvs j := by
  unfold putK
  by_cases a : (kvs.any fun kv => decide (kv.1 = k)) = true
  · rw [if_pos a, valV_map]
    rw [valV_any] at a
    by_cases e : j = k
    · obtain ⟨x, hx⟩ := Option.isSome_iff_exists.mp a
      rw [if_pos e, e, hx, Option.map_some, if_pos rfl]
    · rw [if_neg e]
      cases valV kvs j with
      | none => rfl
      | some x => rw [Option.map_some, if_neg e]
  · rw [if_neg a]
    refine valV_snoc k j y kvs ?_
    rw [valV_any] at a
    cases q : valV kvs k with
    | none => rfl
    | some x => rw [q] at a; exact (a rfl).elim
theorem length_putK (kvs : List (κ × V)) (k : κ) (v : V) : (putK kvs k v).length ≤ kvs.length + 1 := by
  unfold putK
  split
  · rw [List.length_map]; omega
  · rw [List.length_append, List.length_cons, List.length_nil]; omega
theorem putK_new {kvs : List (κ × V)} {k : κ} (v : V) (h : valV kvs k = none) : putK kvs k v = kvs ++ [(k, v)] := by
  unfold putK
  rw [valV_any, h]
  exact if_neg (by decide)

theorem RelO.isSome_eq {o : Option V} {u : Option Value} (r : RelO o u) : o.isSome = u.isSome := by
  cases o with
  | none => cases u with
    | none => rfl
    | some _ => exact (show False from r).elim
  | some _ => cases u with
    | none => exact (show False from r).elim
    | some _ => rfl
theorem RelO.getD {o : Option V} {u : Option Value} {d : V} {d' : Value} (r : RelO o u) (rd : RelV d d') : RelV (o.getD d) (u.getD d') := by
  cases o with
  | none => cases u with
    | none => exact rd
    | some _ => exact (show False from r).elim
  | some _ => cases u with
    | none => exact (show False from r).elim
    | some _ => exact r

/-- raw tables of the same keys -/
theorem KV.val {kvs : List (κ × V)} {vs : List (κ × Value)} (r : KV kvs vs) (k : κ) : RelO (valV kvs k) (valueAt vs k) := by
  unfold KV at r
  induction r with
  | nil => exact True.intro
  | @cons p q ps qs h t ih =>
    obtain ⟨h1, h2⟩ := h
    by_cases e : p.1 = k
    · have e' : q.1 = k := h1.symm.trans e
      have b : valueAt (q :: qs) k = some q.2 := by simp [valueAt, List.find?_cons, e']
      rw [valV_pos e, b]; exact h2
    · have e' : ¬ q.1 = k := fun z => e (h1.trans z)
      have b : valueAt (q :: qs) k = valueAt qs k := by simp [valueAt, List.find?_cons, e']
      rw [valV_neg e, b]; exact ih
theorem KV.any {kvs : List (κ × V)} {vs : List (κ × Value)} (r : KV kvs vs) (k : κ) : (kvs.any fun kv => decide (kv.1 = k)) = vs.any fun kv => decide (kv.1 = k) := by
  unfold KV at r
  induction r with
  | nil => rfl
  | cons h t ih => rw [List.any_cons, List.any_cons, ih, h.1]
theorem KV.repl {kvs : List (κ × V)} {vs : List (κ × Value)} (r : KV kvs vs) (k : κ) {y : V} {u : Value} (ry : RelV y u) :
    KV (kvs.map fun kv => if kv.1 = k then (kv.1, y) else kv) (vs.map fun kv => if kv.1 = k then (kv.1, u) else kv) := by
  unfold KV at r ⊢
  induction r with
  | nil => exact .nil
  | @cons p q ps qs h t ih =>
    rw [List.map_cons, List.map_cons]
    refine .cons ?_ ih
    obtain ⟨h1, h2⟩ := h
    by_cases e : p.1 = k
    · rw [if_pos e, if_pos (h1.symm.trans e)]; exact ⟨h1, ry⟩
    · rw [if_neg e, if_neg (fun z => e (h1.trans z))]; exact ⟨h1, h2⟩
theorem KV.put {kvs : List (κ × V)} {vs : List (κ × Value)} (r : KV kvs vs) (k : κ) {y : V} {u : Value} (ry : RelV y u) : KV (putK kvs k y) (stored vs k u) := by
  unfold putK stored
  rw [r.any k]
  by_cases e : (vs.any fun kv => decide (kv.1 = k)) = true
  · rw [if_pos e, if_pos e]; exact r.repl k ry
  · rw [if_neg e, if_neg e]; exact Paired.snoc r ⟨rfl, ry⟩
theorem KV.drop {kvs : List (κ × V)} {vs : List (κ × Value)} (r : KV kvs vs) (k : κ) : KV (dropK kvs k) (without vs k) := by
  unfold KV at r ⊢
  unfold dropK without
  induction r with
  | nil => exact .nil
  | @cons p q ps qs h t ih =>
    obtain ⟨h1, h2⟩ := h
    rw [List.filter_cons, List.filter_cons]
    by_cases e : p.1 = k
    · have a : ¬ decide (p.1 ≠ k) = true := by simp [e]
      have b : ¬ decide (q.1 ≠ k) = true := by simp [h1.symm.trans e]
      rw [if_neg a, if_neg b]; exact ih
    · have e' : ¬ q.1 = k := fun z => e (h1.trans z)
      have a : decide (p.1 ≠ k) = true := by simp [e]
      have b : decide (q.1 ≠ k) = true := by simp [e']
      rw [if_pos a, if_pos b]; exact .cons ⟨h1, h2⟩ ih
theorem KV.keys {kvs : List (κ × V)} {vs : List (κ × Value)} (r : KV kvs vs) : kvs.map (·.1) = vs.map (·.1) := by
  unfold KV at r
  induction r with
  | nil => rfl
  | cons h t ih => rw [List.map_cons, List.map_cons, ih, h.1]
theorem KV.length {kvs : List (κ × V)} {vs : List (κ × Value)} (r : KV kvs vs) : kvs.length = vs.length := Paired.length r
theorem dropK_le (kvs : List (κ × V)) (k : κ) : (dropK kvs k).length ≤ kvs.length := List.length_filter_le _ _
end


/-! ### a tracked dict, its keys ints and texts or tuples of these -/
theorem kV_is {P : Program} {w : World} {k : Key} {u : Value} (r : RelV (kV k) u) : (mixKind P w).is k u = true := by
  cases k with
  | inl i => obtain ⟨t, e⟩ := (show ∃ t, u = Value.int i t from r); subst e; exact mixKind_int P w i t
  | inr x => obtain ⟨t, e⟩ := (show ∃ t, u = Value.str x t from r); subst e; exact mixKind_str P w x t
theorem kV_inj {a b : Key} (e : kV a = kV b) : a = b := by
  cases a with
  | inl i => cases b with
    | inl j => have e' : V.int i = V.int j := e; injection e' with e'; rw [e']
    | inr y => exact nomatch (show V.int i = V.str y from e)
  | inr x => cases b with
    | inl j => exact nomatch (show V.str x = V.int j from e)
    | inr y => have e' : V.str x = V.str y := e; injection e' with e'; rw [e']
theorem kVs_inj : ∀ {a b : List Key}, a.map kV = b.map kV → a = b
  | [], [], _ => rfl
  | [], _ :: _, e => by simp at e
  | _ :: _, [], e => by simp at e
  | x :: xs, y :: ys, e => by
    rw [List.map_cons, List.map_cons] at e
    injection e with e1 e2
    rw [kV_inj e1, kVs_inj e2]
theorem items_are {P : Program} {w : World} : ∀ {ks : List Key} {us : List Value}, Vals (ks.map kV) us → ItemsAre (mixKind P w) ks us
  | [], _, r => by rw [List.map_nil] at r; cases r; exact .nil
  | k :: ks, _, r => by
    rw [List.map_cons] at r
    cases r with
    | cons h t => exact .cons (kV_is h) (items_are t)

/-- raw entries of a dict with tuple keys -/
abbrev KT (H : Hp) : List (List Key × V) → List (List Key × Addr × Value) → Prop := Paired fun p q => p.1 = q.1 ∧ H q.2.1 = some (.tup (p.1.map kV)) ∧ RelV p.2 q.2.2
theorem KT.val {H : Hp} {kvs : List (List Key × V)} {xs : List (List Key × Addr × Value)} (r : KT H kvs xs) (k : List Key) : RelO (valV kvs k) ((atKey xs k).map (·.2)) := by
  induction r with
  | nil => exact True.intro
  | @cons p q ps qs h t ih =>
    obtain ⟨h1, _, h2⟩ := h
    by_cases e : p.1 = k
    · have e' : q.1 = k := h1.symm.trans e
      have b : atKey (q :: qs) k = some q.2 := by simp [atKey, List.find?_cons, e']
      rw [valV_pos e, b]; exact h2
    · have e' : ¬ q.1 = k := fun z => e (h1.trans z)
      have b : atKey (q :: qs) k = atKey qs k := by simp [atKey, List.find?_cons, e']
      rw [valV_neg e, b]; exact ih
theorem KT.repl {H : Hp} {kvs : List (List Key × V)} {xs : List (List Key × Addr × Value)} (r : KT H kvs xs) (k : List Key) {y : V} {u : Value} (ry : RelV y u) :
    KT H (kvs.map fun kv => if kv.1 = k then (kv.1, y) else kv) (xs.map (putAt k u)) := by
  induction r with
  | nil => exact .nil
  | @cons p q ps qs h t ih =>
    rw [List.map_cons, List.map_cons]
    refine .cons ?_ ih
    obtain ⟨h1, h2, h3⟩ := h
    unfold putAt
    by_cases e : p.1 = k
    · rw [if_pos e, if_pos (h1.symm.trans e)]; exact ⟨h1, h2, ry⟩
    · rw [if_neg e, if_neg (fun z => e (h1.trans z))]; exact ⟨h1, h2, h3⟩
theorem KT.put {H : Hp} {kvs : List (List Key × V)} {xs : List (List Key × Addr × Value)} (r : KT H kvs xs) (k : List Key) {b : Addr} {y : V} {u : Value} (hb : H b = some (.tup (k.map kV))) (ry : RelV y u) :
    KT H (putK kvs k y) (storedH xs k b u) := by
  have e : (kvs.any fun kv => decide (kv.1 = k)) = (atKey xs k).isSome := by
    rw [valV_any, (r.val k).isSome_eq, Option.isSome_map]
  unfold putK storedH
  rw [e]
  by_cases q : (atKey xs k).isSome = true
  · rw [if_pos q, if_pos q]; exact r.repl k ry
  · rw [if_neg q, if_neg q]; exact Paired.snoc r ⟨rfl, hb, ry⟩
theorem KT.keeps {H H' : Hp} {kvs : List (List Key × V)} {xs : List (List Key × Addr × Value)} (r : KT H kvs xs) (ht : ∀ b ys, H b = some (.tup ys) → H' b = some (.tup ys)) : KT H' kvs xs :=
  Paired.mapP r fun _ _ z => ⟨z.1, ht _ _ z.2.1, z.2.2⟩

section
variable {P : Program} {w : World} {H : Hp} {h : Heap} {a : Addr}
theorem rd_of {u : HO} (ok : HOk P w H h) (e : Rd H a u) : ObjOk P w H h a u := e.ok ok
theorem dk_rd {kvs : List (Key × V)} (ok : HOk P w H h) (e : Rd H a (.dK kvs)) : kvs.length ≤ sizeLine ∧ (a == sysModules) = false ∧ ∃ vs, KV kvs vs ∧ h.DictOf (mixKind P w) a vs :=
  show ObjOk P w H h a (.dK kvs) from rd_of ok e
theorem dk_of {kvs : List (Key × V)} (ok : HOk P w H h) (e : H a = some (.dK kvs)) : kvs.length ≤ sizeLine ∧ (a == sysModules) = false ∧ ∃ vs, KV kvs vs ∧ h.DictOf (mixKind P w) a vs := dk_rd ok (.inl e)
/-- a tracked tuple of ints and texts is a key -/
theorem key_of {ks : List Key} (ok : HOk P w H h) (e : H a = some (.tup (ks.map kV))) : (tupleKind (mixKind P w)).is h ks a := by
  obtain ⟨_, its, r, o, h1, h2, n, h3⟩ := (show ObjOk P w H h a (.tup (ks.map kV)) from ok a _ e)
  exact ⟨o, its.toArray, n, h1, h2, h3, by simpa using items_are r⟩
theorem dt_rd {kvs : List (List Key × V)} (ok : HOk P w H h) (e : Rd H a (.dT kvs)) : kvs.length ≤ sizeLine ∧ (a == sysModules) = false ∧
    ∃ xs, KT H kvs xs ∧ h.DictOfH (tupleKind (mixKind P w)) a xs := by
  obtain ⟨z, y, xs, r, o, es, ep, h1, h2, h3, h4, h5⟩ := (show ObjOk P w H h a (.dT kvs) from rd_of ok e)
  refine ⟨z, y, xs, r, o, es, ep, h1, h2, h3, h4, fun x hx => ?_, h5⟩
  have all : ∀ {l : List (List Key × V)} {m : List (List Key × Addr × Value)}, KT H l m → ∀ x ∈ m, (tupleKind (mixKind P w)).is h x.1 x.2.1 := by
    intro l m q
    induction q with
    | nil => intro x hx; exact nomatch hx
    | @cons p q ps qs hq t ih =>
      intro x hx
      rcases List.mem_cons.mp hx with e | hx
      · subst e
        exact key_of ok (by rw [← hq.1]; exact hq.2.1)
      · exact ih x hx
  exact all r x hx
theorem dt_of {kvs : List (List Key × V)} (ok : HOk P w H h) (e : H a = some (.dT kvs)) : kvs.length ≤ sizeLine ∧ (a == sysModules) = false ∧
    ∃ xs, KT H kvs xs ∧ h.DictOfH (tupleKind (mixKind P w)) a xs := dt_rd ok (.inl e)
end

/-- what the dict at a holds at the key y -/
def DGet (H : Hp) (a : Addr) (y : V) (r : Option V) : Prop :=
  (∃ kvs k, Rd H a (.dK kvs) ∧ y = kV k ∧ r = valV kvs k) ∨ ∃ kvs k b, Rd H a (.dT kvs) ∧ y = .ref b ∧ H b = some (.tup (k.map kV)) ∧ r = valV kvs k
/-- the heap behind a[y] = v -/
def DPut (H : Hp) (a : Addr) (y v : V) (H' : Hp) : Prop :=
  (∃ kvs k, H a = some (.dK kvs) ∧ y = kV k ∧ kvs.length < sizeLine ∧ H' = upd H a (.dK (putK kvs k v))) ∨
  ∃ kvs k b, H a = some (.dT kvs) ∧ y = .ref b ∧ H b = some (.tup (k.map kV)) ∧ kvs.length < sizeLine ∧ H' = upd H a (.dT (putK kvs k v))
theorem DGet.k {H : Hp} {a : Addr} {kvs : List (Key × V)} {k : Key} (e : H a = some (.dK kvs)) : DGet H a (kV k) (valV kvs k) := .inl ⟨kvs, k, .inl e, rfl, rfl⟩
theorem DGet.t {H : Hp} {a b : Addr} {kvs : List (List Key × V)} {k : List Key} (e : H a = some (.dT kvs)) (eb : H b = some (.tup (k.map kV))) : DGet H a (.ref b) (valV kvs k) := .inr ⟨kvs, k, b, .inl e, rfl, eb, rfl⟩
theorem DPut.k {H : Hp} {a : Addr} {kvs : List (Key × V)} {k : Key} {v : V} (e : H a = some (.dK kvs)) (hl : kvs.length < sizeLine) : DPut H a (kV k) v (upd H a (.dK (putK kvs k v))) := .inl ⟨kvs, k, e, rfl, hl, rfl⟩
theorem DPut.t {H : Hp} {a b : Addr} {kvs : List (List Key × V)} {k : List Key} {v : V} (e : H a = some (.dT kvs)) (eb : H b = some (.tup (k.map kV))) (hl : kvs.length < sizeLine) :
    DPut H a (.ref b) v (upd H a (.dT (putK kvs k v))) := .inr ⟨kvs, k, b, e, rfl, eb, hl, rfl⟩


section
variable {X : Cx} {pins : List (Addr × Obj)} {σ : St} {H : Hp} {s : Shared} {a : Addr} {y v : V} {u r : Value} {o : Option V} {A : Around} {E : Value → Shared → Prop}

theorem Inv.big (I : Inv X pins σ H s) : sysModules < s.heap.objs.size := by
  have h : mainGlobals < s.heap.objs.size := (I.mod.glob.keeps I.bk).lt
  exact Nat.lt_trans (by decide) h

/-- d[y], there -/
theorem d_getItem {Q : Value → Shared → Prop} (hu : A.units + 1 < cLine) (I : Inv X pins σ H s) (g : DGet H a y (some v)) (ry : RelV y u) (h : ∀ w' s', Inv X pins σ H s' → RelV v w' → Q w' s') :
    wpAny (model X.prog X.w) A (getItem (.ref a) u) Q E s := by
  rcases g with ⟨kvs, k, e, ey, l⟩ | ⟨kvs, k, b, e, ey, eb, l⟩
  · subst ey
    obtain ⟨z, hd, vs, rel, dd⟩ := dk_rd I.hok e
    obtain ⟨w', hw, rw'⟩ := RelO.some_of (v := v) (o := valueAt vs k) (by rw [l]; exact rel.val k)
    exact wpAny_getItem_of (kV_is ry) dd.mapOf hw (h w' _ (I.tok _) rw')
  · subst ey
    cases (show u = Value.ref b from ry)
    obtain ⟨z, hd, xs, rel, dd⟩ := dt_rd I.hok e
    obtain ⟨w', hw, rw'⟩ := RelO.some_of (v := v) (o := (atKey xs k).map (·.2)) (by rw [l]; exact rel.val k)
    obtain ⟨p, hp, hp2⟩ := Option.map_eq_some_iff.mp hw
    refine wpAny_getItem_heap (tupleKind_room_in1 hu) (key_of I.hok eb) dd hp ?_
    rw [hp2]
    exact h w' _ (I.tok _) rw'
/-- y in d -/
theorem d_in {Q : Value → Shared → Prop} (hu : A.units + 1 < cLine) (I : Inv X pins σ H s) (g : DGet H a y o) (ry : RelV y u) (h : ∀ s', Inv X pins σ H s' → Q (.bool o.isSome) s') :
    wpAny (model X.prog X.w) A (compareOp .In u (.ref a)) Q E s := by
  rcases g with ⟨kvs, k, e, ey, l⟩ | ⟨kvs, k, b, e, ey, eb, l⟩
  · subst ey
    obtain ⟨z, hd, vs, rel, dd⟩ := dk_rd I.hok e
    refine wpAny_in_of (kV_is ry) hd dd.mapOf ?_
    rw [← (rel.val k).isSome_eq, ← l]
    exact h _ (I.tok _)
  · subst ey
    cases (show u = Value.ref b from ry)
    obtain ⟨z, hd, xs, rel, dd⟩ := dt_rd I.hok e
    refine wpAny_in_heap (tupleKind_room_in1 hu) (key_of I.hok eb) hd dd ?_
    have q := (rel.val k).isSome_eq
    rw [Option.isSome_map] at q
    rw [← q, ← l]
    exact h _ (I.tok _)
theorem d_notIn {Q : Value → Shared → Prop} (hu : A.units + 1 < cLine) (I : Inv X pins σ H s) (g : DGet H a y o) (ry : RelV y u) (h : ∀ s', Inv X pins σ H s' → Q (.bool (!o.isSome)) s') :
    wpAny (model X.prog X.w) A (compareOp .NotIn u (.ref a)) Q E s := by
  rcases g with ⟨kvs, k, e, ey, l⟩ | ⟨kvs, k, b, e, ey, eb, l⟩
  · subst ey
    obtain ⟨z, hd, vs, rel, dd⟩ := dk_rd I.hok e
    refine wpAny_notIn_of (kV_is ry) hd dd.mapOf ?_
    rw [← (rel.val k).isSome_eq, ← l]
    exact h _ (I.tok _)
  · subst ey
    cases (show u = Value.ref b from ry)
    obtain ⟨z, hd, xs, rel, dd⟩ := dt_rd I.hok e
    refine wpAny_notIn_heap (tupleKind_room_in1 hu) (key_of I.hok eb) hd dd ?_
    have q := (rel.val k).isSome_eq
    rw [Option.isSome_map] at q
    rw [← q, ← l]
    exact h _ (I.tok _)
/-- a dict's object is replaced -/
theorem d_write {h' : Heap} {t' : Nat} {ob : HO} (I : Inv X pins σ H s) (mu : Mut (H a)) (hs : Heap.SameBut a s.heap h') (he : ∃ q, h'.get? a = some q) (new : ObjOk X.prog X.w (upd H a ob) h' a ob) :
    Inv X pins σ (upd H a ob) { s with heap := h', toks := t' } :=
  I.write (x := a) (e := a) mu (.inl rfl) (fun b q hb z => (hs.2 b hb).trans z) he new
theorem dk_new {P : Program} {w : World} {H' : Hp} {h' : Heap} {kvs : List (Key × V)} {vs : List (Key × Value)} (z : kvs.length ≤ sizeLine) (hd : (a == sysModules) = false) (rel : KV kvs vs) (dd : h'.DictOf (mixKind P w) a vs) :
    ObjOk P w H' h' a (.dK kvs) := ⟨z, hd, vs, rel, dd⟩
/-- d[y] = v -/
theorem d_setItem {H' : Hp} {Q : Unit → Shared → Prop} (hu : A.units + 1 < cLine) (I : Inv X pins σ H s) (g : DPut H a y v H') (ry : RelV y u) (rv : RelV v r) (h : ∀ s', Inv X pins σ H' s' → Q () s') :
    wpAny (model X.prog X.w) A (setItem (.ref a) u r) Q E s := by
  rcases g with ⟨kvs, k, e, ey, l, eH⟩ | ⟨kvs, k, b, e, ey, eb, l, eH⟩
  · subst ey eH
    obtain ⟨z, hd, vs, rel, dd⟩ := dk_of I.hok e
    have hz : vs.length ≤ sizeLine := by rw [← rel.length]; exact z
    have hl : (putK kvs k v).length ≤ sizeLine := by have := length_putK kvs k v; omega
    refine wpAny_setItem_pairs (hsz := hz) (kV_is ry) dd fun h' dd' hs => h _ ?_
    have he : ∃ q, h'.get? a = some q := let ⟨q, _, _, hq, _⟩ := dd'; ⟨q, hq⟩
    exact d_write I (by rw [e]; exact True.intro) hs he (dk_new hl hd (rel.put k rv) dd')
  · subst ey eH
    cases (show u = Value.ref b from ry)
    obtain ⟨z, hd, xs, rel, dd⟩ := dt_of I.hok e
    have hz : xs.length ≤ sizeLine := by rw [← Paired.length rel]; exact z
    have hl : (putK kvs k v).length ≤ sizeLine := by have := length_putK kvs k v; omega
    refine wpAny_setItem_heap (hsz := hz) (tupleKind_room_in1 hu) (key_of I.hok eb) dd fun h' dd' hs => h _ ?_
    obtain ⟨q, es, ep, hq, h2, h3, h4, _, h5⟩ := dd'
    refine d_write I (by rw [e]; exact True.intro) hs ⟨q, hq⟩ ⟨hl, hd, _, (rel.put k eb rv).keeps fun c ys ec => ?_, q, es, ep, hq, h2, h3, h4, h5⟩
    rw [upd_ne (ne_of ec e (fun z => nomatch z))]
    exact ec
end

section
variable {X : Cx} {pins : List (Addr × Obj)} {σ : St} {H : Hp} {s : Shared} {a : Addr} {kvs : List (Key × V)} {k : Key} {u : Value} {A : Around} {E : Value → Shared → Prop}
/-- del d[k] -/
theorem d_delItem {Q : Unit → Shared → Prop} (I : Inv X pins σ H s) (e : H a = some (.dK kvs)) (ry : RelV (kV k) u) (l : (valV kvs k).isSome = true) (h : ∀ s', Inv X pins σ (upd H a (.dK (dropK kvs k))) s' → Q () s') :
    wpAny (model X.prog X.w) A (delItem (.ref a) u) Q E s := by
  obtain ⟨z, hd, vs, rel, dd⟩ := dk_of I.hok e
  refine wpAny_delItem_slot dd.typeIs (by decide) PySem.F.slot_dict_delitem
    (call_meetsIn PySem.F.slot_dict_delitem dd.typeIs PySem.F.entry_dict_delitem (PySem.F.args_dict_delitem_2 _ _) (meets_dict_delitem_pairs (mixKind X.prog X.w) a (kV_is ry)) ⟨vs, dd, by rw [← rel.length]; exact z, by rw [← (rel.val k).isSome_eq]; exact l, fun h' dd' hs => h _ ?_⟩)
  have he : ∃ q, h'.get? a = some q := let ⟨q, _, _, hq, _⟩ := dd'; ⟨q, hq⟩
  exact d_write I (by rw [e]; exact True.intro) hs he (dk_new (Nat.le_trans (dropK_le kvs k) z) hd (rel.drop k) dd')
/-- d.pop(k[, x]), there -/
theorem d_pop {v : V} {more : List Value} {Q : Value → Shared → Prop} (I : Inv X pins σ H s) (e : H a = some (.dK kvs)) (ry : RelV (kV k) u) (l : valV kvs k = some v) (hm : more = [] ∨ ∃ x, more = [x])
    (h : ∀ w' s', Inv X pins σ (upd H a (.dK (dropK kvs k))) s' → RelV v w' → Q w' s') : wpAny (model X.prog X.w) A (call (.builtin "dict.pop") (.ref a :: u :: more)) Q E s := by
  obtain ⟨z, hd, vs, rel, dd⟩ := dk_of I.hok e
  obtain ⟨w', hw, rw'⟩ := RelO.some_of (v := v) (o := valueAt vs k) (by rw [← l]; exact rel.val k)
  have hp : (keyPart u).isSome = true := by
    cases k with
    | inl i => obtain ⟨t, q⟩ := (show ∃ t, u = Value.int i t from ry); subst q; rfl
    | inr x => obtain ⟨t, q⟩ := (show ∃ t, u = Value.str x t from ry); subst q; rfl
  have ha : argsOk "dict.pop" ⟨.ref a :: u :: more, []⟩ := by
    rcases hm with q | ⟨x, q⟩
    · subst q; exact PySem.F.args_dict_pop_2 _ _
    · subst q; exact PySem.F.args_dict_pop_3 _ _ _
  refine call_meetsIn PySem.F.slot_dict_pop dd.typeIs PySem.F.entry_dict_pop ha (meets_dict_pop_there (mixKind X.prog X.w) a (kV_is ry) more hm hp)
    ⟨vs, w', dd, by rw [← rel.length]; exact z, hw, fun h' dd' hs => h w' _ ?_ rw'⟩
  have he : ∃ q, h'.get? a = some q := let ⟨q, _, _, hq, _⟩ := dd'; ⟨q, hq⟩
  exact d_write I (by rw [e]; exact True.intro) hs he (dk_new (Nat.le_trans (dropK_le kvs k) z) hd (rel.drop k) dd')
/-- d.pop(k, x), not there -/
theorem d_popD {r : Value} {Q : Value → Shared → Prop} (I : Inv X pins σ H s) (e : H a = some (.dK kvs)) (ry : RelV (kV k) u) (l : valV kvs k = none) (h : ∀ s', Inv X pins σ H s' → Q r s') :
    wpAny (model X.prog X.w) A (call (.builtin "dict.pop") [.ref a, u, r]) Q E s := by
  obtain ⟨z, hd, vs, rel, dd⟩ := dk_of I.hok e
  have hn : valueAt vs k = none := RelO.none_of (by rw [← l]; exact rel.val k)
  have hp : (keyPart u).isSome = true := by
    cases k with
    | inl i => obtain ⟨t, q⟩ := (show ∃ t, u = Value.int i t from ry); subst q; rfl
    | inr x => obtain ⟨t, q⟩ := (show ∃ t, u = Value.str x t from ry); subst q; rfl
  exact call_meetsIn PySem.F.slot_dict_pop dd.typeIs PySem.F.entry_dict_pop (PySem.F.args_dict_pop_3 _ _ _) (meets_dict_pop_default (mixKind X.prog X.w) a (kV_is ry) hd hp r) ⟨vs, dd, hn, h _ (I.tok _)⟩
/-- d.clear() -/
theorem d_clear {Q : Value → Shared → Prop} (I : Inv X pins σ H s) (e : H a = some (.dK kvs)) (h : ∀ s', Inv X pins σ (upd H a (.dK [])) s' → Q .none s') : wpAny (model X.prog X.w) A (call (.builtin "dict.clear") [.ref a]) Q E s := by
  obtain ⟨z, hd, vs, rel, dd⟩ := dk_of I.hok e
  refine call_meetsIn PySem.F.slot_dict_clear dd.typeIs PySem.F.entry_dict_clear (PySem.F.args_dict_clear_1 _) (meets_dict_clear (mixKind X.prog X.w) a) ⟨vs, dd, by rw [← rel.length]; exact z, fun h' dd' hs => h _ ?_⟩
  have he : ∃ q, h'.get? a = some q := let ⟨q, _, _, hq, _⟩ := dd'; ⟨q, hq⟩
  exact d_write (t' := s.toks) I (by rw [e]; exact True.intro) hs he (dk_new (Nat.zero_le _) hd .nil dd')
/-- len(d) -/
theorem d_len {Q : Value → Shared → Prop} (I : Inv X pins σ H s) (e : Rd H a (.dK kvs)) (h : ∀ t s', Inv X pins σ H s' → Q (.int kvs.length t) s') : wpAny (model X.prog X.w) A (call (.builtin "len") [.ref a]) Q E s := by
  obtain ⟨z, hd, vs, rel, dd⟩ := dk_rd I.hok e
  refine call_len_dict hd dd (by rw [← rel.length]; rw [sizeLine_eq] at z; omega) ?_
  rw [← rel.length]
  exact h _ _ (I.tok _)
/-- if d -/
theorem d_truth {Q : Bool → Shared → Prop} (I : Inv X pins σ H s) (e : Rd H a (.dK kvs)) (h : ∀ s', Inv X pins σ H s' → Q (!kvs.isEmpty) s') : wpAny (model X.prog X.w) A (truthy (.ref a)) Q E s := by
  obtain ⟨z, hd, vs, rel, dd⟩ := dk_rd I.hok e
  refine wpAny_truthy_dict hd dd (by rw [← rel.length]; rw [sizeLine_eq] at z; omega) ?_
  have q : kvs.isEmpty = vs.isEmpty := by cases rel <;> rfl
  rw [← q]
  exact h _ (I.tok _)
end


/-! ### readings and rules -/
/-- the element of a subscription, not a slice -/
def NoSl (i : Expr) : Prop := ∀ ov iv, subscripted i false ov iv = operate [ov, iv] (getItem ov iv)
theorem subD_of {prog : Program} {w : World} {A : Around} {E : Value → Shared → Prop} {s : Shared} {env : Env} {value slice : Expr} {pos : Pos} {T id : String} {Q : Value → Shared → Prop}
    (hl : typeLookup (.type T) "__getitem__" = pure (some (.builtin id))) (hs : NoSl slice)
    (h : wpAny (model prog w) A (eval value env) (fun o s₁ => wpAny (model prog w) A (eval slice env) (fun i s₂ => s₂.TypeIs o T ∧ wpAny (model prog w) A (getItem o i) Q E s₂) E s₁) E s) :
    wpAny (model prog w) A (eval (.Subscript value slice pos) env) Q E s := by
  refine Subscript_ (wpAny_mono h (fun o s₁ h₁ => wpAny_mono h₁ (fun i s₂ h₂ => ?_) fun _ _ x => x) fun _ _ x => x)
  obtain ⟨hT, h₂⟩ := h₂
  unfold subscriptTail
  refine wpAny_bind ?_
  rw [getitemInPython_of_ne hT.not_modules]
  refine wpAny_bind (wpAny_specialOf hT hl ?_)
  have fin : wpAny (model prog w) A (subscripted slice false o i) (fun r s₃ => wpAny (model prog w) A (letTemporaryGo value o r >>= fun _ => pure r) Q E s₃) E s₂ := by
    rw [hs o i]
    exact wpAny_operating (wpAny_mono h₂ (fun r s₃ h₃ => wpAny_bind (wpAny_letTemporaryGo (wpAny_pure h₃))) fun _ _ x => x)
  first
    | exact wpAny_pure (wpAny_bind fin)
    | exact wpAny_bind (wpAny_pure (wpAny_bind fin))
    | exact wpAny_bind fin

theorem dict_typeIs {X : Cx} {pins : List (Addr × Obj)} {σ : St} {H : Hp} {s : Shared} {a : Addr} {y : V} {o : Option V} (I : Inv X pins σ H s) (g : DGet H a y o) : s.TypeIs (.ref a) "dict" := by
  rcases g with ⟨kvs, k, e, _, _⟩ | ⟨kvs, k, b, e, _, _, _⟩
  · obtain ⟨_, _, vs, _, dd⟩ := dk_rd I.hok e
    exact dd.typeIs
  · obtain ⟨_, _, xs, _, dd⟩ := dt_rd I.hok e
    exact dd.typeIs
theorem dict_noDict {X : Cx} {pins : List (Addr × Obj)} {σ : St} {H : Hp} {s : Shared} {a : Addr} {y : V} {o : Option V} (I : Inv X pins σ H s) (g : DGet H a y o) :
    ∀ b, Value.ref a = .ref b → ∃ ob, s.heap.get? b = some ob ∧ ob.dict = none := fun b q => by
  cases q
  rcases g with ⟨kvs, k, e, _, _⟩ | ⟨kvs, k, b, e, _, _, _⟩
  · obtain ⟨_, _, vs, _, ob, _, _, h1, h2, _⟩ := dk_rd I.hok e
    exact ⟨ob, h1, h2.2.1⟩
  · obtain ⟨_, _, xs, _, ob, _, _, h1, h2, _⟩ := dt_rd I.hok e
    exact ⟨ob, h1, h2.2.1⟩

/-- d[y] -/
def tDGet (td ty : TE) : TE := fun σ H Q => td σ H fun x H1 => ty σ H1 fun y H2 => ∃ a v, x = .ref a ∧ DGet H2 a y (some v) ∧ Q v H2
/-- y in d, y not in d -/
def tDIn (ty td : TE) : TE := fun σ H Q => ty σ H fun y H1 => td σ H1 fun x H2 => ∃ a o, x = .ref a ∧ DGet H2 a y o ∧ Q (.bl o.isSome) H2
def tDNotIn (ty td : TE) : TE := fun σ H Q => ty σ H fun y H1 => td σ H1 fun x H2 => ∃ a o, x = .ref a ∧ DGet H2 a y o ∧ Q (.bl (!o.isSome)) H2
/-- d[y] = v -/
def sDPut (td ty tv : TE) : TS := fun D σ H => tv σ H fun v H1 => td σ H1 fun x H2 => ty σ H2 fun y H3 => ∃ a H4, x = .ref a ∧ DPut H3 a y v H4 ∧ D.nx σ H4
/-- d[y] op= v -/
def sDAug (td ty tv : TE) (rd : V → V → Hp → VK → Prop) : TS := fun D σ H => td σ H fun x H1 => ty σ H1 fun y H2 => ∃ a v, x = .ref a ∧ DGet H2 a y (some v) ∧
  tv σ H2 fun y2 H3 => rd v y2 H3 fun z H4 => ∃ H5, DPut H4 a y z H5 ∧ D.nx σ H5
/-- del d[y] -/
def sDDel (td ty : TE) : TS := fun D σ H => td σ H fun x H1 => ty σ H1 fun y H2 => ∃ a kvs k, x = .ref a ∧ H2 a = some (.dK kvs) ∧ y = kV k ∧ (valV kvs k).isSome = true ∧ D.nx σ (upd H2 a (.dK (dropK kvs k)))

section
variable {X : Cx} {o i e value : Expr} {pos pos' tpos : Pos} {td ty tv : TE}
theorem pe_dget (hu : X.A.units + 1 < cLine) (ho : PE X o td) (hi : PE X i ty) (hs : NoSl i) : PE X (.Subscript o i pos) (tDGet td ty) := by
  intro pins s σ H Q I h
  refine subD_of PySem.F.slot_dict_getitem.lookup hs (thn (ho pins s σ H _ I h) fun u s1 ⟨x, H1, I1, rx, q1⟩ => thn (hi pins s1 σ H1 _ I1 q1) fun iv s2 ⟨y, H2, I2, ry, a, v, ex, g, q2⟩ => ?_)
  subst ex
  obtain rfl : u = Value.ref a := rx
  exact ⟨dict_typeIs I2 g, d_getItem hu I2 g ry fun w' s3 I3 rw' => ⟨v, H2, I3, rw', q2⟩⟩
theorem pc_din (hu : X.A.units + 1 < cLine) (hi : PE X i ty) (ho : PE X o td) : PC X .In i o (tDIn ty td) := by
  intro pins s σ H Q I h
  refine thn (hi pins s σ H _ I h) fun iv s1 ⟨y, H1, I1, ry, q1⟩ => thn (ho pins s1 σ H1 _ I1 q1) fun u s2 ⟨x, H2, I2, rx, a, ov, ex, g, q2⟩ => ?_
  subst ex
  obtain rfl : u = Value.ref a := rx
  exact d_in hu I2 g ry fun s3 I3 => ⟨.bl ov.isSome, H2, I3, rfl, q2⟩
theorem pc_dnotin (hu : X.A.units + 1 < cLine) (hi : PE X i ty) (ho : PE X o td) : PC X .NotIn i o (tDNotIn ty td) := by
  intro pins s σ H Q I h
  refine thn (hi pins s σ H _ I h) fun iv s1 ⟨y, H1, I1, ry, q1⟩ => thn (ho pins s1 σ H1 _ I1 q1) fun u s2 ⟨x, H2, I2, rx, a, ov, ex, g, q2⟩ => ?_
  subst ex
  obtain rfl : u = Value.ref a := rx
  exact d_notIn hu I2 g ry fun s3 I3 => ⟨.bl (!ov.isSome), H2, I3, rfl, q2⟩
theorem ps_dput (hu : X.A.units + 1 < cLine) (ho : PE X o td) (hi : PE X i ty) (hv : PE X value tv) (hs : swapsWith value (some (.Subscript o i pos')) pos.line X.env = pure false) :
    PS X (.Assign [.Subscript o i pos'] value pos) (sDPut td ty tv) := by
  intro pins s σ H D I h
  refine wpAny_Assign_Subscript (thn (hv pins s σ H _ I h) fun r s1 ⟨v, H1, I1, rv, q1⟩ => thn (ho pins s1 σ H1 _ I1 q1) fun u s2 ⟨x, H2, I2, rx, q2⟩ => thn (hi pins s2 σ H2 _ I2 q2) fun iv s3 ⟨y, H3, I3, ry, a, H4, ex, g, q3⟩ => ?_) hs
  subst ex
  obtain rfl : u = Value.ref a := rx
  exact d_setItem hu I3 g ry rv fun s4 I4 => ⟨σ, H4, I4, q3⟩
theorem ps_daug {op : Operator} {rd : V → V → Hp → VK → Prop} (hu : X.A.units + 1 < cLine) (ho : PE X o td) (hi : PE X i ty) (hv : PE X value tv) (hop : InOp X op rd)
    (ha : ∀ ov iv new, augStore i ov iv new = (do holding [new, ov, iv] (setItem ov iv new); release [new, ov, iv] []; pure .next)) : PS X (.AugAssign (.Subscript o i tpos) op value pos) (sDAug td ty tv rd) := by
  intro pins s σ H D I h
  refine wpAny_AugAssign_SubscriptAny (thn (ho pins s σ H _ I h) fun u s1 ⟨x, H1, I1, rx, q1⟩ => thn (hi pins s1 σ H1 _ I1 q1) fun iv s2 ⟨y, H2, I2, ry, a, v, ex, g, q2⟩ => ?_) ha
  subst ex
  obtain rfl : u = Value.ref a := rx
  refine d_getItem hu I2 g ry fun w' s3 I3 rw' => thn (hv pins s3 σ H2 _ I3 q2) fun w2 s4 ⟨y2, H3, I4, ry2, q3⟩ => thn (hop pins s4 σ H3 v y2 w' w2 _ I4 rw' ry2 q3) fun w3 s5 ⟨z, H4, I5, rz, H5, g5, q4⟩ => ?_
  exact d_setItem hu I5 g5 ry rz fun s6 I6 => ⟨σ, H5, I6, q4⟩
theorem ps_ddel (ho : PE X o td) (hi : PE X i ty) : PS X (.Delete [.Subscript o i tpos] pos) (sDDel td ty) := by
  intro pins s σ H D I h
  refine wpAny_Delete (wpAny_deleteEach_cons (wpAny_delete_Subscript (thn (ho pins s σ H _ I h) fun u s1 ⟨x, H1, I1, rx, q1⟩ => thn (hi pins s1 σ H1 _ I1 q1) fun iv s2 ⟨y, H2, I2, ry, a, kvs, k, ex, e, ey, l, q2⟩ => ?_)))
  subst ex ey
  obtain rfl : u = Value.ref a := rx
  exact d_delItem I2 e ry l fun s3 I3 => wpAny_deleteEach_nil ⟨σ, _, I3, q2⟩
end


/-! ### displays -/
theorem dk_empty {P : Program} {w : World} {H : Hp} (h : Heap) (hb : sysModules < h.objs.size) : ObjOk P w H (h.push { cls := .type "dict", data := .dict #[] }) h.objs.size (.dK []) :=
  ⟨Nat.zero_le _, beq_eq_false_iff_ne.mpr (Ne.symm (Nat.ne_of_lt hb)), [], .nil, Heap.DictOf.new h⟩
theorem dt_empty {P : Program} {w : World} {H : Hp} (h : Heap) (hb : sysModules < h.objs.size) : ObjOk P w H (h.push { cls := .type "dict", data := .dict #[] }) h.objs.size (.dT []) :=
  ⟨Nat.zero_le _, beq_eq_false_iff_ne.mpr (Ne.symm (Nat.ne_of_lt hb)), [], .nil, _, #[], 0, Heap.get?_push_size _ rfl, ⟨rfl, rfl, rfl⟩, rfl, rfl, List.nodup_nil⟩
/-- {}, to be a dict of the kind that is wanted -/
def tDNewK : TE := fun _ H Q => ∀ p, H p = none → Q (.ref p) (upd H p (.dK []))
def tDNewT : TE := fun _ H Q => ∀ p, H p = none → Q (.ref p) (upd H p (.dT []))
section
variable {X : Cx} {pos : Pos}
theorem pe_dnewK : PE X (.Dict [] [] pos) tDNewK := fun pins s σ H Q I h =>
  wpAny_Dict_empty ⟨.ref s.heap.objs.size, _, I.laid (a := s.heap.objs.size) (o := .dK []) (t' := s.toks) (fun _ _ q => Heap.get?_push_of_some _ q) (Nat.le_refl _) (dk_empty s.heap I.big), rfl, h _ (I.hok.fresh (Nat.le_refl _))⟩
theorem pe_dnewT : PE X (.Dict [] [] pos) tDNewT := fun pins s σ H Q I h =>
  wpAny_Dict_empty ⟨.ref s.heap.objs.size, _, I.laid (a := s.heap.objs.size) (o := .dT []) (t' := s.toks) (fun _ _ q => Heap.get?_push_of_some _ q) (Nat.le_refl _) (dt_empty s.heap I.big), rfl, h _ (I.hok.fresh (Nat.le_refl _))⟩
end

/-- the pairs of a display, from the left -/
def tPairs : List (TE × TE) → St → Hp → (List (V × V) → Hp → Prop) → Prop
  | [], _, H, Q => Q [] H
  | (tk, tv) :: r, σ, H, Q => tk σ H fun x H1 => tv σ H1 fun y H2 => tPairs r σ H2 fun ps H3 => Q ((x, y) :: ps) H3
abbrev VV : List (V × V) → List (Value × Value) → Prop := Paired fun p q => RelV p.1 q.1 ∧ RelV p.2 q.2
def PPs (X : Cx) (pos : Pos) (keys : List (Option Expr)) (values : List Expr) (trs : List (TE × TE)) : Prop :=
  ∀ (pins : List (Addr × Obj)) (s : Shared) (σ : St) (H : Hp) (Q : List (V × V) → Hp → Prop), Inv X pins σ H s → tPairs trs σ H Q →
    wpAny (model X.prog X.w) X.A (evalPairs (pairTrees keys values X.env pos)) (fun vs s' => ∃ ps H', Inv X pins σ H' s' ∧ VV ps vs ∧ Q ps H') X.xe s
theorem pps_nil {X : Cx} {pos : Pos} : PPs X pos [] [] [] := fun pins s σ H Q I h => pairTrees_nil_walk ⟨[], H, I, .nil, h⟩
theorem pps_cons {X : Cx} {pos : Pos} {k v : Expr} {ks : List (Option Expr)} {vs : List Expr} {tk tv : TE} {trs : List (TE × TE)} (hk : PE X k tk) (hv : PE X v tv) (hr : PPs X pos ks vs trs) :
    PPs X pos (some k :: ks) (v :: vs) ((tk, tv) :: trs) := fun pins s σ H Q I h =>
  pairTrees_cons_walk (thn (hk pins s σ H _ I h) fun u s1 ⟨x, H1, I1, rx, q1⟩ => thn (hv pins s1 σ H1 _ I1 q1) fun w2 s2 ⟨y, H2, I2, ry, q2⟩ =>
    thn (hr pins s2 σ H2 _ I2 q2) fun ws s3 ⟨ps, H3, I3, rel, q3⟩ => ⟨(x, y) :: ps, H3, I3, .cons ⟨rx, ry⟩ rel, q3⟩)

def mergeK (kvs more : List (Key × V)) : List (Key × V) := more.foldl (fun acc kv => putK acc kv.1 kv.2) kvs
theorem KV.merge : ∀ {more : List (Key × V)} {rs : List (Key × Value)} {kvs : List (Key × V)} {vs : List (Key × Value)}, KV more rs → KV kvs vs → KV (mergeK kvs more) (merged vs rs) := by
  intro more rs kvs vs r
  unfold KV at r
  induction r generalizing kvs vs with
  | nil => intro q; exact q
  | @cons p q ps qs h t ih =>
    intro r0
    have e : KV (putK kvs p.1 p.2) (stored vs q.1 q.2) := by
      have := r0.put p.1 h.2
      rw [← h.1]; exact this
    exact ih e
theorem length_mergeK : ∀ (more kvs : List (Key × V)), (mergeK kvs more).length ≤ kvs.length + more.length
  | [], kvs => by show kvs.length ≤ kvs.length + 0; omega
  | p :: r, kvs => by
    have h1 := length_mergeK r (putK kvs p.1 p.2)
    have h2 := length_putK kvs p.1 p.2
    show (mergeK (putK kvs p.1 p.2) r).length ≤ _
    rw [List.length_cons]; omega
theorem carries_of {P : Program} {w : World} : ∀ {kvs : List (Key × V)} {ws : List (Value × Value)}, VV (kvs.map fun kv => (kV kv.1, kv.2)) ws → ∃ rs, Carries (mixKind P w) ws rs ∧ KV kvs rs
  | [], _, r => by rw [List.map_nil] at r; cases r; exact ⟨[], True.intro, .nil⟩
  | p :: kvs, _, r => by
    rw [List.map_cons] at r
    cases r with
    | @cons a b as bs h t =>
      obtain ⟨rs, c, q⟩ := carries_of (P := P) (w := w) t
      obtain ⟨b1, b2⟩ := b
      exact ⟨(p.1, b2) :: rs, ⟨kV_is h.1, rfl, c⟩, .cons ⟨rfl, h.2⟩ q⟩
/-- {k: v, ..} with keys ints and texts; the new dict stands empty while the pairs are made -/
def tDisp (trs : List (TE × TE)) : TE := fun σ H Q => ∀ p, H p = none → tPairs trs σ (upd H p (.dK [])) fun ps H2 => H2 p = some (.dK []) ∧ ∃ kvs : List (Key × V), ps = kvs.map (fun kv => (kV kv.1, kv.2)) ∧ kvs.length ≤ 15 ∧ Q (.ref p) (upd H2 p (.dK (mergeK [] kvs)))
theorem pe_disp {X : Cx} {pos : Pos} {keys : List (Option Expr)} {values : List Expr} {trs : List (TE × TE)} (h : PPs X pos keys values trs) (hall : keys.all (·.isSome) = true) (hl : keys.length = values.length) (h0 : keys ≠ [])
    (h15 : keys.length ≤ 15) : PE X (.Dict keys values pos) (tDisp trs) := by
  intro pins s σ H Q I q
  have hn := I.hok.fresh (Nat.le_refl s.heap.objs.size)
  have I1 := I.laid (a := s.heap.objs.size) (o := .dK []) (h' := s.heap.push { cls := .type "dict", data := .dict #[] }) (t' := s.toks) (fun _ _ q => Heap.get?_push_of_some _ q) (Nat.le_refl _) (dk_empty s.heap I.big)
  refine wpAny_Dict_walk (knd := mixKind X.prog X.w) hall hl h0 h15 (thn (h pins _ σ _ _ I1 (q _ hn)) fun ws s2 ⟨ps, H2, I2, rel, e, kvs, ep, lk, q2⟩ => ?_)
  subst ep
  obtain ⟨rs, c, rk⟩ := carries_of (P := X.prog) (w := X.w) rel
  obtain ⟨z, hd, vs0, r0, dd⟩ := dk_of I2.hok e
  cases r0
  refine ⟨rs, c, dd, fun h' dd' hs => ⟨.ref s.heap.objs.size, _, ?_, rfl, q2⟩⟩
  have hz : (mergeK [] kvs).length ≤ sizeLine := by
    have h1 := length_mergeK kvs []
    rw [List.length_nil] at h1
    rw [sizeLine_eq]; omega
  have he : ∃ q, h'.get? s.heap.objs.size = some q := let ⟨q, _, _, hq, _⟩ := dd'; ⟨q, hq⟩
  exact d_write I2 (by rw [e]; exact True.intro) hs he (dk_new hz hd (rk.merge .nil) dd')


/-! ### methods -/
/-- a method call o.m(e) of a built-in, with one argument: what must be seen of the text -/
structure M1 (X : Cx) (o : Expr) (m : Str) (apos : Pos) (e : Expr) (cpos : Pos) : Prop where
  base : attributeBase o m X.env (eval o X.env) = eval o X.env
  few : ((backTo cpos (starEach [e] X.env)).all (fun x => !x.1) && (backToKw cpos (keywordEach [] X.env)).all (fun x => x.1.isSome)
    && decide (([e] : List Expr).length + ([] : List Keyword).length + (if ([] : List Keyword).isEmpty then 0 else 1) < 30)) = true
  line : (apos.endLine == cpos.line) = true
  trees : backTo cpos (starEach [e] X.env) = [(false, eval e X.env)]
structure M2 (X : Cx) (o : Expr) (m : Str) (apos : Pos) (e f : Expr) (cpos : Pos) : Prop where
  base : attributeBase o m X.env (eval o X.env) = eval o X.env
  few : ((backTo cpos (starEach [e, f] X.env)).all (fun x => !x.1) && (backToKw cpos (keywordEach [] X.env)).all (fun x => x.1.isSome)
    && decide (([e, f] : List Expr).length + ([] : List Keyword).length + (if ([] : List Keyword).isEmpty then 0 else 1) < 30)) = true
  line : (apos.endLine == cpos.line) = true
  trees : backTo cpos (starEach [e, f] X.env) = [(false, eval e X.env), (false, eval f X.env)]

/-- a is a dict, whatever its keys -/
def IsD (H : Hp) (a : Addr) : Prop := (∃ kvs, Rd H a (.dK kvs)) ∨ ∃ kvs, Rd H a (.dT kvs)
theorem isD_at {X : Cx} {pins : List (Addr × Obj)} {σ : St} {H : Hp} {s : Shared} {a : Addr} (I : Inv X pins σ H s) (d : IsD H a) :
    s.TypeIs (.ref a) "dict" ∧ (∀ b, Value.ref a = .ref b → ∃ ob, s.heap.get? b = some ob ∧ ob.dict = none) ∧ (a == sysModules) = false := by
  rcases d with ⟨kvs, e⟩ | ⟨kvs, e⟩
  · obtain ⟨_, hd, vs, _, dd⟩ := dk_rd I.hok e
    refine ⟨dd.typeIs, fun b q => ?_, hd⟩
    cases q
    obtain ⟨ob, _, _, h1, h2, _⟩ := dd
    exact ⟨ob, h1, h2.2.1⟩
  · obtain ⟨_, hd, xs, _, dd⟩ := dt_rd I.hok e
    refine ⟨dd.typeIs, fun b q => ?_, hd⟩
    cases q
    obtain ⟨ob, _, _, h1, h2, _⟩ := dd
    exact ⟨ob, h1, h2.2.1⟩

section
variable {X : Cx} {pins : List (Addr × Obj)} {σ : St} {H : Hp} {s : Shared} {a : Addr} {y d : V} {u r : Value} {o : Option V} {A : Around} {E : Value → Shared → Prop}
/-- d.get(y) -/
theorem d_get1 {Q : Value → Shared → Prop} (hu : A.units + 1 < cLine) (I : Inv X pins σ H s) (g : DGet H a y o) (ry : RelV y u) (h : ∀ w' s', Inv X pins σ H s' → RelV (o.getD .non) w' → Q w' s') :
    wpAny (model X.prog X.w) A (call (.builtin "dict.get") [.ref a, u]) Q E s := by
  rcases g with ⟨kvs, k, e, ey, l⟩ | ⟨kvs, k, b, e, ey, eb, l⟩
  · subst ey
    obtain ⟨z, hd, vs, rel, dd⟩ := dk_rd I.hok e
    refine call_meetsIn PySem.F.slot_dict_get dd.typeIs PySem.F.entry_dict_get (PySem.F.args_dict_get_2 _ _) (meets_dict_get (mixKind X.prog X.w) a (kV_is ry) hd) ⟨_, dd.mapOf, h _ _ (I.tok _) ?_⟩
    rw [l]
    exact (rel.val k).getD rfl
  · subst ey
    cases (show u = Value.ref b from ry)
    obtain ⟨z, hd, xs, rel, dd⟩ := dt_rd I.hok e
    refine call_meetsIn PySem.F.slot_dict_get dd.typeIs PySem.F.entry_dict_get (PySem.F.args_dict_get_2 _ _) (meetsH_dict_get (tupleKind (mixKind X.prog X.w)) a b hd) ⟨tupleKind_room_in1 hu, k, xs, key_of I.hok eb, dd, h _ _ (I.tok _) ?_⟩
    rw [l]
    exact (rel.val k).getD rfl
/-- d.get(y, x) -/
theorem d_get2 {Q : Value → Shared → Prop} (hu : A.units + 1 < cLine) (I : Inv X pins σ H s) (g : DGet H a y o) (ry : RelV y u) (rd : RelV d r) (h : ∀ w' s', Inv X pins σ H s' → RelV (o.getD d) w' → Q w' s') :
    wpAny (model X.prog X.w) A (call (.builtin "dict.get") [.ref a, u, r]) Q E s := by
  rcases g with ⟨kvs, k, e, ey, l⟩ | ⟨kvs, k, b, e, ey, eb, l⟩
  · subst ey
    obtain ⟨z, hd, vs, rel, dd⟩ := dk_rd I.hok e
    refine call_meetsIn PySem.F.slot_dict_get dd.typeIs PySem.F.entry_dict_get (PySem.F.args_dict_get_3 _ _ _) (meets_dict_get_default (mixKind X.prog X.w) a (kV_is ry) hd r) ⟨_, dd.mapOf, h _ _ (I.tok _) ?_⟩
    rw [l]
    exact (rel.val k).getD rd
  · subst ey
    cases (show u = Value.ref b from ry)
    obtain ⟨z, hd, xs, rel, dd⟩ := dt_rd I.hok e
    refine call_meetsIn PySem.F.slot_dict_get dd.typeIs PySem.F.entry_dict_get (PySem.F.args_dict_get_3 _ _ _) (meetsH_dict_get_default (tupleKind (mixKind X.prog X.w)) a b hd r) ⟨tupleKind_room_in1 hu, k, xs, key_of I.hok eb, dd, h _ _ (I.tok _) ?_⟩
    rw [l]
    exact (rel.val k).getD rd
end

def tDGet1 (td ty : TE) : TE := fun σ H Q => td σ H fun x H1 => ∃ a, x = .ref a ∧ IsD H1 a ∧ ty σ H1 fun y H2 => ∃ o, DGet H2 a y o ∧ Q (o.getD .non) H2
def tDGet2 (td ty tx : TE) : TE := fun σ H Q => td σ H fun x H1 => ∃ a, x = .ref a ∧ IsD H1 a ∧ ty σ H1 fun y H2 => tx σ H2 fun z H3 => ∃ o, DGet H3 a y o ∧ Q (o.getD z) H3
/-- d.pop(k): there; d.pop(k, x): there or not -/
def tDPop1 (td ty : TE) : TE := fun σ H Q => td σ H fun x H1 => ∃ a, x = .ref a ∧ IsD H1 a ∧ ty σ H1 fun y H2 => ∃ kvs k v, H2 a = some (.dK kvs) ∧ y = kV k ∧ valV kvs k = some v ∧ Q v (upd H2 a (.dK (dropK kvs k)))
def tDPop2 (td ty tx : TE) : TE := fun σ H Q => td σ H fun x H1 => ∃ a, x = .ref a ∧ IsD H1 a ∧ ty σ H1 fun y H2 => tx σ H2 fun z H3 => ∃ kvs k, H3 a = some (.dK kvs) ∧ y = kV k ∧
  (∀ v, valV kvs k = some v → Q v (upd H3 a (.dK (dropK kvs k)))) ∧ (valV kvs k = none → Q z H3)
section
variable {X : Cx} {o e f : Expr} {apos cpos : Pos} {td ty tx : TE}
theorem pe_dget1 (hu : X.A.units + 1 < cLine) (ho : PE X o td) (he : PE X e ty) (m : M1 X o "get" apos e cpos) : PE X (.Call (.Attribute o "get" apos) [e] [] cpos) (tDGet1 td ty) := by
  intro pins s σ H Q I h
  refine wpAny_Call_method m.base m.few m.line PySem.F.plainAttrs_dict PySem.F.slot_dict_get PySem.F.type_dict_get (thn (ho pins s σ H _ I h) fun u s1 ⟨x, H1, I1, rx, a, ex, d, q1⟩ => ?_)
  subst ex
  obtain rfl : u = Value.ref a := rx
  obtain ⟨t1, t2, _⟩ := isD_at I1 d
  refine ⟨t1, t2, ?_⟩
  rw [m.trees]
  refine Calls.callWith_builtin rfl (Calls.evalArgs_plain (Calls.spliced_cons (thn (he pins s1 σ H1 _ I1 q1) fun iv s2 ⟨y, H2, I2, ry, ov, g, q2⟩ => Calls.spliced_nil ?_)))
  exact d_get1 hu I2 g ry fun w' s3 I3 rw' => ⟨_, H2, I3, rw', q2⟩
theorem pe_dget2 (hu : X.A.units + 1 < cLine) (ho : PE X o td) (he : PE X e ty) (hf : PE X f tx) (m : M2 X o "get" apos e f cpos) : PE X (.Call (.Attribute o "get" apos) [e, f] [] cpos) (tDGet2 td ty tx) := by
  intro pins s σ H Q I h
  refine wpAny_Call_method m.base m.few m.line PySem.F.plainAttrs_dict PySem.F.slot_dict_get PySem.F.type_dict_get (thn (ho pins s σ H _ I h) fun u s1 ⟨x, H1, I1, rx, a, ex, d, q1⟩ => ?_)
  subst ex
  obtain rfl : u = Value.ref a := rx
  obtain ⟨t1, t2, _⟩ := isD_at I1 d
  refine ⟨t1, t2, ?_⟩
  rw [m.trees]
  refine Calls.callWith_builtin rfl (Calls.evalArgs_plain (Calls.spliced_cons (thn (he pins s1 σ H1 _ I1 q1) fun iv s2 ⟨y, H2, I2, ry, q2⟩ =>
    Calls.spliced_cons (thn (hf pins s2 σ H2 _ I2 q2) fun fv s3 ⟨z, H3, I3, rz, ov, g, q3⟩ => Calls.spliced_nil ?_))))
  exact d_get2 hu I3 g ry rz fun w' s4 I4 rw' => ⟨_, H3, I4, rw', q3⟩
theorem pe_dpop1 (ho : PE X o td) (he : PE X e ty) (m : M1 X o "pop" apos e cpos) : PE X (.Call (.Attribute o "pop" apos) [e] [] cpos) (tDPop1 td ty) := by
  intro pins s σ H Q I h
  refine wpAny_Call_method m.base m.few m.line PySem.F.plainAttrs_dict PySem.F.slot_dict_pop PySem.F.type_dict_pop (thn (ho pins s σ H _ I h) fun u s1 ⟨x, H1, I1, rx, a, ex, d, q1⟩ => ?_)
  subst ex
  obtain rfl : u = Value.ref a := rx
  obtain ⟨t1, t2, _⟩ := isD_at I1 d
  refine ⟨t1, t2, ?_⟩
  rw [m.trees]
  refine Calls.callWith_builtin rfl (Calls.evalArgs_plain (Calls.spliced_cons (thn (he pins s1 σ H1 _ I1 q1) fun iv s2 ⟨y, H2, I2, ry, kvs, k, v, ea, ey, l, q2⟩ => Calls.spliced_nil ?_)))
  subst ey
  exact d_pop I2 ea ry l (.inl rfl) fun w' s3 I3 rw' => ⟨v, _, I3, rw', q2⟩
theorem pe_dpop2 (ho : PE X o td) (he : PE X e ty) (hf : PE X f tx) (m : M2 X o "pop" apos e f cpos) : PE X (.Call (.Attribute o "pop" apos) [e, f] [] cpos) (tDPop2 td ty tx) := by
  intro pins s σ H Q I h
  refine wpAny_Call_method m.base m.few m.line PySem.F.plainAttrs_dict PySem.F.slot_dict_pop PySem.F.type_dict_pop (thn (ho pins s σ H _ I h) fun u s1 ⟨x, H1, I1, rx, a, ex, d, q1⟩ => ?_)
  subst ex
  obtain rfl : u = Value.ref a := rx
  obtain ⟨t1, t2, _⟩ := isD_at I1 d
  refine ⟨t1, t2, ?_⟩
  rw [m.trees]
  refine Calls.callWith_builtin rfl (Calls.evalArgs_plain (Calls.spliced_cons (thn (he pins s1 σ H1 _ I1 q1) fun iv s2 ⟨y, H2, I2, ry, q2⟩ =>
    Calls.spliced_cons (thn (hf pins s2 σ H2 _ I2 q2) fun fv s3 ⟨z, H3, I3, rz, kvs, k, ea, ey, q3, q4⟩ => Calls.spliced_nil ?_))))
  subst ey
  cases l : valV kvs k with
  | some v => exact d_pop I3 ea ry l (.inr ⟨fv, rfl⟩) fun w' s4 I4 rw' => ⟨v, _, I4, rw', q3 v l⟩
  | none => exact d_popD I3 ea ry l fun s4 I4 => ⟨z, H3, I4, rz, q4 l⟩
end

/-! ### dict(d): a copy -/
section
variable {X : Cx} {pins : List (Addr × Obj)} {σ : St} {H : Hp} {s : Shared} {a : Addr} {kvs : List (Key × V)} {A : Around} {E : Value → Shared → Prop}
theorem d_copyOf {Q : Value → Shared → Prop} (I : Inv X pins σ H s) (e : Rd H a (.dK kvs)) (h : ∀ p s', H p = none → Inv X pins σ (upd H p (.dK kvs)) s' → Q (.ref p) s') : wpAny (model X.prog X.w) A (call (.type "dict") [.ref a]) Q E s := by
  obtain ⟨z, hd, vs, rel, dd⟩ := dk_rd I.hok e
  refine kt_call_dict hd dd (by rw [← rel.length]; exact z) fun h' dd' hs => ?_
  refine h _ _ (I.hok.fresh (Nat.le_refl _)) (I.laid (a := s.heap.objs.size) (o := .dK kvs) (t' := s.toks) (fun b q hq => ?_) (Nat.le_refl _) (dk_new z (beq_eq_false_iff_ne.mpr (Ne.symm (Nat.ne_of_lt I.big))) rel dd'))
  exact (hs.2 b (Nat.ne_of_lt (Heap.lt_size hq))).trans (Heap.get?_push_of_some _ hq)
end


section
variable {X : Cx} {pins : List (Addr × Obj)} {σ : St} {H : Hp} {s : Shared} {a : Addr} {y : V} {u : Value} {A : Around} {E : Value → Shared → Prop}
/-- d[y], not there: a KeyError -/
theorem d_missing {Q : Value → Shared → Prop} (hu : A.units + 1 < cLine) (hh : A.handled = none) (I : Inv X pins σ H s) (g : DGet H a y none) (ry : RelV y u)
    (h : ∀ h' e t', Heap.NewExc s.heap h' e "KeyError" → E (.ref e) { s with heap := h', toks := t' }) : wpAny (model X.prog X.w) A (getItem (.ref a) u) Q E s := by
  rcases g with ⟨kvs, k, e, ey, l⟩ | ⟨kvs, k, b, e, ey, eb, l⟩
  · subst ey
    obtain ⟨z, hd, vs, rel, dd⟩ := dk_rd I.hok e
    have hn : valueAt vs k = none := RelO.none_of (by rw [l]; exact rel.val k)
    exact wpAny_getItem_missing_of (kV_is ry) hd hh dd.mapOf hn fun h' ex ne => h h' ex _ ne
  · subst ey
    cases (show u = Value.ref b from ry)
    obtain ⟨z, hd, xs, rel, dd⟩ := dt_rd I.hok e
    have hn : (atKey xs k).map (·.2) = none := RelO.none_of (by rw [l]; exact rel.val k)
    exact wpAny_getItem_missing_heap (tupleKind_room_in1 hu) (key_of I.hok eb) hd hh dd (Option.map_eq_none_iff.mp hn) fun h' ex ne => h h' ex _ ne
end
end L2

namespace Att
open PySem PySem.W PySem.Calls PyProof.Rows

/-! ### the script -/
theorem ints_of_wellAll {P : Params} {h : Heap} : ∀ (ns : List Int) (vs : List Value), WellAll P h vs (ns.map WData.int) → IntsAre vs ns := by
  intro ns
  induction ns with
  | nil =>
    intro vs w
    rw [List.map_nil] at w
    cases w
    exact .nil
  | cons n ns ih =>
    intro vs w
    rw [List.map_cons] at w
    cases w with
    | cons a b =>
      cases a
      exact .cons _ _ (ih _ b)

theorem script_of {l : OpenLaw} {n : Nat} (hn : l.most = some n) {P : Params} {h : Heap} {args : List WData} {vals : List Value}
    (hpre : l.row.toRowW.claim.pre args = true) (hwl : WellAll P h vals args) :
    ∃ a vs ns, vals = [Value.ref a] ∧ args = [WData.list (ns.map WData.int)] ∧ h.get? a = some { cls := .type "list", data := .seq vs.toArray } ∧ IntsAre vs ns ∧ ns.length ≤ n := by
  have hsh : WShape.hasAll [] args [.list .int] = true := (pre_splitW hpre).1
  have hc : l.pre.holds [] { args := args } = true := (pre_splitW hpre).2
  obtain ⟨d, r, rfl, h1, h2⟩ := hasAllW_cons hsh
  obtain rfl := hasAllW_nil h2
  obtain ⟨xs, rfl, h3⟩ := hasW_list h1
  obtain ⟨ns, rfl⟩ := items_int h3
  have hlen : ns.length ≤ n := by
    unfold OpenLaw.pre at hc
    have h4 : (WTm.not (.lt (.lit (.int (n : Int))) (.len (.arg 0)))).holds [] { args := [.list (ns.map .int)] } = true := by
      have h4 := (holds_andW hc).1
      rw [hn] at h4
      exact h4
    have h5 := condW_of h4 (w_not (w_lt w_lit (w_len_list (w_arg rfl))))
    rw [List.length_map] at h5
    refine Nat.le_of_not_lt fun q => ?_
    have q' : (n : Int) < ((ns.length : Nat) : Int) := by omega
    first
      | (rw [decide_eq_true q'] at h5; exact absurd h5 (by decide))
      | (simp at h5; omega)
  cases hwl with
  | cons w1 w2 =>
    cases w2
    cases w1 with
    | list ho hall => exact ⟨_, _, ns, rfl, rfl, ho, ints_of_wellAll ns _ hall, hlen⟩

theorem post_true (l : OpenLaw) (args : List WData) : l.row.toRowW.claim.post args (.bool true) args = true :=
  postW_of (r := l.row.toRowW) (X := (true == true))
    (show WShape.has [] (.bool true) .bool = true by first | rfl | decide | simp [WShape.has, WShape.arms, WShape.armsAll])
    (show (WTm.eq .res (.lit (.bool true))).value [] { args := args, res := some (.bool true), after := args } = some (.bool (true == true)) from w_eq_bool (w_res rfl) w_lit) rfl

/-! ### the attachment: holds_open's last premise (the goal 'hc' behind k_head) from a wpAny of the law's body -/
theorem attach {l : OpenLaw} {n : Nat} {q : Program} {loose : List Str} {XP : (Str → Option Value) → Heap → Prop} {YP : World → Heap → Prop} {d : DefRec} {x : Str}
    (hn : l.most = some n) (hdf : d.params.defaults = [])
    (hbind : ∀ pm cd doc v : Value, bindArgs (docDef d.name d.params d.body d.scope pm cd doc) ⟨[v], []⟩ = pure [(x, v)])
    (hx : d.scope.names.lookup x = some .local ∨ d.scope.names.lookup x = some .cell)
    (hk : d.scope.kind = .function) (hco : d.scope.isCoroutine = false) (hgen : d.scope.isGenerator = false)
    (body : ∀ (w : World) (s₀ s₁ s : Shared) (mg mb : Str → Option Value) (fa : Addr) (o : Obj) (pm cd doc : Value) (a : Addr) (vs : List Value) (ns : List Int),
      Ground q loose [] XP w s₀ mg mb s₁.heap → YP w s₁.heap →
      s₁.heap.get? fa = some o → o.data = .func (docDef d.name d.params d.body d.scope pm cd doc) → s₁.heap.CodeRec cd d.name → mg d.name = some (.ref fa) →
      s₁.heap.get? a = some { cls := .type "list", data := .seq vs.toArray } → IntsAre vs ns → ns.length ≤ n →
      s.gens = #[] → s.os = s₁.os →
      Fr s₁.heap s₁.heap.objs.size s.heap (bindL (envOfC d.name d.scope s₁.heap.objs.size fa cd).kindOf [(x, .ref a)] fun _ => none) →
      Cl s₁.heap.objs.size (cellsFrom (s₁.heap.objs.size + 1) d.scope.names []) s.heap (bindC (envOfC d.name d.scope s₁.heap.objs.size fa cd).kindOf [(x, .ref a)] fun _ => none) →
      wpAny (model l.prog w) (callerA.deeper (envOfC d.name d.scope s₁.heap.objs.size fa cd)) (execs d.body (envOfC d.name d.scope s₁.heap.objs.size fa cd))
        (fun f s' => f = .ret (.bool true) ∧ OldK s₁.heap s'.heap ∧ s'.os = s₁.os ∧ AllBare s'.gens) (fun _ _ => False) s) :
    WalkO q loose XP YP l.row.toRowW d [] (fun f vs => PySem.call f vs) := by
  intro w s₀ s₁ mg mb G Y fa o pm cd doc dV kV ho hd hcd hD hmg hg args vals as hpre hlay hrd hwl hlo
  obtain rfl : dV = .none := Dflts.none hD hdf
  obtain rfl : kV = .none := Dflts.noKw hD
  obtain ⟨a, vs, ns, rfl, rfl, hobj, hints, hlen⟩ := script_of hn hpre hwl
  refine enter_call ?_
  refine call_cells_ret (o := o) (by rw [depth_caller]; decide) ho (fd_plain hd) G.T.nolimit hcd (hbind pm cd doc (.ref a)) (fun y hy => ?_) (fun h₁ tk F X => ?_) hco hgen hk
  · obtain rfl : y = (x, Value.ref a) := List.mem_singleton.mp hy
    rcases hx with e | e
    · exact .inl e
    · exact .inr ⟨e, cellsFrom_some _ _ _ (.inl e)⟩
  · refine wpAny_mono (body w s₀ s₁ { s₁ with heap := h₁, toks := tk } mg mb fa o pm cd doc a vs ns G Y ho (fd_plain hd) hcd hmg hobj hints hlen hg rfl F X) (fun f s' hq => ?_) (fun _ _ hq => hq)
    obtain ⟨rfl, h2, h3, h4⟩ := hq
    exact ⟨.inl ⟨.bool true, .bool true, [], rfl, fun _ => rfl, .bool true, post_true l _, fun _ => ⟨List.Pairwise.nil, fun _ hm => (nomatch hm)⟩⟩, h2, h3, h4⟩

/-- the same from a codeAny of the CALL (for a layer whose function contracts speak of calls) -/
theorem attach_call {l : OpenLaw} {n : Nat} {q : Program} {loose : List Str} {XP : (Str → Option Value) → Heap → Prop} {YP : World → Heap → Prop} {d : DefRec}
    (hn : l.most = some n) (hdf : d.params.defaults = [])
    (call : ∀ (w : World) (s₀ s₁ : Shared) (mg mb : Str → Option Value) (fa : Addr) (o : Obj) (pm cd doc : Value) (a : Addr) (vs : List Value) (ns : List Int),
      Ground q loose [] XP w s₀ mg mb s₁.heap → YP w s₁.heap →
      s₁.heap.get? fa = some o → o.data = .func (docDef d.name d.params d.body d.scope pm cd doc) → s₁.heap.CodeRec cd d.name → mg d.name = some (.ref fa) →
      s₁.heap.get? a = some { cls := .type "list", data := .seq vs.toArray } → IntsAre vs ns → ns.length ≤ n → s₁.gens = #[] →
      codeAny (model l.prog w) callerA (.call (.ref fa) ⟨[.ref a], []⟩) (fun r s' => r = .ok (.ret (.bool true)) ∧ OldK s₁.heap s'.heap ∧ s'.os = s₁.os ∧ AllBare s'.gens) s₁) :
    WalkO q loose XP YP l.row.toRowW d [] (fun f vs => PySem.call f vs) := by
  intro w s₀ s₁ mg mb G Y fa o pm cd doc dV kV ho hd hcd hD hmg hg args vals as hpre hlay hrd hwl hlo
  obtain rfl : dV = .none := Dflts.none hD hdf
  obtain rfl : kV = .none := Dflts.noKw hD
  obtain ⟨a, vs, ns, rfl, rfl, hobj, hints, hlen⟩ := script_of hn hpre hwl
  refine enter_call (codeAny_mono (call w s₀ s₁ mg mb fa o pm cd doc a vs ns G Y ho (fd_plain hd) hcd hmg hobj hints hlen hg) fun r s' hq => ?_)
  obtain ⟨rfl, h2, h3, h4⟩ := hq
  exact ⟨.inl ⟨.bool true, .bool true, [], rfl, fun _ => rfl, .bool true, post_true l _, fun _ => ⟨List.Pairwise.nil, fun _ hm => (nomatch hm)⟩⟩, h2, h3, h4⟩

/-- the same where the top left finished generators (o_head chose holds_openN): nothing may have changed at all and no generator may be left -/
theorem attachN {l : OpenLaw} {n : Nat} {q : Program} {loose : List Str} {XP : (Str → Option Value) → Heap → Prop} {YP : World → Heap → Prop} {d : DefRec} {x : Str}
    (hn : l.most = some n) (hdf : d.params.defaults = [])
    (hbind : ∀ pm cd doc v : Value, bindArgs (docDef d.name d.params d.body d.scope pm cd doc) ⟨[v], []⟩ = pure [(x, v)])
    (hx : d.scope.names.lookup x = some .local ∨ d.scope.names.lookup x = some .cell)
    (hk : d.scope.kind = .function) (hco : d.scope.isCoroutine = false) (hgen : d.scope.isGenerator = false)
    (body : ∀ (w : World) (s₀ s₁ s : Shared) (mg mb : Str → Option Value) (fa : Addr) (o : Obj) (pm cd doc : Value) (a : Addr) (vs : List Value) (ns : List Int),
      Ground q loose [] XP w s₀ mg mb s₁.heap → YP w s₁.heap →
      s₁.heap.get? fa = some o → o.data = .func (docDef d.name d.params d.body d.scope pm cd doc) → s₁.heap.CodeRec cd d.name → mg d.name = some (.ref fa) →
      s₁.heap.get? a = some { cls := .type "list", data := .seq vs.toArray } → IntsAre vs ns → ns.length ≤ n →
      s.gens = #[] → s.os = s₁.os →
      Fr s₁.heap s₁.heap.objs.size s.heap (bindL (envOfC d.name d.scope s₁.heap.objs.size fa cd).kindOf [(x, .ref a)] fun _ => none) →
      Cl s₁.heap.objs.size (cellsFrom (s₁.heap.objs.size + 1) d.scope.names []) s.heap (bindC (envOfC d.name d.scope s₁.heap.objs.size fa cd).kindOf [(x, .ref a)] fun _ => none) →
      wpAny (model l.prog w) (callerA.deeper (envOfC d.name d.scope s₁.heap.objs.size fa cd)) (execs d.body (envOfC d.name d.scope s₁.heap.objs.size fa cd))
        (fun f s' => f = .ret (.bool true) ∧ (∀ b o, s₁.heap.get? b = some o → s'.heap.get? b = some o) ∧ s'.os = s₁.os ∧ s'.gens = #[]) (fun _ _ => False) s) :
    WalkN q loose XP YP l.row.toRowW d [] (fun f vs => PySem.call f vs) := by
  intro w s₀ s₁ mg mb G Y fa o pm cd doc dV kV ho hd hcd hD hmg hg args vals as hpre hlay hrd hwl hlo
  obtain rfl : dV = .none := Dflts.none hD hdf
  obtain rfl : kV = .none := Dflts.noKw hD
  obtain ⟨a, vs, ns, rfl, rfl, hobj, hints, hlen⟩ := script_of hn hpre hwl
  refine enter_callW ?_
  refine call_cells_ret (o := o) (by rw [depth_caller]; decide) ho (fd_plain hd) G.T.nolimit hcd (hbind pm cd doc (.ref a)) (fun y hy => ?_) (fun h₁ tk F X => ?_) hco hgen hk
  · obtain rfl : y = (x, Value.ref a) := List.mem_singleton.mp hy
    rcases hx with e | e
    · exact .inl e
    · exact .inr ⟨e, cellsFrom_some _ _ _ (.inl e)⟩
  · refine wpAny_mono (body w s₀ s₁ { s₁ with heap := h₁, toks := tk } mg mb fa o pm cd doc a vs ns G Y ho (fd_plain hd) hcd hmg hobj hints hlen hg rfl F X) (fun f s' hq => ?_) (fun _ _ hq => hq)
    obtain ⟨rfl, h2, h3, h4⟩ := hq
    exact ⟨.inl ⟨.bool true, .bool true, [], rfl, fun _ => rfl, .bool true, post_true l _, fun _ => ⟨List.Pairwise.nil, fun _ hm => (nomatch hm)⟩⟩, h2, h3, h4⟩

/-! ### rules over ANY heap (no ledger) from facts about the written part K: the library's own take a ledger (News) for what they write -/
section
variable {prog : Program} {w : World} {A : Around} {E : Value → Shared → Prop} {s : Shared} {K : Frag}

/-- a def of the module, or a method (qual 'C.m'), entered: the frame is the next address; cells behind it -/
theorem call_fn {R : Result → Shared → Prop} {name qual : Str} {params : Arguments} {body : List Stmt} {scope : Scope} {dV kV doc pm cdv ct oc : Value} {an od : Option Addr} {osl : Array (Option Value)} {f : Addr} {args : Args} {binds : List (Str × Value)}
    (X : K.In s.heap) (hlim : s.heap.NoLimit) (ho : K.lookup f = some ⟨oc, od, .func (fnOf name qual params body scope dV kV doc pm an cdv ct), osl⟩) (hcd : codeIn K cdv qual = true) (hroom : A.depth < recursionLimit)
    (hbind : BindsTo s (fnOf name qual params body scope dV kV doc pm an cdv ct) args binds)
    (hkind : (binds.all fun y => scope.names.lookup y.1 == some .local || scope.names.lookup y.1 == some .cell) = true)
    (h : ∀ s₁, InCallC s s.heap.objs.size (bindL (envOfC qual scope s.heap.objs.size f cdv).kindOf binds fun _ => none) (cellsFrom (s.heap.objs.size + 1) scope.names [])
        (bindC (envOfC qual scope s.heap.objs.size f cdv).kindOf binds fun _ => none) s₁ →
      wpAny (model prog w) (A.deeper (envOfC qual scope s.heap.objs.size f cdv)) (execs body (envOfC qual scope s.heap.objs.size f cdv))
        (fun fl s' => R (.ok (.ret (match fl with | .ret v => v | _ => .none))) s')
        (fun e s' => wpAny (model prog w) (A.deeper (envOfC qual scope s.heap.objs.size f cdv)) (leaving (envOfC qual scope s.heap.objs.size f cdv) e) (fun _ s'' => R (.error e) s'') (fun e' s'' => R (.error e') s'') s') s₁)
    (hco : scope.isCoroutine = false) (hgen : scope.isGenerator = false) (hk : scope.kind = .function) : codeAny (model prog w) A (.call (.ref f) args) R s := by
  refine codeAny_call_function hroom (X _ _ ho) rfl hco hgen rfl (codeRec_of X hcd) (hbind _ _ _ _ ?_)
  refine wpAny_newFunctionEnv_cells hk (kindsX hkind _) fun env he s₁ x => ?_
  subst he
  exact ⟨hlim.keeps x.toInCall.keep, codeAny_func (h s₁ x)⟩

/-- C(..): dict at size, instance at size + 1, then __init__ -/
theorem make_obj {R : Result → Shared → Prop} {C fI : Addr} {rest : List Value} {kw : List (Str × Value)}
    (X : K.In s.heap) (hm : makesIn K C = true) (hi : findIn K (.ref C) "__init__" = some (some (.ref fI))) (hf : isFn K (.ref fI) = true)
    (h : codeAny (model prog w) (A.under (.builtin "type.__call__" ⟨.ref C :: rest, kw⟩)) (.call (.ref fI) ⟨.ref (s.heap.objs.size + 1) :: rest, kw⟩) (InitBack (s.heap.objs.size + 1) R)
      { s with heap := (s.heap.push emptyDict).push (instObj C s.heap.objs.size) }) : codeAny (model prog w) A (.call (.ref C) ⟨rest, kw⟩) R s := by
  obtain ⟨hh, g, d, t, os⟩ := s
  exact make_core (makes_of X hm) (looks_findIn X hi) (fun self => bind_fn X self (beq_iff_eq.mp hf)) (.inl rfl) h

/-- x.name where the instance's dict holds the name and the class does not -/
theorem get_field {x C : Addr} {ox : Obj} {es : List DictEntry} {n : Nat} {name : Str} {expr : Bool} {v : Value} {Q : Value → Shared → Prop}
    (X : K.In s.heap) (I : PySem.W.InstAt s.heap x ox C (some (dictOf es n))) (hg : plainGet K C name = true) (hh : hasDictIn K C = true) (ha : findIn K (.ref C) name = some none)
    (hl : getL name es = some (some v)) (hv : handedIn v = true) (h : Q v { s with toks := s.toks + 1 }) : wpAny (model prog w) A (getAttr (.ref x) name expr) Q E s :=
  get_value X I (plainGet_of hg).1 (findObj_own hh ha rfl hl) hv h

/-- x.m(..): the method found in the class -/
theorem get_method {x C f : Addr} {ox : Obj} {es : List DictEntry} {n : Nat} {name : Str} {pl : Sem Bool} {Q : Value × List Value → Shared → Prop}
    (X : K.In s.heap) (I : PySem.W.InstAt s.heap x ox C (some (dictOf es n))) (hg : plainGet K C name = true) (hf : findIn K (.ref C) name = some (some (.ref f))) (ht : isFn K (.ref f) = true)
    (hl : getL name es = some none) (h : Q (.ref f, [.ref x]) s) : wpAny (model prog w) A (getMethod (.ref x) name pl) Q E s :=
  method_fn X I (plainGet_of hg).1 (plainGet_of hg).2 hf (beq_iff_eq.mp ht) (by show (lookIn name (dictOf es n)).map _ = _; rw [lookIn_dict, hl]; rfl) h

/-! the whole heap as the ledger: makes every rule that writes through a ledger a rule over any heap -/
def noObjs (h : Heap) : Heap := { h with objs := #[] }
theorem noObjs_get (h : Heap) (b : Addr) : (noObjs h).get? b = none := by
  cases e : (noObjs h).get? b with
  | none => rfl
  | some o => exact absurd (Heap.lt_size e) (Nat.not_lt_zero _)
def ledger (h : Heap) (L d : Addr) : List (Addr × Obj) := (List.range h.objs.size).filterMap fun a => if a = L ∨ a = d then none else (h.get? a).map fun o => (a, o)
theorem mem_ledger {h : Heap} {L d a : Addr} {o : Obj} : (a, o) ∈ ledger h L d ↔ a ≠ L ∧ a ≠ d ∧ h.get? a = some o := by
  unfold ledger
  rw [List.mem_filterMap]
  constructor
  · rintro ⟨b, _, e⟩
    split at e
    · cases e
    · rename_i hb
      obtain ⟨o', ho, e'⟩ := Option.map_eq_some_iff.mp e
      cases e'
      exact ⟨fun q => hb (.inl q), fun q => hb (.inr q), ho⟩
  · rintro ⟨n1, n2, ho⟩
    refine ⟨a, List.mem_range.mpr (Heap.lt_size ho), ?_⟩
    rw [if_neg (show ¬ (a = L ∨ a = d) from fun q => q.elim n1 n2), ho] <;> rfl
theorem news_ledger {h : Heap} {L d : Addr} {od : Obj} (hne : d ≠ L) (ho : h.get? d = some od) : News (noObjs h) L h ([] ++ (d, od) :: ledger h L d) := by
  rintro ⟨a, o⟩ hp
  rcases List.mem_cons.mp hp with e | hp
  · cases e
    exact ⟨ho, hne, noObjs_get _ _⟩
  · obtain ⟨n1, n2, e⟩ := mem_ledger.mp hp
    exact ⟨e, n1, noObjs_get _ _⟩
theorem fr_all {h : Heap} {L : Addr} {m : Str → Option Value} (n : h.Ns L m) : Fr (noObjs h) L h m :=
  ⟨n, fun b o e => (by rw [noObjs_get] at e; cases e), Nat.zero_le _⟩
/-- Upd of the head entry (for append_K, setItem_K ..) -/
theorem upd_ledger {h : Heap} {L d : Addr} {o o' : Obj} : Upd d o o' ((d, o) :: ledger h L d) ((d, o') :: ledger h L d) :=
  .head fun ⟨_, _⟩ hp => (mem_ledger.mp hp).2.1

/-- x.name = v over any heap: L is any namespace of the heap (the frame's, say): its map stays, its object is not told; all else but the dict stays -/
theorem set_field {x C dx L : Addr} {ox : Obj} {m : Str → Option Value} {es es' : List DictEntry} {n n' : Nat} {name : Str} {v : Value} {Q : Unit → Shared → Prop}
    (X : K.In s.heap) (I : PySem.W.InstAt s.heap x ox C (some (dictOf es n))) (hd : ox.dict = some dx) (hL : s.heap.Ns L m) (hne : dx ≠ L)
    (hs : findIn K (.ref C) "__setattr__" = some (some (.builtin "object.__setattr__"))) (hp : plainOver K C = true) (ht : takerIn K C name = some none) (hh : hasDictIn K C = true) (hl : (getL name es).isSome = true)
    (e : (putL name (PyData.keyHash w.params name) (.str name (s.toks + 1)) v es, putN name es n) = (es', n')) (hz : es'.length ≤ 1000)
    (h : ∀ h' : Heap, h'.Ns L m → h'.get? dx = some (dictOf es' n') → (∀ b o, b ≠ dx → b ≠ L → s.heap.get? b = some o → h'.get? b = some o) → Q () { s with heap := h', toks := s.toks + 2 }) :
    wpAny (model prog w) A (setAttr (.ref x) name v) Q E s := by
  obtain ⟨e1, e2⟩ := Prod.mk.inj e
  have hdx : s.heap.get? dx = some (dictOf es n) := by
    have := I.dict
    rw [hd] at this
    exact this
  refine set_plain X I hs (osa_dict (s := { s with toks := s.toks + 1 }) (h₀ := noObjs s.heap) (L := L) (m := m) (od := dictOf es n) (od' := dictOf es' n') (es := es') (n := n') (pre := []) (post := ledger s.heap L dx)
    (fr_all hL) (news_ledger hne hdx) X I hd hp ht hh hl (fun _ q => nomatch q) (fun ⟨_, _⟩ q => (mem_ledger.mp q).2.1) (by rw [putName_dict, e1, e2]) rfl hz fun h' F' N' => ?_)
  exact h h' F'.ns (N'.get (List.Mem.head _)) fun b o n1 n2 ho => N'.get (List.Mem.tail _ (mem_ledger.mpr ⟨n2, n1, ho⟩))
end
end Att

namespace L2
open PySem PySem.Spec PyProof.Rows

theorem vals_ints : ∀ {vs : List Value} {ns : List Int}, IntsAre vs ns → Vals (ns.map V.int) vs
  | _, _, .nil => .nil
  | _, _, .cons n t h => .cons ⟨t, rfl⟩ (vals_ints h)

/-- nothing is tracked but the script, known to the object (or it is an object of the module) -/
def Only (H : Hp) : Prop := ∀ b, H b = none ∨ ∃ o xs, H b = some (.frz o (.lst xs))

/-- THE HEAD: the law's promise, at the heap behind the top. F, the promise of the law's def, may use that base is part of the heap (so K.In base, base.Ns mainGlobals mg stand in Mod) -/
theorem law_call {P : Program} {w : World} {K : PySem.W.Frag} {mg mb : Str → Option Value} {CX : CXT} {k : Nat} {fa a : Addr} {fd : FuncData} {x : Str} {sp : Sp} {s₁ : Shared} {vs : List Value} {ns : List Int}
    (KX : K.In s₁.heap) (hns : s₁.heap.Ns mainGlobals mg) (hb : s₁.heap.Ns builtinsNs mb) (hbb : ∀ x : Str, x ≠ "__name__" → mb x = bootBuiltins x) (hlim : s₁.heap.NoLimit) (hg : s₁.gens = #[])
    (ha : s₁.heap.get? a = some { cls := .type "list", data := .seq vs.toArray }) (hi : IntsAre vs ns) (hl : ns.length ≤ sizeLine) (hr : Room k callerA)
    (F : ∀ base : Heap, K.In base → base.Ns mainGlobals mg → FnOk P w K mg base CX k fa fd [x] sp) (hbind : ∀ (s : Shared) (u : Value), BindsTo s fd ⟨[u], []⟩ [(x, u)])
    (hsp : ∀ H : Hp, Only H → SqL K H a (ns.map V.int) → sp [.ref a] H (fun v _ => v = .bl true) fun _ _ _ => False)
    (hCX : ∀ H e s', CX [] H s₁ (fun _ _ _ => False) e s' → False) :
    codeAny (model P w) callerA (.call (.ref fa) ⟨[.ref a], []⟩) (fun r s' => r = .ok (.ret (.bool true)) ∧ OldK s₁.heap s'.heap ∧ s'.os = s₁.os ∧ AllBare s'.gens) s₁ := by
  have rv := vals_ints hi
  have lenV := hi.length
  -- from an abstract heap in which nothing but the script may be tracked
  have core : ∀ H : Hp, Only H → SqL K H a (ns.map V.int) → HOk P w H s₁.heap → (∀ b, H b ≠ none → b = a) → (H a ≠ none → K.lookup a = none) →
      codeAny (model P w) callerA (.call (.ref fa) ⟨[.ref a], []⟩) (fun r s' => r = .ok (.ret (.bool true)) ∧ OldK s₁.heap s'.heap ∧ s'.os = s₁.os ∧ AllBare s'.gens) s₁ := by
    intro H hO hS hok hA hK
    have base_of : ∀ {b : Addr} {o : Obj}, s₁.heap.get? b = some o → H b = none → (hidT s₁.heap H).get? b = some o := fun e n => hidT_get e n
    have noA : ∀ {b : Addr} {o : Obj} {es : Array DictEntry} {ep : Nat}, s₁.heap.get? b = some o → o.data = .dict es ep → H b = none := fun {b o es ep} e d => by
      cases q : H b with
      | none => rfl
      | some u =>
        have e' : b = a := hA b (by rw [q]; simp)
        subst e'
        rw [ha] at e; cases e
        have d' : Data.seq vs.toArray _ = Data.dict es ep := d
        cases d'
    have nsK : ∀ {b : Addr} {m : Str → Option Value}, s₁.heap.Ns b m → (hidT s₁.heap H).Ns b m := fun {b m} ⟨o, es, ep, e, d, r⟩ => ⟨o, es, ep, base_of e (noA e d), d, r⟩
    have hKb : K.In (hidT s₁.heap H) := fun b o e => base_of (KX b o e) (by
      cases q : H b with
      | none => rfl
      | some u =>
        have e' : b = a := hA b (by rw [q]; simp)
        subst e'
        rw [hK (by rw [q]; simp)] at e; cases e)
    have hM : Mod K mg (hidT s₁.heap H) := ⟨hKb, nsK hns, ⟨mb, nsK hb, hbb⟩, let ⟨mc, h1, h2⟩ := hlim; ⟨mc, nsK h1, h2⟩⟩
    have e0 : Env0 P w K mg (hidT s₁.heap H) callerA [] s₁ H := ⟨rfl, hM, fun b o e => of_hidT e, Nat.le_of_eq (hidT_size _ _), trivial, fun b hb => absurd (show b ∈ ([] : List Addr) from hb) (by simp), hok, .of_eq hg⟩
    refine codeAny_mono ((F _ hKb (nsK hns)).run callerA [] s₁ H ⟨[.ref a], []⟩ [.ref a] [.ref a] _ _ hr e0 (hbind s₁ (.ref a)) (.cons rfl .nil) (hsp H hO hS)) fun r s' h => ?_
    cases r with
    | error e => exact (hCX H e s' h).elim
    | ok fl =>
      cases fl with
      | next => exact False.elim h
      | brk => exact False.elim h
      | cont => exact False.elim h
      | ret u =>
        obtain ⟨v, H', os, bare, un, hok', r', q⟩ := h
        have q' : v = .bl true := q
        subst q'
        obtain rfl : u = Value.bool true := r'
        refine ⟨rfl, OldK.of_keep fun b o e => ?_, os, bare⟩
        cases q : H b with
        | none => exact un.keep b o e q (by intro z; exact absurd (show b ∈ ([] : List Addr) from z) (by simp)) (by simp)
        | some u =>
          rcases hO b with z | ⟨ob, xs, z⟩
          · rw [q] at z; cases z
          · have z2 := un.frzs b ob _ z
            obtain ⟨e1, _⟩ := hok b _ z
            obtain ⟨e2, _⟩ := hok' b _ z2
            rw [e] at e1; cases e1
            exact e2
  cases hk : K.lookup a with
  | some o =>
    -- the script is one of the module's own objects
    have e := KX a o hk
    rw [ha] at e
    cases e
    refine core (fun _ => none) (fun _ => .inl rfl) (.inr ⟨_, vs.toArray, _, hk, rfl, rfl, rfl, by rw [List.size_toArray, lenV]; exact hl, by simpa using rv⟩) (fun b u z => by have z' : (none : Option HO) = some u := z; cases z') (fun b z => absurd rfl z) fun z => absurd rfl z
  | none =>
    refine core (fun b => if b = a then some (.frz { cls := .type "list", data := .seq vs.toArray } (.lst (ns.map V.int))) else none) (fun b => ?_) (.inl (.inr ⟨{ cls := .type "list", data := .seq vs.toArray }, if_pos rfl⟩)) (fun b u z => ?_) (fun b z => ?_) fun _ => hk
    · by_cases hb : b = a
      · exact .inr ⟨_, _, if_pos hb⟩
      · exact .inl (if_neg hb)
    · by_cases hb : b = a
      · have z' := (if_pos hb).symm.trans z
        cases z'
        subst hb
        exact ⟨ha, by rw [List.length_map]; exact hl, vs, _, rv, ha⟩
      · have z' := (if_neg hb).symm.trans z
        cases z'
    · by_cases hb : b = a
      · exact hb
      · exact absurd (if_neg hb) z
end L2

namespace L2
open PySem PySem.Spec PyProof.Rows

abbrev KOf {K : PySem.W.Frag} {h : Heap} (_ : K.In h) : PySem.W.Frag := K

/-- the goal that k_head leaves (case hc), from the law's promise. F gives the function object fd (K's own) once, then the promise over every base -/
theorem walk_of {l : PySem.W.OpenLaw} {n k : Nat} {q : Program} {loose : List Str} {XP : (Str → Option Value) → Heap → Prop} {YP : World → Heap → Prop} {d : DefRec} {K : Params → PySem.W.Frag} {CX : World → CXT} {sp : World → Sp} {x : Str}
    (hn : l.most = some n) (hn2 : n ≤ sizeLine) (hdf : d.params.defaults = []) (hr : Room k callerA)
    (hY : ∀ (w : World) (h : Heap), YP w h → (K w.params).In h)
    (F : ∀ (w : World) (mg : Str → Option Value) (fa : Addr) (h : Heap), (K w.params).In h → h.Ns mainGlobals mg → mg d.name = some (.ref fa) →
      ∃ fd : FuncData, (∀ (s : Shared) (u : Value), BindsTo s fd ⟨[u], []⟩ [(x, u)]) ∧
        ∀ base : Heap, (K w.params).In base → base.Ns mainGlobals mg → FnOk l.prog w (K w.params) mg base (CX w) k fa fd [x] (sp w))
    (hsp : ∀ (w : World) (H : Hp) (a : Addr) (ns : List Int), ns.length ≤ n → Only H → SqL (K w.params) H a (ns.map V.int) → sp w [.ref a] H (fun v _ => v = .bl true) fun _ _ _ => False)
    (hCX : ∀ (w : World) (H : Hp) (s : Shared) (e : Value) (s' : Shared), CX w [] H s (fun _ _ _ => False) e s' → False) :
    PySem.W.WalkO q loose XP YP l.row.toRowW d [] (fun f vs => PySem.call f vs) := by
  refine Att.attach_call hn hdf fun w s₀ s₁ mg mb fa o pm cd doc a vs ns G Y ho hd hcd hmg hobj hints hlen hg => ?_
  have KX := hY w _ Y
  obtain ⟨fd, hb, hF⟩ := F w mg fa _ KX G.T.g hmg
  exact law_call KX G.T.g G.T.b G.T.builtins G.T.nolimit hg hobj hints (Nat.le_trans hlen hn2) hr hF hb (fun H hO hS => hsp w H a ns hlen hO hS) fun H e s' => hCX w H s₁ e s'
/-- the same where the promise hangs on the written part alone: (sp := My.sp_law), no hole under a binder -/
theorem walk_ofK {l : PySem.W.OpenLaw} {n k : Nat} {q : Program} {loose : List Str} {XP : (Str → Option Value) → Heap → Prop} {YP : World → Heap → Prop} {d : DefRec} {K : Params → PySem.W.Frag} {CX : CXT} {sp : PySem.W.Frag → Sp} {x : Str}
    (hn : l.most = some n) (hn2 : n ≤ sizeLine) (hdf : d.params.defaults = []) (hr : Room k callerA)
    (hY : ∀ (w : World) (h : Heap), YP w h → (K w.params).In h)
    (F : ∀ (w : World) (mg : Str → Option Value) (fa : Addr) (h : Heap), (K w.params).In h → h.Ns mainGlobals mg → mg d.name = some (.ref fa) →
      ∃ fd : FuncData, (∀ (s : Shared) (u : Value), BindsTo s fd ⟨[u], []⟩ [(x, u)]) ∧
        ∀ base : Heap, (K w.params).In base → base.Ns mainGlobals mg → FnOk l.prog w (K w.params) mg base CX k fa fd [x] (sp (K w.params)))
    (hsp : ∀ (K : PySem.W.Frag) (H : Hp) (a : Addr) (ns : List Int), ns.length ≤ n → Only H → SqL K H a (ns.map V.int) → sp K [.ref a] H (fun v _ => v = .bl true) fun _ _ _ => False)
    (hCX : ∀ (H : Hp) (s : Shared) (e : Value) (s' : Shared), CX [] H s (fun _ _ _ => False) e s' → False) :
    PySem.W.WalkO q loose XP YP l.row.toRowW d [] (fun f vs => PySem.call f vs) :=
  walk_of (K := K) (CX := fun _ => CX) (sp := fun w => sp (K w.params)) hn hn2 hdf hr hY F (fun w H a ns h1 h2 h3 => hsp (K w.params) H a ns h1 h2 h3) fun _ H s e s' => hCX H s e s'
end L2

/- THE LAST THEOREM (shape; LID, My.* are yours):
   My.Adr: a structure of the addresses that your layer names (classes, functions); My.Txt K t: a structure (Prop) of the equations over K;
   My.txt_mk : {K} {implicit addresses ..} (e1 : nsIn K mainGlobals "law" = some (some (.ref f))) (e2 : K.lookup f = some ⟨oc, od, .func (fnOf "law" "law" params body scope dV kV doc pm an cdv ct), sl⟩) (e3 : codeIn K cdv "law" = true) .. : ∃ t, My.Txt K t

set_option maxRecDepth 100000 in
set_option maxHeartbeats 0 in
theorem PySem.Challenge.cw_LID_holds : PySem.Challenge.rw_LID.Holds := by
  w_on; o_law; k_head; (case hw => w_witness2)
  k_fill
  refine L2.walk_of (l := PySem.Challenge.rw_LID) (n := 63) (k := 40) (x := "script") (CX := fun w => ..) (sp := fun _ => My.sp_law) rfl (by decide) rfl ⟨rfl, by decide, by decide⟩ (fun w h Y => PySem.W.kIn_of Y) ?F ?S ?C
  case F =>
    intro w mg fa h KX G hmg
    have T : ∃ t, My.Txt (L2.KOf KX) t := by
      dsimp only [L2.KOf]                          -- K must stand as «<heap const> w.params» for k_is
      refine' My.txt_mk ?e1 ?e2 ?e3 ..
      (case e1 => PySem.W.k_is)                    -- in the order: a name -> its address -> its object -> its parts
      (case e2 => PySem.W.k_is)
      ..
    obtain ⟨t, T⟩ := T
    have e0 := hmg.symm.trans (PySem.W.mg_of KX G T.law)
    cases e0                                       -- fa is the law's own address
    exact ⟨_, fun s u => .of_eq rfl, fun base kb nb => My.law_fn T kb nb⟩     -- if «.of_eq rfl» comes too early: refine' ⟨_, ?b, fun base kb nb => My.law_fn T kb nb⟩; exact fun s u => .of_eq rfl
  case S => exact fun w H a ns hl hO hS => ..
  case C => exact ..
(the tactic k_is has no namespace: write k_is) -/

/-! SHORT WORDS over the layer: a def of the text, its body, what a loop and a test want. -/
namespace L2
open PySem PySem.Spec PyProof.Rows

/-! ### the text by places -/
/-- the j-th statement of a class's body -/
def inClass (s : Stmt) (j : Nat) : Stmt := match s with
  | .ClassDef _ _ _ body _ _ _ _ _ _ _ => body.getD j (.Pass ⟨0, 0, 0, 0⟩)
  | _ => .Pass ⟨0, 0, 0, 0⟩
def defArgs (s : Stmt) : Arguments := match s with
  | .FunctionDef _ a _ _ _ _ _ _ _ _ => a
  | _ => { posonlyargs := [], args := [], vararg := none, kwonlyargs := [], kw_defaults := [], kwarg := none, defaults := [] }
def defBody (s : Stmt) : List Stmt := match s with
  | .FunctionDef _ _ b _ _ _ _ _ _ _ => b
  | _ => []
def defScope (s : Stmt) : Scope := match s with
  | .FunctionDef _ _ _ _ _ _ sc _ _ _ => sc
  | _ => { kind := .function, names := [], isGenerator := false, isCoroutine := false }

/-! ### no exception leaves a def -/
abbrev CX0 : CXT := fun _ _ _ _ _ _ => False
abbrev E0 : XK := fun _ _ _ => False
theorem pass0 {X : Cx} : Passes CX0 X E0 := fun _ _ _ _ _ _ _ h => h.elim

/-! ### a def (or method) of the text as it stands behind the top -/
structure Fun (K : PySem.W.Frag) (x qual : Str) (st : Stmt) (f : Addr) (fd : FuncData) : Prop where
  ex : ∃ (oc : Value) (od : Option Addr) (kV doc pm : Value) (an : Option Addr) (cdv ct : Value) (osl : Array (Option Value)),
    fd = PySem.W.fnOf x qual (defArgs st) (defBody st) (defScope st) .none kV doc pm an cdv ct ∧ K.lookup f = some ⟨oc, od, .func fd, osl⟩ ∧ PySem.W.codeIn K cdv qual = true
  kp : PySem.W.keepIn K (.ref f) = true
section
variable {P : Program} {w : World} {K : PySem.W.Frag} {mg : Str → Option Value} {base : Heap}
/-- THE RULE for a def: its body as a term of rules, and the reading of that term -/
theorem Fun.ok {x qual : Str} {st : Stmt} {f : Addr} {fd : FuncData} {N ps : List Str} {k : Nat} {sp : Sp} (F : Fun K x qual st f fd) (S : FnScope N ps (defScope st)) (len : ∀ vs H Q E, sp vs H Q E → vs.length = ps.length)
    (hbody : ∀ (cdv : Value) (A : Around) (outer : List Env) (s : Shared) (H : Hp) (vs : List V) (Q : VK) (E : XK), Room k (A.deeper (envOfC qual (defScope st) s.heap.objs.size f cdv)) → sp vs H Q E →
      ∃ t, PSs (cxOf CX0 P w K mg base N qual (defScope st) f cdv A outer s H E).nox (defBody st) t ∧ t { nx := fun _ H' => Q .non H', rt := Q } (start N vs) H) : FnOk P w K mg base CX0 (k + 1) f fd ps sp := by
  obtain ⟨oc, od, kV, doc, pm, an, cdv, ct, osl, rfl, lk, hcd⟩ := F.ex
  refine fn_of lk hcd S len fun A outer s H vs Q E hr hsp => ?_
  obtain ⟨t, h, q⟩ := hbody cdv A outer s H vs Q E hr hsp
  exact ⟨t, h.nox, q⟩
/-- how its arguments bind (no defaults): h is «fun _ _ _ _ _ _ us hl => match us, hl with | [_, _], _ => rfl», one _ a parameter -/
theorem Fun.binds {x qual : Str} {st : Stmt} {f : Addr} {fd : FuncData} {ps : List Str} (F : Fun K x qual st f fd)
    (h : ∀ (kV doc pm : Value) (an : Option Addr) (cdv ct : Value) (us : List Value), us.length = ps.length → bindArgs (PySem.W.fnOf x qual (defArgs st) (defBody st) (defScope st) .none kV doc pm an cdv ct) ⟨us, []⟩ = pure (ps.zip us)) : Binds K fd ps [] := by
  obtain ⟨oc, od, kV, doc, pm, an, cdv, ct, osl, rfl, lk, hcd⟩ := F.ex
  exact .all (h kV doc pm an cdv ct)
theorem fun_mk {x qual : Str} {st : Stmt} {f : Addr} {oc : Value} {od an : Option Addr} {osl : Array (Option Value)} {kV doc pm cdv ct : Value} (l : K.lookup f = some ⟨oc, od, .func (PySem.W.fnOf x qual (defArgs st) (defBody st) (defScope st) .none kV doc pm an cdv ct), osl⟩)
    (c : PySem.W.codeIn K cdv qual = true) (k : PySem.W.keepIn K (.ref f) = true) : Fun K x qual st f (PySem.W.fnOf x qual (defArgs st) (defBody st) (defScope st) .none kV doc pm an cdv ct) := ⟨⟨oc, od, kV, doc, pm, an, cdv, ct, osl, rfl, l, c⟩, k⟩
end
theorem hu_of {A : Around} {k : Nat} (hr : Room k A) : A.units + 1 < cLine := Nat.lt_of_le_of_lt (Nat.add_le_add_left (by decide : 1 ≤ 64) _) hr.units
theorem small1000 {n : Nat} (h : n ≤ 1000) : n < sizeLine := Nat.lt_of_le_of_lt h (by decide)

/-! ### expressions in short: the name that stands in the i-th slot -/
section
variable {X : Cx}
theorem pv (i : Nat) {x : Str} {pos : Pos} (hN : X.N[i]? = some x := by rfl) (hv : Vis X.env.scope x := by first | exact Or.inl rfl | exact Or.inr (Or.inl rfl) | exact Or.inr (Or.inr rfl)) (hd : (x == ("__debug__" : Str)) = false := by decide)
    (hcd : (x == ("__classdict__" : Str)) = false := by decide) : PE X (.Name x pos) (tVar i) := pe_var hN hv hd hcd
/-- len of a dict -/
theorem call_lenD : CallR X (.builtin "len") (fun xs H Q => ∃ a kvs, xs = [V.ref a] ∧ H a = some (.dK kvs) ∧ Q (.int kvs.length) H) := by
  intro pins s σ H xs us Q I r h
  obtain ⟨a, kvs, rfl, ha, q⟩ := h
  obtain ⟨u, rfl, ru⟩ := vals1 r
  cases ru
  exact d_len I (.inl ha) fun t s' I' => ⟨.int kvs.length, H, I', ⟨t, rfl⟩, q⟩
end

/-! ### tests -/
theorem iteF {A B : Prop} (h : B) : if false = true then A else B := by
  rw [if_neg Bool.false_ne_true]
  exact h
theorem iteT {A B : Prop} (h : A) : if true = true then A else B := by
  rw [if_pos rfl]
  exact h
theorem ite2 {c A B : Prop} [Decidable c] (h1 : c → A) (h2 : ¬ c → B) : if c then A else B := by
  by_cases h : c
  · rw [if_pos h]
    exact h1 h
  · rw [if_neg h]
    exact h2 h
theorem iteNS {c A B : Prop} [Decidable c] (hc : c) (h : B) : if (!decide c) = true then A else B := by
  rw [decide_eq_true hc]
  exact iteF h

/-! ### heaps -/
/-- all that was tracked is as it was -/
def Same (H H' : Hp) : Prop := ∀ b o, H b = some o → H' b = some o
theorem Same.refl (H : Hp) : Same H H := fun _ _ h => h
theorem Same.trans {H H1 H2 : Hp} (a : Same H H1) (b : Same H1 H2) : Same H H2 := fun c o h => b c o (a c o h)
theorem Same.free {H H' : Hp} (e : Same H H') {l : Addr} (h : H' l = Option.none) : H l = Option.none := by
  cases q : H l with
  | none => rfl
  | some o =>
    rw [e l o q] at h
    cases h
theorem Same.seq {K : PySem.W.Frag} {H H' : Hp} {a : Addr} {xs : List V} (e : Same H H') (h : SqL K H a xs) : SqL K H' a xs := by
  rcases h with (h | ⟨o, h⟩) | h
  · exact .inl (.inl (e _ _ h))
  · exact .inl (.inr ⟨o, e _ _ h⟩)
  · exact .inr h

/-! ### a dict's pairs: keys that differ -/
section
variable {κ : Type} [DecidableEq κ]
theorem valV_not {kvs : List (κ × V)} {k : κ} (h : valV kvs k = none) : ¬ k ∈ kvs.map (·.1) := by
  intro m
  obtain ⟨p, hp, e⟩ := List.mem_map.mp m
  have q : (kvs.any fun kv => decide (kv.1 = k)) = true := List.any_eq_true.mpr ⟨p, hp, decide_eq_true e⟩
  rw [valV_any, h] at q
  exact absurd q (by simp)
theorem valV_in {kvs : List (κ × V)} {k : κ} {v : V} (h : valV kvs k = some v) : k ∈ kvs.map (·.1) := by
  have q : (kvs.any fun kv => decide (kv.1 = k)) = true := by
    rw [valV_any, h]
    all_goals rfl
  obtain ⟨p, hp, e⟩ := List.any_eq_true.mp q
  exact List.mem_map.mpr ⟨p, hp, of_decide_eq_true e⟩
theorem nd_snoc : ∀ {l : List κ} {k : κ}, l.Nodup → ¬ k ∈ l → (l ++ [k]).Nodup
  | [], k, _, _ => by simp
  | a :: r, k, h, hk => by
    obtain ⟨h1, h2⟩ := List.nodup_cons.mp h
    show (a :: (r ++ [k])).Nodup
    refine List.nodup_cons.mpr ⟨fun m => ?_, nd_snoc h2 fun m => hk (List.mem_cons.mpr (Or.inr m))⟩
    rcases List.mem_append.mp m with q | q
    · exact h1 q
    · exact hk (List.mem_cons.mpr (Or.inl (List.mem_singleton.mp q).symm))
theorem nd_putK {kvs : List (κ × V)} {k : κ} (v : V) (hn : (kvs.map (·.1)).Nodup) (h : valV kvs k = none) : ((putK kvs k v).map (·.1)).Nodup := by
  rw [putK_new v h, List.map_append]
  exact nd_snoc hn (valV_not h)
theorem dropK_pos {p : κ × V} {r : List (κ × V)} {k : κ} (e : p.1 = k) : dropK (p :: r) k = dropK r k := by
  unfold dropK
  rw [List.filter_cons, if_neg (by simp [e])]
theorem dropK_neg {p : κ × V} {r : List (κ × V)} {k : κ} (e : ¬ p.1 = k) : dropK (p :: r) k = p :: dropK r k := by
  unfold dropK
  rw [List.filter_cons, if_pos (by simp [e])]
theorem dropK_no : ∀ {kvs : List (κ × V)} {k : κ}, ¬ k ∈ kvs.map (·.1) → dropK kvs k = kvs
  | [], _, _ => rfl
  | p :: r, k, h => by
    have h' : ¬ k ∈ r.map (·.1) := fun m => by
      obtain ⟨q, hq, e⟩ := List.mem_map.mp m
      exact h (List.mem_map.mpr ⟨q, List.mem_cons.mpr (Or.inr hq), e⟩)
    rw [dropK_neg fun e => h (List.mem_map.mpr ⟨p, List.mem_cons.mpr (Or.inl rfl), e⟩), dropK_no h']
theorem dropK_mem {kvs : List (κ × V)} {k : κ} {p : κ × V} (h : p ∈ dropK kvs k) : p ∈ kvs := (List.mem_filter.mp h).1
theorem nd_dropK : ∀ {kvs : List (κ × V)} {k : κ}, (kvs.map (·.1)).Nodup → ((dropK kvs k).map (·.1)).Nodup
  | [], _, _ => List.nodup_nil
  | p :: r, k, h => by
    have h : (p.1 :: r.map (·.1)).Nodup := h
    obtain ⟨h1, h2⟩ := List.nodup_cons.mp h
    by_cases e : p.1 = k
    · rw [dropK_pos e]
      exact nd_dropK h2
    · rw [dropK_neg e]
      show (p.1 :: (dropK r k).map (·.1)).Nodup
      refine List.nodup_cons.mpr ⟨fun m => h1 ?_, nd_dropK h2⟩
      obtain ⟨q, hq, eq⟩ := List.mem_map.mp m
      exact List.mem_map.mpr ⟨q, dropK_mem hq, eq⟩
theorem dropK_len : ∀ {kvs : List (κ × V)} {k : κ}, (kvs.map (·.1)).Nodup → k ∈ kvs.map (·.1) → (dropK kvs k).length + 1 = kvs.length
  | [], _, _, m => by simp at m
  | p :: r, k, h, m => by
    have h : (p.1 :: r.map (·.1)).Nodup := h
    have m : k = p.1 ∨ k ∈ r.map (·.1) := List.mem_cons.mp m
    obtain ⟨h1, h2⟩ := List.nodup_cons.mp h
    by_cases e : p.1 = k
    · subst e
      rw [dropK_pos rfl, dropK_no h1]
      all_goals rfl
    · have m' : k ∈ r.map (·.1) := m.resolve_left fun z => e z.symm
      have q := dropK_len h2 m'
      rw [dropK_neg e, List.length_cons, List.length_cons]
      omega
end
end L2

set_option Elab.async false
set_option linter.all false
set_option maxRecDepth 100000
set_option maxHeartbeats 4000000
/-! THE VALUE LAYER, part 1: data without the heap, and what code of the text makes of it -/
namespace L3
open PySem

/-- a value, with all that it holds -/
inductive D where
  | non | bl (b : Bool) | int (i : Int) | str (x : Str) | tup (xs : List D) | lst (xs : List D)
  | dK (kvs : List (Sum Int Str × D)) | dT (kvs : List (List (Sum Int Str) × D)) | xc (cls : Str) (fs : List (Str × D))
  deriving Inhabited

/-- how a datum is held: fz: never changed any more; ow: a list or dict that is this name's (or this value's) alone; br: one that is somebody's own, read only; lk: an own one while a loop walks it -/
inductive En where
  | fz (d : D) | ow (d : D) | br (d : D) | lk (d : D)
  deriving Inhabited
@[reducible] def En.d : En → D
  | .fz d => d | .ow d => d | .br d => d | .lk d => d
/-- an exception: its class, its fields -/
structure Xc where
  cls : Str
  fs : List (Str × D)
inductive R (α : Type) where
  | ok (a : α) | exc (x : Xc) | stuck
@[reducible] def R.bind {α β : Type} (r : R α) (f : α → R β) : R β := match r with
  | .ok a => f a | .exc x => .exc x | .stuck => .stuck
@[simp] theorem R.bind_ok {α β : Type} (a : α) (f : α → R β) : (R.ok a).bind f = f a := rfl
@[simp] theorem R.bind_exc {α β : Type} (x : Xc) (f : α → R β) : (R.exc x : R α).bind f = .exc x := rfl
@[simp] theorem R.bind_stuck {α β : Type} (f : α → R β) : (R.stuck : R α).bind f = .stuck := rfl

abbrev Rho := List (Option En)
abbrev EF := Rho → R En
abbrev TF := Rho → R Bool
inductive Out where
  | nx (ρ : Rho) | rt (w : En) | bk (ρ : Rho) | ct (ρ : Rho) | exc (x : Xc) | stuck
abbrev SF := Rho → Out
abbrev Den := List En → R En

/-- what may be put into another thing -/
@[reducible] def En.st : En → R D
  | .fz d => .ok d | .ow d => .ok d | _ => .stuck
/-- what a callee gets -/
@[reducible] def En.arg : En → R En
  | .fz d => .ok (.fz d) | .ow d => .ok (.fz d) | .br d => .ok (.br d) | .lk _ => .stuck
/-- what a name gets -/
@[reducible] def En.nm : En → R En
  | .fz d => .ok (.fz d) | .ow d => .ok (.ow d) | _ => .stuck

def stAll : List En → R (List D)
  | [] => .ok []
  | x :: r => x.st.bind fun d => (stAll r).bind fun ds => .ok (d :: ds)
def argAll : List En → R (List En)
  | [] => .ok []
  | x :: r => x.arg.bind fun d => (argAll r).bind fun ds => .ok (d :: ds)

/-! ### expressions -/
def eVar (i : Nat) : EF := fun ρ => match ρ[i]? with
  | some (some (.fz d)) => .ok (.fz d)
  | some (some (.ow d)) => .ok (.br d)
  | some (some (.br d)) => .ok (.br d)
  | some (some (.lk d)) => .ok (.br d)
  | _ => .stuck
def eC (d : D) : EF := fun _ => .ok (.fz d)
def eOp (g : D → D → R En) (a b : EF) : EF := fun ρ => (a ρ).bind fun x => (b ρ).bind fun y => g x.d y.d
def eUn (g : D → R En) (a : EF) : EF := fun ρ => (a ρ).bind fun x => g x.d
def evs : List EF → Rho → R (List En)
  | [], _ => .ok []
  | a :: r, ρ => (a ρ).bind fun x => (evs r ρ).bind fun xs => .ok (x :: xs)
def sz : Nat := 16777216
def eLst (a : List EF) : EF := fun ρ => (evs a ρ).bind fun xs => (stAll xs).bind fun ds => if ds.length ≤ sz then .ok (.ow (.lst ds)) else .stuck
def eTup (a : List EF) : EF := fun ρ => (evs a ρ).bind fun xs => (stAll xs).bind fun ds => if ds.length ≤ sz then .ok (.fz (.tup ds)) else .stuck
def eCall (den : Den) (a : List EF) : EF := fun ρ => (evs a ρ).bind fun xs => (argAll xs).bind fun ys => den ys
/-- a built-in's call, by the data -/
def eB (g : List D → R En) (a : List EF) : EF := fun ρ => (evs a ρ).bind fun xs => g (xs.map En.d)

@[reducible] def okI (i : Int) : R En := .ok (.fz (.int i))
@[reducible] def okB (b : Bool) : R En := .ok (.fz (.bl b))
def dAdd : D → D → R En
  | .int i, .int j => okI (i + j)
  | .str x, .str y => if x.length + y.length ≤ sz then .ok (.fz (.str (x ++ y))) else .stuck
  | .lst xs, .lst ys => if xs.length + ys.length ≤ sz then .ok (.ow (.lst (xs ++ ys))) else .stuck
  | .tup xs, .tup ys => if xs.length + ys.length ≤ sz ∧ 0 < xs.length then .ok (.fz (.tup (xs ++ ys))) else .stuck
  | _, _ => .stuck
def dSub : D → D → R En
  | .int i, .int j => okI (i - j)
  | _, _ => .stuck
/-- a bound that is not reckoned with while it is unknown -/
def fits (b : Nat) : Int → Bool
  | .ofNat n => Nat.ble n b
  | .negSucc n => Nat.ble n b
theorem fits_iff {b : Nat} {i : Int} : fits b i = true ↔ -((b : Int) + 1) ≤ i ∧ i ≤ b := by
  cases i with
  | ofNat n =>
    show Nat.ble n b = true ↔ _
    rw [Nat.ble_eq]
    simp only [Int.ofNat_eq_natCast]
    omega
  | negSucc n =>
    show Nat.ble n b = true ↔ _
    rw [Nat.ble_eq]
    omega
abbrev b64 : Nat := 18446744073709551614
abbrev b62 : Nat := 4611686018427387903
theorem b64e : ((b64 : Nat) : Int) = 18446744073709551614 := rfl
theorem b62e : ((b62 : Nat) : Int) = 4611686018427387903 := rfl
def dMul : D → D → R En
  | .int i, .int j => if (fits b64 i || fits b64 j) = true then okI (i * j) else .stuck
  | _, _ => .stuck
def dMod : D → D → R En
  | .int i, .int j => if 0 < j then okI (i % j) else .stuck
  | _, _ => .stuck
def dDiv : D → D → R En
  | .int i, .int j => if 0 < j ∧ j < 1073741824 then okI (i / j) else .stuck
  | _, _ => .stuck
def dLt : D → D → R En
  | .int i, .int j => okB (decide (i < j))
  | _, _ => .stuck
def dLe : D → D → R En
  | .int i, .int j => okB (decide (i ≤ j))
  | _, _ => .stuck
def dGt : D → D → R En
  | .int i, .int j => okB (decide (j < i))
  | _, _ => .stuck
def dGe : D → D → R En
  | .int i, .int j => okB (decide (j ≤ i))
  | _, _ => .stuck

/-- == -/
def b2i (b : Bool) : Int := if b then 1 else 0
mutual
def deq : D → D → Bool
  | .non, .non => true
  | .bl a, .bl b => a == b
  | .bl a, .int b => b2i a == b
  | .int a, .bl b => a == b2i b
  | .int a, .int b => a == b
  | .str a, .str b => a == b
  | .tup a, .tup b => deqs a b
  | .lst a, .lst b => deqs a b
  | _, _ => false
def deqs : List D → List D → Bool
  | [], [] => true
  | x :: xs, y :: ys => deq x y && deqs xs ys
  | _, _ => false
end
/-- what == is told of here: no dicts, no exceptions, not deep -/
def eqokN : Nat → D → Bool
  | _, .non => true | _, .bl _ => true | _, .int _ => true | _, .str x => PyData.strOk x
  | n + 1, .tup a => a.all (eqokN n)
  | n + 1, .lst a => a.all (eqokN n)
  | _, _ => false
def eqok (d : D) : Bool := eqokN 8 d
def dEq (a b : D) : R En := if eqok a && eqok b then okB (deq a b) else .stuck
def dNe (a b : D) : R En := if eqok a && eqok b then okB (!deq a b) else .stuck
def din (x : D) (ys : List D) : Bool := ys.any fun y => deq y x
def dIsN : D → R En
  | .non => okB true
  | _ => okB false
def dIsNotN : D → R En
  | .non => okB false
  | _ => okB true

/-- the place that an index of any sign means -/
def ixn (n : Nat) (i : Int) : Option Nat := if 0 ≤ i then (if i < n then some i.toNat else none) else if -(n : Int) ≤ i then some (i + n).toNat else none
def ati {α : Type} (xs : List α) (i : Int) : Option α := (ixn xs.length i).bind fun j => xs[j]?
def keyOf : D → Option (Sum Int Str)
  | .int i => some (.inl i)
  | .str x => some (.inr x)
  | _ => none
def keysOf : List D → Option (List (Sum Int Str))
  | [] => some []
  | x :: r => (keyOf x).bind fun k => (keysOf r).map fun ks => k :: ks
def look {κ : Type} [DecidableEq κ] (k : κ) : List (κ × D) → Option D
  | [] => none
  | (x, d) :: r => if x = k then some d else look k r
def putD {κ : Type} [DecidableEq κ] (k : κ) (v : D) : List (κ × D) → List (κ × D)
  | [] => [(k, v)]
  | (x, d) :: r => if x = k then (x, v) :: r else (x, d) :: putD k v r
def okD (o : Option D) : R En := match o with
  | some d => .ok (.fz d)
  | none => .stuck
/-- xs[i], d[k] -/
def dIx : D → D → R En
  | .lst xs, .int i => okD (ati xs i)
  | .tup xs, .int i => okD (ati xs i)
  | .str x, .int i => if x.length ≤ sz then (match ati x.cps.toList i with | some c => .ok (.fz (.str ⟨#[c]⟩)) | none => .stuck) else .stuck
  | .dK kvs, k => (match keyOf k with | some q => okD (look q kvs) | none => .stuck)
  | .dT kvs, .tup ks => (match keysOf ks with | some q => okD (look q kvs) | none => .stuck)
  | _, _ => .stuck
/-- k in d, x in xs -/
def dIn : D → D → R En
  | k, .dK kvs => (match keyOf k with | some q => okB (look q kvs).isSome | none => .stuck)
  | .tup ks, .dT kvs => (match keysOf ks with | some q => okB (look q kvs).isSome | none => .stuck)
  | x, .lst xs => if eqok x && eqok (.lst xs) then okB (din x xs) else .stuck
  | x, .tup xs => if eqok x && eqok (.tup xs) then okB (din x xs) else .stuck
  | _, _ => .stuck
def rNot : R En → R En
  | .ok (.fz (.bl b)) => okB (!b)
  | .ok _ => .stuck
  | r => r
def dNotIn (x y : D) : R En := rNot (dIn x y)
def dLen : List D → R En
  | [.lst xs] => okI xs.length
  | [.tup xs] => okI xs.length
  | [.str x] => if x.length ≤ sz then okI x.length else .stuck
  | [.dK kvs] => okI kvs.length
  | [.dT kvs] => okI kvs.length
  | _ => .stuck
def dList : List D → R En
  | [.lst xs] => .ok (.ow (.lst xs))
  | [.tup xs] => .ok (.ow (.lst xs))
  | _ => .stuck
def dTuple : List D → R En
  | [.lst xs] => .ok (.fz (.tup xs))
  | [.tup xs] => .ok (.fz (.tup xs))
  | _ => .stuck
def maxI : Int → List D → Option Int
  | m, [] => some m
  | m, .int j :: r => maxI (if j > m then j else m) r
  | _, _ => none
def dMax : List D → R En
  | [.lst (.int i :: r)] => (match maxI i r with | some m => okI m | none => .stuck)
  | [.int i, .int j] => okI (if j > i then j else i)
  | _ => .stuck
def dMin2 : List D → R En
  | [.int i, .int j] => okI (if j < i then j else i)
  | _ => .stuck

/-- the built-in classes that isinstance asks for here -/
inductive Ty | int | bool | str | list | tuple | dict
def tyIs : D → Ty → Bool
  | .int _, .int => true | .bl _, .int => true | .bl _, .bool => true | .str _, .str => true
  | .lst _, .list => true | .tup _, .tuple => true | .dK _, .dict => true | .dT _, .dict => true
  | _, _ => false
def dIs (t : Ty) : D → R En
  | .xc _ _ => .stuck
  | d => okB (tyIs d t)

/-! ### tests -/
def truth : D → R Bool
  | .non => .ok false | .bl b => .ok b | .int i => .ok (i != 0) | .str x => if x.length ≤ sz then .ok ((x.length : Int) != 0) else .stuck
  | .lst xs => .ok (!xs.isEmpty) | .tup xs => .ok (!xs.isEmpty) | _ => .stuck
def tE (e : EF) : TF := fun ρ => (e ρ).bind fun x => truth x.d
def tNot (t : TF) : TF := fun ρ => (t ρ).bind fun b => .ok (!b)
def tAnd (t u : TF) : TF := fun ρ => (t ρ).bind fun b => if b = true then u ρ else .ok false
def tOr (t u : TF) : TF := fun ρ => (t ρ).bind fun b => if b = true then .ok true else u ρ
def isB : D → R Bool
  | .bl b => .ok b
  | _ => .stuck
def eNot (e : EF) : EF := fun ρ => (e ρ).bind fun x => (isB x.d).bind fun b => okB (!b)
def eAnd (a b : EF) : EF := fun ρ => (a ρ).bind fun x => (isB x.d).bind fun c => if c = true then b ρ else okB false
def eOr (a b : EF) : EF := fun ρ => (a ρ).bind fun x => (isB x.d).bind fun c => if c = true then okB true else b ρ
def eIf (t : TF) (a b : EF) : EF := fun ρ => (t ρ).bind fun c => if c = true then a ρ else b ρ

/-! ### statements -/
def sNext : SF := fun ρ => .nx ρ
def sSeq (a b : SF) : SF := fun ρ => match a ρ with
  | .nx ρ' => b ρ'
  | o => o
def sOf {α : Type} (r : R α) (k : α → Out) : Out := match r with
  | .ok a => k a | .exc x => .exc x | .stuck => .stuck
def sSet (i : Nat) (e : EF) : SF := fun ρ => sOf ((e ρ).bind En.nm) fun w => .nx (ρ.set i (some w))
def sRet (e : EF) : SF := fun ρ => sOf ((e ρ).bind En.nm) .rt
/-- return x, x a name: what is its own goes with it -/
def sRetV (i : Nat) : SF := fun ρ => match ρ[i]? with
  | some (some (.fz d)) => .rt (.fz d)
  | some (some (.ow d)) => .rt (.ow d)
  | _ => .stuck
def sRetN : SF := fun _ => .rt (.fz .non)
def sIf (t : TF) (a b : SF) : SF := fun ρ => sOf (t ρ) fun c => if c = true then a ρ else b ρ
def sBreak : SF := fun ρ => .bk ρ
def sCont : SF := fun ρ => .ct ρ
def sExpr (e : EF) : SF := fun ρ => sOf (e ρ) fun _ => .nx ρ
def sAug (i : Nat) (g : D → D → R En) (e : EF) : SF := fun ρ => match ρ[i]? with
  | some (some (.fz x)) => sOf ((e ρ).bind fun y => (g x y.d).bind En.nm) fun w => .nx (ρ.set i (some w))
  | _ => .stuck
/-- x.append(e), x a name with an own list -/
def sApp (i : Nat) (e : EF) : SF := fun ρ => match ρ[i]? with
  | some (some (.ow (.lst xs))) => sOf ((e ρ).bind En.st) fun d => if xs.length < sz then .nx (ρ.set i (some (.ow (.lst (xs ++ [d]))))) else .stuck
  | _ => .stuck
/-- ahead of a statement: an own thing is no more changed -/
def frz (i : Nat) (ρ : Rho) : Rho := match ρ[i]? with
  | some (some (.ow d)) => ρ.set i (some (.fz d))
  | _ => ρ
def sFrz (i : Nat) (s : SF) : SF := fun ρ => s (frz i ρ)

/-- what a loop stores -/
abbrev GF := D → Rho → R Rho
def gV (i : Nat) : GF := fun d ρ => .ok (ρ.set i (some (.fz d)))
def gVs : List Nat → List D → Rho → R Rho
  | [], [], ρ => .ok ρ
  | i :: is, d :: ds, ρ => gVs is ds (ρ.set i (some (.fz d)))
  | _, _, _ => .stuck
def gT (is : List Nat) : GF := fun d ρ => match d with
  | .tup ds => gVs is ds ρ
  | _ => .stuck
def forD (g : GF) (b : SF) : List D → Rho → Out
  | [], ρ => .nx ρ
  | x :: xs, ρ => match g x ρ with
    | .ok ρ1 => (match b ρ1 with
      | .nx ρ2 => forD g b xs ρ2
      | .ct ρ2 => forD g b xs ρ2
      | .bk ρ2 => .nx ρ2
      | o => o)
    | .exc x => .exc x
    | .stuck => .stuck
/-- what may be walked -/
def items : D → R (List D)
  | .lst xs => .ok xs
  | .tup xs => .ok xs
  | .dK kvs => .ok (kvs.map fun p => match p.1 with | .inl i => .int i | .inr x => .str x)
  | _ => .stuck
abbrev IF := Rho → R (List D)
def seqOf : D → R (List D)
  | .lst xs => .ok xs
  | .tup xs => .ok xs
  | _ => .stuck
/-- over what a name holds: frozen or borrowed -/
def iV (i : Nat) : IF := fun ρ => match ρ[i]? with
  | some (some (.fz d)) => seqOf d
  | some (some (.br d)) => seqOf d
  | _ => .stuck
/-- the same in a comprehension, where nothing around is changed -/
def iVc (i : Nat) : IF := fun ρ => match ρ[i]? with
  | some (some w) => seqOf w.d
  | _ => .stuck
def iSeq (e : EF) : IF := fun ρ => (e ρ).bind fun w => w.st.bind seqOf
def iE (e : EF) : IF := fun ρ => (e ρ).bind fun w => w.st.bind items
def rngD (lo : Int) : Nat → List D
  | 0 => []
  | n + 1 => .int lo :: rngD (lo + 1) n
def iR1 (a : EF) : IF := fun ρ => (a ρ).bind fun x => match x.d with
  | .int j => if fits b62 j = true then .ok (rngD 0 j.toNat) else .stuck
  | _ => .stuck
def iR2 (a b : EF) : IF := fun ρ => (a ρ).bind fun x => (b ρ).bind fun y => match x.d, y.d with
  | .int i, .int j => if (fits b62 i && fits b62 j) = true then .ok (rngD i (j - i).toNat) else .stuck
  | _, _ => .stuck
def sFor (it : IF) (g : GF) (b : SF) : SF := fun ρ => sOf (it ρ) fun xs => forD g b xs ρ
def whileD (t : TF) (b : SF) : Nat → Rho → Out
  | 0, _ => .stuck
  | n + 1, ρ => sOf (t ρ) fun c => if c = true then (match b ρ with
      | .nx ρ2 => whileD t b n ρ2
      | .ct ρ2 => whileD t b n ρ2
      | .bk ρ2 => .nx ρ2
      | o => o) else .nx ρ
def sWhile (n : Nat) (t : TF) (b : SF) : SF := whileD t b n

/-- a def: its names, its body -/
def fin : Out → R En
  | .nx _ => .ok (.fz .non)
  | .rt w => .ok w
  | .exc x => .exc x
  | _ => .stuck
def den (n : Nat) (b : SF) : Den := fun as => fin (b (as.map some ++ List.replicate (n - as.length) none))

/-! ### reading a meaning -/
theorem seq_nx {a b : SF} {ρ ρ' : Rho} (h : a ρ = .nx ρ') : sSeq a b ρ = b ρ' := by unfold sSeq; rw [h]
theorem seq_rt {a b : SF} {ρ : Rho} {w : En} (h : a ρ = .rt w) : sSeq a b ρ = .rt w := by unfold sSeq; rw [h]
theorem if_t {t : TF} {a b : SF} {ρ : Rho} (h : t ρ = .ok true) : sIf t a b ρ = a ρ := by unfold sIf; rw [h]; rfl
theorem if_f {t : TF} {a b : SF} {ρ : Rho} (h : t ρ = .ok false) : sIf t a b ρ = b ρ := by unfold sIf; rw [h]; rfl
theorem ret_fz {e : EF} {ρ : Rho} {d : D} (h : e ρ = .ok (.fz d)) : sRet e ρ = .rt (.fz d) := by unfold sRet; rw [h]; rfl
theorem ret_ow {e : EF} {ρ : Rho} {d : D} (h : e ρ = .ok (.ow d)) : sRet e ρ = .rt (.ow d) := by unfold sRet; rw [h]; rfl
theorem set_fz {i : Nat} {e : EF} {ρ : Rho} {d : D} (h : e ρ = .ok (.fz d)) : sSet i e ρ = .nx (ρ.set i (some (.fz d))) := by unfold sSet; rw [h]; rfl
theorem set_ow {i : Nat} {e : EF} {ρ : Rho} {d : D} (h : e ρ = .ok (.ow d)) : sSet i e ρ = .nx (ρ.set i (some (.ow d))) := by unfold sSet; rw [h]; rfl
def isT : R En → Bool
  | .ok (.fz (.bl b)) => b
  | _ => false
theorem isT_ok {r : R En} (h : isT r = true) : r = .ok (.fz (.bl true)) := by
  unfold isT at h
  split at h
  · subst h; rfl
  · cases h
theorem all_below {f : Nat → Bool} {n : Nat} (h : (List.range n).all f = true) {k : Nat} (hk : k < n) : f k = true := List.all_eq_true.mp h k (List.mem_range.mpr hk)
end L3

set_option Elab.async false
set_option linter.all false
set_option maxRecDepth 100000
set_option maxHeartbeats 4000000
/-! THE VALUE LAYER, part 2: how data lies in the abstract heap; the judgements; the rules -/
namespace L3
open PySem PySem.Spec PyProof.Rows L2

abbrev St := L2.St
/-- the program, the world, the module's written part -/
structure Kx where
  P : Program
  w : World
  K : PySem.W.Frag
abbrev kx (X : Cx) : Kx := ⟨X.prog, X.w, X.K⟩

/-- a dict that is read: tracked, or the module's -/
def SqK (κ : Kx) (F : Hp) (a : Addr) (kvs : List (Key × V)) : Prop :=
  Rd F a (.dK kvs) ∨ (a == sysModules) = false ∧ ∃ (o : Obj) (es : Array DictEntry) (ep : Nat) (vs : List (Key × Value)), κ.K.lookup a = some o ∧ o.ExactDict ∧ o.data = .dict es ep ∧
    PySem.KeysOf (mixKind κ.P κ.w) es ∧ PySem.Pairs (mixKind κ.P κ.w) es.toList vs ∧ (vs.map (·.1)).Nodup ∧ KV kvs vs

mutual
def Rep (κ : Kx) (F : Hp) : V → D → Prop
  | v, .non => v = .non
  | v, .bl b => v = .bl b
  | v, .int i => v = .int i
  | v, .str x => v = .str x
  | v, .tup ds => ∃ a vs, v = .ref a ∧ SqT κ.K F a vs ∧ Reps κ F vs ds
  | v, .lst ds => ∃ a vs, v = .ref a ∧ SqL κ.K F a vs ∧ Reps κ F vs ds
  | v, .dK kds => ∃ a kvs, v = .ref a ∧ SqK κ F a kvs ∧ RepK κ F kvs kds
  | v, .dT kds => ∃ a kvs, v = .ref a ∧ Rd F a (.dT kvs) ∧ RepT κ F kvs kds
  | _, .xc _ _ => False
def Reps (κ : Kx) (F : Hp) : List V → List D → Prop
  | vs, [] => vs = []
  | vs, d :: ds => ∃ v r, vs = v :: r ∧ Rep κ F v d ∧ Reps κ F r ds
def RepK (κ : Kx) (F : Hp) : List (Key × V) → List (Sum Int Str × D) → Prop
  | kvs, [] => kvs = []
  | kvs, (k, d) :: r => ∃ v kr, kvs = (k, v) :: kr ∧ Rep κ F v d ∧ RepK κ F kr r
def RepT (κ : Kx) (F : Hp) : List (List Key × V) → List (List (Sum Int Str) × D) → Prop
  | kvs, [] => kvs = []
  | kvs, (k, d) :: r => ∃ v kr, kvs = (k, v) :: kr ∧ Rep κ F v d ∧ RepT κ F kr r
end

abbrev Le (F H : Hp) : Prop := ∀ a o, F a = some o → H a = some o
theorem Rd.le {F F' : Hp} (l : Le F F') {a : Addr} {u : HO} (h : Rd F a u) : Rd F' a u := by
  rcases h with h | ⟨o, h⟩
  · exact .inl (l _ _ h)
  · exact .inr ⟨o, l _ _ h⟩
theorem SqL.le {K : PySem.W.Frag} {F F' : Hp} (l : Le F F') {a : Addr} {vs : List V} (h : SqL K F a vs) : SqL K F' a vs := by
  rcases h with h | h
  · exact .inl (Rd.le l h)
  · exact .inr h
theorem SqT.le {K : PySem.W.Frag} {F F' : Hp} (l : Le F F') {a : Addr} {vs : List V} (h : SqT K F a vs) : SqT K F' a vs := by
  rcases h with h | h
  · exact .inl (Rd.le l h)
  · exact .inr h
theorem SqK.le {κ : Kx} {F F' : Hp} (l : Le F F') {a : Addr} {vs : List (Key × V)} (h : SqK κ F a vs) : SqK κ F' a vs := by
  rcases h with h | h
  · exact .inl (Rd.le l h)
  · exact .inr h
mutual
theorem Rep.le {κ : Kx} {F F' : Hp} (l : Le F F') : ∀ (d : D) {v : V}, Rep κ F v d → Rep κ F' v d
  | .non, _, h => h
  | .bl _, _, h => h
  | .int _, _, h => h
  | .str _, _, h => h
  | .tup ds, _, h => by
    obtain ⟨a, vs, e, q, r⟩ := h
    exact ⟨a, vs, e, SqT.le l q, Reps.le l ds r⟩
  | .lst ds, _, h => by
    obtain ⟨a, vs, e, q, r⟩ := h
    exact ⟨a, vs, e, SqL.le l q, Reps.le l ds r⟩
  | .dK ds, _, h => by
    obtain ⟨a, vs, e, q, r⟩ := h
    exact ⟨a, vs, e, SqK.le l q, RepK.le l ds r⟩
  | .dT ds, _, h => by
    obtain ⟨a, vs, e, q, r⟩ := h
    exact ⟨a, vs, e, Rd.le l q, RepT.le l ds r⟩
  | .xc _ _, _, h => h
theorem Reps.le {κ : Kx} {F F' : Hp} (l : Le F F') : ∀ (ds : List D) {vs : List V}, Reps κ F vs ds → Reps κ F' vs ds
  | [], _, h => h
  | d :: ds, _, h => by
    obtain ⟨v, r, e, h1, h2⟩ := h
    exact ⟨v, r, e, Rep.le l d h1, Reps.le l ds h2⟩
theorem RepK.le {κ : Kx} {F F' : Hp} (l : Le F F') : ∀ (ds : List (Sum Int Str × D)) {vs : List (Key × V)}, RepK κ F vs ds → RepK κ F' vs ds
  | [], _, h => h
  | (k, d) :: ds, _, h => by
    obtain ⟨v, r, e, h1, h2⟩ := h
    exact ⟨v, r, e, Rep.le l d h1, RepK.le l ds h2⟩
theorem RepT.le {κ : Kx} {F F' : Hp} (l : Le F F') : ∀ (ds : List (List (Sum Int Str) × D)) {vs : List (List Key × V)}, RepT κ F vs ds → RepT κ F' vs ds
  | [], _, h => h
  | (k, d) :: ds, _, h => by
    obtain ⟨v, r, e, h1, h2⟩ := h
    exact ⟨v, r, e, Rep.le l d h1, RepT.le l ds h2⟩
end
section
variable {κ : Kx} {F : Hp}
theorem Reps.length : ∀ {ds : List D} {vs : List V}, Reps κ F vs ds → vs.length = ds.length
  | [], _, h => by cases (show _ = _ from h); rfl
  | d :: ds, _, h => by
    obtain ⟨v, r, rfl, h1, h2⟩ := h
    simp [Reps.length h2]
theorem Reps.get : ∀ {ds : List D} {vs : List V} {i : Nat} {d : D}, Reps κ F vs ds → ds[i]? = some d → ∃ v, vs[i]? = some v ∧ Rep κ F v d
  | [], _, _, _, _, e => by simp at e
  | d :: ds, _, 0, _, h, e => by
    obtain ⟨v, r, rfl, h1, h2⟩ := h
    simp at e
    subst e
    exact ⟨v, rfl, h1⟩
  | d :: ds, _, i + 1, d', h, e => by
    obtain ⟨v, r, rfl, h1, h2⟩ := h
    obtain ⟨u, e1, e2⟩ := Reps.get (i := i) (d := d') h2 (by simpa using e)
    exact ⟨u, by simpa using e1, e2⟩
theorem Reps.append : ∀ {ds es : List D} {vs us : List V}, Reps κ F vs ds → Reps κ F us es → Reps κ F (vs ++ us) (ds ++ es)
  | [], _, _, _, h, k => by cases (show _ = _ from h); exact k
  | d :: ds, _, _, _, h, k => by
    obtain ⟨v, r, rfl, h1, h2⟩ := h
    exact ⟨v, r ++ _, rfl, h1, Reps.append h2 k⟩
theorem Reps.one {v : V} {d : D} (h : Rep κ F v d) : Reps κ F [v] [d] := ⟨v, [], rfl, h, rfl⟩
end

/-! ### growth -/
structure Gr (F H F' H' : Hp) : Prop where
  f : Le F F'
  h : Le H H'
  s : Le F' H'
  n : ∀ a, F' a ≠ none → F a ≠ none ∨ H a = none
theorem Le.refl {F : Hp} : Le F F := fun _ _ h => h
theorem Le.trans {F G H : Hp} (a : Le F G) (b : Le G H) : Le F H := fun x o h => b x o (a x o h)
theorem Gr.refl {F H : Hp} (s : Le F H) : Gr F H F H := ⟨Le.refl, Le.refl, s, fun _ h => .inl h⟩
theorem Le.none {F H : Hp} (l : Le F H) {a : Addr} (h : H a = none) : F a = none := by
  cases e : F a with
  | none => rfl
  | some o => rw [l a o e] at h; cases h
theorem Gr.trans {F H F1 H1 F2 H2 : Hp} (a : Gr F H F1 H1) (b : Gr F1 H1 F2 H2) : Gr F H F2 H2 :=
  ⟨Le.trans a.f b.f, Le.trans a.h b.h, b.s, fun x h => by
    rcases b.n x h with q | q
    · exact a.n x q
    · exact .inr (Le.none a.h q)⟩
/-- a new object, not frozen -/
theorem Gr.new {F H : Hp} (s : Le F H) {p : Addr} {o : HO} (hp : H p = none) : Gr F H F (upd H p o) :=
  ⟨Le.refl, fun a u h => by rw [upd_ne (ne_of_none h hp)]; exact h, fun a u h => by rw [upd_ne (ne_of_none (s a u h) hp)]; exact s a u h, fun _ h => .inl h⟩
/-- a new object, frozen -/
theorem Gr.newF {F H : Hp} (s : Le F H) {p : Addr} {o : HO} (hp : H p = none) : Gr F H (upd F p o) (upd H p o) := by
  have hf : F p = none := Le.none s hp
  refine ⟨fun a u h => by rw [upd_ne (ne_of_none h hf)]; exact h, fun a u h => by rw [upd_ne (ne_of_none h hp)]; exact h, fun a u h => ?_, fun a h => ?_⟩
  · by_cases e : a = p
    · subst e; rw [upd_same] at h ⊢; exact h
    · rw [upd_ne e] at h ⊢; exact s a u h
  · by_cases e : a = p
    · subst e; exact .inr hp
    · rw [upd_ne e] at h; exact .inl h
/-- all that is new is frozen -/
def fzAll (H F' H' : Hp) : Hp := fun b => match H b with
  | none => H' b
  | some _ => F' b
theorem fzAll_gr {F H F' H' : Hp} (s : Le F H) (g : Gr F H F' H') : Gr F H (fzAll H F' H') H' ∧ Le F' (fzAll H F' H') := by
  refine ⟨⟨fun a u h => ?_, g.h, fun a u h => ?_, fun a h => ?_⟩, fun a u h => ?_⟩
  · unfold fzAll; rw [s a u h]; exact g.f a u h
  · unfold fzAll at h
    cases e : H a with
    | none => rw [e] at h; exact h
    | some o => rw [e] at h; exact g.s a u h
  · cases e : H a with
    | none => exact .inr rfl
    | some o =>
      unfold fzAll at h; rw [e] at h
      rcases g.n a h with q | q
      · exact .inl q
      · rw [e] at q; cases q
  · unfold fzAll
    cases e : H a with
    | none => exact g.s a u h
    | some o => exact h

/-! ### what is somebody's own -/
def OwnO (κ : Kx) (F : Hp) : HO → D → Prop
  | .lst vs, .lst ds => Reps κ F vs ds
  | .dK kvs, .dK kds => RepK κ F kvs kds
  | .dT kvs, .dT kds => RepT κ F kvs kds
  | _, _ => False
theorem OwnO.le {κ : Kx} {F F' : Hp} (l : Le F F') {o : HO} {d : D} (h : OwnO κ F o d) : OwnO κ F' o d := by
  cases o <;> cases d <;> first
    | exact h
    | exact Reps.le l _ h
    | exact RepK.le l _ h
    | exact RepT.le l _ h
/-- read: frozen, or somebody's own -/
def RdV (κ : Kx) (F H : Hp) (v : V) (d : D) : Prop := Rep κ F v d ∨ ∃ a o, v = .ref a ∧ H a = some o ∧ OwnO κ F o d
/-- a value that an expression gave; H: the heap ahead of it -/
def Vok (κ : Kx) (H F' H' : Hp) (v : V) : En → Prop
  | .fz d => Rep κ F' v d
  | .ow d => ∃ a o, v = .ref a ∧ H a = none ∧ F' a = none ∧ H' a = some o ∧ OwnO κ F' o d
  | .br d => ∃ a o, v = .ref a ∧ H' a = some o ∧ OwnO κ F' o d
  | .lk _ => False
section
variable {κ : Kx} {H F F' H' F1 H1 F2 H2 : Hp} {v : V} {w : En} {d : D}
theorem Vok.rd (h : Vok κ H F' H' v w) : RdV κ F' H' v w.d := by
  cases w with
  | fz d => exact .inl h
  | ow d => obtain ⟨a, o, e, _, _, e2, r⟩ := h; exact .inr ⟨a, o, e, e2, r⟩
  | br d => obtain ⟨a, o, e, e2, r⟩ := h; exact .inr ⟨a, o, e, e2, r⟩
  | lk d => exact h.elim
theorem Vok.gr (g : Gr F1 H1 F2 H2) (h : Vok κ H F1 H1 v w) : Vok κ H F2 H2 v w := by
  cases w with
  | fz d => exact Rep.le g.f d h
  | ow d =>
    obtain ⟨a, o, e, e1, e3, e2, r⟩ := h
    refine ⟨a, o, e, e1, ?_, g.h _ _ e2, OwnO.le g.f r⟩
    cases q : F2 a with
    | none => rfl
    | some u =>
      rcases g.n a (by rw [q]; exact Option.some_ne_none _) with z | z
      · exact absurd e3 z
      · rw [e2] at z; cases z
  | br d => obtain ⟨a, o, e, e2, r⟩ := h; exact ⟨a, o, e, g.h _ _ e2, OwnO.le g.f r⟩
  | lk d => exact h
theorem RdV.gr (g : Gr F1 H1 F2 H2) (h : RdV κ F1 H1 v d) : RdV κ F2 H2 v d := by
  rcases h with h | ⟨a, o, e, e2, r⟩
  · exact .inl (Rep.le g.f d h)
  · exact .inr ⟨a, o, e, g.h _ _ e2, OwnO.le g.f r⟩
theorem own_none {o : HO} (h : OwnO κ F o d) : (∃ ds, d = .lst ds) ∨ (∃ ds, d = .dK ds) ∨ ∃ ds, d = .dT ds := by
  cases o <;> cases d <;> first
    | exact h.elim
    | exact .inl ⟨_, rfl⟩
    | exact .inr (.inl ⟨_, rfl⟩)
    | exact .inr (.inr ⟨_, rfl⟩)
theorem RdV.flat (h : RdV κ F H v d) (n1 : ∀ ds, d ≠ .lst ds) (n2 : ∀ ds, d ≠ .dK ds) (n3 : ∀ ds, d ≠ .dT ds) : Rep κ F v d := by
  rcases h with h | ⟨a, o, e, e2, r⟩
  · exact h
  · rcases own_none r with ⟨ds, z⟩ | ⟨ds, z⟩ | ⟨ds, z⟩
    · exact absurd z (n1 ds)
    · exact absurd z (n2 ds)
    · exact absurd z (n3 ds)
theorem RdV.int {i : Int} (h : RdV κ F H v (.int i)) : v = .int i := RdV.flat h (fun _ e => nomatch e) (fun _ e => nomatch e) fun _ e => nomatch e
theorem RdV.bl {b : Bool} (h : RdV κ F H v (.bl b)) : v = .bl b := RdV.flat h (fun _ e => nomatch e) (fun _ e => nomatch e) fun _ e => nomatch e
theorem RdV.str {x : Str} (h : RdV κ F H v (.str x)) : v = .str x := RdV.flat h (fun _ e => nomatch e) (fun _ e => nomatch e) fun _ e => nomatch e
theorem RdV.non (h : RdV κ F H v .non) : v = .non := RdV.flat h (fun _ e => nomatch e) (fun _ e => nomatch e) fun _ e => nomatch e
theorem RdV.tup {ds : List D} (s : Le F H) (h : RdV κ F H v (.tup ds)) : ∃ a vs, v = .ref a ∧ SqT κ.K H a vs ∧ SqT κ.K F a vs ∧ Reps κ F vs ds := by
  obtain ⟨a, vs, e, q, r⟩ := RdV.flat h (fun _ e => nomatch e) (fun _ e => nomatch e) fun _ e => nomatch e
  exact ⟨a, vs, e, SqT.le s q, q, r⟩
theorem RdV.lst {ds : List D} (s : Le F H) (h : RdV κ F H v (.lst ds)) : ∃ a vs, v = .ref a ∧ SqL κ.K H a vs ∧ Reps κ F vs ds := by
  rcases h with ⟨a, vs, e, q, r⟩ | ⟨a, o, e, e2, r⟩
  · exact ⟨a, vs, e, SqL.le s q, r⟩
  · cases o with
    | lst vs => exact ⟨a, vs, e, SqL.of e2, r⟩
    | _ => exact r.elim
theorem RdV.dK {ds : List (Sum Int Str × D)} (s : Le F H) (h : RdV κ F H v (.dK ds)) : ∃ a kvs, v = .ref a ∧ SqK κ H a kvs ∧ RepK κ F kvs ds := by
  rcases h with ⟨a, vs, e, q, r⟩ | ⟨a, o, e, e2, r⟩
  · exact ⟨a, vs, e, SqK.le s q, r⟩
  · cases o with
    | dK vs => exact ⟨a, vs, e, .inl (.inl e2), r⟩
    | _ => exact r.elim
theorem RdV.xc {c : Str} {fs : List (Str × D)} (h : RdV κ F H v (.xc c fs)) : False := RdV.flat h (fun _ e => nomatch e) (fun _ e => nomatch e) fun _ e => nomatch e
/-- what may be stored: all that is new is frozen -/
theorem Vok.st (s : Le F H) (g : Gr F H F' H') (h : Vok κ H F' H' v w) (e : w.st = .ok d) : Rep κ (fzAll H F' H') v d := by
  obtain ⟨_, l⟩ := fzAll_gr s g
  cases w with
  | fz d' => cases e; exact Rep.le l d h
  | ow d' =>
    cases e
    obtain ⟨a, o, ea, e1, e3, e2, r⟩ := h
    have q : fzAll H F' H' a = some o := by unfold fzAll; rw [e1]; exact e2
    have r := OwnO.le l r
    cases o <;> cases d <;> first
      | exact r.elim
      | exact ⟨a, _, ea, .inl (.inl q), r⟩
      | exact ⟨a, _, ea, .inl q, r⟩
  | br d' => cases e
  | lk d' => cases e
end
def Voks (κ : Kx) (H F' H' : Hp) : List V → List En → Prop
  | vs, [] => vs = []
  | vs, w :: ws => ∃ v r, vs = v :: r ∧ Vok κ H F' H' v w ∧ Voks κ H F' H' r ws
section
variable {κ : Kx} {H F F' H' F1 H1 F2 H2 : Hp}
theorem Vok.older {G : Hp} (l : ∀ a, H a = none → G a = none) {v : V} {w : En} (h : Vok κ H F' H' v w) : Vok κ G F' H' v w := by
  cases w with
  | fz d => exact h
  | ow d => obtain ⟨a, o, e, e1, r⟩ := h; exact ⟨a, o, e, l a e1, r⟩
  | br d => exact h
  | lk d => exact h
theorem Voks.older {G : Hp} (l : ∀ a, H a = none → G a = none) : ∀ {ws : List En} {vs : List V}, Voks κ H F' H' vs ws → Voks κ G F' H' vs ws
  | [], _, h => h
  | w :: ws, _, h => by
    obtain ⟨v, r, e, h1, h2⟩ := h
    exact ⟨v, r, e, Vok.older l h1, Voks.older l h2⟩
theorem Voks.stAll (s : Le F H) (g : Gr F H F' H') : ∀ {ws : List En} {vs : List V} {ds : List D}, Voks κ H F' H' vs ws → stAll ws = .ok ds → Reps κ (fzAll H F' H') vs ds
  | [], _, _, h, e => by cases e; exact h
  | w :: ws, _, ds, h, e => by
    obtain ⟨v, r, rfl, h1, h2⟩ := h
    unfold L3.stAll at e
    cases e1 : w.st with
    | ok d =>
      cases e2 : L3.stAll ws with
      | ok ds' =>
        rw [e1, e2] at e
        cases e
        exact ⟨v, r, rfl, Vok.st s g h1 e1, Voks.stAll s g h2 e2⟩
      | exc x => rw [e1, e2] at e; cases e
      | stuck => rw [e1, e2] at e; cases e
    | exc x => rw [e1] at e; cases e
    | stuck => rw [e1] at e; cases e
theorem Voks.rd : ∀ {ws : List En} {vs : List V}, Voks κ H F' H' vs ws → Paired (RdV κ F' H') vs (ws.map En.d)
  | [], _, h => by cases (show _ = _ from h); exact .nil
  | w :: ws, _, h => by
    obtain ⟨v, r, rfl, h1, h2⟩ := h
    exact .cons (Vok.rd h1) (Voks.rd h2)
end

/-! ### the state of a body: F0, H0 the entry's -/
def Eok (κ : Kx) (H0 F H : Hp) (v : V) : En → Prop
  | .fz d => Rep κ F v d
  | .ow d => ∃ a o, v = .ref a ∧ H0 a = none ∧ F a = none ∧ H a = some o ∧ OwnO κ F o d
  | .lk d => ∃ a o, v = .ref a ∧ H0 a = none ∧ F a = none ∧ H a = some o ∧ OwnO κ F o d
  | .br d => ∃ a o, v = .ref a ∧ H0 a = some o ∧ OwnO κ F o d
def En.own : En → Bool
  | .ow _ => true | .lk _ => true | _ => false
structure StOk (κ : Kx) (F0 H0 F H : Hp) (ρ : Rho) (σ : St) : Prop where
  gr : Gr F0 H0 F H
  len : ρ.length = σ.length
  val : ∀ (i : Nat) (w : En), ρ[i]? = some (some w) → ∃ v, σ[i]? = some (some v) ∧ Eok κ H0 F H v w
  sep : ∀ (i j : Nat) (w w' : En) (a : Addr), i ≠ j → ρ[i]? = some (some w) → ρ[j]? = some (some w') → w.own = true → w'.own = true → σ[i]? = some (some (.ref a)) → σ[j]? = some (some (.ref a)) → False
section
variable {κ : Kx} {F0 H0 F H F' H' : Hp} {ρ : Rho} {σ : St}
theorem Eok.gr (g : Gr F H F' H') {v : V} {w : En} (h : Eok κ H0 F H v w) : Eok κ H0 F' H' v w := by
  have no : ∀ {a o}, F a = none → H a = some o → F' a = none := fun {a o} e3 e2 => by
    cases q : F' a with
    | none => rfl
    | some u =>
      rcases g.n a (by rw [q]; exact Option.some_ne_none _) with z | z
      · exact absurd e3 z
      · rw [e2] at z; cases z
  cases w with
  | fz d => exact Rep.le g.f d h
  | ow d => obtain ⟨a, o, e, e1, e3, e2, r⟩ := h; exact ⟨a, o, e, e1, no e3 e2, g.h _ _ e2, OwnO.le g.f r⟩
  | lk d => obtain ⟨a, o, e, e1, e3, e2, r⟩ := h; exact ⟨a, o, e, e1, no e3 e2, g.h _ _ e2, OwnO.le g.f r⟩
  | br d => obtain ⟨a, o, e, e2, r⟩ := h; exact ⟨a, o, e, e2, OwnO.le g.f r⟩
theorem StOk.grow (S : StOk κ F0 H0 F H ρ σ) (g : Gr F H F' H') : StOk κ F0 H0 F' H' ρ σ :=
  ⟨S.gr.trans g, S.len, fun i w e => let ⟨v, e1, q⟩ := S.val i w e; ⟨v, e1, Eok.gr g q⟩, S.sep⟩
theorem StOk.s (S : StOk κ F0 H0 F H ρ σ) : Le F H := S.gr.s
theorem set_get {α : Type} {l : List α} {i j : Nat} {x y : α} (h : (l.set i x)[j]? = some y) : (j = i ∧ y = x) ∨ (j ≠ i ∧ l[j]? = some y) := by
  by_cases e : j = i
  · subst e
    by_cases hl : j < l.length
    · rw [List.getElem?_set_self hl] at h; cases h; exact .inl ⟨rfl, rfl⟩
    · rw [List.getElem?_eq_none (by rw [List.length_set]; omega)] at h; cases h
  · rw [List.getElem?_set_ne (Ne.symm e)] at h; exact .inr ⟨e, h⟩
/-- a name gets a frozen value -/
theorem StOk.setF (S : StOk κ F0 H0 F H ρ σ) {i : Nat} {v : V} {d : D} (r : Rep κ F v d) : StOk κ F0 H0 F H (ρ.set i (some (.fz d))) (σ.set i (some v)) := by
  refine ⟨S.gr, by simp [S.len], fun j w e => ?_, fun j k w w' a hjk ej ek oj ok sj sk => ?_⟩
  · rcases set_get e with ⟨rfl, z⟩ | ⟨ne, z⟩
    · cases z
      have hl : j < σ.length := by
        rw [← S.len]
        have := (List.getElem?_eq_some_iff.mp e).1
        simpa using this
      exact ⟨v, List.getElem?_set_self hl, r⟩
    · obtain ⟨u, e1, q⟩ := S.val j w z
      exact ⟨u, by rw [List.getElem?_set_ne (Ne.symm ne)]; exact e1, q⟩
  · rcases set_get ej with ⟨_, z⟩ | ⟨nj, ej⟩
    · cases z; cases oj
    rcases set_get ek with ⟨_, z⟩ | ⟨nk, ek⟩
    · cases z; cases ok
    rw [List.getElem?_set_ne (Ne.symm nj)] at sj
    rw [List.getElem?_set_ne (Ne.symm nk)] at sk
    exact S.sep j k w w' a hjk ej ek oj ok sj sk
/-- a name gets an own thing that no other name has -/
theorem StOk.setO (S : StOk κ F0 H0 F H ρ σ) {i : Nat} {a : Addr} {o : HO} {d : D} (h0 : H0 a = none) (hf : F a = none) (ha : H a = some o) (r : OwnO κ F o d)
    (nw : ∀ (j : Nat) (w : En), j ≠ i → ρ[j]? = some (some w) → w.own = true → σ[j]? ≠ some (some (.ref a))) : StOk κ F0 H0 F H (ρ.set i (some (.ow d))) (σ.set i (some (.ref a))) := by
  refine ⟨S.gr, by simp [S.len], fun j w e => ?_, fun j k w w' b hjk ej ek oj ok sj sk => ?_⟩
  · rcases set_get e with ⟨rfl, z⟩ | ⟨ne, z⟩
    · cases z
      have hl : j < σ.length := by
        rw [← S.len]
        have := (List.getElem?_eq_some_iff.mp e).1
        simpa using this
      exact ⟨.ref a, List.getElem?_set_self hl, a, o, rfl, h0, hf, ha, r⟩
    · obtain ⟨u, e1, q⟩ := S.val j w z
      exact ⟨u, by rw [List.getElem?_set_ne (Ne.symm ne)]; exact e1, q⟩
  · have at_ : ∀ {m : Nat}, m ≠ i → (σ.set i (some (.ref a)))[m]? = some (some (.ref b)) → σ[m]? = some (some (.ref b)) := fun {m} hm h => by
      rw [List.getElem?_set_ne (Ne.symm hm)] at h; exact h
    rcases set_get ej with ⟨e1, z⟩ | ⟨nj, ej'⟩
    · rcases set_get ek with ⟨e2, _⟩ | ⟨nk, ek'⟩
      · exact hjk (e1.trans e2.symm)
      · subst e1
        have hl : j < σ.length := by have := (List.getElem?_eq_some_iff.mp sj).1; simpa using this
        rw [List.getElem?_set_self hl] at sj
        cases sj
        exact nw k w' nk ek' ok (at_ nk sk)
    · rcases set_get ek with ⟨e2, z⟩ | ⟨nk, ek'⟩
      · subst e2
        have hl : k < σ.length := by have := (List.getElem?_eq_some_iff.mp sk).1; simpa using this
        rw [List.getElem?_set_self hl] at sk
        cases sk
        exact nw j w nj ej' oj (at_ nj sj)
      · exact S.sep j k w w' b hjk ej' ek' oj ok (at_ nj sj) (at_ nk sk)
/-- the address of another's own thing is known to the heap -/
theorem StOk.ownAt (S : StOk κ F0 H0 F H ρ σ) {j : Nat} {w : En} {a : Addr} (e : ρ[j]? = some (some w)) (o : w.own = true) (s : σ[j]? = some (some (.ref a))) : ∃ u, H a = some u := by
  obtain ⟨v, e1, q⟩ := S.val j w e
  rw [s] at e1
  cases e1
  cases w with
  | ow d => obtain ⟨b, u, eb, _, _, e2, _⟩ := q; cases eb; exact ⟨u, e2⟩
  | lk d => obtain ⟨b, u, eb, _, _, e2, _⟩ := q; cases eb; exact ⟨u, e2⟩
  | fz d => cases o
  | br d => cases o
/-- a name gets what an expression gave; H ahead of it -/
theorem StOk.setW (S : StOk κ F0 H0 F H ρ σ) (g : Gr F H F' H') {i : Nat} {v : V} {w w' : En} (q : Vok κ H F' H' v w) (e : w.nm = .ok w') : StOk κ F0 H0 F' H' (ρ.set i (some w')) (σ.set i (some v)) := by
  have S' := S.grow g
  cases w with
  | fz d => cases e; exact S'.setF q
  | ow d =>
    cases e
    obtain ⟨a, o, rfl, e1, e3, e2, r⟩ := q
    refine S'.setO (Le.none S.gr.h e1) e3 e2 r fun j w hj ej oj sj => ?_
    obtain ⟨u, z⟩ := S.ownAt ej oj sj
    rw [e1] at z; cases z
  | br d => cases e
  | lk d => cases e
end


/-! ### the judgements -/
def KE {α : Type} (x : Xc → Prop) (r : R α) (k : α → Prop) : Prop := match r with
  | .ok a => k a
  | .exc e => x e
  | .stuck => False
theorem KE.bind {α β : Type} {x : Xc → Prop} {r : R α} {f : α → R β} {k : β → Prop} (h : KE x (r.bind f) k) : KE x r fun a => KE x (f a) k := by
  cases r <;> exact h
theorem KE.imp {α : Type} {x : Xc → Prop} {r : R α} {k k' : α → Prop} (h : KE x r k) (i : ∀ a, k a → k' a) : KE x r k' := by
  cases r with
  | ok a => exact i a h
  | exc e => exact h
  | stuck => exact h
theorem KE.impX {α : Type} {x x' : Xc → Prop} {r : R α} {k k' : α → Prop} (h : KE x r k) (i : ∀ a, k a → k' a) (j : ∀ e, x e → x' e) : KE x' r k' := by
  cases r with
  | ok a => exact i a h
  | exc e => exact j e h
  | stuck => exact h
theorem KE_ok {α : Type} {x : Xc → Prop} {a : α} {k : α → Prop} : KE x (R.ok a) k = k a := rfl
/-- what is wanted of an exception (none is served yet) -/
def XP (X : Cx) (F0 H0 : Hp) (x : Xc) : Prop := False

def SE (X : Cx) (F0 H0 : Hp) (e : Expr) (f : EF) : Prop :=
  ∀ (pins : List (Addr × Obj)) (s : Shared) (σ : St) (F H : Hp) (ρ : Rho) (Q : Value → Shared → Prop), StOk (kx X) F0 H0 F H ρ σ → Inv X pins σ H s →
    KE (XP X F0 H0) (f ρ) (fun w => ∀ v u F' H' s', Gr F H F' H' → Vok (kx X) H F' H' v w → RelV v u → Inv X pins σ H' s' → Q u s') →
    wpAny (model X.prog X.w) X.A (eval e X.env) Q X.xe s
def ST (X : Cx) (F0 H0 : Hp) (e : Expr) (f : TF) : Prop :=
  ∀ (pins : List (Addr × Obj)) (s : Shared) (σ : St) (F H : Hp) (ρ : Rho) (Q : Bool → Shared → Prop), StOk (kx X) F0 H0 F H ρ σ → Inv X pins σ H s →
    KE (XP X F0 H0) (f ρ) (fun b => ∀ F' H' s', Gr F H F' H' → Inv X pins σ H' s' → Q b s') →
    wpAny (model X.prog X.w) X.A (isTrue e X.env (eval e X.env)) Q X.xe s
def SW (X : Cx) (F0 H0 : Hp) (e : Expr) (f : TF) : Prop :=
  ∀ (whole : Sem Value) (pins : List (Addr × Obj)) (s : Shared) (σ : St) (F H : Hp) (ρ : Rho) (Q : Bool → Shared → Prop), StOk (kx X) F0 H0 F H ρ σ → Inv X pins σ H s →
    KE (XP X F0 H0) (f ρ) (fun b => ∀ F' H' s', Gr F H F' H' → Inv X pins σ H' s' → Q b s') →
    wpAny (model X.prog X.w) X.A (isTrue e X.env whole) Q X.xe s
def SA (X : Cx) (F0 H0 : Hp) (es : List Expr) (f : List EF) : Prop :=
  ∀ (pos : Pos) (pins : List (Addr × Obj)) (s : Shared) (σ : St) (F H : Hp) (ρ : Rho) (Q : List Value → Shared → Prop), StOk (kx X) F0 H0 F H ρ σ → Inv X pins σ H s →
    KE (XP X F0 H0) (evs f ρ) (fun ws => ∀ vs us F' H' s', Gr F H F' H' → Voks (kx X) H F' H' vs ws → Vals vs us → Inv X pins σ H' s' → Q us s') →
    wpAny (model X.prog X.w) X.A (spliced (backTo pos (starEach es X.env))) Q X.xe s
/-- what is wanted behind a statement -/
def PostS (X : Cx) (F0 H0 F : Hp) (D : Ends) : Out → Prop
  | .nx ρ' => ∀ σ' F' H', Le F F' → StOk (kx X) F0 H0 F' H' ρ' σ' → D.nx σ' H'
  | .bk ρ' => ∀ σ' F' H', Le F F' → StOk (kx X) F0 H0 F' H' ρ' σ' → D.bk σ' H'
  | .ct ρ' => ∀ σ' F' H', Le F F' → StOk (kx X) F0 H0 F' H' ρ' σ' → D.ct σ' H'
  | .rt w => ∀ v F' H', Gr F0 H0 F' H' → Vok (kx X) H0 F' H' v w → D.rt v H'
  | .exc x => XP X F0 H0 x
  | .stuck => False
def SS (X : Cx) (F0 H0 : Hp) (st : Stmt) (f : SF) : Prop :=
  ∀ (pins : List (Addr × Obj)) (s : Shared) (σ : St) (F H : Hp) (ρ : Rho) (D : Ends), StOk (kx X) F0 H0 F H ρ σ → Inv X pins σ H s → PostS X F0 H0 F D (f ρ) →
    wpAny (model X.prog X.w) X.A (exec st X.env) (SP X pins D) X.xe s
def SSs (X : Cx) (F0 H0 : Hp) (sts : List Stmt) (f : SF) : Prop :=
  ∀ (pins : List (Addr × Obj)) (s : Shared) (σ : St) (F H : Hp) (ρ : Rho) (D : Ends), StOk (kx X) F0 H0 F H ρ σ → Inv X pins σ H s → PostS X F0 H0 F D (f ρ) →
    wpAny (model X.prog X.w) X.A (execs sts X.env) (SP X pins D) X.xe s
theorem PostS.le {X : Cx} {F0 H0 F F' : Hp} {D : Ends} (l : Le F F') {o : Out} (h : PostS X F0 H0 F D o) : PostS X F0 H0 F' D o := by
  cases o with
  | nx ρ => exact fun σ' F2 H2 l2 S => h σ' F2 H2 (Le.trans l l2) S
  | bk ρ => exact fun σ' F2 H2 l2 S => h σ' F2 H2 (Le.trans l l2) S
  | ct ρ => exact fun σ' F2 H2 l2 S => h σ' F2 H2 (Le.trans l l2) S
  | rt w => exact h
  | exc x => exact h
  | stuck => exact h
theorem PostS.of {α : Type} {X : Cx} {F0 H0 F : Hp} {D : Ends} {r : R α} {k : α → Out} (h : PostS X F0 H0 F D (sOf r k)) : KE (XP X F0 H0) r fun a => PostS X F0 H0 F D (k a) := by
  cases r <;> exact h

/-- the meaning of an expression, as a reading of the hand layer -/
def tSem (X : Cx) (e : Expr) : TE := fun σ H Q => ∀ (pins : List (Addr × Obj)) (s : Shared), Inv X pins σ H s → wpAny (model X.prog X.w) X.A (eval e X.env) (EP X pins σ Q) X.xe s
theorem pe_sem {X : Cx} {e : Expr} : PE X e (tSem X e) := fun pins s σ H Q I h => h pins s I
theorem SE.sem {X : Cx} {F0 H0 : Hp} {e : Expr} {f : EF} (h : SE X F0 H0 e f) {σ : St} {F H : Hp} {ρ : Rho} {Q : VK} (S : StOk (kx X) F0 H0 F H ρ σ)
    (k : KE (XP X F0 H0) (f ρ) fun w => ∀ v F' H', Gr F H F' H' → Vok (kx X) H F' H' v w → Q v H') : tSem X e σ H Q :=
  fun pins s I => h pins s σ F H ρ _ S I (k.imp fun w q v u F' H' s' g vo r I' => ⟨v, H', I', r, q v F' H' g vo⟩)
def tSemT (X : Cx) (e : Expr) : TT := fun σ H Q => ∀ (pins : List (Addr × Obj)) (s : Shared), Inv X pins σ H s → wpAny (model X.prog X.w) X.A (isTrue e X.env (eval e X.env)) (TP X pins σ Q) X.xe s
theorem pt_sem {X : Cx} {e : Expr} : PT X e (tSemT X e) := fun pins s σ H Q I h => h pins s I
def tSemS (X : Cx) (st : List Stmt) : TS := fun D σ H => ∀ (pins : List (Addr × Obj)) (s : Shared), Inv X pins σ H s → wpAny (model X.prog X.w) X.A (execs st X.env) (SP X pins D) X.xe s
theorem pss_sem {X : Cx} {st : List Stmt} : PSs X st (tSemS X st) := fun pins s σ H D I h => h pins s I

section
variable {X : Cx} {F0 H0 : Hp}

/-! ### names, constants -/
theorem se_var (i : Nat) {x : Str} {pos : Pos} (hN : X.N[i]? = some x := by rfl) (hv : Vis X.env.scope x := by first | exact Or.inl rfl | exact Or.inr (Or.inl rfl) | exact Or.inr (Or.inr rfl)) (hd : (x == ("__debug__" : Str)) = false := by decide)
    (hcd : (x == ("__classdict__" : Str)) = false := by decide) : SE X F0 H0 (.Name x pos) (eVar i) := by
  intro pins s σ F H ρ Q S I h
  have go : ∀ w w' : En, ρ[i]? = some (some w) → (∀ v, Eok (kx X) H0 F H v w → Vok (kx X) H F H v w') →
      (∀ v u F' H' s', Gr F H F' H' → Vok (kx X) H F' H' v w' → RelV v u → Inv X pins σ H' s' → Q u s') → wpAny (model X.prog X.w) X.A (eval (.Name x pos) X.env) Q X.xe s := fun w w' e t k => by
    obtain ⟨v, e1, q⟩ := S.val i w e
    refine thn (pe_var hN hv hd hcd pins s σ H (fun v' H' => v' = v ∧ H' = H) I ⟨v, e1, rfl, rfl⟩) fun u s' ⟨v', H', I', r, ev, eh⟩ => ?_
    subst ev eh
    exact k v' u F H' s' (Gr.refl S.s) (t v' q) r I'
  cases e : ρ[i]? with
  | none => unfold eVar at h; rw [e] at h; exact h.elim
  | some w =>
    cases w with
    | none => unfold eVar at h; rw [e] at h; exact h.elim
    | some w =>
      unfold eVar at h
      rw [e] at h
      cases w with
      | fz d => exact go _ (.fz d) e (fun v q => q) h
      | ow d => exact go _ (.br d) e (fun v ⟨a, o, e1, _, _, e2, r⟩ => ⟨a, o, e1, e2, r⟩) h
      | lk d => exact go _ (.br d) e (fun v ⟨a, o, e1, _, _, e2, r⟩ => ⟨a, o, e1, e2, r⟩) h
      | br d => exact go _ (.br d) e (fun v ⟨a, o, e1, e2, r⟩ => ⟨a, o, e1, S.gr.h _ _ e2, r⟩) h
/-- an expression whose value is known -/
theorem se_of {e : Expr} {v : V} {d : D} (h : PE X e (tC v)) (r : ∀ F, Rep (kx X) F v d) : SE X F0 H0 e (eC d) := by
  intro pins s σ F H ρ Q S I k
  refine thn (h pins s σ H (fun v' H' => v' = v ∧ H' = H) I ⟨rfl, rfl⟩) fun u s' ⟨v', H', I', rv, ev, eh⟩ => ?_
  subst ev eh
  exact k v' u F H' s' (Gr.refl S.s) (r F) rv I'
theorem se_int {i : Int} {j pos} : SE X F0 H0 (.Constant (.int i) j pos) (eC (.int i)) := se_of pe_int fun _ => rfl
theorem se_bl {b : Bool} {j pos} : SE X F0 H0 (.Constant (.bool b) j pos) (eC (.bl b)) := se_of pe_bl fun _ => rfl
theorem se_non {j pos} : SE X F0 H0 (.Constant .none j pos) (eC .non) := se_of pe_non fun _ => rfl
theorem se_str {x : Str} {j pos} : SE X F0 H0 (.Constant (.str x) j pos) (eC (.str x)) := se_of pe_str fun _ => rfl
/-- a module's constant -/
theorem se_glob {x : Str} {v : V} {u : Value} {d : D} {pos : Pos} (hm : X.mg x = some u) (r : RelV v u) (q : ∀ F, Rep (kx X) F v d) (hg : Gl X x := by rfl) (hd : (x == ("__debug__" : Str)) = false := by decide) :
    SE X F0 H0 (.Name x pos) (eC d) := se_of (pe_glob hg hm r hd) q

/-! ### operations -/
/-- what a rule over data asks and gives -/
abbrev Wish (X : Cx) (F H : Hp) (r : R En) (Q : VK) : Prop := KE (fun _ => False) r fun w => ∀ v F' H', Gr F H F' H' → Vok (kx X) H F' H' v w → Q v H'
def OpD (X : Cx) (f : Value → Value → Sem Value) (g : D → D → R En) : Prop :=
  ∀ (pins : List (Addr × Obj)) (s : Shared) (σ : St) (F H : Hp) (x y : V) (v u : Value) (dx dy : D) (Q : VK), Inv X pins σ H s → Le F H → RelV x v → RelV y u → RdV (kx X) F H x dx → RdV (kx X) F H y dy → Wish X F H (g dx dy) Q →
    wpAny (model X.prog X.w) X.A (f v u) (EP X pins σ Q) X.xe s
def CallD (X : Cx) (f : Value) (g : List D → R En) : Prop :=
  ∀ (pins : List (Addr × Obj)) (s : Shared) (σ : St) (F H : Hp) (xs : List V) (us : List Value) (ds : List D) (Q : VK), Inv X pins σ H s → Le F H → Vals xs us → Paired (RdV (kx X) F H) xs ds → Wish X F H (g ds) Q →
    wpAny (model X.prog X.w) X.A (call f us) (EP X pins σ Q) X.xe s
variable {a b : Expr} {fa fb : EF} {pos : Pos} {g : D → D → R En}
/-- from a wish at the end to the wish of the whole -/
theorem wish_end {F H F2 H2 : Hp} {r : R En} {Q : Value → Shared → Prop} {pins : List (Addr × Obj)} {σ : St} (g2 : Gr F H F2 H2)
    (h : KE (XP X F0 H0) r fun w => ∀ v u F' H' s', Gr F H F' H' → Vok (kx X) H F' H' v w → RelV v u → Inv X pins σ H' s' → Q u s') :
    Wish X F2 H2 r fun v H' => ∀ u s', RelV v u → Inv X pins σ H' s' → Q u s' := by
  refine KE.impX h (fun w k v F' H' g' q u s' r I => ?_) fun _ z => z.elim
  exact k v u F' H' s' (g2.trans g') (Vok.older (fun a e => Le.none g2.h e) q) r I
theorem ep_end {Q : Value → Shared → Prop} {pins : List (Addr × Obj)} {σ : St} {t : Sem Value} {s : Shared}
    (h : wpAny (model X.prog X.w) X.A t (EP X pins σ fun v H' => ∀ u s', RelV v u → Inv X pins σ H' s' → Q u s') X.xe s) : wpAny (model X.prog X.w) X.A t Q X.xe s :=
  thn h fun u s' ⟨v, H', I', r, q⟩ => q u s' r I'
theorem two {f : Value → Value → Sem Value} (ha : SE X F0 H0 a fa) (hb : SE X F0 H0 b fb) {pins : List (Addr × Obj)} {s : Shared} {σ : St} {F H : Hp} {ρ : Rho} {Q : Value → Shared → Prop} (S : StOk (kx X) F0 H0 F H ρ σ) (I : Inv X pins σ H s)
    (h : KE (XP X F0 H0) (eOp g fa fb ρ) fun w => ∀ v u F' H' s', Gr F H F' H' → Vok (kx X) H F' H' v w → RelV v u → Inv X pins σ H' s' → Q u s')
    (ho : ∀ (s : Shared) (F H : Hp) (x y : V) (v u : Value) (dx dy : D) (Q : VK), Inv X pins σ H s → Le F H → RelV x v → RelV y u → RdV (kx X) F H x dx → RdV (kx X) F H y dy → Wish X F H (g dx dy) Q →
      wpAny (model X.prog X.w) X.A (f v u) (EP X pins σ Q) X.xe s) :
    wpAny (model X.prog X.w) X.A (eval a X.env) (fun v s₁ => wpAny (model X.prog X.w) X.A (eval b X.env) (fun u s₂ => wpAny (model X.prog X.w) X.A (f v u) Q X.xe s₂) X.xe s₁) X.xe s := by
  refine ha pins s σ F H ρ _ S I ((KE.bind h).imp fun wx h1 v u F1 H1 s1 g1 q1 r1 I1 => ?_)
  refine hb pins s1 σ F1 H1 ρ _ (S.grow g1) I1 ((KE.bind h1).imp fun wy h2 v2 u2 F2 H2 s2 g2 q2 r2 I2 => ?_)
  exact ep_end (ho s2 F2 H2 v v2 u u2 wx.d wy.d _ I2 g2.s r1 r2 (RdV.gr g2 (Vok.rd q1)) (Vok.rd q2) (wish_end (g1.trans g2) h2))
theorem se_op {op : Operator} (ho : OpD X (binaryOp op) g) (ha : SE X F0 H0 a fa) (hb : SE X F0 H0 b fb) : SE X F0 H0 (.BinOp a op b pos) (eOp g fa fb) :=
  fun pins s σ F H ρ Q S I h => wpAny_BinOp (two ha hb S I h fun s F H x y v u dx dy Q => ho pins s σ F H x y v u dx dy Q)
theorem se_cmp {op : CmpOp} (ho : OpD X (compareOp op) g) (ha : SE X F0 H0 a fa) (hb : SE X F0 H0 b fb) (hm : behindInMarks op b = false := by first | exact nobehind _ (by decide) (by decide) | rfl) :
    SE X F0 H0 (.Compare a [op] [b] pos) (eOp g fa fb) :=
  fun pins s σ F H ρ Q S I h => wpAny_Compare1 (two ha hb S I h fun s F H x y v u dx dy Q => ho pins s σ F H x y v u dx dy Q) hm

/-- the shape of a rule whose answer is an int or a bool -/
theorem wish_fz {F H : Hp} {v : V} {d : D} {Q : VK} (s : Le F H) (h : Wish X F H (.ok (.fz d)) Q) (r : Rep (kx X) F v d) : Q v H := h v F H (Gr.refl s) r
theorem opd_of {f : Value → Value → Sem Value} {r : R2} (ho : OpR X f r)
    (h : ∀ F H x y dx dy Q, Le F H → RdV (kx X) F H x dx → RdV (kx X) F H y dy → Wish X F H (g dx dy) Q → r x y H Q) : OpD X f g :=
  fun pins s σ F H x y v u dx dy Q I l rx ry qx qy w => ho pins s σ H x y v u Q I rx ry (h F H x y dx dy Q l qx qy w)
theorem od_sub : OpD X (binaryOp .Sub) dSub := opd_of op_sub fun F H x y dx dy Q l qx qy w => by
  cases dx <;> first | exact w.elim | skip
  cases dy <;> first | exact w.elim | skip
  exact ⟨_, _, RdV.int qx, RdV.int qy, wish_fz l (v := .int _) w rfl⟩
theorem od_mul : OpD X (binaryOp .Mult) dMul := opd_of op_mul fun F H x y dx dy Q l qx qy w => by
  cases dx <;> first | exact w.elim | skip
  cases dy <;> first | exact w.elim | skip
  rename_i i j
  unfold dMul at w
  dsimp only at w
  by_cases c : (fits b64 i || fits b64 j) = true
  · rw [if_pos c] at w
    have p64 : (2 : Int) ^ 64 = 18446744073709551616 := by simp
    have c : (-(2 ^ 64) < i ∧ i < 2 ^ 64) ∨ (-(2 ^ 64) < j ∧ j < 2 ^ 64) := by
      rw [Bool.or_eq_true, fits_iff, fits_iff, b64e] at c
      rw [p64]
      omega
    exact ⟨_, _, RdV.int qx, RdV.int qy, c, wish_fz l (v := .int _) w rfl⟩
  · rw [if_neg c] at w; exact w.elim
theorem od_mod : OpD X (binaryOp .Mod) dMod := opd_of op_mod fun F H x y dx dy Q l qx qy w => by
  cases dx <;> first | exact w.elim | skip
  cases dy <;> first | exact w.elim | skip
  rename_i i j
  unfold dMod at w
  dsimp only at w
  by_cases c : 0 < j
  · rw [if_pos c] at w
    exact ⟨_, _, RdV.int qx, RdV.int qy, c, wish_fz l (v := .int _) w rfl⟩
  · rw [if_neg c] at w; exact w.elim
theorem od_div : OpD X (binaryOp .FloorDiv) dDiv := opd_of op_fdiv fun F H x y dx dy Q l qx qy w => by
  cases dx <;> first | exact w.elim | skip
  cases dy <;> first | exact w.elim | skip
  rename_i i j
  unfold dDiv at w
  dsimp only at w
  by_cases c : 0 < j ∧ j < 1073741824
  · rw [if_pos c] at w
    exact ⟨_, _, RdV.int qx, RdV.int qy, c, wish_fz l (v := .int _) w rfl⟩
  · rw [if_neg c] at w; exact w.elim
theorem od_lt : OpD X (compareOp .Lt) dLt := opd_of op_lt fun F H x y dx dy Q l qx qy w => by
  cases dx <;> first | exact w.elim | skip
  cases dy <;> first | exact w.elim | skip
  exact ⟨_, _, RdV.int qx, RdV.int qy, wish_fz l (v := .bl _) w rfl⟩
theorem od_le : OpD X (compareOp .LtE) dLe := opd_of op_le fun F H x y dx dy Q l qx qy w => by
  cases dx <;> first | exact w.elim | skip
  cases dy <;> first | exact w.elim | skip
  exact ⟨_, _, RdV.int qx, RdV.int qy, wish_fz l (v := .bl _) w rfl⟩
theorem od_gt : OpD X (compareOp .Gt) dGt := opd_of op_gt fun F H x y dx dy Q l qx qy w => by
  cases dx <;> first | exact w.elim | skip
  cases dy <;> first | exact w.elim | skip
  exact ⟨_, _, RdV.int qx, RdV.int qy, wish_fz l (v := .bl _) w rfl⟩
theorem od_ge : OpD X (compareOp .GtE) dGe := opd_of op_ge fun F H x y dx dy Q l qx qy w => by
  cases dx <;> first | exact w.elim | skip
  cases dy <;> first | exact w.elim | skip
  exact ⟨_, _, RdV.int qx, RdV.int qy, wish_fz l (v := .bl _) w rfl⟩
/-- == of scalars -/
def dEqS : D → D → R En
  | .int i, .int j => okB (i == j)
  | .bl i, .bl j => okB (i == j)
  | .str i, .str j => okB (i == j)
  | .non, .non => okB true
  | .non, .int _ => okB false | .int _, .non => okB false | .non, .bl _ => okB false | .bl _, .non => okB false | .non, .str _ => okB false | .str _, .non => okB false
  | .int _, .str _ => okB false | .str _, .int _ => okB false | .bl _, .str _ => okB false | .str _, .bl _ => okB false
  | _, _ => .stuck
def dNeS (x y : D) : R En := rNot (dEqS x y)
end
end L3

namespace L3
open PySem PySem.Spec PyProof.Rows L2

/-! ### data as the library has it: ==, in -/
mutual
def toPy : D → PyData
  | .non => .none | .bl b => .bool b | .int i => .int i | .str x => .str x
  | .tup xs => .tuple (toPys xs) | .lst xs => .list (toPys xs)
  | _ => .none
def toPys : List D → List PyData
  | [] => []
  | x :: xs => toPy x :: toPys xs
end
mutual
theorem deq_py : ∀ (n m : Nat) (a b : D), eqokN n a = true → eqokN m b = true → PyData.eqv (toPy a) (toPy b) = deq a b
  | n, m, a, b, ha, hb => by
    cases a <;> cases b <;> first
      | rfl
      | (simp [eqokN] at ha; done)
      | (simp [eqokN] at hb; done)
      | skip
    · rename_i xs ys
      cases n with
      | zero => simp [eqokN] at ha
      | succ n =>
        cases m with
        | zero => simp [eqokN] at hb
        | succ m => exact deqs_py n m xs ys ha hb
    · rename_i xs ys
      cases n with
      | zero => simp [eqokN] at ha
      | succ n =>
        cases m with
        | zero => simp [eqokN] at hb
        | succ m => exact deqs_py n m xs ys ha hb
theorem deqs_py : ∀ (n m : Nat) (a b : List D), a.all (eqokN n) = true → b.all (eqokN m) = true → PyData.eqvAll (toPys a) (toPys b) = deqs a b
  | _, _, [], [], _, _ => rfl
  | _, _, [], _ :: _, _, _ => rfl
  | _, _, _ :: _, [], _, _ => rfl
  | n, m, x :: xs, y :: ys, ha, hb => by
    rw [List.all_cons, Bool.and_eq_true] at ha hb
    show (PyData.eqv (toPy x) (toPy y) && PyData.eqvAll (toPys xs) (toPys ys)) = (deq x y && deqs xs ys)
    rw [deq_py n m x y ha.1 hb.1, deqs_py n m xs ys ha.2 hb.2]
end
theorem toPys_any (x : D) (n m : Nat) (hx : eqokN n x = true) : ∀ ys : List D, ys.all (eqokN m) = true → ((toPys ys).any fun y => PyData.eqv y (toPy x)) = din x ys
  | [], _ => rfl
  | y :: ys, h => by
    rw [List.all_cons, Bool.and_eq_true] at h
    show (PyData.eqv (toPy y) (toPy x) || (toPys ys).any fun y => PyData.eqv y (toPy x)) = (deq y x || din x ys)
    rw [deq_py m n y x h.1 hx, toPys_any x n m hx ys h.2]
theorem lay_py : ∀ (n : Nat) (d : D), eqokN n d = true → (toPy d).canLay0 = true ∧ (toPy d).depth ≤ n
  | n, .non, _ => ⟨rfl, Nat.zero_le _⟩
  | n, .bl _, _ => ⟨rfl, Nat.zero_le _⟩
  | n, .int _, _ => ⟨rfl, Nat.zero_le _⟩
  | n, .str x, h => ⟨by cases n <;> exact h, Nat.zero_le _⟩
  | 0, .tup _, h => by simp [eqokN] at h
  | 0, .lst _, h => by simp [eqokN] at h
  | n + 1, .tup xs, h => by
    have k : ∀ ys : List D, ys.all (eqokN n) = true → PyData.canLayAll0 (toPys ys) = true ∧ PyData.depthAll (toPys ys) ≤ n := by
      intro ys
      induction ys with
      | nil => intro _; exact ⟨rfl, Nat.zero_le _⟩
      | cons y ys ih =>
        intro hy
        rw [List.all_cons, Bool.and_eq_true] at hy
        obtain ⟨a1, a2⟩ := lay_py n y hy.1
        obtain ⟨b1, b2⟩ := ih hy.2
        refine ⟨?_, ?_⟩
        · show ((toPy y).canLay0 && PyData.canLayAll0 (toPys ys)) = true
          rw [a1, b1]; rfl
        · show max (toPy y).depth (PyData.depthAll (toPys ys)) ≤ n
          omega
    obtain ⟨k1, k2⟩ := k xs h
    exact ⟨k1, Nat.succ_le_succ k2⟩
  | n + 1, .lst xs, h => by
    have k : ∀ ys : List D, ys.all (eqokN n) = true → PyData.canLayAll0 (toPys ys) = true ∧ PyData.depthAll (toPys ys) ≤ n := by
      intro ys
      induction ys with
      | nil => intro _; exact ⟨rfl, Nat.zero_le _⟩
      | cons y ys ih =>
        intro hy
        rw [List.all_cons, Bool.and_eq_true] at hy
        obtain ⟨a1, a2⟩ := lay_py n y hy.1
        obtain ⟨b1, b2⟩ := ih hy.2
        refine ⟨?_, ?_⟩
        · show ((toPy y).canLay0 && PyData.canLayAll0 (toPys ys)) = true
          rw [a1, b1]; rfl
        · show max (toPy y).depth (PyData.depthAll (toPys ys)) ≤ n
          omega
    obtain ⟨k1, k2⟩ := k xs h
    exact ⟨k1, Nat.succ_le_succ k2⟩
  | n, .dK _, h => by cases n <;> simp [eqokN] at h
  | n, .dT _, h => by cases n <;> simp [eqokN] at h
  | n, .xc _ _, h => by cases n <;> simp [eqokN] at h
section
variable {X : Cx} {pins : List (Addr × Obj)} {σ : St} {F H : Hp} {s : Shared}
mutual
theorem rep_reads (I : Inv X pins σ H s) (l : Le F H) : ∀ (n : Nat) (d : D) {v : V} {u : Value}, eqokN n d = true → Rep (kx X) F v d → RelV v u → ∃ as, Reads s.heap u (toPy d) as
  | _, .non, v, u, _, r, q => by cases (show v = .non from r); cases (show u = Value.none from q); exact ⟨_, .none⟩
  | _, .bl b, v, u, _, r, q => by cases (show v = .bl b from r); cases (show u = Value.bool b from q); exact ⟨_, .bool b⟩
  | _, .int i, v, u, _, r, q => by cases (show v = .int i from r); obtain ⟨t, rfl⟩ := (show ∃ t, u = Value.int i t from q); exact ⟨_, .int i t⟩
  | _, .str x, v, u, _, r, q => by cases (show v = .str x from r); obtain ⟨t, rfl⟩ := (show ∃ t, u = Value.str x t from q); exact ⟨_, .str x t⟩
  | 0, .tup _, _, _, h, _, _ => by simp [eqokN] at h
  | 0, .lst _, _, _, h, _, _ => by simp [eqokN] at h
  | n + 1, .tup ds, v, u, h, r, q => by
    obtain ⟨a, vs, rfl, hq, rs⟩ := r
    cases (show u = Value.ref a from q)
    obtain ⟨its, rv, ⟨o, e1, e2, m, e3⟩, hz⟩ := I.tuple (SqT.le l hq)
    obtain ⟨as, hr⟩ := reps_reads I l n ds h rs rv
    exact ⟨_, .tuple e1 e2 e3 (by simpa using hr)⟩
  | n + 1, .lst ds, v, u, h, r, q => by
    obtain ⟨a, vs, rfl, hq, rs⟩ := r
    cases (show u = Value.ref a from q)
    obtain ⟨its, rv, ⟨o, m, e1, e2, _, e3⟩, hz⟩ := I.list (SqL.le l hq)
    obtain ⟨as, hr⟩ := reps_reads I l n ds h rs rv
    exact ⟨_, .list e1 e2 e3 (by simpa using hr)⟩
  | n, .dK _, _, _, h, _, _ => by cases n <;> simp [eqokN] at h
  | n, .dT _, _, _, h, _, _ => by cases n <;> simp [eqokN] at h
  | n, .xc _ _, _, _, h, _, _ => by cases n <;> simp [eqokN] at h
theorem reps_reads (I : Inv X pins σ H s) (l : Le F H) : ∀ (n : Nat) (ds : List D) {vs : List V} {us : List Value}, ds.all (eqokN n) = true → Reps (kx X) F vs ds → Vals vs us → ∃ as, ReadsAll s.heap us (toPys ds) as
  | n, [], vs, us, _, r, q => by
    cases (show vs = [] from r)
    cases q
    exact ⟨_, .nil⟩
  | n, d :: ds, vs, us, h, r, q => by
    obtain ⟨v, r', rfl, r1, r2⟩ := r
    rw [List.all_cons, Bool.and_eq_true] at h
    cases q with
    | cons q1 q2 =>
      obtain ⟨as, h1⟩ := rep_reads I l n d h.1 r1 q1
      obtain ⟨bs, h2⟩ := reps_reads I l n ds h.2 r2 q2
      exact ⟨_, .cons h1 h2⟩
end
theorem rd_reads (I : Inv X pins σ H s) (l : Le F H) {n : Nat} {d : D} {v : V} {u : Value} (h : eqokN n d = true) (r : RdV (kx X) F H v d) (q : RelV v u) : ∃ as, Reads s.heap u (toPy d) as := by
  rcases r with r | ⟨a, o, rfl, e2, r⟩
  · exact rep_reads I l n d h r q
  · cases d with
    | lst ds =>
      cases n with
      | zero => simp [eqokN] at h
      | succ n =>
        cases o with
        | lst vs =>
          cases (show u = Value.ref a from q)
          obtain ⟨its, rv, ⟨o, m, e1, e2, _, e3⟩, hz⟩ := I.list (SqL.of e2)
          obtain ⟨as, hr⟩ := reps_reads I l n ds h r rv
          exact ⟨_, .list e1 e2 e3 (by simpa using hr)⟩
        | _ => exact r.elim
    | _ => exact rep_reads I l n _ h (RdV.flat (.inr ⟨a, o, rfl, e2, r⟩ : RdV (kx X) F H _ _) (fun _ e => nomatch e) (fun _ e => by cases e <;> (cases n <;> simp [eqokN] at h)) (fun _ e => by cases e <;> (cases n <;> simp [eqokN] at h))) q
end
section
variable {X : Cx} {F0 H0 : Hp}
theorem od_eq (hu : X.A.units + 10 < cLine) : OpD X (compareOp .Eq) dEq := by
  intro pins s σ F H x y v u dx dy Q I l rx ry qx qy w
  unfold dEq at w
  by_cases c : (eqok dx && eqok dy) = true
  · rw [if_pos c] at w
    rw [Bool.and_eq_true] at c
    obtain ⟨as, h1⟩ := rd_reads I l c.1 qx rx
    obtain ⟨bs, h2⟩ := rd_reads I l c.2 qy ry
    obtain ⟨a1, a2⟩ := lay_py 8 dx c.1
    obtain ⟨b1, b2⟩ := lay_py 8 dy c.2
    refine SeqAt.compareEq_reads h1 h2 a1 b1 (by omega) ?_
    rw [deq_py 8 8 dx dy c.1 c.2]
    exact ⟨.bl _, H, I, rfl, wish_fz (X := X) l (v := .bl _) w rfl⟩
  · rw [if_neg c] at w; exact w.elim
theorem od_ne (hu : X.A.units + 10 < cLine) : OpD X (compareOp .NotEq) dNe := by
  intro pins s σ F H x y v u dx dy Q I l rx ry qx qy w
  unfold dNe at w
  by_cases c : (eqok dx && eqok dy) = true
  · rw [if_pos c] at w
    rw [Bool.and_eq_true] at c
    obtain ⟨as, h1⟩ := rd_reads I l c.1 qx rx
    obtain ⟨bs, h2⟩ := rd_reads I l c.2 qy ry
    obtain ⟨a1, a2⟩ := lay_py 8 dx c.1
    obtain ⟨b1, b2⟩ := lay_py 8 dy c.2
    refine SeqAt.compareNe_reads h1 h2 a1 b1 (by omega) ?_
    rw [deq_py 8 8 dx dy c.1 c.2]
    exact ⟨.bl _, H, I, rfl, wish_fz (X := X) l (v := .bl _) w rfl⟩
  · rw [if_neg c] at w; exact w.elim

/-! ### dicts that are read -/
theorem RepK.look {κ : Kx} {F : Hp} : ∀ {kds : List (Sum Int Str × D)} {kvs : List (Key × V)} (k : Key), RepK κ F kvs kds → (∃ v d, valV kvs k = some v ∧ look k kds = some d ∧ Rep κ F v d) ∨ (valV kvs k = none ∧ look k kds = none)
  | [], _, k, h => by cases (show _ = _ from h); exact .inr ⟨rfl, rfl⟩
  | (q, d) :: r, _, k, h => by
    obtain ⟨v, kr, rfl, h1, h2⟩ := h
    by_cases e : q = k
    · refine .inl ⟨v, d, ?_, ?_, h1⟩
      · simp [valV, e]
      · simp [L3.look, e]
    · rcases RepK.look k h2 with ⟨v', d', a, b, c⟩ | ⟨a, b⟩
      · refine .inl ⟨v', d', ?_, ?_, c⟩
        · simpa [valV, e] using a
        · simpa [L3.look, e] using b
      · refine .inr ⟨?_, ?_⟩
        · simpa [valV, e] using a
        · simpa [L3.look, e] using b
theorem RepK.length {κ : Kx} {F : Hp} : ∀ {kds : List (Sum Int Str × D)} {kvs : List (Key × V)}, RepK κ F kvs kds → kvs.length = kds.length
  | [], _, h => by cases (show _ = _ from h); rfl
  | (q, d) :: r, _, h => by
    obtain ⟨v, kr, rfl, h1, h2⟩ := h
    simp [RepK.length h2]
theorem Inv.dictK {pins : List (Addr × Obj)} {σ : St} {H : Hp} {s : Shared} {a : Addr} {kvs : List (Key × V)} (I : Inv X pins σ H s) (h : SqK (kx X) H a kvs) :
    (a == sysModules) = false ∧ ∃ vs, KV kvs vs ∧ s.heap.DictOf (mixKind X.prog X.w) a vs := by
  rcases h with h | ⟨hs, o, es, ep, vs, hk, h1, h2, h3, h4, h5, h6⟩
  · obtain ⟨_, hd, vs, rel, dd⟩ := dk_rd I.hok h
    exact ⟨hd, vs, rel, dd⟩
  · exact ⟨hs, vs, h6, o, es, ep, I.kIn a o hk, h1, h2, h3, h4, h5⟩
theorem key_rel {κ : Kx} {F H : Hp} {v : V} {u : Value} {d : D} {k : Key} (e : keyOf d = some k) (r : RdV κ F H v d) (q : RelV v u) : RelV (kV k) u := by
  cases d with
  | int i => cases e; cases RdV.int r; exact q
  | str x => cases e; cases RdV.str r; exact q
  | _ => cases e
/-- k in d, over a dict of ints and texts -/
def dInK : D → D → R En
  | k, .dK kvs => (match keyOf k with | some q => okB (look q kvs).isSome | none => .stuck)
  | _, _ => .stuck
theorem od_inK : OpD X (compareOp .In) dInK := by
  intro pins s σ F H x y v u dx dy Q I l rx ry qx qy w
  cases dy <;> first | exact w.elim | skip
  rename_i kds
  unfold dInK at w
  dsimp only at w
  cases e : keyOf dx with
  | none => rw [e] at w; exact w.elim
  | some k =>
    rw [e] at w
    obtain ⟨a, kvs, rfl, hq, rk⟩ := RdV.dK l qy
    cases (show u = Value.ref a from ry)
    obtain ⟨hd, vs, rel, dd⟩ := Inv.dictK I hq
    refine wpAny_in_of (kV_is (key_rel e qx rx)) hd dd.mapOf ?_
    rw [← (rel.val k).isSome_eq]
    have e2 : (valV kvs k).isSome = (look k kds).isSome := by
      rcases RepK.look k rk with ⟨v', d', a1, a2, _⟩ | ⟨a1, a2⟩
      · rw [a1, a2]; rfl
      · rw [a1, a2]; rfl
    rw [e2]
    exact ⟨.bl _, H, I.tok _, rfl, wish_fz (X := X) l (v := .bl _) w rfl⟩

/-! ### a[b] -/
def IxD (X : Cx) (g : D → D → R En) : Prop :=
  ∀ (value slice : Expr) (pins : List (Addr × Obj)) (s : Shared) (σ : St) (F H : Hp) (x y : V) (v u : Value) (dx dy : D) (Q : VK), Inv X pins σ H s → Le F H → RelV x v → RelV y u → RdV (kx X) F H x dx → RdV (kx X) F H y dy → Wish X F H (g dx dy) Q →
    subscripted slice false v u = operate [v, u] (getItem v u) → wpAny (model X.prog X.w) X.A (subscriptTail value slice v u) (EP X pins σ Q) X.xe s
variable {a b : Expr} {fa fb : EF} {pos : Pos} {g : D → D → R En}
theorem se_ixr (ho : IxD X g) (ha : SE X F0 H0 a fa) (hb : SE X F0 H0 b fb) (hs : PlainIx b := by exact fun _ _ => rfl) : SE X F0 H0 (.Subscript a b pos) (eOp g fa fb) :=
  fun pins s σ F H ρ Q S I h => Subscript_ (two (f := fun v u => subscriptTail a b v u) ha hb S I h fun s F H x y v u dx dy Q I l rx ry qx qy w => ho a b pins s σ F H x y v u dx dy Q I l rx ry qx qy w (hs _ _))
theorem ati_eq {α : Type} (xs : List α) (i : Int) : ati xs i = atI xs i := rfl
theorem ati_len {α β : Type} {xs : List α} {ys : List β} (h : xs.length = ys.length) {i : Int} {x : α} (e : ati xs i = some x) : ∃ j : Nat, xs[j]? = some x ∧ ∀ y, ys[j]? = some y → atI ys i = some y := by
  unfold ati at e
  cases q : ixn xs.length i with
  | none => rw [q] at e; cases e
  | some j =>
    rw [q] at e
    refine ⟨j, e, fun y hy => ?_⟩
    unfold atI
    have : ixN ys.length i = some j := by rw [← h]; exact q
    rw [this]; exact hy
/-- the list's, the tuple's item -/
def dIxS : D → D → R En
  | .lst xs, .int i => okD (ati xs i)
  | .tup xs, .int i => okD (ati xs i)
  | _, _ => .stuck
theorem ixd_seq : IxD X dIxS := by
  intro value slice pins s σ F H x y v u dx dy Q I l rx ry qx qy w hs
  cases dx <;> first | exact w.elim | skip
  · rename_i ds
    cases dy <;> first | exact w.elim | skip
    rename_i i
    unfold dIxS at w
    dsimp only at w
    cases e : ati ds i with
    | none => rw [e] at w; exact w.elim
    | some d =>
      rw [e] at w
      obtain ⟨p, vs, rfl, hq, _, rs⟩ := RdV.tup l qx
      obtain ⟨j, ej, k⟩ := ati_len (Reps.length rs).symm e
      obtain ⟨z, ez, rz⟩ := Reps.get rs ej
      exact ix_tup value slice pins s σ H _ _ v u Q I rx ry ⟨p, vs, i, z, rfl, RdV.int qy, hq, k z ez, wish_fz (X := X) l w rz⟩ hs
  · rename_i ds
    cases dy <;> first | exact w.elim | skip
    rename_i i
    unfold dIxS at w
    dsimp only at w
    cases e : ati ds i with
    | none => rw [e] at w; exact w.elim
    | some d =>
      rw [e] at w
      obtain ⟨p, vs, rfl, hq, rs⟩ := RdV.lst l qx
      obtain ⟨j, ej, k⟩ := ati_len (Reps.length rs).symm e
      obtain ⟨z, ez, rz⟩ := Reps.get rs ej
      exact ix_list value slice pins s σ H _ _ v u Q I rx ry ⟨p, vs, i, z, rfl, RdV.int qy, hq, k z ez, wish_fz (X := X) l w rz⟩ hs
theorem se_ix (ha : SE X F0 H0 a fa) (hb : SE X F0 H0 b fb) (hs : PlainIx b := by exact fun _ _ => rfl) : SE X F0 H0 (.Subscript a b pos) (eOp dIxS fa fb) := se_ixr ixd_seq ha hb hs
/-- d[k], there -/
def dIxK : D → D → R En
  | .dK kvs, k => (match keyOf k with | some q => okD (look q kvs) | none => .stuck)
  | _, _ => .stuck
theorem ixd_K : IxD X dIxK := by
  intro value slice pins s σ F H x y v u dx dy Q I l rx ry qx qy w hs
  cases dx <;> first | exact w.elim | skip
  rename_i kds
  unfold dIxK at w
  dsimp only at w
  cases e : keyOf dy with
  | none => rw [e] at w; exact w.elim
  | some k =>
    rw [e] at w
    dsimp only at w
    obtain ⟨p, kvs, rfl, hq, rk⟩ := RdV.dK l qx
    cases (show v = Value.ref p from rx)
    obtain ⟨hd, vs, rel, dd⟩ := Inv.dictK I hq
    rcases RepK.look k rk with ⟨z, d, a1, a2, rz⟩ | ⟨_, a2⟩
    · rw [a2] at w
      obtain ⟨w', hw, rw'⟩ := RelO.some_of (v := z) (o := valueAt vs k) (by rw [← a1]; exact rel.val k)
      exact tail_any dd.typeIs PySem.F.slot_dict_getitem.lookup (wpAny_getItem_of (kV_is (key_rel e qy ry)) dd.mapOf hw ⟨z, H, I.tok _, rw', wish_fz (X := X) l w rz⟩) hs
    · rw [a2] at w; exact w.elim
theorem se_ixK (ha : SE X F0 H0 a fa) (hb : SE X F0 H0 b fb) (hs : PlainIx b := by exact fun _ _ => rfl) : SE X F0 H0 (.Subscript a b pos) (eOp dIxK fa fb) := se_ixr ixd_K ha hb hs

/-! ### arguments, displays -/
theorem sa_nil : SA X F0 H0 [] [] := fun pos pins s σ F H ρ Q S I h => Calls.spliced_nil (h [] [] F H s (Gr.refl S.s) rfl .nil I)
theorem sa_cons {e : Expr} {es : List Expr} {f : EF} {r : List EF} (he : SE X F0 H0 e f) (hr : SA X F0 H0 es r) (hs : starEach (e :: es) X.env = (false, eval e X.env) :: starEach es X.env := by rfl) : SA X F0 H0 (e :: es) (f :: r) := by
  intro pos pins s σ F H ρ Q S I h
  rw [hs]
  refine Calls.spliced_cons (he pins s σ F H ρ _ S I ((KE.bind h).imp fun w h1 v u F1 H1 s1 g1 q1 r1 I1 => ?_))
  refine hr pos pins s1 σ F1 H1 ρ _ (S.grow g1) I1 ((KE.bind h1).imp fun ws h2 vs us F2 H2 s2 g2 q2 r2 I2 => ?_)
  exact h2 (v :: vs) (u :: us) F2 H2 s2 (g1.trans g2) ⟨v, vs, rfl, Vok.gr g2 q1, Voks.older (fun a e => Le.none g1.h e) q2⟩ (.cons r1 r2) I2
theorem sz_eq : sz = sizeLine := sizeLine_eq.symm
/-- a new list or tuple of what was stored -/
theorem new_lst {F H F1 H1 : Hp} {p : Addr} {vs : List V} {ds : List D} (s : Le F H) (g : Gr F H F1 H1) (hp : H1 p = none) (r : Reps (kx X) (fzAll H F1 H1) vs ds) :
    Gr F H (fzAll H F1 H1) (upd H1 p (.lst vs)) ∧ Vok (kx X) H (fzAll H F1 H1) (upd H1 p (.lst vs)) (.ref p) (.ow (.lst ds)) := by
  obtain ⟨g2, _⟩ := fzAll_gr s g
  have g3 := g2.trans (Gr.new (o := .lst vs) g2.s hp)
  exact ⟨g3, p, _, rfl, Le.none g.h hp, Le.none g2.s hp, upd_same, r⟩
theorem new_tup {F H F1 H1 : Hp} {p : Addr} {vs : List V} {ds : List D} (s : Le F H) (g : Gr F H F1 H1) (hp : H1 p = none) (r : Reps (kx X) (fzAll H F1 H1) vs ds) :
    Gr F H (upd (fzAll H F1 H1) p (.tup vs)) (upd H1 p (.tup vs)) ∧ Vok (kx X) H (upd (fzAll H F1 H1) p (.tup vs)) (upd H1 p (.tup vs)) (.ref p) (.fz (.tup ds)) := by
  obtain ⟨g2, _⟩ := fzAll_gr s g
  have g3 := Gr.newF (o := .tup vs) g2.s hp
  exact ⟨g2.trans g3, p, vs, rfl, SqT.of upd_same, Reps.le g3.f _ r⟩
theorem se_lst {es : List Expr} {f : List EF} (h : SA X F0 H0 es f) : SE X F0 H0 (.List es pos) (eLst f) := by
  intro pins s σ F H ρ Q S I k
  refine wpAny_List_spliced (h pos pins s σ F H ρ _ S I ((KE.bind k).imp fun ws k1 vs us F1 H1 s1 g1 q1 r1 I1 => ?_))
  cases e : stAll ws with
  | exc x => rw [e] at k1; exact k1.elim
  | stuck => rw [e] at k1; exact k1.elim
  | ok ds =>
    rw [e] at k1
    have rs := Voks.stAll S.s g1 q1 e
    by_cases c : ds.length ≤ sz
    · have k2 : KE (XP X F0 H0) (R.ok (En.ow (.lst ds))) fun w => ∀ v u F' H' s', Gr F H F' H' → Vok (kx X) H F' H' v w → RelV v u → Inv X pins σ H' s' → Q u s' := by
        simpa [R.bind, if_pos c] using k1
      have hz : vs.length ≤ sizeLine := by rw [Reps.length rs, ← sz_eq]; exact c
      refine ⟨by rw [← r1.length]; exact hz, ?_⟩
      have hf : H1 s1.heap.objs.size = none := I1.hok.fresh (Nat.le_refl _)
      obtain ⟨g3, q3⟩ := new_lst (X := X) S.s g1 hf rs
      exact k2 _ _ _ _ _ g3 q3 rfl (I1.laid (t' := s1.toks) (fun b u e => Heap.get?_push_of_some _ e) (Nat.le_refl _) ⟨hz, us, 0, r1, Heap.get?_push_size _ rfl⟩)
    · have : False := by simpa [R.bind, if_neg c, KE] using k1
      exact this.elim
theorem se_tup {es : List Expr} {f : List EF} {x1 : Nat} (h : SA X F0 H0 es f) : SE X F0 H0 (.Tuple es x1 pos) (eTup f) := by
  intro pins s σ F H ρ Q S I k
  refine wpAny_Tuple_spliced (h pos pins s σ F H ρ _ S I ((KE.bind k).imp fun ws k1 vs us F1 H1 s1 g1 q1 r1 I1 => ?_))
  cases e : stAll ws with
  | exc x => rw [e] at k1; exact k1.elim
  | stuck => rw [e] at k1; exact k1.elim
  | ok ds =>
    rw [e] at k1
    have rs := Voks.stAll S.s g1 q1 e
    by_cases c : ds.length ≤ sz
    · have k2 : KE (XP X F0 H0) (R.ok (En.fz (.tup ds))) fun w => ∀ v u F' H' s', Gr F H F' H' → Vok (kx X) H F' H' v w → RelV v u → Inv X pins σ H' s' → Q u s' := by
        simpa [R.bind, if_pos c] using k1
      have hz : vs.length ≤ sizeLine := by rw [Reps.length rs, ← sz_eq]; exact c
      refine ⟨by rw [← r1.length]; exact hz, ?_⟩
      have hf : H1 s1.heap.objs.size = none := I1.hok.fresh (Nat.le_refl _)
      obtain ⟨g3, q3⟩ := new_tup (X := X) S.s g1 hf rs
      exact k2 _ _ _ _ _ g3 q3 rfl (I1.laid (t' := s1.toks) (fun b u e => Heap.get?_push_of_some _ e) (Nat.le_refl _) ⟨hz, us, r1, ⟨_, Heap.get?_push_size _ rfl, rfl, _, rfl⟩⟩)
    · have : False := by simpa [R.bind, if_neg c, KE] using k1
      exact this.elim

/-! ### built-ins -/
variable {x : Str} {e : Expr} {es : List Expr} {p : Pos} {id T : String} {gc : List D → R En} {f : List EF}
theorem se_callB (hc : CallD X (.builtin id) gc) (hm : X.mg x = none) (hv : bootBuiltins x = some (.builtin id)) (ha : SA X F0 H0 (e :: es) f) (hg : Gl X x := by rfl) (hn : x ≠ "__name__" := by decide) (hdb : (x == ("__debug__" : Str)) = false := by decide)
    (he : starEach (e :: es) X.env = (false, eval e X.env) :: starEach es X.env := by rfl) (hpl : (backTo pos (starEach es X.env)).any (·.1) = false := by rfl) : SE X F0 H0 (.Call (.Name x p) (e :: es) [] pos) (eB gc f) := by
  intro pins s σ F H ρ Q S I h
  refine wpAny_Call_Name_kw (ld_blt I hg hm hv ?_ hn hdb)
  refine PyProof.Rows.callWith_builtin1 (ha pos pins s σ F H ρ _ S I ((KE.bind h).imp fun ws h1 vs us F1 H1 s1 g1 q1 r1 I1 => ?_)) he hpl
  exact ep_end (hc pins s1 σ F1 H1 vs us _ _ I1 g1.s r1 (Voks.rd q1) (wish_end g1 h1))
theorem se_callTy (hc : CallD X (.type T) gc) (hm : X.mg x = none) (hv : bootBuiltins x = some (.type T)) (ha : SA X F0 H0 (e :: es) f) (hg : Gl X x := by rfl) (hn : x ≠ "__name__" := by decide) (hdb : (x == ("__debug__" : Str)) = false := by decide)
    (he : starEach (e :: es) X.env = (false, eval e X.env) :: starEach es X.env := by rfl) (hpl : (backTo pos (starEach es X.env)).any (·.1) = false := by rfl) : SE X F0 H0 (.Call (.Name x p) (e :: es) [] pos) (eB gc f) := by
  intro pins s σ F H ρ Q S I h
  refine wpAny_Call_Name_kw (ld_blt I hg hm hv ?_ hn hdb)
  refine PyProof.Rows.callWith_type1 (ha pos pins s σ F H ρ _ S I ((KE.bind h).imp fun ws h1 vs us F1 H1 s1 g1 q1 r1 I1 => ?_)) he hpl
  exact ep_end (hc pins s1 σ F1 H1 vs us _ _ I1 g1.s r1 (Voks.rd q1) (wish_end g1 h1))
theorem calld_of {fv : Value} {r : List V → Hp → VK → Prop} (hc : CallR X fv r) (h : ∀ F H xs ds Q, Le F H → Paired (RdV (kx X) F H) xs ds → Wish X F H (gc ds) Q → r xs H Q) : CallD X fv gc :=
  fun pins s σ F H xs us ds Q I l rx qx w => hc pins s σ H xs us Q I rx (h F H xs ds Q l qx w)
/-- len of a list or tuple -/
def dLenS : List D → R En
  | [.lst xs] => okI xs.length
  | [.tup xs] => okI xs.length
  | _ => .stuck
theorem cd_len : CallD X (.builtin "len") dLenS := calld_of call_len_seq fun F H xs ds Q l qx w => by
  cases qx with
  | nil => exact w.elim
  | @cons x d xs ds q1 q2 =>
    cases q2 with
    | cons _ _ => cases d <;> exact w.elim
    | nil =>
      cases d <;> first | exact w.elim | skip
      · obtain ⟨p, vs, rfl, hq, _, rs⟩ := RdV.tup l q1
        refine ⟨p, vs, rfl, .inr hq, ?_⟩
        rw [Reps.length rs]
        exact wish_fz (X := X) l (v := .int _) w rfl
      · obtain ⟨p, vs, rfl, hq, rs⟩ := RdV.lst l q1
        refine ⟨p, vs, rfl, .inl hq, ?_⟩
        rw [Reps.length rs]
        exact wish_fz (X := X) l (v := .int _) w rfl
theorem cd_list : CallD X (.type "list") dList := calld_of call_list_of fun F H xs ds Q l qx w => by
  cases qx with
  | nil => exact w.elim
  | @cons x d xs ds q1 q2 =>
    cases q2 with
    | cons _ _ => cases d <;> exact w.elim
    | nil =>
      cases d <;> first | exact w.elim | skip
      · obtain ⟨p, vs, rfl, hq, _, rs⟩ := RdV.tup l q1
        refine ⟨p, vs, rfl, .inr hq, fun q hn => ?_⟩
        exact w _ _ _ (Gr.new l hn) ⟨q, _, rfl, hn, Le.none l hn, upd_same, rs⟩
      · obtain ⟨p, vs, rfl, hq, rs⟩ := RdV.lst l q1
        refine ⟨p, vs, rfl, .inl hq, fun q hn => ?_⟩
        exact w _ _ _ (Gr.new l hn) ⟨q, _, rfl, hn, Le.none l hn, upd_same, rs⟩
end
end L3

namespace L3
open PySem PySem.Spec PyProof.Rows L2
section
variable {X : Cx} {F0 H0 : Hp} {a b e : Expr} {fa fb f : EF} {pos : Pos} {g : D → D → R En} {t u : TF}

/-! ### tests -/
theorem truth_ok {pins : List (Addr × Obj)} {s : Shared} {σ : St} {F H : Hp} {x : V} {v : Value} {d : D} {Q : Bool → Shared → Prop} (I : Inv X pins σ H s) (l : Le F H) (rx : RelV x v) (q : RdV (kx X) F H x d)
    (h : KE (XP X F0 H0) (truth d) fun b => ∀ s', Inv X pins σ H s' → Q b s') : wpAny (model X.prog X.w) X.A (truthy v) Q X.xe s := by
  have go : ∀ b, TruV X.K x H b → (∀ s', Inv X pins σ H s' → Q b s') → wpAny (model X.prog X.w) X.A (truthy v) Q X.xe s := fun b tv k =>
    thn (tru_ok pins s σ H x v (fun b' H' => b' = b ∧ H' = H) I rx ⟨b, tv, rfl, rfl⟩) fun b' s' ⟨H', I', eb, eh⟩ => by
      subst eb eh
      exact k s' I'
  cases d with
  | non => cases RdV.non q; exact go false rfl h
  | bl b => cases RdV.bl q; exact go b rfl h
  | int i => cases RdV.int q; exact go (i != 0) rfl h
  | str y =>
    cases RdV.str q
    unfold truth at h
    dsimp only at h
    by_cases c : y.length ≤ sz
    · rw [if_pos c] at h
      exact go _ ⟨by rw [← sz_eq]; exact c, rfl⟩ h
    · rw [if_neg c] at h; exact h.elim
  | tup ds =>
    obtain ⟨p, vs, rfl, hq, _, rs⟩ := RdV.tup l q
    refine go (!ds.isEmpty) (.inr (.inl ⟨vs, hq, ?_⟩)) h
    have := Reps.length rs
    cases vs <;> cases ds <;> simp_all
  | lst ds =>
    obtain ⟨p, vs, rfl, hq, rs⟩ := RdV.lst l q
    refine go (!ds.isEmpty) (.inl ⟨vs, hq, ?_⟩) h
    have := Reps.length rs
    cases vs <;> cases ds <;> simp_all
  | dK _ => exact h.elim
  | dT _ => exact h.elim
  | xc _ _ => exact h.elim
theorem st_cmp {op : CmpOp} (ho : OpD X (compareOp op) g) (ha : SE X F0 H0 a fa) (hb : SE X F0 H0 b fb) (hm : behindInMarks op b = false := by first | exact nobehind _ (by decide) (by decide) | rfl) :
    ST X F0 H0 (.Compare a [op] [b] pos) (tE (eOp g fa fb)) := by
  intro pins s σ F H ρ Q S I h
  refine wpAny_isTrue_Compare1 (two (Q := fun v s' => wpAny (model X.prog X.w) X.A (truthy v) Q X.xe s') ha hb S I ((KE.bind h).imp fun w h1 v u F' H' s' g' q r I' => ?_) fun s F H x y v u dx dy Q => ho pins s σ F H x y v u dx dy Q) hm
  exact truth_ok I' g'.s r (Vok.rd q) (h1.imp fun b k s2 I2 => k F' H' s2 g' I2)
/-- an expression as a test -/
theorem st_val (he : SE X F0 H0 e f) (hp : ∀ whole, isTrue e X.env whole = (do let v ← whole; standAt e.pos; holding [v] (truthy v)) := by intro _; rfl) : ST X F0 H0 e (tE f) := by
  intro pins s σ F H ρ Q S I h
  refine isTrue_plain (he pins s σ F H ρ _ S I ((KE.bind h).imp fun w h1 v u F' H' s' g' q r I' => ?_)) (hp _)
  exact truth_ok I' g'.s r (Vok.rd q) (h1.imp fun b k s2 I2 => k F' H' s2 g' I2)
theorem st_not (ha : ST X F0 H0 a t) : ST X F0 H0 (.UnaryOp .Not a pos) (tNot t) := by
  intro pins s σ F H ρ Q S I h
  exact isTrue_not (ha pins s σ F H ρ _ S I ((KE.bind h).imp fun b k F' H' s' g' I' => k F' H' s' g' I'))
variable {rest : List Expr}
theorem sw_and1 (ha : ST X F0 H0 a t) : SW X F0 H0 (.BoolOp .And [a] pos) t := by
  intro wh pins s σ F H ρ Q S I h
  refine isTrue_and (ha pins s σ F H ρ _ S I (h.imp fun c k F' H' s' g' I' => ?_))
  cases c with
  | true => exact isTrue_and_nil (k F' H' s' g' I')
  | false => exact k F' H' s' g' I'
theorem sw_or1 (ha : ST X F0 H0 a t) : SW X F0 H0 (.BoolOp .Or [a] pos) t := by
  intro wh pins s σ F H ρ Q S I h
  refine isTrue_or (ha pins s σ F H ρ _ S I (h.imp fun c k F' H' s' g' I' => ?_))
  cases c with
  | false => exact isTrue_or_nil (k F' H' s' g' I')
  | true => exact k F' H' s' g' I'
theorem ke_gr {F H F' H' : Hp} {pins : List (Addr × Obj)} {σ : St} {Q : Bool → Shared → Prop} (g' : Gr F H F' H') {r : R Bool} (h : KE (XP X F0 H0) r fun b => ∀ F2 H2 s2, Gr F H F2 H2 → Inv X pins σ H2 s2 → Q b s2) :
    KE (XP X F0 H0) r fun b => ∀ F2 H2 s2, Gr F' H' F2 H2 → Inv X pins σ H2 s2 → Q b s2 := h.imp fun b k F2 H2 s2 g2 I2 => k F2 H2 s2 (g'.trans g2) I2
theorem sw_and (ha : ST X F0 H0 a t) (hb : SW X F0 H0 (.BoolOp .And (b :: rest) pos) u) : SW X F0 H0 (.BoolOp .And (a :: b :: rest) pos) (tAnd t u) := by
  intro wh pins s σ F H ρ Q S I h
  refine isTrue_and (ha pins s σ F H ρ _ S I ((KE.bind h).imp fun c k F' H' s' g' I' => ?_))
  cases c with
  | true => exact hb wh pins s' σ F' H' ρ Q (S.grow g') I' (ke_gr g' k)
  | false => exact k F' H' s' g' I'
theorem sw_or (ha : ST X F0 H0 a t) (hb : SW X F0 H0 (.BoolOp .Or (b :: rest) pos) u) : SW X F0 H0 (.BoolOp .Or (a :: b :: rest) pos) (tOr t u) := by
  intro wh pins s σ F H ρ Q S I h
  refine isTrue_or (ha pins s σ F H ρ _ S I ((KE.bind h).imp fun c k F' H' s' g' I' => ?_))
  cases c with
  | false => exact hb wh pins s' σ F' H' ρ Q (S.grow g') I' (ke_gr g' k)
  | true => exact k F' H' s' g' I'
theorem st_w (h : SW X F0 H0 e t) : ST X F0 H0 e t := h _
/-! ### and, or, not as values -/
theorem ke_grE {F H F' H' : Hp} {pins : List (Addr × Obj)} {σ : St} {Q : Value → Shared → Prop} (g' : Gr F H F' H') {r : R En}
    (h : KE (XP X F0 H0) r fun w => ∀ v u F2 H2 s2, Gr F H F2 H2 → Vok (kx X) H F2 H2 v w → RelV v u → Inv X pins σ H2 s2 → Q u s2) :
    KE (XP X F0 H0) r fun w => ∀ v u F2 H2 s2, Gr F' H' F2 H2 → Vok (kx X) H' F2 H2 v w → RelV v u → Inv X pins σ H2 s2 → Q u s2 :=
  h.imp fun w k v u F2 H2 s2 g2 q r I2 => k v u F2 H2 s2 (g'.trans g2) (Vok.older (fun a e => Le.none g'.h e) q) r I2
theorem isB_ok {F H : Hp} {x : V} {v : Value} {d : D} {P : Bool → Prop} (q : RdV (kx X) F H x d) (r : RelV x v) (h : KE (XP X F0 H0) (isB d) P) : ∃ b, v = .bool b ∧ P b := by
  cases d <;> first | exact h.elim | skip
  cases RdV.bl q
  cases r
  exact ⟨_, rfl, h⟩
theorem se_one {op} (h : SE X F0 H0 a fa) : SE X F0 H0 (.BoolOp op [a] pos) fa := fun pins s σ F H ρ Q S I k => BoolOp_one (h pins s σ F H ρ Q S I k)
theorem se_and (ha : SE X F0 H0 a fa) (hb : SE X F0 H0 (.BoolOp .And (b :: rest) pos) fb) : SE X F0 H0 (.BoolOp .And (a :: b :: rest) pos) (eAnd fa fb) := by
  intro pins s σ F H ρ Q S I h
  refine BoolOp_and (ha pins s σ F H ρ _ S I ((KE.bind h).imp fun w h1 v u F' H' s' g' q r I' => ?_))
  obtain ⟨c, rfl, h2⟩ := isB_ok (Vok.rd q) r (KE.bind h1)
  refine wpAny_truthy_bool ?_
  cases c with
  | true => exact hb pins s' σ F' H' ρ Q (S.grow g') I' (ke_grE g' h2)
  | false => exact h2 (.bl false) _ F' H' s' g' rfl rfl I'
theorem se_or (ha : SE X F0 H0 a fa) (hb : SE X F0 H0 (.BoolOp .Or (b :: rest) pos) fb) : SE X F0 H0 (.BoolOp .Or (a :: b :: rest) pos) (eOr fa fb) := by
  intro pins s σ F H ρ Q S I h
  refine BoolOp_or (ha pins s σ F H ρ _ S I ((KE.bind h).imp fun w h1 v u F' H' s' g' q r I' => ?_))
  obtain ⟨c, rfl, h2⟩ := isB_ok (Vok.rd q) r (KE.bind h1)
  refine wpAny_truthy_bool ?_
  cases c with
  | false => exact hb pins s' σ F' H' ρ Q (S.grow g') I' (ke_grE g' h2)
  | true => exact h2 (.bl true) _ F' H' s' g' rfl rfl I'
theorem se_not (ha : SE X F0 H0 a fa) : SE X F0 H0 (.UnaryOp .Not a pos) (eNot fa) := by
  intro pins s σ F H ρ Q S I h
  refine UnaryOp_ (ha pins s σ F H ρ _ S I ((KE.bind h).imp fun w h1 v u F' H' s' g' q r I' => ?_))
  obtain ⟨c, rfl, h2⟩ := isB_ok (Vok.rd q) r (KE.bind h1)
  exact not_of (wpAny_truthy_bool (h2 (.bl (!c)) _ F' H' s' g' rfl rfl I'))
theorem se_ifExp {c : Expr} (hc : ST X F0 H0 c t) (ha : SE X F0 H0 a fa) (hb : SE X F0 H0 b fb) : SE X F0 H0 (.IfExp c a b pos) (eIf t fa fb) := by
  intro pins s σ F H ρ Q S I h
  refine wpAny_IfExp (hc pins s σ F H ρ _ S I ((KE.bind h).imp fun d k F' H' s' g' I' => ?_))
  cases d with
  | true => exact ha pins s' σ F' H' ρ Q (S.grow g') I' (ke_grE g' k)
  | false => exact hb pins s' σ F' H' ρ Q (S.grow g') I' (ke_grE g' k)
end

/-! ### statements -/
section
variable {X : Cx} {F0 H0 : Hp} {e : Expr} {f : EF} {pos pos' : Pos} {st : Stmt} {rest : List Stmt} {p q : SF} {t : TF}
theorem sss_nil : SSs X F0 H0 [] sNext := fun pins s σ F H ρ D S I h => wpAny_execs_nil ⟨σ, H, I, h σ F H Le.refl S⟩
theorem sss_cons (h1 : SS X F0 H0 st p) (h2 : SSs X F0 H0 rest q) : SSs X F0 H0 (st :: rest) (sSeq p q) := by
  intro pins s σ F H ρ D S I h
  have go : ∀ D' : Ends, D'.rt = D.rt → D'.bk = D.bk → D'.ct = D.ct → PostS X F0 H0 F D' (p ρ) → (∀ σ' H' s', D'.nx σ' H' → Inv X pins σ' H' s' → wpAny (model X.prog X.w) X.A (execs rest X.env) (SP X pins D) X.xe s') →
      wpAny (model X.prog X.w) X.A (execs (st :: rest) X.env) (SP X pins D) X.xe s := fun D' er eb ec hp hn => by
    refine wpAny_execs_cons (thn (h1 pins s σ F H ρ D' S I hp) fun fl s1 r => ?_)
    cases fl with
    | next => obtain ⟨σ', H', I', r⟩ := r; exact hn σ' H' s1 r I'
    | ret v => obtain ⟨x, σ', H', I', rv, r⟩ := r; exact ⟨x, σ', H', I', rv, by rw [← er]; exact r⟩
    | brk => obtain ⟨σ', H', I', r⟩ := r; exact ⟨σ', H', I', by rw [← eb]; exact r⟩
    | cont => obtain ⟨σ', H', I', r⟩ := r; exact ⟨σ', H', I', by rw [← ec]; exact r⟩
  unfold sSeq at h
  cases ep : p ρ with
  | nx ρ' =>
    rw [ep] at h
    refine go { D with nx := fun σ' H' => ∃ F', Le F F' ∧ StOk (kx X) F0 H0 F' H' ρ' σ' } rfl rfl rfl (by rw [ep]; exact fun σ' F' H' l S' => ⟨F', l, S'⟩) fun σ' H' s' ⟨F', l, S'⟩ I' => ?_
    exact h2 pins s' σ' F' H' ρ' D S' I' (PostS.le l h)
  | rt w => rw [ep] at h; exact go { D with nx := fun _ _ => False } rfl rfl rfl (by rw [ep]; exact h) fun _ _ _ z => z.elim
  | bk ρ' => rw [ep] at h; exact go { D with nx := fun _ _ => False } rfl rfl rfl (by rw [ep]; exact h) fun _ _ _ z => z.elim
  | ct ρ' => rw [ep] at h; exact go { D with nx := fun _ _ => False } rfl rfl rfl (by rw [ep]; exact h) fun _ _ _ z => z.elim
  | exc x => rw [ep] at h; exact go { D with nx := fun _ _ => False } rfl rfl rfl (by rw [ep]; exact h) fun _ _ _ z => z.elim
  | stuck => rw [ep] at h; exact h.elim
theorem sss_one (h1 : SS X F0 H0 st p) : SSs X F0 H0 [st] p := by
  intro pins s σ F H ρ D S I h
  refine wpAny_execs_cons (thn (h1 pins s σ F H ρ D S I h) fun fl s1 r => ?_)
  cases fl with
  | next => exact wpAny_execs_nil r
  | ret v => exact r
  | brk => exact r
  | cont => exact r
theorem ss_pass : SS X F0 H0 (.Pass pos) sNext := fun pins s σ F H ρ D S I h => wpAny_Pass ⟨σ, H, I, h σ F H Le.refl S⟩
theorem ss_break : SS X F0 H0 (.Break pos) sBreak := fun pins s σ F H ρ D S I h => wpAny_Break ⟨σ, H, I, h σ F H Le.refl S⟩
theorem ss_continue : SS X F0 H0 (.Continue pos) sCont := fun pins s σ F H ρ D S I h => wpAny_Continue ⟨σ, H, I, h σ F H Le.refl S⟩
theorem ss_doc {x j pos pos'} : SS X F0 H0 (.Expr (.Constant (.str x) j pos) pos') sNext := fun pins s σ F H ρ D S I h =>
  wpAny_Expr (Calls.Constant_str (show SP X _ _ .next { s with toks := s.toks + 1 } from ⟨σ, H, I.tok _, h σ F H Le.refl S⟩)) I.quiet
theorem ss_expr (he : SE X F0 H0 e f) (hs : swapsWith e none pos.line X.env = pure false := by rfl) : SS X F0 H0 (.Expr e pos) (sExpr f) := by
  intro pins s σ F H ρ D S I h
  refine wpAny_Expr_any (he pins s σ F H ρ _ S I ((PostS.of h).imp fun w k v u F' H' s' g q r I' => ?_)) I.quiet hs
  exact ⟨σ, H', I', k σ F' H' g.f (S.grow g)⟩
theorem nm_ok {w : En} {P : En → Prop} (h : KE (XP X F0 H0) w.nm P) : ∃ w', w.nm = .ok w' ∧ P w' ∧ w' = w := by
  cases w with
  | fz d => exact ⟨_, rfl, h, rfl⟩
  | ow d => exact ⟨_, rfl, h, rfl⟩
  | br d => exact h.elim
  | lk d => exact h.elim
theorem ss_set (i : Nat) {x : Str} (hN : X.N.Nodup) (he : SE X F0 H0 e f) (hi : X.N[i]? = some x := by rfl) (hx : Loc X.env.scope x := by first | exact Or.inl rfl | exact Or.inr rfl)
    (hs : swapsWith e (some (.Name x pos')) pos.line X.env = pure false := by rfl) (hf : X.fn x = true ∨ X.env.scope.names.lookup x = some .local := by first | exact .inl rfl | exact .inr rfl | assumption) :
    SS X F0 H0 (.Assign [.Name x pos'] e pos) (sSet i f) := by
  intro pins s σ F H ρ D S I h
  refine wpAny_Assign_Name (he pins s σ F H ρ _ S I ((KE.bind (PostS.of h)).imp fun w k v u F' H' s' g q r I' => ?_)) hs
  obtain ⟨w', e1, k2, rfl⟩ := nm_ok k
  exact store_ok I' hN hi hx r (fun s2 I2 => ⟨_, H', I2, k2 _ F' H' g.f (S.setW g q e1)⟩) hf
theorem ss_ret (he : SE X F0 H0 e f) : SS X F0 H0 (.Return (some e) pos) (sRet f) := by
  intro pins s σ F H ρ D S I h
  refine wpAny_Return_some (he pins s σ F H ρ _ S I ((KE.bind (PostS.of h)).imp fun w k v u F' H' s' g q r I' => ?_))
  obtain ⟨w', e1, k2, rfl⟩ := nm_ok k
  exact ⟨v, σ, H', I', r, k2 v F' H' (S.gr.trans g) (Vok.older (fun a e => Le.none S.gr.h e) q)⟩
theorem ss_retV (i : Nat) {x : Str} {pos' : Pos} (hN : X.N[i]? = some x := by rfl) (hv : Vis X.env.scope x := by first | exact Or.inl rfl | exact Or.inr (Or.inl rfl) | exact Or.inr (Or.inr rfl)) (hd : (x == ("__debug__" : Str)) = false := by decide)
    (hcd : (x == ("__classdict__" : Str)) = false := by decide) : SS X F0 H0 (.Return (some (.Name x pos')) pos) (sRetV i) := by
  intro pins s σ F H ρ D S I h
  have go : ∀ w : En, ρ[i]? = some (some w) → (∀ v, Eok (kx X) H0 F H v w → Vok (kx X) H0 F H v w) → (∀ v F' H', Gr F0 H0 F' H' → Vok (kx X) H0 F' H' v w → D.rt v H') →
      wpAny (model X.prog X.w) X.A (exec (.Return (some (.Name x pos')) pos) X.env) (SP X pins D) X.xe s := fun w ew t k => by
    obtain ⟨v, e1, q⟩ := S.val i w ew
    refine wpAny_Return_some (thn (pe_var hN hv hd hcd pins s σ H (fun v' H' => v' = v ∧ H' = H) I ⟨v, e1, rfl, rfl⟩) fun u s' ⟨v', H', I', r, ev, eh⟩ => ?_)
    subst ev eh
    exact ⟨v', σ, H', I', r, k v' F H' S.gr (t v' q)⟩
  unfold sRetV at h
  cases ew : ρ[i]? with
  | none => rw [ew] at h; exact h.elim
  | some w =>
    rw [ew] at h
    cases w with
    | none => exact h.elim
    | some w =>
      cases w with
      | fz d => exact go _ ew (fun v q => q) h
      | ow d => exact go _ ew (fun v q => q) h
      | br d => exact h.elim
      | lk d => exact h.elim
theorem ss_retN : SS X F0 H0 (.Return none pos) sRetN := fun pins s σ F H ρ D S I h => wpAny_Return_none ⟨.non, σ, H, I, rfl, h .non F H S.gr rfl⟩
theorem ss_if {c : Expr} {as bs : List Stmt} (hc : ST X F0 H0 c t) (ha : SSs X F0 H0 as p) (hb : SSs X F0 H0 bs q) : SS X F0 H0 (.If c as bs pos) (sIf t p q) := by
  intro pins s σ F H ρ D S I h
  refine wpAny_If (hc pins s σ F H ρ _ S I ((PostS.of h).imp fun d k F' H' s' g I' => ?_))
  cases d with
  | true => exact ha pins s' σ F' H' ρ D (S.grow g) I' (PostS.le g.f k)
  | false => exact hb pins s' σ F' H' ρ D (S.grow g) I' (PostS.le g.f k)
/-- x op= e, x frozen -/
theorem ss_aug (i : Nat) {x : Str} {op : Operator} {g : D → D → R En} (hN : X.N.Nodup) (ho : OpD X (inplaceOp op) g) (he : SE X F0 H0 e f) (hi : X.N[i]? = some x := by rfl) (hx : Loc X.env.scope x := by first | exact Or.inl rfl | exact Or.inr rfl)
    (hf : X.fn x = true ∨ X.env.scope.names.lookup x = some .local := by first | exact .inl rfl | exact .inr rfl | assumption) : SS X F0 H0 (.AugAssign (.Name x pos') op e pos) (sAug i g f) := by
  intro pins s σ F H ρ D S I h
  unfold sAug at h
  cases ew : ρ[i]? with
  | none => rw [ew] at h; exact h.elim
  | some w =>
    rw [ew] at h
    cases w with
    | none => exact h.elim
    | some w =>
      cases w with
      | ow d => exact h.elim
      | br d => exact h.elim
      | lk d => exact h.elim
      | fz d =>
        obtain ⟨v, e1, q⟩ := S.val i _ ew
        have h := KE.bind (PostS.of h)
        have ip : PIp X op (fun x y H' Q' => ∃ F' dx dy, Le F' H' ∧ RdV (kx X) F' H' x dx ∧ RdV (kx X) F' H' y dy ∧ Wish X F' H' (g dx dy) Q') := fun pins s σ H x y v u Q I rx ry ⟨F', dx, dy, l, qx, qy, w⟩ => ho pins s σ F' H x y v u dx dy Q I l rx ry qx qy w
        refine ps_aug hN hi hx (pe_sem (e := e)) ip hf pins s σ H D I ⟨v, e1, he.sem S (h.imp fun wy k y F1 H1 g1 q1 => ⟨F1, d, wy.d, g1.s, Rep.le g1.f d q |> Or.inl, Vok.rd q1, ?_⟩)⟩
        refine KE.impX (KE.bind k) (fun w k2 z F2 H2 g2 q2 => ?_) fun _ z => z.elim
        obtain ⟨w', e2, k3, rfl⟩ := nm_ok k2
        exact k3 _ F2 H2 (Le.trans g1.f g2.f) ((S.grow g1).setW g2 q2 e2)
/-! ### an own list is changed -/
theorem StOk.mut {κ : Kx} {F0 H0 F H : Hp} {ρ : Rho} {σ : St} {i : Nat} {d d' : D} {a : Addr} {o : HO} (S : StOk κ F0 H0 F H ρ σ) (ei : ρ[i]? = some (some (.ow d))) (si : σ[i]? = some (some (.ref a))) (r : OwnO κ F o d') :
    StOk κ F0 H0 F (upd H a o) (ρ.set i (some (.ow d'))) σ := by
  obtain ⟨v, e1, q⟩ := S.val i _ ei
  rw [si] at e1
  cases e1
  obtain ⟨b, ob, eb, h0, hf, hh, _⟩ := q
  cases eb
  refine ⟨⟨S.gr.f, fun c u h => ?_, fun c u h => ?_, S.gr.n⟩, by simpa using S.len, fun j w e => ?_, fun j k w w' c hjk ej ek oj ok sj sk => ?_⟩
  · rw [upd_ne (ne_of_none h h0)]; exact S.gr.h c u h
  · rw [upd_ne (ne_of_none h hf)]; exact S.gr.s c u h
  · rcases set_get e with ⟨rfl, z⟩ | ⟨ne, z⟩
    · cases z
      exact ⟨_, si, a, o, rfl, h0, hf, upd_same, r⟩
    · obtain ⟨v, e1, q⟩ := S.val j w z
      refine ⟨v, e1, ?_⟩
      have nb : ∀ {c}, v = .ref c → w.own = true → c ≠ a := fun {c} ev ow ec => by
        subst ev ec
        exact S.sep j i w _ c ne z ei ow rfl e1 si
      cases w with
      | fz d => exact q
      | br d => exact q
      | ow d =>
        obtain ⟨c, oc, ec, c0, cf, ch, cr⟩ := q
        exact ⟨c, oc, ec, c0, cf, by rw [upd_ne (nb ec rfl)]; exact ch, cr⟩
      | lk d =>
        obtain ⟨c, oc, ec, c0, cf, ch, cr⟩ := q
        exact ⟨c, oc, ec, c0, cf, by rw [upd_ne (nb ec rfl)]; exact ch, cr⟩
  · have at_ : ∀ {m : Nat} {y : En}, (ρ.set i (some (.ow d')))[m]? = some (some y) → y.own = true → ∃ y', ρ[m]? = some (some y') ∧ y'.own = true := fun {m y} h oy => by
      rcases set_get h with ⟨rfl, _⟩ | ⟨_, z⟩
      · exact ⟨_, ei, rfl⟩
      · exact ⟨y, z, oy⟩
    obtain ⟨y, ej', oj'⟩ := at_ ej oj
    obtain ⟨y', ek', ok'⟩ := at_ ek ok
    exact S.sep j k y y' c hjk ej' ek' oj' ok' sj sk
theorem ss_app (i : Nat) {x : Str} {apos cpos np : Pos} (he : SE X F0 H0 e f) (hN : X.N[i]? = some x := by rfl) (hv : Vis X.env.scope x := by first | exact Or.inl rfl | exact Or.inr (Or.inl rfl) | exact Or.inr (Or.inr rfl)) (hd : (x == ("__debug__" : Str)) = false := by decide)
    (hcd : (x == ("__classdict__" : Str)) = false := by decide) (hbase : attributeBase (.Name x np) "append" X.env (eval (.Name x np) X.env) = eval (.Name x np) X.env := by rfl)
    (hfew : ((backTo cpos (starEach [e] X.env)).all (fun x => !x.1) && (backToKw cpos (keywordEach [] X.env)).all (fun x => x.1.isSome)
      && decide ([e].length + ([] : List Keyword).length + (if ([] : List Keyword).isEmpty then 0 else 1) < 30)) = true := by rfl)
    (hline : (apos.endLine == cpos.line) = true := by rfl) (hst : starEach [e] X.env = (false, eval e X.env) :: starEach [] X.env := by rfl) (hplain : (backTo cpos (starEach [] X.env)).any (·.1) = false := by rfl)
    (hs : swapsWith (.Call (.Attribute (.Name x np) "append" apos) [e] [] cpos) none pos.line X.env = pure false := by rfl) :
    SS X F0 H0 (.Expr (.Call (.Attribute (.Name x np) "append" apos) [e] [] cpos) pos) (sApp i f) := by
  intro pins s σ F H ρ D S I h
  unfold sApp at h
  cases ew : ρ[i]? with
  | none => rw [ew] at h; exact h.elim
  | some w =>
    rw [ew] at h
    cases w with
    | none => exact h.elim
    | some w =>
      cases w with
      | fz d => exact h.elim
      | br d => exact h.elim
      | lk d => exact h.elim
      | ow d =>
        cases d <;> first | exact h.elim | skip
        rename_i ds
        have h := KE.bind (PostS.of h)
        obtain ⟨v, e1, a, o, rfl, h0, hf, hh, ro⟩ := S.val i _ ew
        cases o <;> first | exact ro.elim | skip
        rename_i vs
        have P := ps_expr (pos := pos) (pe_bm (X := X) PySem.F.plainAttrs_list PySem.F.slot_list_append PySem.F.type_list_append mt_append (pe_var (pos := np) hN hv hd hcd) (pa_cons (pe_sem (e := e)) pa_nil hst) hbase hfew hline hst hplain) hs
        refine P pins s σ H D I ⟨_, e1, .inl ⟨rfl, vs, SqL.of hh⟩, he.sem S (h.imp fun w k y F1 H1 g1 q1 => ?_)⟩
        cases es : w.st with
        | exc x => rw [es] at k; exact k.elim
        | stuck => rw [es] at k; exact k.elim
        | ok d =>
          rw [es] at k
          have ry := Vok.st S.s g1 q1 es
          obtain ⟨g2, _⟩ := fzAll_gr S.s g1
          have lv : vs.length = ds.length := Reps.length ro
          by_cases c : ds.length < sz
          · have k2 : PostS X F0 H0 F D (.nx (ρ.set i (some (.ow (.lst (ds ++ [d])))))) := by simpa [if_pos c, KE] using k
            refine ⟨a, vs, y, rfl, rfl, g1.h _ _ hh, by rw [lv, ← sz_eq]; exact c, ?_⟩
            exact k2 σ _ _ g2.f ((S.grow g2).mut ew e1 (o := .lst (vs ++ [y])) (Reps.append (Reps.le g2.f _ ro) (Reps.one ry)))
          · have : False := by simpa [if_neg c, PostS, KE] using k
            exact this.elim
end
end L3

namespace L3
open PySem PySem.Spec PyProof.Rows L2

/-! ### while -/
section
variable {X : Cx} {F0 H0 : Hp} {pos : Pos} {t : TF} {p : SF}
theorem ss_while (n : Nat) {c : Expr} {body : List Stmt} (hp : PassesOwn (model X.prog X.w) X.A X.env X.xe) (hc : ST X F0 H0 c t) (hb : SSs X F0 H0 body p) : SS X F0 H0 (.While c body [] pos) (sWhile n t p) := by
  intro pins s σ F H ρ D S I h
  refine ps_while hp (pt_sem (e := c)) (pss_sem (st := body)) pins s σ H D I
    ⟨fun m σ H => ∃ F' ρ, Le F F' ∧ StOk (kx X) F0 H0 F' H ρ σ ∧ PostS X F0 H0 F' D (whileD t p m ρ), ⟨n, F, ρ, Le.refl, S, h⟩, ?_⟩
  rintro m σ1 H1 ⟨F1, ρ1, l1, S1, h1⟩
  cases m with
  | zero => exact h1.elim
  | succ m =>
    intro pins' s' I'
    refine hc pins' s' σ1 F1 H1 ρ1 _ S1 I' ((PostS.of h1).imp fun b k F2 H2 s2 g2 I2 => ⟨H2, I2, ?_⟩)
    cases b with
    | false => exact k σ1 F2 H2 g2.f (S1.grow g2)
    | true =>
      show ∃ N : St → Hp → Prop, _
      refine ⟨fun σ' H' => ∃ F' ρ, Le F F' ∧ StOk (kx X) F0 H0 F' H' ρ σ' ∧ PostS X F0 H0 F' D (whileD t p m ρ), fun σ' H' q => ⟨m, Nat.lt_succ_self m, q⟩, fun pins3 s3 I3 => ?_⟩
      refine hb pins3 s3 σ1 F2 H2 ρ1 _ (S1.grow g2) I3 ?_
      have k : PostS X F0 H0 F1 D (match p ρ1 with | .nx ρ2 => whileD t p m ρ2 | .ct ρ2 => whileD t p m ρ2 | .bk ρ2 => .nx ρ2 | o => o) := k
      cases ep : p ρ1 with
      | nx ρ2 => rw [ep] at k; exact fun σ' F' H' l S' => ⟨F', ρ2, Le.trans l1 (Le.trans g2.f l), S', PostS.le (Le.trans g2.f l) k⟩
      | ct ρ2 => rw [ep] at k; exact fun σ' F' H' l S' => ⟨F', ρ2, Le.trans l1 (Le.trans g2.f l), S', PostS.le (Le.trans g2.f l) k⟩
      | bk ρ2 => rw [ep] at k; exact fun σ' F' H' l S' => k σ' F' H' (Le.trans g2.f l) S'
      | rt w => rw [ep] at k; exact k
      | exc x => rw [ep] at k; exact k
      | stuck => rw [ep] at k; exact k
end

/-! ### for -/
/-- an iterator that gives these items, whatever grows -/
structure Walk (κ : Kx) (J : It) (F1 G : Hp) (ds : List D) : Prop where
  go : ∀ (i : Nat) (d : D) (F H : Hp), ds[i]? = some d → Le F1 F → Le F H → Le G H → J.go i H ∧ ∀ x H', J.yld i H x H' → ∃ F', Gr F H F' H' ∧ Rep κ F' x d
  stop : ∀ (i : Nat) (F H : Hp), ds.length ≤ i → Le F1 F → Le F H → Le G H → J.stop i H
theorem Walk.more {κ : Kx} {J : It} {F1 G G' : Hp} {ds : List D} (W : Walk κ J F1 G ds) (l : Le G G') : Walk κ J F1 G' ds :=
  ⟨fun i d F H e l1 l2 l3 => W.go i d F H e l1 l2 (Le.trans l l3), fun i F H e l1 l2 l3 => W.stop i F H e l1 l2 (Le.trans l l3)⟩
def SI (X : Cx) (F0 H0 : Hp) (tg iter : Expr) (fi : IF) : Prop :=
  ∃ wi, PI X tg iter wi ∧ ∀ (σ : St) (F H : Hp) (ρ : Rho) (R : It → Hp → Prop), StOk (kx X) F0 H0 F H ρ σ →
    KE (XP X F0 H0) (fi ρ) (fun ds => ∀ F1 H1 J, Gr F H F1 H1 → Walk (kx X) J F1 H0 ds → R J H1) → wi σ H R
/-- the same for a comprehension: what is there stays -/
def SIc (X : Cx) (F0 H0 : Hp) (tg iter : Expr) (fi : IF) : Prop :=
  ∃ wi, PI X tg iter wi ∧ ∀ (σ : St) (F H : Hp) (ρ : Rho) (R : It → Hp → Prop), StOk (kx X) F0 H0 F H ρ σ →
    KE (XP X F0 H0) (fi ρ) (fun ds => ∀ F1 H1 J, Gr F H F1 H1 → Walk (kx X) J F1 H1 ds → R J H1) → wi σ H R
theorem SI.c {X : Cx} {F0 H0 : Hp} {tg iter : Expr} {fi : IF} (h : SI X F0 H0 tg iter fi) : SIc X F0 H0 tg iter fi := by
  obtain ⟨wi, P, k⟩ := h
  exact ⟨wi, P, fun σ F H ρ R S q => k σ F H ρ R S (q.imp fun ds z F1 H1 J g W => z F1 H1 J g (W.more (Le.trans S.gr.h g.h)))⟩
def SG (X : Cx) (F0 H0 : Hp) (tg : Expr) (gf : GF) : Prop :=
  ∃ tgv, PG X tg tgv ∧ ∀ (σ : St) (F H : Hp) (ρ : Rho) (v : V) (d : D) (Q : St → Hp → Prop), StOk (kx X) F0 H0 F H ρ σ → Rep (kx X) F v d →
    KE (fun _ => False) (gf d ρ) (fun ρ1 => ∀ σ1, StOk (kx X) F0 H0 F H ρ1 σ1 → Q σ1 H) → tgv v σ H Q
section
variable {X : Cx} {F0 H0 : Hp} {pos : Pos} {tg iter : Expr} {fi : IF} {gf : GF} {p : SF} {f : EF}
theorem sg_name (i : Nat) {x : Str} (hN : X.N.Nodup) (hi : X.N[i]? = some x := by rfl) (hx : Loc X.env.scope x := by first | exact Or.inl rfl | exact Or.inr rfl)
    (hf : X.fn x = true ∨ X.env.scope.names.lookup x = some .local := by first | exact .inl rfl | exact .inr rfl | assumption) : SG X F0 H0 (.Name x pos) (gV i) :=
  ⟨_, pg_name hN hi hx hf, fun σ F H ρ v d Q S r h => h _ (S.setF r)⟩
theorem gVs_ok {F H : Hp} {Q : St → Hp → Prop} : ∀ (is : List Nat) (ds : List D) (vs : List V) (ρ : Rho) (σ : St), StOk (kx X) F0 H0 F H ρ σ → Reps (kx X) F vs ds →
    KE (fun _ => False) (gVs is ds ρ) (fun ρ1 => ∀ σ1, StOk (kx X) F0 H0 F H ρ1 σ1 → Q σ1 H) → Q (List.foldl (fun s (iv : Nat × V) => s.set iv.1 (some iv.2)) σ (is.zip vs)) H ∧ is.length = vs.length
  | [], [], vs, ρ, σ, S, r, h => by cases (show vs = [] from r); exact ⟨h σ S, rfl⟩
  | [], _ :: _, _, _, _, _, _, h => h.elim
  | _ :: _, [], _, _, _, _, _, h => h.elim
  | i :: is, d :: ds, _, ρ, σ, S, r, h => by
    obtain ⟨v, vr, rfl, r1, r2⟩ := r
    obtain ⟨q1, q2⟩ := gVs_ok is ds vr _ _ (S.setF (i := i) r1) r2 h
    exact ⟨q1, by simp [q2]⟩
/-- several names -/
def SGs (X : Cx) (es : List Expr) (is : List Nat) : Prop := PGs X es (fun vs σ H Q => is.length = vs.length ∧ Q (List.foldl (fun s (iv : Nat × V) => s.set iv.1 (some iv.2)) σ (is.zip vs)) H)
theorem sgs_nil : SGs X [] [] := by
  intro pins s σ H vs us Q I r h
  obtain ⟨e, q⟩ := h
  cases r with
  | nil => exact pgs_nil pins s σ H [] [] Q I .nil ⟨rfl, q⟩
  | cons _ _ => cases e
theorem sgs_cons (i : Nat) {x : Str} {xp : Pos} {es : List Expr} {is : List Nat} (hN : X.N.Nodup) (h : SGs X es is) (hi : X.N[i]? = some x := by rfl) (hx : Loc X.env.scope x := by first | exact Or.inl rfl | exact Or.inr rfl)
    (hf : X.fn x = true ∨ X.env.scope.names.lookup x = some .local := by first | exact .inl rfl | exact .inr rfl | assumption)
    (hs : (assignEach (.Name x xp :: es) X.env).map (·.2) = assign (.Name x xp) X.env :: (assignEach es X.env).map (·.2) := by rfl) : SGs X (.Name x xp :: es) (i :: is) := by
  intro pins s σ H vs us Q I r k
  obtain ⟨e, q⟩ := k
  cases r with
  | nil => cases e
  | cons r1 r2 => exact pgs_cons (pg_name hN hi hx hf) h hs pins s σ H _ _ Q I (.cons r1 r2) ⟨_, _, rfl, by simpa using e, q⟩
theorem sg_tup {es : List Expr} {k : Nat} {is : List Nat} (hc : X.calm = true) (h : SGs X es is) (hn : (assignEach es X.env).length = is.length := by rfl) (hst : (assignEach es X.env).findIdx? (·.1) = none := by rfl) : SG X F0 H0 (.Tuple es k pos) (gT is) := by
  refine ⟨_, pg_tup hc h hn hst, fun σ F H ρ v d Q S r w => ?_⟩
  cases d <;> first | exact w.elim | skip
  rename_i ds
  obtain ⟨a, vs, rfl, hq, rs⟩ := r
  obtain ⟨q1, q2⟩ := gVs_ok is ds vs ρ σ S rs w
  exact ⟨a, vs, rfl, SqT.le S.s hq, q2.symm, q2, q1⟩
/-- a, b = e -/
def sAsg (gf : GF) (f : EF) : SF := fun ρ => sOf ((f ρ).bind fun w => w.st.bind fun d => gf d ρ) .nx
theorem ss_asg {tg e : Expr} {gf : GF} (he : SE X F0 H0 e f) (hg : SG X F0 H0 tg gf) (hs : swapsWithSole [tg] e pos.line X.env = pure false := by rfl) (hw : swappedStores [tg] e X.env = pure none := by rfl)
    (h1 : (assignEach [tg] X.env).map (·.2) = [assign tg X.env] := by rfl) : SS X F0 H0 (.Assign [tg] e pos) (sAsg gf f) := by
  intro pins s σ F H ρ D S I h
  obtain ⟨tgv, PGv, hv⟩ := hg
  refine ps_asg (pe_sem (e := e)) PGv hs hw h1 pins s σ H D I (he.sem S ((KE.bind (PostS.of h)).imp fun w k v F1 H1 g1 q1 => ?_))
  cases es : w.st with
  | exc x => rw [es] at k; exact k.elim
  | stuck => rw [es] at k; exact k.elim
  | ok d =>
    rw [es] at k
    obtain ⟨g2, _⟩ := fzAll_gr S.s g1
    refine hv σ _ H1 ρ v d _ (S.grow g2) (Vok.st S.s g1 q1 es) (KE.impX k (fun ρ1 k2 σ1 S1 => k2 σ1 _ _ g2.f S1) fun _ z => z.elim)
theorem ss_for {body : List Stmt} (hp : PassesOwn (model X.prog X.w) X.A X.env X.xe) (hc : X.calm = true) (hi : SI X F0 H0 tg iter fi) (hg : SG X F0 H0 tg gf) (hb : SSs X F0 H0 body p)
    (hs : ∀ x, foldedSetIterable iter X.env x = pure x := by intro _; rfl) : SS X F0 H0 (.For tg iter body [] pos) (sFor fi gf p) := by
  intro pins s σ F H ρ D S I h
  obtain ⟨wi, PIv, hwi⟩ := hi
  obtain ⟨tgv, PGv, hgv⟩ := hg
  refine ps_for hp hc PIv PGv (pss_sem (st := body)) hs pins s σ H D I (hwi σ F H ρ _ S ((PostS.of h).imp fun ds k F1 H1 J g1 W => ?_))
  refine ⟨fun i m σ H => m = ds.length - i ∧ i ≤ ds.length ∧ ∃ F' ρ, Le F F' ∧ Le F1 F' ∧ StOk (kx X) F0 H0 F' H ρ σ ∧ PostS X F0 H0 F' D (forD gf p (ds.drop i) ρ),
    ⟨ds.length, by simp, Nat.zero_le _, F1, ρ, g1.f, Le.refl, S.grow g1, PostS.le g1.f (by simpa using k)⟩, ?_⟩
  rintro i m σ2 H2 ⟨rfl, hi, F2, ρ2, lF, l1, S2, h2⟩
  by_cases hlt : i < ds.length
  · have ed : ds[i]? = some ds[i] := by simp [hlt]
    have edr : ds.drop i = ds[i] :: ds.drop (i + 1) := List.drop_eq_getElem_cons hlt
    obtain ⟨go, yl⟩ := W.go i ds[i] F2 H2 ed l1 S2.s S2.gr.h
    refine .inr ⟨go, fun σ' H' => ∃ F' ρ, Le F F' ∧ Le F1 F' ∧ StOk (kx X) F0 H0 F' H' ρ σ' ∧ PostS X F0 H0 F' D (forD gf p (ds.drop (i + 1)) ρ), fun σ' H' q => ⟨ds.length - (i + 1), by omega, rfl, hlt, q⟩, fun x H' y => ?_⟩
    obtain ⟨F3, g3, rx⟩ := yl x H' y
    rw [edr] at h2
    have S3 := S2.grow g3
    refine hgv σ2 F3 H' ρ2 x ds[i] _ S3 rx ?_
    cases eg : gf ds[i] ρ2 with
    | exc e => unfold forD at h2; rw [eg] at h2; exact h2.elim
    | stuck => unfold forD at h2; rw [eg] at h2; exact h2.elim
    | ok ρ3 =>
      have h3 : PostS X F0 H0 F2 D (match p ρ3 with | .nx ρ4 => forD gf p (ds.drop (i + 1)) ρ4 | .ct ρ4 => forD gf p (ds.drop (i + 1)) ρ4 | .bk ρ4 => .nx ρ4 | o => o) := by
        unfold forD at h2; rw [eg] at h2; exact h2
      refine fun σ3 S4 pins3 s3 I3 => hb pins3 s3 σ3 F3 H' ρ3 _ S4 I3 ?_
      cases ep : p ρ3 with
      | nx ρ4 => rw [ep] at h3; exact fun σ' F' H' l S' => ⟨F', ρ4, Le.trans lF (Le.trans g3.f l), Le.trans l1 (Le.trans g3.f l), S', PostS.le (Le.trans g3.f l) h3⟩
      | ct ρ4 => rw [ep] at h3; exact fun σ' F' H' l S' => ⟨F', ρ4, Le.trans lF (Le.trans g3.f l), Le.trans l1 (Le.trans g3.f l), S', PostS.le (Le.trans g3.f l) h3⟩
      | bk ρ4 => rw [ep] at h3; exact fun σ' F' H' l S' => h3 σ' F' H' (Le.trans g3.f l) S'
      | rt w => rw [ep] at h3; exact h3
      | exc x => rw [ep] at h3; exact h3
      | stuck => rw [ep] at h3; exact h3
  · have e : i = ds.length := by omega
    subst e
    rw [List.drop_length] at h2
    exact .inl ⟨W.stop _ F2 H2 (Nat.le_refl _) l1 S2.s S2.gr.h, h2 σ2 F2 H2 Le.refl S2⟩

theorem walk_lst {κ : Kx} {F1 G : Hp} {a : Addr} {vs : List V} {ds : List D} (hq : SqL κ.K F1 a vs) (rs : Reps κ F1 vs ds) : Walk κ (Itl κ.K a) F1 G ds where
  go := fun i d F H ed l1 l _ => by
    obtain ⟨v, ev, rv⟩ := Reps.get rs ed
    have q := SqL.le l (SqL.le l1 hq)
    refine ⟨⟨vs, v, q, ev⟩, fun x H' y => ?_⟩
    obtain ⟨e, y⟩ := y
    subst e
    have := y vs q
    rw [ev] at this
    cases this
    exact ⟨F, Gr.refl l, Rep.le l1 d rv⟩
  stop := fun i F H hi l1 l _ => ⟨vs, SqL.le l (SqL.le l1 hq), by rw [Reps.length rs]; exact hi⟩
theorem walk_tup {κ : Kx} {F1 G : Hp} {a : Addr} {vs : List V} {ds : List D} (hq : SqT κ.K F1 a vs) (rs : Reps κ F1 vs ds) : Walk κ (Itt κ.K a) F1 G ds where
  go := fun i d F H ed l1 l _ => by
    obtain ⟨v, ev, rv⟩ := Reps.get rs ed
    have q := SqT.le l (SqT.le l1 hq)
    refine ⟨⟨vs, v, q, ev⟩, fun x H' y => ?_⟩
    obtain ⟨e, y⟩ := y
    subst e
    have := y vs q
    rw [ev] at this
    cases this
    exact ⟨F, Gr.refl l, Rep.le l1 d rv⟩
  stop := fun i F H hi l1 l _ => ⟨vs, SqT.le l (SqT.le l1 hq), by rw [Reps.length rs]; exact hi⟩
/-- a list that stands in G -/
theorem walk_brl {κ : Kx} {F1 G : Hp} {a : Addr} {vs : List V} {ds : List D} (hq : SqL κ.K G a vs) (rs : Reps κ F1 vs ds) : Walk κ (Itl κ.K a) F1 G ds where
  go := fun i d F H ed l1 l lg => by
    obtain ⟨v, ev, rv⟩ := Reps.get rs ed
    have q := SqL.le lg hq
    refine ⟨⟨vs, v, q, ev⟩, fun x H' y => ?_⟩
    obtain ⟨e, y⟩ := y
    subst e
    have := y vs q
    rw [ev] at this
    cases this
    exact ⟨F, Gr.refl l, Rep.le l1 d rv⟩
  stop := fun i F H hi l1 l lg => ⟨vs, SqL.le lg hq, by rw [Reps.length rs]; exact hi⟩
theorem PI.or {iter : Expr} {w1 w2 : TI} (h1 : PI X tg iter w1) (h2 : PI X tg iter w2) : PI X tg iter (fun σ H R => w1 σ H R ∨ w2 σ H R) := fun pins s σ H R I h => by
  rcases h with h | h
  · exact h1 pins s σ H R I h
  · exact h2 pins s σ H R I h
theorem si_seq {iter : Expr} (he : SE X F0 H0 iter f) : SI X F0 H0 tg iter (iSeq f) := by
  refine ⟨_, PI.or (pi_list (pe_sem (e := iter))) (pi_tup (pe_sem (e := iter))), fun σ F H ρ R S h => ?_⟩
  have h := KE.bind h
  cases ew : f ρ with
  | exc x => rw [ew] at h; exact h.elim
  | stuck => rw [ew] at h; exact h.elim
  | ok w =>
    rw [ew] at h
    cases es : w.st with
    | exc x => rw [KE_ok, es] at h; exact h.elim
    | stuck => rw [KE_ok, es] at h; exact h.elim
    | ok d =>
      rw [KE_ok, es] at h
      cases d <;> first | exact h.elim | skip
      · rename_i ds
        refine .inr (he.sem S ?_)
        rw [ew, KE_ok]
        intro v F1 H1 g1 q1
        obtain ⟨g2, _⟩ := fzAll_gr S.s g1
        obtain ⟨a, vs, rfl, hq, rs⟩ := Vok.st S.s g1 q1 es
        exact ⟨a, rfl, ⟨vs, SqT.le g2.s hq⟩, h _ H1 _ g2 (walk_tup (κ := kx X) hq rs)⟩
      · rename_i ds
        refine .inl (he.sem S ?_)
        rw [ew, KE_ok]
        intro v F1 H1 g1 q1
        obtain ⟨g2, _⟩ := fzAll_gr S.s g1
        obtain ⟨a, vs, rfl, hq, rs⟩ := Vok.st S.s g1 q1 es
        exact ⟨a, rfl, ⟨vs, SqL.le g2.s hq⟩, h _ H1 _ g2 (walk_lst (κ := kx X) hq rs)⟩
theorem si_var (i : Nat) {x : Str} {pos : Pos} (hN : X.N[i]? = some x := by rfl) (hv : Vis X.env.scope x := by first | exact Or.inl rfl | exact Or.inr (Or.inl rfl) | exact Or.inr (Or.inr rfl)) (hd : (x == ("__debug__" : Str)) = false := by decide)
    (hcd : (x == ("__classdict__" : Str)) = false := by decide) : SI X F0 H0 tg (.Name x pos) (iV i) := by
  refine ⟨_, PI.or (pi_list (pe_var (pos := pos) hN hv hd hcd)) (pi_tup (pe_var (pos := pos) hN hv hd hcd)), fun σ F H ρ R S h => ?_⟩
  unfold iV at h
  cases ew : ρ[i]? with
  | none => rw [ew] at h; exact h.elim
  | some w =>
    rw [ew] at h
    cases w with
    | none => exact h.elim
    | some w =>
      obtain ⟨v, e1, q⟩ := S.val i w ew
      cases w with
      | ow d => exact h.elim
      | lk d => exact h.elim
      | fz d =>
        cases d <;> first | exact h.elim | skip
        · obtain ⟨a, vs, rfl, hq, rs⟩ := q
          exact .inr ⟨_, e1, a, rfl, ⟨vs, SqT.le S.s hq⟩, h F H _ (Gr.refl S.s) (walk_tup (κ := kx X) hq rs)⟩
        · obtain ⟨a, vs, rfl, hq, rs⟩ := q
          exact .inl ⟨_, e1, a, rfl, ⟨vs, SqL.le S.s hq⟩, h F H _ (Gr.refl S.s) (walk_lst (κ := kx X) hq rs)⟩
      | br d =>
        obtain ⟨a, o, rfl, eh, ro⟩ := q
        cases d <;> first | exact h.elim | skip
        · cases o <;> exact ro.elim
        · cases o <;> first | exact ro.elim | skip
          exact .inl ⟨_, e1, a, rfl, ⟨_, SqL.of (S.gr.h _ _ eh)⟩, h F H _ (Gr.refl S.s) (walk_brl (κ := kx X) (SqL.of eh) ro)⟩
theorem sic_var (i : Nat) {x : Str} {pos : Pos} (hN : X.N[i]? = some x := by rfl) (hv : Vis X.env.scope x := by first | exact Or.inl rfl | exact Or.inr (Or.inl rfl) | exact Or.inr (Or.inr rfl)) (hd : (x == ("__debug__" : Str)) = false := by decide)
    (hcd : (x == ("__classdict__" : Str)) = false := by decide) : SIc X F0 H0 tg (.Name x pos) (iVc i) := by
  refine ⟨_, PI.or (pi_list (pe_var (pos := pos) hN hv hd hcd)) (pi_tup (pe_var (pos := pos) hN hv hd hcd)), fun σ F H ρ R S h => ?_⟩
  unfold iVc at h
  cases ew : ρ[i]? with
  | none => rw [ew] at h; exact h.elim
  | some w =>
    rw [ew] at h
    cases w with
    | none => exact h.elim
    | some w =>
      obtain ⟨v, e1, q⟩ := S.val i w ew
      have own : ∀ {d : D} {a : Addr} {o : HO}, v = .ref a → H a = some o → OwnO (kx X) F o d → KE (XP X F0 H0) (seqOf d) (fun ds => ∀ F1 H1 J, Gr F H F1 H1 → Walk (kx X) J F1 H1 ds → R J H1) →
          iList X.K (tVar i) σ H R ∨ iTup X.K (tVar i) σ H R := fun {d a o} ev eh ro h => by
        subst ev
        cases d <;> first | exact h.elim | skip
        · cases o <;> exact ro.elim
        · cases o <;> first | exact ro.elim | skip
          exact .inl ⟨_, e1, a, rfl, ⟨_, SqL.of eh⟩, h F H _ (Gr.refl S.s) (walk_brl (κ := kx X) (SqL.of eh) ro)⟩
      cases w with
      | ow d => obtain ⟨a, o, ev, _, _, eh, ro⟩ := q; exact own ev eh ro h
      | lk d => obtain ⟨a, o, ev, _, _, eh, ro⟩ := q; exact own ev eh ro h
      | br d => obtain ⟨a, o, ev, eh, ro⟩ := q; exact own ev (S.gr.h _ _ eh) ro h
      | fz d =>
        dsimp only at h
        cases d <;> first | exact h.elim | skip
        · obtain ⟨a, vs, rfl, hq, rs⟩ := q
          exact .inr ⟨_, e1, a, rfl, ⟨vs, SqT.le S.s hq⟩, h F H _ (Gr.refl S.s) (walk_tup (κ := kx X) hq rs)⟩
        · obtain ⟨a, vs, rfl, hq, rs⟩ := q
          exact .inl ⟨_, e1, a, rfl, ⟨vs, SqL.le S.s hq⟩, h F H _ (Gr.refl S.s) (walk_lst (κ := kx X) hq rs)⟩
/-- over a list -/
def iLst (e : EF) : IF := fun ρ => (e ρ).bind fun w => w.st.bind fun d => match d with
  | .lst xs => .ok xs
  | _ => .stuck
def iTpl (e : EF) : IF := fun ρ => (e ρ).bind fun w => w.st.bind fun d => match d with
  | .tup xs => .ok xs
  | _ => .stuck
theorem si_lst (he : SE X F0 H0 iter f) : SI X F0 H0 tg iter (iLst f) := by
  refine ⟨_, pi_list (pe_sem (e := iter)), fun σ F H ρ R S h => he.sem S ((KE.bind h).imp fun w k v F1 H1 g1 q1 => ?_)⟩
  cases es : w.st with
  | exc x => rw [es] at k; exact k.elim
  | stuck => rw [es] at k; exact k.elim
  | ok d =>
    rw [es] at k
    have r := Vok.st S.s g1 q1 es
    obtain ⟨g2, _⟩ := fzAll_gr S.s g1
    cases d <;> first | exact k.elim | skip
    rename_i ds
    obtain ⟨a, vs, rfl, hq, rs⟩ := r
    exact ⟨a, rfl, ⟨vs, SqL.le g2.s hq⟩, k _ H1 _ g2 (walk_lst (κ := kx X) hq rs)⟩
theorem si_tup (he : SE X F0 H0 iter f) : SI X F0 H0 tg iter (iTpl f) := by
  refine ⟨_, pi_tup (pe_sem (e := iter)), fun σ F H ρ R S h => he.sem S ((KE.bind h).imp fun w k v F1 H1 g1 q1 => ?_)⟩
  cases es : w.st with
  | exc x => rw [es] at k; exact k.elim
  | stuck => rw [es] at k; exact k.elim
  | ok d =>
    rw [es] at k
    have r := Vok.st S.s g1 q1 es
    obtain ⟨g2, _⟩ := fzAll_gr S.s g1
    cases d <;> first | exact k.elim | skip
    rename_i ds
    obtain ⟨a, vs, rfl, hq, rs⟩ := r
    exact ⟨a, rfl, ⟨vs, SqT.le g2.s hq⟩, k _ H1 _ g2 (walk_tup (κ := kx X) hq rs)⟩
theorem rngD_get : ∀ (n : Nat) (lo : Int) (i : Nat), (rngD lo n)[i]? = if i < n then some (.int (lo + i)) else none
  | 0, lo, i => by simp [rngD]
  | n + 1, lo, 0 => by simp [rngD]
  | n + 1, lo, i + 1 => by
    have := rngD_get n (lo + 1) i
    simp only [rngD, List.getElem?_cons_succ, this]
    by_cases h : i < n
    · rw [if_pos h, if_pos (by omega)]
      congr 2
      omega
    · rw [if_neg h, if_neg (by omega)]
theorem rngD_len : ∀ (n : Nat) (lo : Int), (rngD lo n).length = n
  | 0, _ => rfl
  | n + 1, lo => by simp [rngD, rngD_len n]
theorem walk_rng {κ : Kx} {F1 G : Hp} (lo : Int) (n : Nat) : Walk κ (Itr lo n) F1 G (rngD lo n) where
  go := fun i d F H ed l1 l _ => by
    rw [rngD_get] at ed
    by_cases h : i < n
    · rw [if_pos h] at ed
      cases ed
      refine ⟨h, fun x H' y => ?_⟩
      obtain ⟨e, y⟩ := y
      subst e y
      exact ⟨F, Gr.refl l, rfl⟩
    · rw [if_neg h] at ed; cases ed
  stop := fun i F H hi l1 l _ => by rw [rngD_len] at hi; exact hi
theorem si_range1 {a : Expr} {fa : EF} {np cp : Pos} (ha : SE X F0 H0 a fa) (hm : X.mg "range" = none) (hg : Gl X "range" := by rfl) (hs : starEach [a] X.env = [(false, eval a X.env)] := by rfl) : SI X F0 H0 tg (.Call (.Name "range" np) [a] [] cp) (iR1 fa) := by
  refine ⟨_, pi_range1 hg hm (pa_cons (pe_sem (e := a)) pa_nil hs) hs, fun σ F H ρ R S h => ha.sem S ((KE.bind h).imp fun w k v F1 H1 g1 q1 => ?_)⟩
  have r := Vok.rd q1
  revert k
  generalize w.d = d at r
  intro k
  cases d <;> first | exact k.elim | skip
  rename_i j
  dsimp only at k
  by_cases c : fits b62 j = true
  · rw [if_pos c] at k
    have p62 : (2 : Int) ^ 62 = 4611686018427387904 := by simp
    have c : -(2 ^ 62) ≤ j ∧ j < 2 ^ 62 := by
      rw [fits_iff, b62e] at c
      rw [p62]
      omega
    cases RdV.int r
    exact ⟨j, rfl, c.1, c.2, k F1 H1 _ g1 (walk_rng 0 j.toNat)⟩
  · rw [if_neg c] at k; exact k.elim
end

/-! ### defs -/
/-- the arguments as a callee has them -/
def Args (κ : Kx) (F H : Hp) : List V → List En → Prop
  | vs, [] => vs = []
  | vs, .fz d :: ws => ∃ v r, vs = v :: r ∧ Rep κ F v d ∧ Args κ F H r ws
  | vs, .br d :: ws => ∃ v r, vs = v :: r ∧ (∃ a o, v = .ref a ∧ H a = some o ∧ OwnO κ F o d) ∧ Args κ F H r ws
  | _, _ => False
/-- a def's promise: what den says of the data -/
def spD (κ : Kx) (dn : Den) (n : Nat) : Sp := fun vs H Q _ => vs.length = n ∧ ∃ F ws, Le F H ∧ Args κ F H vs ws ∧
  KE (fun _ => False) (dn ws) fun w => ∀ v F' H', Gr F H F' H' → Vok κ H F' H' v w → Q v H'
section
variable {P : Program} {w : World} {K : PySem.W.Frag} {mg : Str → Option Value} {base : Heap}
theorem args_st {κ : Kx} {F H : Hp} : ∀ {vs : List V} {ws : List En}, Args κ F H vs ws → ∀ (i : Nat) (w : En), (ws.map some)[i]? = some (some w) → ∃ v, (vs.map some)[i]? = some (some v) ∧ Eok κ H F H v w ∧ w.own = false
  | _, [], _, i, w, e => by simp at e
  | _, .fz d :: ws, h, 0, w, e => by
    obtain ⟨v, r, rfl, h1, h2⟩ := h
    simp at e; subst e
    exact ⟨v, rfl, h1, rfl⟩
  | _, .br d :: ws, h, 0, w, e => by
    obtain ⟨v, r, rfl, h1, h2⟩ := h
    simp at e; subst e
    exact ⟨v, rfl, h1, rfl⟩
  | _, .fz d :: ws, h, i + 1, w, e => by
    obtain ⟨v, r, rfl, h1, h2⟩ := h
    simpa using args_st h2 i w (by simpa using e)
  | _, .br d :: ws, h, i + 1, w, e => by
    obtain ⟨v, r, rfl, h1, h2⟩ := h
    simpa using args_st h2 i w (by simpa using e)
theorem args_len {κ : Kx} {F H : Hp} : ∀ {vs : List V} {ws : List En}, Args κ F H vs ws → vs.length = ws.length
  | _, [], h => by cases (show _ = _ from h); rfl
  | _, .fz d :: ws, h => by obtain ⟨v, r, rfl, h1, h2⟩ := h; simp [args_len h2]
  | _, .br d :: ws, h => by obtain ⟨v, r, rfl, h1, h2⟩ := h; simp [args_len h2]
theorem start_st {κ : Kx} {F H : Hp} {N : List Str} {vs : List V} {ws : List En} (l : Le F H) (h : Args κ F H vs ws) : StOk κ F H F H (ws.map some ++ List.replicate (N.length - ws.length) none) (L2.start N vs) := by
  have hl := args_len h
  have at_ : ∀ (i : Nat) (w : En), (ws.map some ++ List.replicate (N.length - ws.length) none)[i]? = some (some w) → (ws.map some)[i]? = some (some w) := fun i w e => by
    by_cases hi : i < ws.length
    · rwa [List.getElem?_append_left (by simpa using hi)] at e
    · rw [List.getElem?_append_right (by simpa using hi), List.getElem?_replicate] at e
      split at e <;> cases e
  refine ⟨Gr.refl l, by simp [L2.start, hl], fun i w e => ?_, fun i j w w' a hij ei ej oi oj si sj => ?_⟩
  · obtain ⟨v, e1, q, _⟩ := args_st h i w (at_ i w e)
    refine ⟨v, ?_, q⟩
    unfold L2.start
    have hi : i < vs.length := by have := (List.getElem?_eq_some_iff.mp e1).1; simpa using this
    rw [List.getElem?_append_left (by simpa using hi)]
    exact e1
  · obtain ⟨v, _, _, z⟩ := args_st h i w (at_ i w ei)
    rw [oi] at z; cases z
/-- THE RULE for a def: its body's meaning is its promise -/
theorem fnD {x qual : Str} {st : Stmt} {f : Addr} {fd : FuncData} {N ps : List Str} {k : Nat} {body : SF} (F : Fun K x qual st f fd) (S : FnScope N ps (defScope st))
    (h : ∀ (cdv : Value) (A : Around) (outer : List Env) (s : Shared) (H F0 : Hp), Room k (A.deeper (envOfC qual (defScope st) s.heap.objs.size f cdv)) →
      SSs (cxOf CX0 P w K mg base N qual (defScope st) f cdv A outer s H E0).nox F0 H (defBody st) body) : FnOk P w K mg base CX0 (k + 1) f fd ps (spD ⟨P, w, K⟩ (den N.length body) ps.length) := by
  refine F.ok S (fun vs H Q E q => q.1) (fun cdv A outer s H vs Q E hr q => ?_)
  obtain ⟨hl, F0, ws, l, ha, q⟩ := q
  refine ⟨tSemS _ _, pss_sem, fun pins s' I => ?_⟩
  have B := h cdv A outer s H F0 hr
  have B' : SSs (cxOf CX0 P w K mg base N qual (defScope st) f cdv A outer s H E).nox F0 H (defBody st) body := B
  refine B' pins s' (L2.start N vs) F0 H _ _ (start_st (N := N) l ha) I ?_
  have e : KE (fun _ => False) (den N.length body ws) fun w' => ∀ v F' H', Gr F0 H F' H' → Vok ⟨P, w, K⟩ H F' H' v w' → Q v H' := q
  unfold den fin at e
  cases eb : body (ws.map some ++ List.replicate (N.length - ws.length) none) with
  | nx ρ => rw [eb] at e; exact fun σ' F' H' l' S' => e .non F' H' S'.gr rfl
  | rt w' => rw [eb] at e; exact e
  | bk ρ => rw [eb] at e; exact e.elim
  | ct ρ => rw [eb] at e; exact e.elim
  | exc x => rw [eb] at e; exact e.elim
  | stuck => rw [eb] at e; exact e.elim
end
section
variable {X : Cx} {F0 H0 : Hp} {pos p : Pos} {e : Expr} {es : List Expr} {fa : List EF} {x : Str} {k n : Nat} {f : Addr} {fd : FuncData} {ps : List Str} {dn : Den}
theorem argAll_ok {κ : Kx} {H F' H' : Hp} (s : Le F' H') : ∀ {vs : List V} {ws ys : List En}, Voks κ H F' H' vs ws → argAll ws = .ok ys → ∀ G, Le F' G → (∀ a o, H a = none → H' a = some o → G a = some o) → Args κ G H' vs ys
  | _, [], ys, h, e, G, l, lk => by cases e; exact h
  | _, w :: ws, ys, h, e, G, l, lk => by
    obtain ⟨v, r, rfl, h1, h2⟩ := h
    unfold argAll at e
    cases e1 : w.arg with
    | exc x => rw [e1] at e; cases e
    | stuck => rw [e1] at e; cases e
    | ok y =>
      cases e2 : argAll ws with
      | exc x => rw [e1, e2] at e; cases e
      | stuck => rw [e1, e2] at e; cases e
      | ok ys' =>
        rw [e1, e2] at e
        cases e
        have rest := argAll_ok s h2 e2 G l lk
        cases w with
        | fz d => cases e1; exact ⟨v, r, rfl, Rep.le l d h1, rest⟩
        | br d =>
          cases e1
          obtain ⟨a, o, ea, e2', ro⟩ := h1
          exact ⟨v, r, rfl, ⟨a, o, ea, e2', OwnO.le l ro⟩, rest⟩
        | lk d => cases e1
        | ow d =>
          cases e1
          obtain ⟨a, o, ea, e0, ef, e2', ro⟩ := h1
          have q := lk a o e0 e2'
          have ro := OwnO.le l ro
          refine ⟨v, r, rfl, ?_, rest⟩
          cases o <;> cases d <;> first
            | exact ro.elim
            | exact ⟨a, _, ea, .inl (.inl q), ro⟩
            | exact ⟨a, _, ea, .inl q, ro⟩
theorem evs_len : ∀ (fs : List EF) (ρ : Rho) (ws : List En), evs fs ρ = .ok ws → ws.length = fs.length
  | [], _, _, h => by cases h; rfl
  | a :: r, ρ, ws, h => by
    unfold evs at h
    cases ea : a ρ with
    | exc x => rw [ea] at h; cases h
    | stuck => rw [ea] at h; cases h
    | ok x =>
      cases er : evs r ρ with
      | exc x => rw [ea, er] at h; cases h
      | stuck => rw [ea, er] at h; cases h
      | ok xs => rw [ea, er] at h; cases h; simp [evs_len r ρ xs er]
theorem after_call {F H F1 H1 F2 H2 : Hp} (s : Le F H) (g1 : Gr F H F1 H1) (g2 : Gr (fzAll H F1 H1) H1 F2 H2) : Gr F H F2 H2 := (fzAll_gr s g1).1.trans g2
theorem se_call (G : FnOk X.prog X.w X.K X.mg X.base CX0 k f fd ps (spD (kx X) dn n)) (hr : Room k X.A) (hm : X.mg x = some (.ref f)) (hk : PySem.W.keepIn X.K (.ref f) = true) (hb : Binds X.K fd ps []) (ha : SA X F0 H0 (e :: es) fa)
    (hn : fa.length = n := by rfl)
    (hg : Gl X x := by rfl) (hdb : (x == ("__debug__" : Str)) = false := by decide) (he : starEach (e :: es) X.env = (false, eval e X.env) :: starEach es X.env := by rfl) (hpl : (backTo pos (starEach es X.env)).any (·.1) = false := by rfl) :
    SE X F0 H0 (.Call (.Name x p) (e :: es) [] pos) (eCall dn fa) := by
  intro pins s σ F H ρ Q S I h
  refine wpAny_Call_Name_kw (ld_glob I hg hm ?_ hdb)
  refine PySem.W.callWith_K (h₀ := X.base) I.ok.mod.kin hk (ha pos pins s σ F H ρ _ S I ?_) he hpl
  cases ef : evs fa ρ with
  | exc x => have h := KE.bind h; rw [ef] at h; exact h
  | stuck => have h := KE.bind h; rw [ef] at h; exact h
  | ok ws =>
    have h := KE.bind h
    rw [ef] at h
    intro vs us F1 H1 s1 g1 q1 r1 I1
    refine ⟨I1.kIn, ?_⟩
    have h : KE (XP X F0 H0) ((argAll ws).bind fun ys => dn ys) _ := h
    cases ea : argAll ws with
    | exc x => rw [ea] at h; exact h.elim
    | stuck => rw [ea] at h; exact h.elim
    | ok ys =>
      rw [ea] at h
      obtain ⟨g2, l2⟩ := fzAll_gr S.s g1
      have A := argAll_ok (κ := kx X) g1.s q1 ea (fzAll H F1 H1) l2 (fun a o e0 e2 => by unfold fzAll; rw [e0]; exact e2)
      have hl : vs.length = n := by
        rw [← hn, ← evs_len fa ρ ws ef]
        clear A ea h r1
        revert vs
        have : ∀ (ws : List En) (vs : List V), Voks (kx X) H F1 H1 vs ws → vs.length = ws.length := by
          intro ws
          induction ws with
          | nil => intro vs h; cases (show vs = [] from h); rfl
          | cons w ws ih =>
            intro vs h
            obtain ⟨v, r, rfl, _, h2⟩ := h
            simp [ih r h2]
        intro vs h
        exact this ws vs h
      refine ep_end (run_fn G hr hb (dvs := []) .nil pass0 I1 r1 ?_)
      rw [List.append_nil]
      refine ⟨hl, fzAll H F1 H1, ys, g2.s, A, KE.impX h (fun w k v F' H' g' q' u s' r' I' => ?_) fun _ z => z.elim⟩
      exact k v u F' H' s' (g2.trans g') (Vok.older (fun a e => Le.none g1.h e) q') r' I'
end
end L3

namespace L3
open PySem PySem.Spec PyProof.Rows L2

theorem hu10 {k : Nat} {A : Around} (hr : Room k A) : A.units + 10 < cLine := by have := hr.un; omega
section
variable {X : Cx} {F0 H0 : Hp} {pos p : Pos} {x : Str} {k : Nat} {f : Addr} {fd : FuncData} {dn : Den}
theorem se_call0 (G : FnOk X.prog X.w X.K X.mg X.base CX0 k f fd [] (spD (kx X) dn 0)) (hr : Room k X.A) (hm : X.mg x = some (.ref f)) (hk : PySem.W.keepIn X.K (.ref f) = true) (hb : Binds X.K fd [] [])
    (hg : Gl X x := by rfl) (hdb : (x == ("__debug__" : Str)) = false := by decide) : SE X F0 H0 (.Call (.Name x p) [] [] pos) (eCall dn []) := by
  intro pins s σ F H ρ Q S I h
  refine wpAny_Call_Name_kw (ld_glob I hg hm ?_ hdb)
  refine PySem.W.callWith_K0 I.kIn hk (ep_end (run_fn (us := []) G hr hb (dvs := []) .nil pass0 I .nil ?_))
  refine ⟨rfl, F, [], S.s, rfl, KE.impX h (fun w k v F' H' g' q' u s' r' I' => k v u F' H' s' g' q' r' I') fun _ z => z.elim⟩
/-! ### isinstance -/
def Ty.nm : Ty → String
  | .int => "int" | .bool => "bool" | .str => "str" | .list => "list" | .tuple => "tuple" | .dict => "dict"
def dTy : D → String
  | .non => "NoneType" | .bl _ => "bool" | .int _ => "int" | .str _ => "str" | .tup _ => "tuple" | .lst _ => "list" | .dK _ => "dict" | .dT _ => "dict" | .xc _ _ => "?"
theorem kit_ty (K : PySem.W.Frag) (d : D) (t : Ty) (h : ∀ c fs, d ≠ .xc c fs) : PySem.W.kitOne K (.type (dTy d)) (.type t.nm) = some (tyIs d t) := by
  cases d <;> first
    | exact absurd rfl (h _ _)
    | (cases t <;> first | rfl | kernel_rfl)
theorem isi_ok {pins : List (Addr × Obj)} {s : Shared} {σ : St} {F H : Hp} {v : V} {u : Value} {d : D} {t : Ty} {Q : Value → Shared → Prop} (I : Inv X pins σ H s) (l : Le F H) (r : RelV v u) (q : RdV (kx X) F H v d) (hx : ∀ c fs, d ≠ .xc c fs)
    (h : ∀ tk, Q (.bool (tyIs d t)) { s with toks := tk }) : wpAny (model X.prog X.w) X.A (call (.builtin "isinstance") [u, .type t.nm]) Q X.xe s := by
  have e := kit_ty X.K d t hx
  cases d with
  | non => cases RdV.non q; cases (show u = Value.none from r); exact PySem.W.kia_one PySem.W.kitx_none I.kIn True.intro e (fun z => nomatch z) h
  | bl b => cases RdV.bl q; cases (show u = Value.bool b from r); exact PySem.W.kia_one PySem.W.kitx_bool I.kIn True.intro e (fun z => nomatch z) h
  | int i => cases RdV.int q; obtain ⟨tk, rfl⟩ := (show ∃ tk, u = Value.int i tk from r); exact PySem.W.kia_one PySem.W.kitx_int I.kIn True.intro e (fun z => nomatch z) h
  | str y => cases RdV.str q; obtain ⟨tk, rfl⟩ := (show ∃ tk, u = Value.str y tk from r); exact PySem.W.kia_one PySem.W.kitx_str I.kIn True.intro e (fun z => nomatch z) h
  | tup ds =>
    obtain ⟨a, vs, rfl, hq, _, _⟩ := RdV.tup l q
    cases (show u = Value.ref a from r)
    obtain ⟨its, _, ⟨o, e1, e2, _⟩, _⟩ := I.tuple hq
    exact PySem.W.kia_one PySem.W.kitx_tuple I.kIn ⟨o, e1, e2⟩ e (fun z => nomatch z) h
  | lst ds =>
    obtain ⟨a, vs, rfl, hq, _⟩ := RdV.lst l q
    cases (show u = Value.ref a from r)
    obtain ⟨its, _, ⟨o, n, e1, e2, _⟩, _⟩ := I.list hq
    exact PySem.W.kia_one PySem.W.kitx_list I.kIn ⟨o, e1, e2⟩ e (fun z => nomatch z) h
  | dK ds =>
    obtain ⟨a, vs, rfl, hq, _⟩ := RdV.dK l q
    cases (show u = Value.ref a from r)
    obtain ⟨_, vs, _, o, es, ep, e1, e2, _⟩ := Inv.dictK I hq
    exact PySem.W.kia_one PySem.W.kitx_dict I.kIn ⟨o, e1, e2.1⟩ e (fun z => nomatch z) h
  | dT ds =>
    have hq : ∃ a kvs, v = .ref a ∧ Rd H a (.dT kvs) := by
      rcases q with ⟨a, vs, e, q, _⟩ | ⟨a, o, e, e2, r⟩
      · exact ⟨a, vs, e, Rd.le l q⟩
      · cases o <;> first | exact r.elim | exact ⟨a, _, e, .inl e2⟩
    obtain ⟨a, kvs, rfl, hq⟩ := hq
    cases (show u = Value.ref a from r)
    obtain ⟨_, _, xs, _, o, es, ep, e1, e2, _⟩ := hq.ok I.hok
    exact PySem.W.kia_one PySem.W.kitx_dict I.kIn ⟨o, e1, e2.1⟩ e (fun z => nomatch z) h
  | xc c fs => exact absurd rfl (hx c fs)
theorem boot_ty (t : Ty) : bootBuiltins t.nm = some (.type t.nm) := by cases t <;> decide +kernel
theorem se_isi (t : Ty) {e : Expr} {fe : EF} {p2 : Pos} (he : SE X F0 H0 e fe) (hm : X.mg "isinstance" = none) (hmt : X.mg t.nm = none) (hg : Gl X "isinstance" := by rfl) (hgt : Gl X t.nm := by rfl)
    (hnt : (Str.ofString t.nm) ≠ "__name__" := by decide) (hdt : ((Str.ofString t.nm) == ("__debug__" : Str)) = false := by decide)
    (hs1 : starEach [e, .Name t.nm p2] X.env = (false, eval e X.env) :: starEach [.Name t.nm p2] X.env := by rfl) (hs2 : starEach [.Name t.nm p2] X.env = [(false, eval (.Name t.nm p2) X.env)] := by rfl)
    (hpl : (backTo pos (starEach [.Name t.nm p2] X.env)).any (·.1) = false := by rfl) : SE X F0 H0 (.Call (.Name "isinstance" p) [e, .Name t.nm p2] [] pos) (eUn (dIs t) fe) := by
  intro pins s σ F H ρ Q S I h
  refine wpAny_Call_Name_kw (ld_blt I hg hm boot_isinstance ?_)
  refine PyProof.Rows.callWith_builtin1 ?_ hs1 hpl
  rw [hs1]
  refine Calls.spliced_cons (he pins s σ F H ρ _ S I ((KE.bind h).imp fun w k v u F' H' s' g q r I' => ?_))
  rw [hs2]
  refine Calls.spliced_cons (ld_blt I' hgt hmt (boot_ty t) (Calls.spliced_nil ?_) hnt hdt)
  have k2 : ∀ c fs, w.d ≠ .xc c fs := fun c fs e => by rw [e] at k; exact k.elim
  have k3 : KE (XP X F0 H0) (okB (tyIs w.d t)) fun w => ∀ v u F' H' s', Gr F H F' H' → Vok (kx X) H F' H' v w → RelV v u → Inv X pins σ H' s' → Q u s' := by
    revert k
    generalize w.d = d at *
    intro k
    cases d <;> first | exact k | exact absurd rfl (k2 _ _)
  exact isi_ok I' g.s r (Vok.rd q) k2 fun tk => k3 (.bl _) _ F' H' _ g rfl rfl (I'.tok tk)
/-! ### -i -/
def dNeg : D → R En
  | .int i => okI (-i)
  | _ => .stuck
theorem se_neg {e : Expr} {fe : EF} (he : SE X F0 H0 e fe) : SE X F0 H0 (.UnaryOp .USub e pos) (eUn dNeg fe) := by
  intro pins s σ F H ρ Q S I h
  refine UnaryOp_ (he pins s σ F H ρ _ S I ((KE.bind h).imp fun w k v u F' H' s' g q r I' => ?_))
  have q := Vok.rd q
  revert k
  generalize w.d = d at q
  intro k
  cases d <;> first | exact k.elim | skip
  cases RdV.int q
  obtain ⟨t, rfl⟩ := r
  exact PyProof.Rows.neg_int (k (.int _) _ F' H' _ g rfl ⟨_, rfl⟩ (I'.tok _))
/-! ### op= -/
def dAddI : D → D → R En
  | .int i, .int j => okI (i + j)
  | _, _ => .stuck
theorem od_addI : OpD X (binaryOp .Add) dAddI := opd_of op_add fun F H x y dx dy Q l qx qy w => by
  cases dx <;> first | exact w.elim | skip
  cases dy <;> first | exact w.elim | skip
  exact ⟨_, _, RdV.int qx, RdV.int qy, wish_fz l (v := .int _) w rfl⟩
end
/-! ### the law's own call -/
theorem reps_ints {κ : Kx} {F : Hp} : ∀ ns : List Int, Reps κ F (ns.map V.int) (ns.map D.int)
  | [] => rfl
  | n :: ns => ⟨.int n, ns.map V.int, rfl, rfl, reps_ints ns⟩
theorem law_end {κ : Kx} {H : Hp} {a : Addr} {E : XK} (dn : Den) (ns : List Int) (hS : SqL κ.K H a (ns.map V.int)) (h : dn [.fz (.lst (ns.map D.int))] = .ok (.fz (.bl true))) : spD κ dn 1 [.ref a] H (fun v _ => v = .bl true) E :=
  ⟨rfl, H, [.fz (.lst (ns.map D.int))], Le.refl, ⟨.ref a, [], rfl, ⟨a, _, rfl, hS, reps_ints ns⟩, rfl⟩, by rw [h]; exact fun v F' H' g q => q⟩
end L3

namespace L3
open PySem PySem.Spec PyProof.Rows L2
section
variable {X : Cx}
theorem oi_sub : OpD X (inplaceOp .Sub) dSub := opd_of iop_sub fun F H x y dx dy Q l qx qy w => by
  cases dx <;> first | exact w.elim | skip
  cases dy <;> first | exact w.elim | skip
  exact ⟨_, _, RdV.int qx, RdV.int qy, wish_fz l (v := .int _) w rfl⟩
theorem oi_addI : OpD X (inplaceOp .Add) dAddI := opd_of iop_add fun F H x y dx dy Q l qx qy w => by
  cases dx <;> first | exact w.elim | skip
  cases dy <;> first | exact w.elim | skip
  exact ⟨_, _, RdV.int qx, RdV.int qy, wish_fz l (v := .int _) w rfl⟩
end
/-! ### the module's constants: read off the written part -/
def optAll {α β : Type} (f : α → Option β) : List α → Option (List β)
  | [] => some []
  | x :: r => match f x with
    | some y => (match optAll f r with | some ys => some (y :: ys) | none => none)
    | none => none
theorem optAll_cons {α β : Type} {f : α → Option β} {x : α} {r : List α} {l : List β} (h : optAll f (x :: r) = some l) : ∃ y ys, f x = some y ∧ optAll f r = some ys ∧ l = y :: ys := by
  unfold optAll at h
  cases e : f x with
  | none => rw [e] at h; cases h
  | some y =>
    cases e2 : optAll f r with
    | none => rw [e, e2] at h; cases h
    | some ys => rw [e, e2] at h; cases h; exact ⟨y, ys, rfl, rfl, rfl⟩
def datIn (K : PySem.W.Frag) : Nat → Value → Option D
  | 0, _ => none
  | n + 1, v => match v with
    | .none => some .non
    | .bool b => some (.bl b)
    | .int i _ => some (.int i)
    | .str x _ => some (.str x)
    | .ref a => (match K.lookup a with
      | some o => (match o.data with
        | .seq its _ =>
          if its.size ≤ 100000 then
            (if o.cls == .type "tuple" then (optAll (datIn K n) its.toList).map .tup
            else if o.cls == .type "list" && o.dict == none then (optAll (datIn K n) its.toList).map .lst else none)
          else none
        | .dict es _ =>
          if o.cls == .type "dict" && o.dict == none && o.slots.size == 0 && !(a == sysModules) then
            (match optAll (fun e : DictEntry => match e.key with
              | .int i _ => if e.hash = hashInt i then (datIn K n e.val).map fun d => ((Sum.inl i : Sum Int Str), d) else none
              | _ => none) es.toList with
            | some l => if (l.map (·.1)).Nodup then some (.dK l) else none
            | none => none)
          else none
        | _ => none)
      | none => none)
    | _ => none
theorem datIn_ok {κ : Kx} : ∀ (n : Nat) (v : Value) (d : D), datIn κ.K n v = some d → ∃ x, RelV x v ∧ ∀ F, Rep κ F x d := by
  intro n
  induction n with
  | zero => intro v d h; cases h
  | succ n ih =>
    have all : ∀ (vs : List Value) (ds : List D), optAll (datIn κ.K n) vs = some ds → ∃ xs, Vals xs vs ∧ ∀ F, Reps κ F xs ds := by
      intro vs
      induction vs with
      | nil => intro ds h; cases h; exact ⟨[], .nil, fun _ => rfl⟩
      | cons v vs ihv =>
        intro ds h
        obtain ⟨d, ds', h1, h2, rfl⟩ := optAll_cons h
        obtain ⟨x, rx, qx⟩ := ih v d h1
        obtain ⟨xs, rs, qs⟩ := ihv ds' h2
        exact ⟨x :: xs, .cons rx rs, fun F => ⟨x, xs, rfl, qx F, qs F⟩⟩
    have allK : ∀ (es : List DictEntry) (l : List (Sum Int Str × D)), optAll (fun e : DictEntry => match e.key with
              | .int i _ => if e.hash = hashInt i then (datIn κ.K n e.val).map fun d => ((Sum.inl i : Sum Int Str), d) else none
              | _ => none) es = some l →
        ∃ kvs vs, KV kvs vs ∧ PySem.Pairs (mixKind κ.P κ.w) es vs ∧ vs.map (·.1) = l.map (·.1) ∧ (∀ e ∈ es, ∃ k, (mixKind κ.P κ.w).is k e.key = true ∧ e.hash = (mixKind κ.P κ.w).hash k) ∧ ∀ F, RepK κ F kvs l := by
      intro es
      induction es with
      | nil => intro l h; cases h; exact ⟨[], [], .nil, .nil, rfl, fun e he => (nomatch he), fun _ => rfl⟩
      | cons e es ihe =>
        intro l h
        obtain ⟨y, ys, h1, h2, rfl⟩ := optAll_cons h
        obtain ⟨kvs, vs, r1, r2, r3, r4, r5⟩ := ihe ys h2
        cases ek : e.key with
        | int i t =>
          rw [ek] at h1
          dsimp only at h1
          by_cases c : e.hash = hashInt i
          · rw [if_pos c] at h1
            cases ed : datIn κ.K n e.val with
            | none => rw [ed] at h1; cases h1
            | some d =>
              rw [ed] at h1
              cases h1
              obtain ⟨x, rx, qx⟩ := ih e.val d ed
              have hk : (mixKind κ.P κ.w).is (Sum.inl i) e.key = true := by rw [ek]; exact mixKind_int _ _ i t
              refine ⟨(Sum.inl i, x) :: kvs, (Sum.inl i, e.val) :: vs, .cons ⟨rfl, rx⟩ r1, .cons hk rfl r2, by simp [r3], fun e' he => ?_, fun F => ⟨x, kvs, rfl, qx F, r5 F⟩⟩
              rcases List.mem_cons.mp he with rfl | he
              · exact ⟨Sum.inl i, hk, c⟩
              · exact r4 e' he
          · rw [if_neg c] at h1; cases h1
        | _ => rw [ek] at h1; cases h1
    intro v d h
    unfold datIn at h
    cases v <;> first | (cases h; done) | skip
    · cases h; exact ⟨.non, rfl, fun _ => rfl⟩
    · cases h; exact ⟨.bl _, rfl, fun _ => rfl⟩
    · cases h; exact ⟨.int _, ⟨_, rfl⟩, fun _ => rfl⟩
    · cases h; exact ⟨.str _, ⟨_, rfl⟩, fun _ => rfl⟩
    · rename_i a
      dsimp only at h
      cases ek : κ.K.lookup a with
      | none => rw [ek] at h; cases h
      | some o =>
        rw [ek] at h
        dsimp only at h
        cases ed : o.data with
        | seq its m =>
          rw [ed] at h
          dsimp only at h
          by_cases c : its.size ≤ 100000
          · rw [if_pos c] at h
            have hz : its.size ≤ sizeLine := by rw [sizeLine_eq]; omega
            by_cases c1 : (o.cls == Value.type "tuple") = true
            · rw [if_pos c1] at h
              cases e2 : optAll (datIn κ.K n) its.toList with
              | none => rw [e2] at h; cases h
              | some ds =>
                rw [e2] at h
                cases h
                obtain ⟨xs, rs, qs⟩ := all its.toList ds e2
                exact ⟨.ref a, rfl, fun F => ⟨a, xs, rfl, .inr ⟨o, its, m, ek, by simpa using c1, ed, hz, rs⟩, qs F⟩⟩
            · rw [if_neg c1] at h
              by_cases c2 : (o.cls == Value.type "list" && o.dict == none) = true
              · rw [if_pos c2] at h
                rw [Bool.and_eq_true] at c2
                cases e2 : optAll (datIn κ.K n) its.toList with
                | none => rw [e2] at h; cases h
                | some ds =>
                  rw [e2] at h
                  cases h
                  obtain ⟨xs, rs, qs⟩ := all its.toList ds e2
                  exact ⟨.ref a, rfl, fun F => ⟨a, xs, rfl, .inr ⟨o, its, m, ek, by simpa using c2.1, by simpa using c2.2, ed, hz, rs⟩, qs F⟩⟩
              · rw [if_neg c2] at h; cases h
          · rw [if_neg c] at h; cases h
        | dict es ep =>
          rw [ed] at h
          dsimp only at h
          by_cases c : (o.cls == Value.type "dict" && o.dict == none && o.slots.size == 0 && !(a == sysModules)) = true
          · rw [if_pos c] at h
            simp only [Bool.and_eq_true] at c
            obtain ⟨⟨⟨c1, c2⟩, c3⟩, c4⟩ := c
            revert h
            generalize e2 : optAll _ es.toList = ol
            intro h
            cases ol with
            | none => cases h
            | some l =>
              dsimp only at h
              by_cases c5 : (l.map (·.1)).Nodup
              · rw [if_pos c5] at h
                cases h
                obtain ⟨kvs, vs, r1, r2, r3, r4, r5⟩ := allK es.toList l e2
                have hsl : o.slots = #[] := by
                  have : o.slots.size = 0 := by simpa using c3
                  exact Array.eq_empty_of_size_eq_zero this
                refine ⟨.ref a, rfl, fun F => ⟨a, kvs, rfl, .inr ⟨by simpa using c4, o, es, ep, vs, ek, ⟨by simpa using c1, by simpa using c2, hsl⟩, ed, fun e he => r4 e (by simpa using he), r2, by rw [r3]; exact c5, r1⟩, r5 F⟩⟩
              · rw [if_neg c5] at h; cases h
          · rw [if_neg c] at h; cases h
        | _ => rw [ed] at h; cases h
end L3

namespace L3
open PySem PySem.Spec PyProof.Rows L2

/-! ### comprehensions -/
def ro : Option En → Option En
  | some (.ow d) => some (.br d)
  | some (.lk d) => some (.br d)
  | o => o
def compD (gf : GF) (t : TF) (e : EF) : List D → Rho → R (List D)
  | [], _ => .ok []
  | d :: r, ρ => (gf d ρ).bind fun ρ1 => (t ρ1).bind fun b => if b = true then (e ρ1).bind fun w => w.st.bind fun y => (compD gf t e r ρ1).bind fun ys => .ok (y :: ys) else compD gf t e r ρ1
/-- n: the names that the comprehension has of its own -/
def cRho (n : Nat) (ρ : Rho) : Rho := ρ.map ro ++ List.replicate n none
def eComp (n : Nat) (it : IF) (gf : GF) (t : TF) (e : EF) : EF := fun ρ => (it ρ).bind fun ds => if ds.length ≤ sz then (compD gf t e ds (cRho n ρ)).bind fun ys => .ok (.ow (.lst ys)) else .stuck
def tTrue : TF := fun _ => .ok true

/-- one loop of a comprehension -/
theorem compLoop {prog : Program} {w : World} {A : Around} {R : Result → Shared → Prop} {s : Shared} {elt target iter : Expr} {ifs : List Expr} {scope : Scope} {pos : Pos} {it acc : Value} {env : Env} (I : Nat → Shared → Prop)
    (turn : ∀ n s, I n s → wpAny (model prog w) A (pyNext it) (fun r s₁ => match r with
      | none => R (.ok .next) s₁
      | some v => wpAny (model prog w) A (letOwnedTupleGo target it v) (fun _ s₀ => wpAny (model prog w) A (assign target env v) (fun _ s₂ =>
          wpAny (model prog w) A (forIn ifs true fun c r => if r = true then do let ok ← isTrue c env (eval c env); pure (ForInStep.yield ok) else pure (ForInStep.yield r)) (fun ok s₃ =>
            if ok = true then wpAny (model prog w) A (eval elt env) (fun x s₄ =>
              wpAny (model prog w) A (call (.builtin "list.append") [acc, x]) (fun _ s₅ => ∃ m, m < n ∧ I m s₅) (fun _ _ => False) s₄) (fun _ _ => False) s₃
            else ∃ m, m < n ∧ I m s₃) (fun _ _ => False) s₂) (fun _ _ => False) s₀) (fun _ _ => False) s₁) (fun _ _ => False) s)
    (n : Nat) (h : I n s) : codeAny (model prog w) A (.compLoop (.ListComp elt [⟨target, iter, ifs, 0⟩] scope pos) 0 it acc env) R s := by
  refine codeAny_loop rfl I (fun n s hI => ?_) n h
  show wpAny _ A ((compTurn (.ListComp elt [⟨target, iter, ifs, 0⟩] scope pos) 0 it acc env).onRaise (fun x => do noteFrame x env; theTreesLotGoes x)) _ _ s
  refine wpAny_noted ?_
  rw [compTurn_list]
  refine wpAny_bind (wpAny_standAt (wpAny_bind (wpAny_mono (turn n s hI) (fun r s₁ h₁ => ?_) fun _ _ h' => h'.elim)))
  cases r with
  | none => exact wpAny_pure h₁
  | some v =>
    refine wpAny_bind (wpAny_mono h₁ (fun _ s₀ h₀ => wpAny_bind (wpAny_mono h₀ (fun _ s₂ h₂ => wpAny_bind (wpAny_mono h₂ (fun ok s₃ h₃ => ?_) fun _ _ h' => h'.elim)) fun _ _ h' => h'.elim)) fun _ _ h' => h'.elim)
    cases ok with
    | false => exact wpAny_pure ⟨rfl, h₃⟩
    | true => exact wpAny_bind (wpAny_bind (wpAny_mono h₃ (fun x s₄ h₄ => wpAny_bind (wpAny_mono h₄ (fun _ s₅ h₅ => wpAny_pure (wpAny_pure ⟨rfl, h₅⟩)) fun _ _ h' => h'.elim)) fun _ _ h' => h'.elim))

/-- what a comprehension's scope takes from around it -/
def Cap (env : Env) (cl : List (Str × Addr)) : List (Str × NameKind) → Prop
  | [] => True
  | (n, k) :: r => (k ≠ .cell ∧ (k = .free → env.kindOf n = some .cell ∧ cl.lookup n = env.cells.lookup n)) ∧ Cap env cl r
def ClIn (env : Env) : List (Str × Addr) → Prop
  | [] => True
  | (n, c) :: r => env.cells.lookup n = some c ∧ ClIn env r
theorem ClIn.look {env : Env} : ∀ {cl : List (Str × Addr)}, ClIn env cl → ∀ {x c}, cl.lookup x = some c → env.cells.lookup x = some c
  | [], _, x, c, h => by simp at h
  | (n, a) :: r, q, x, c, h => by
    obtain ⟨q1, q2⟩ := q
    by_cases e : x = n
    · subst e
      simp [List.lookup] at h
      subst h
      exact q1
    · have : (x == n) = false := by simpa using e
      simp [List.lookup, this] at h
      exact ClIn.look q2 h
theorem Cap.mem {env : Env} {cl : List (Str × Addr)} : ∀ {names : List (Str × NameKind)}, Cap env cl names → ∀ y ∈ names, y.2 ≠ .cell ∧ (y.2 = .free → env.kindOf y.1 = some .cell ∧ cl.lookup y.1 = env.cells.lookup y.1)
  | [], _, y, hy => by cases hy
  | (n, k) :: r, h, y, hy => by
    rcases List.mem_cons.mp hy with rfl | hy
    · exact h.1
    · exact Cap.mem h.2 y hy
theorem relabel_free {env : Env} : ∀ {names : List (Str × NameKind)} {x : Str}, (∀ y ∈ names, y.2 ≠ .cell) →
    ((names.map fun (n, k) => if (k == NameKind.free && env.scope.kind == .function && env.kindOf n == some .cell) then (n, NameKind.cell) else (n, k)).lookup x = some .cell ∨
     (names.map fun (n, k) => if (k == NameKind.free && env.scope.kind == .function && env.kindOf n == some .cell) then (n, NameKind.cell) else (n, k)).lookup x = some .free) → (x, NameKind.free) ∈ names
  | [], _, _, h => by rcases h with h | h <;> simp at h
  | (n, k) :: r, x, hc, h => by
    have ih := @relabel_free env r x (fun y hy => hc y (List.mem_cons_of_mem _ hy))
    have hk := hc (n, k) List.mem_cons_self
    rw [List.map_cons] at h
    by_cases hx : x = n
    · subst hx
      by_cases q : (k == NameKind.free && env.scope.kind == .function && env.kindOf x == some .cell) = true
      · have : k = .free := by
          simp only [Bool.and_eq_true] at q
          simpa using q.1.1
        subst this
        exact List.mem_cons_self
      · dsimp only at h
        rw [if_neg q] at h
        simp only [List.lookup, beq_self_eq_true] at h
        rcases h with h | h
        · cases h; exact absurd rfl hk
        · cases h; exact List.mem_cons_self
    · have hb : (x == n) = false := by simpa using hx
      refine List.mem_cons_of_mem _ (ih ?_)
      dsimp only at h
      by_cases q : (k == NameKind.free && env.scope.kind == .function && env.kindOf n == some .cell) = true
      · rw [if_pos q] at h
        simpa only [List.lookup_cons, hb] using h
      · rw [if_neg q] at h
        simpa only [List.lookup_cons, hb] using h

/-- the context of a comprehension's block -/
def cxC (X : Cx) (s₂ : Shared) (H₂ : Hp) (scope : Scope) (cl : List (Str × Addr)) (C : Addr) (fp : List Addr) (N : List Str) : Cx where
  prog := X.prog
  w := X.w
  K := X.K
  mg := X.mg
  base := X.base
  A := X.A
  N := N
  s₀ := s₂
  H₀ := H₂
  env := compEnvC scope cl C X.env
  outer := X.stack
  stack := X.stack
  ex := fp
  fn := fun _ => false
  calm := X.calm
  pn := []
  xe := fun _ _ => False
/-- how the slots of the block's names go with the slots around it -/
def slotsB (sc : List (Str × NameKind)) : List Str → List Str → Bool
  | a :: as, b :: bs => (match sc.lookup b with | some .local => false | some .free => false | some .cell => a == b | _ => true) && slotsB sc as bs
  | [], _ => true
  | _ :: _, [] => true
def SlotsOk (sc : Scope) (M N : List Str) : Prop := ∀ (i : Nat) (x : Str), i < M.length → N[i]? = some x → Vis sc x → M[i]? = some x ∧ sc.names.lookup x = some .cell
theorem slots_ok {sc : Scope} : ∀ {M N : List Str}, slotsB sc.names M N = true → SlotsOk sc M N
  | [], _, _, i, x, hi, _, _ => by simp at hi
  | _ :: _, [], _, i, x, _, e, _ => by simp at e
  | a :: as, b :: bs, h, 0, x, _, e, v => by
    unfold slotsB at h
    rw [Bool.and_eq_true] at h
    simp at e
    subst e
    cases q : sc.names.lookup b with
    | none => rcases v with v | v | v <;> rw [q] at v <;> cases v
    | some k =>
      rw [q] at h
      rcases v with v | v | v
      · rw [q] at v; cases v; exact absurd h.1 Bool.false_ne_true
      · rw [q] at v; cases v
        have : a = b := by simpa using h.1
        subst this
        exact ⟨rfl, rfl⟩
      · rw [q] at v; cases v; exact absurd h.1 Bool.false_ne_true
  | a :: as, b :: bs, h, i + 1, x, hi, e, v => by
    unfold slotsB at h
    rw [Bool.and_eq_true] at h
    have := slots_ok h.2 i x (by simpa using hi) (by simpa using e) v
    exact ⟨by simpa using this.1, this.2⟩
theorem ro_st {κ : Kx} {F0 H0 F H : Hp} {ρ : Rho} {σ : St} (n : Nat) (S : StOk κ F0 H0 F H ρ σ) : StOk κ F H F H (cRho n ρ) (σ ++ List.replicate n none) := by
  have at_ : ∀ (i : Nat) (w : En), (cRho n ρ)[i]? = some (some w) → ∃ w', ρ[i]? = some (some w') ∧ ro (some w') = some w := fun i w e => by
    unfold cRho at e
    by_cases hi : i < ρ.length
    · rw [List.getElem?_append_left (by simpa using hi), List.getElem?_map] at e
      cases q : ρ[i]? with
      | none => rw [q] at e; cases e
      | some y =>
        rw [q] at e
        cases y with
        | none => cases e
        | some w' => exact ⟨w', rfl, by simpa using e⟩
    · rw [List.getElem?_append_right (by simpa using hi), List.getElem?_replicate] at e
      split at e <;> cases e
  refine ⟨Gr.refl S.s, by simp [cRho, S.len], fun i w e => ?_, fun i j w w' a hij ei ej oi oj si sj => ?_⟩
  · obtain ⟨w', e1, e2⟩ := at_ i w e
    obtain ⟨v, ev, q⟩ := S.val i w' e1
    have hi : i < σ.length := (List.getElem?_eq_some_iff.mp ev).1
    refine ⟨v, by rw [List.getElem?_append_left hi]; exact ev, ?_⟩
    cases w' with
    | fz d => cases e2; exact q
    | ow d => cases e2; obtain ⟨a, o, e, _, _, eh, r⟩ := q; exact ⟨a, o, e, eh, r⟩
    | lk d => cases e2; obtain ⟨a, o, e, _, _, eh, r⟩ := q; exact ⟨a, o, e, eh, r⟩
    | br d => cases e2; obtain ⟨a, o, e, eh, r⟩ := q; exact ⟨a, o, e, S.gr.h _ _ eh, r⟩
  · obtain ⟨w1, e1, e2⟩ := at_ i w ei
    cases w1 <;> cases e2 <;> cases oi
/-- a thing that no name has is changed -/
theorem StOk.side {κ : Kx} {F0 H0 F H : Hp} {ρ : Rho} {σ : St} {p : Addr} {o : HO} (S : StOk κ F0 H0 F H ρ σ) (h0 : H0 p = none) (hf : F p = none) (no : ∀ (i : Nat) (w : En), ρ[i]? = some (some w) → w.own = false) : StOk κ F0 H0 F (upd H p o) ρ σ := by
  refine ⟨⟨S.gr.f, fun a u h => ?_, fun a u h => ?_, S.gr.n⟩, S.len, fun i w e => ?_, S.sep⟩
  · rw [upd_ne (ne_of_none h h0)]; exact S.gr.h a u h
  · rw [upd_ne (ne_of_none h hf)]; exact S.gr.s a u h
  · obtain ⟨v, e1, q⟩ := S.val i w e
    refine ⟨v, e1, ?_⟩
    have := no i w e
    cases w with
    | fz d => exact q
    | br d => exact q
    | ow d => cases this
    | lk d => cases this
end L3

namespace L3
open PySem PySem.Spec PyProof.Rows L2
section
variable {X : Cx} {pins : List (Addr × Obj)} {σ : St} {H₂ : Hp} {s₂ : Shared} {fp : List Addr} {it : Addr} {tn : Nat → Heap → Prop} {J : It} {tg : Expr} {scope : Scope} {cl : List (Str × Addr)} {N : List Str} {n : Nat}
theorem block_ok (I2 : Inv X pins σ H₂ s₂) (T : Turn X.prog X.w X.K tg J fp it tn) (st : tn 0 s₂.heap) (f2 : ∀ b ∈ fp, FpOk X pins H₂ b) (hkind : scope.kind = .function) (hcap : Cap X.env cl scope.names) (hcl : ClIn X.env cl)
    {C : Addr} (hC : s₂.heap.objs.size ≤ C) : (cxC X s₂ H₂ scope cl C fp N).Ok := by
  have hfree : ∀ x, ((cxC X s₂ H₂ scope cl C fp N).env.kindOf x = some .cell ∨ (cxC X s₂ H₂ scope cl C fp N).env.kindOf x = some .free) → (x, NameKind.free) ∈ scope.names := fun x h =>
    relabel_free (env := X.env) (fun y hy => (Cap.mem hcap y hy).1) h
  refine ⟨I2.ok.mod, hkind, I2.ok.glob, I2.ok.blt, hC, fun x y c h1 h2 => I2.ok.inj x y c (ClIn.look hcl h1) (ClIn.look hcl h2), fun x hx => ?_, fun x c h => (by cases h), I2.ok.hd, I2.ok.frames, .inl rfl, fun b hb => ?_, I2.bs, Nat.le_trans I2.ok.bsz I2.sz, fun b o e hb => ?_, fun b hb z => ?_, I2.stack, I2.stkFree⟩
  · obtain ⟨q1, q2⟩ := (Cap.mem hcap _ (hfree x hx)).2 rfl
    obtain ⟨c, hc⟩ := I2.ok.has x (.inl q1)
    exact ⟨c, q2.trans hc⟩
  · obtain ⟨f0, f1, f3, f4, f5, f6⟩ := f2 b hb
    obtain ⟨o, ho, _⟩ := T.obj 0 _ st b hb
    exact ⟨Nat.ne_of_lt (Nat.lt_of_lt_of_le (Heap.lt_size ho) hC), fun x c e => f5 x c (ClIn.look hcl e)⟩
  · obtain ⟨f0, f1, f3, f4, f5, f6⟩ := f2 b hb
    rcases f4 with f4 | f4
    · exact I2.ok.noex b o e f4
    · exact absurd (Nat.lt_of_lt_of_le (Heap.lt_size (I2.ok.bs b o e).1) f4) (Nat.lt_irrefl _)
  · obtain ⟨f0, f1, f3, f4, f5, f6⟩ := f2 b hb
    rcases List.mem_cons.mp (I2.stkSub b z) with q | q
    · exact f1 q
    · exact f3 q
theorem block_start (I2 : Inv X pins σ H₂ s₂) (T : Turn X.prog X.w X.K tg J fp it tn) (st : tn 0 s₂.heap) (f2 : ∀ b ∈ fp, FpOk X pins H₂ b) (hkind : scope.kind = .function) (hcap : Cap X.env cl scope.names) (hcl : ClIn X.env cl)
    (hsl : SlotsOk (relabel scope X.env) X.N N) (hlen : N.length = X.N.length + n) {C tk : Nat} {h₁ : Heap} {m : Str → Option Value} (hC : s₂.heap.objs.size < C) (hns : h₁.Ns C m) (old : ∀ b o, s₂.heap.get? b = some o → h₁.get? b = some o)
    (hacc : h₁.get? s₂.heap.objs.size = some { cls := .type "list", data := .seq #[] 0 }) :
    Inv (cxC X s₂ H₂ scope cl C fp N) [] (σ ++ List.replicate n none) (upd H₂ s₂.heap.objs.size (.lst [])) { s₂ with heap := h₁, toks := tk } := by
  have hf : H₂ s₂.heap.objs.size = none := I2.hok.fresh (Nat.le_refl _)
  have hfC : H₂ C = none := I2.hok.fresh (Nat.le_of_lt hC)
  have cellOld : ∀ x c, X.env.cells.lookup x = some c → ∀ v, s₂.heap.IsCell c v → h₁.IsCell c v := fun x c _ v ⟨o, ho, hd⟩ => ⟨o, old _ _ ho, hd⟩
  have cne : ∀ x c, X.env.cells.lookup x = some c → c < s₂.heap.objs.size := fun x c e => by
    obtain ⟨v, o, ho, _⟩ := I2.cell x c e
    exact Heap.lt_size ho
  refine ⟨block_ok I2 T st f2 hkind hcap hcl (Nat.le_of_lt hC), rfl, I2.bare, Un.laid old (Nat.le_refl _) hf, ⟨m, hns, fun i x v e1 e2 e3 => ?_⟩, fun x c e => ?_, ?_, fun x c e => ?_, fun p hp => absurd (show p ∈ ([] : List (Addr × Obj)) from hp) (by simp), ?_, ?_⟩
  · have hi : i < σ.length := by
      by_cases hi : i < σ.length
      · exact hi
      · rw [List.getElem?_append_right (by omega), List.getElem?_replicate] at e2
        split at e2 <;> cases e2
    rw [List.getElem?_append_left hi] at e2
    obtain ⟨q1, q2⟩ := hsl i x (by rw [← I2.len]; exact hi) e1 e3
    have q3 : (x, NameKind.free) ∈ scope.names := relabel_free (env := X.env) (fun y hy => (Cap.mem hcap y hy).1) (.inl q2)
    obtain ⟨k1, k2⟩ := (Cap.mem hcap _ q3).2 rfl
    obtain ⟨m2, hn2, hl⟩ := I2.loc
    obtain ⟨u, ru, lk⟩ := hl i x v q1 e2 (.inr (.inl k1))
    refine ⟨u, ru, ?_⟩
    rcases lk with ⟨z, _⟩ | ⟨_, c, hc, hcell⟩
    · rw [show X.env.kindOf x = some .cell from k1] at z; cases z
    · exact .inr ⟨.inl q2, c, by show cl.lookup x = some c; exact k2.trans hc, cellOld x c hc _ hcell⟩
  · obtain ⟨v, q⟩ := I2.cell x c (ClIn.look hcl e)
    exact ⟨v, cellOld x c (ClIn.look hcl e) v q⟩
  · show upd H₂ s₂.heap.objs.size (.lst []) C = none
    rw [upd_ne (Nat.ne_of_gt hC)]; exact hfC
  · have := cne x c (ClIn.look hcl e)
    show upd H₂ s₂.heap.objs.size (.lst []) c = none
    rw [upd_ne (Nat.ne_of_lt this)]
    exact I2.freeC x c (ClIn.look hcl e)
  · exact I2.hok.laid old (Nat.le_refl _) ⟨Nat.zero_le _, [], 0, .nil, hacc⟩
  · simp [I2.len, hlen, cxC]

def NoOwn (ρ : Rho) : Prop := ∀ (i : Nat) (w : En), ρ[i]? = some (some w) → w.own = false
def KeepsNo (gf : GF) : Prop := ∀ d ρ ρ1, NoOwn ρ → gf d ρ = .ok ρ1 → NoOwn ρ1
theorem noOwn_set {ρ : Rho} (h : NoOwn ρ) (i : Nat) (d : D) : NoOwn (ρ.set i (some (.fz d))) := fun j w e => by
  rcases set_get e with ⟨_, z⟩ | ⟨_, z⟩
  · cases z; rfl
  · exact h j w z
theorem no_gV (i : Nat) : KeepsNo (gV i) := fun d ρ ρ1 h e => by cases e; exact noOwn_set h i d
theorem no_gVs : ∀ (is : List Nat) (ds : List D) (ρ ρ1 : Rho), NoOwn ρ → gVs is ds ρ = .ok ρ1 → NoOwn ρ1
  | [], [], ρ, ρ1, h, e => by cases e; exact h
  | [], _ :: _, _, _, _, e => by cases e
  | _ :: _, [], _, _, _, e => by cases e
  | i :: is, d :: ds, ρ, ρ1, h, e => no_gVs is ds _ ρ1 (noOwn_set h i d) e
theorem no_gT (is : List Nat) : KeepsNo (gT is) := fun d ρ ρ1 h e => by
  unfold gT at e
  cases d <;> first | (cases e; done) | exact no_gVs is _ ρ ρ1 h e
theorem noOwn_ro (n : Nat) (ρ : Rho) : NoOwn (cRho n ρ) := fun i w e => by
  unfold cRho at e
  by_cases hi : i < ρ.length
  · rw [List.getElem?_append_left (by simpa using hi), List.getElem?_map] at e
    cases q : ρ[i]? with
    | none => rw [q] at e; cases e
    | some y =>
      rw [q] at e
      cases y with
      | none => cases e
      | some w' => cases w' <;> (simp [ro] at e; subst e; rfl)
  · rw [List.getElem?_append_right (by simpa using hi), List.getElem?_replicate] at e
    split at e <;> cases e

/-- the tests of a comprehension: none or one -/
inductive Tests (X : Cx) (F0 H0 : Hp) : List Expr → TF → Prop
  | nil : Tests X F0 H0 [] tTrue
  | one {c : Expr} {t : TF} : ST X F0 H0 c t → Tests X F0 H0 [c] t
theorem tests_ok {X : Cx} {F0 H0 : Hp} {ifs : List Expr} {t : TF} (h : Tests X F0 H0 ifs t) {pins : List (Addr × Obj)} {s : Shared} {σ : St} {F H : Hp} {ρ : Rho} {Q : Bool → Shared → Prop} (S : StOk (kx X) F0 H0 F H ρ σ) (I : Inv X pins σ H s)
    (k : KE (XP X F0 H0) (t ρ) fun b => ∀ F' H' s', Gr F H F' H' → Inv X pins σ H' s' → Q b s') :
    wpAny (model X.prog X.w) X.A (forIn ifs true fun c r => if r = true then do let ok ← isTrue c X.env (eval c X.env); pure (ForInStep.yield ok) else pure (ForInStep.yield r)) Q X.xe s := by
  cases h with
  | nil => exact wpAny_tests_nil (k F H s (Gr.refl S.s) I)
  | one h => exact wpAny_tests_one (h pins s σ F H ρ Q S I k)

/-- the block of a comprehension runs: acc is at p, the frame at C -/
theorem block_run {X : Cx} {pins : List (Addr × Obj)} {σ : St} {F₂ H₂ : Hp} {s₂ s₄ : Shared} {fp : List Addr} {it : Addr} {tn : Nat → Heap → Prop} {J : It} {tg elt iter : Expr} {ifs : List Expr} {scope : Scope} {cl : List (Str × Addr)} {N : List Str} {C p : Addr}
    {σ' : St} {ρ' : Rho} {ds : List D} {pos : Pos} {gf : GF} {t : TF} {e : EF} {RR : Result → Shared → Prop} (l₂ : Le F₂ H₂) (T : Turn X.prog X.w X.K tg J fp it tn) (hc : X.calm = true) (st : tn 0 s₄.heap) (Wk : Walk (kx X) J F₂ H₂ ds)
    (hfp : ∀ b ∈ fp, FpOk (cxC X s₂ H₂ scope cl C fp N) [] (upd H₂ p (.lst [])) b) (hp : H₂ p = none) (I4 : Inv (cxC X s₂ H₂ scope cl C fp N) [] σ' (upd H₂ p (.lst [])) s₄) (S4 : StOk (kx X) F₂ H₂ F₂ H₂ ρ' σ') (no : NoOwn ρ') (hno : KeepsNo gf)
    (hg : SG (cxC X s₂ H₂ scope cl C fp N) F₂ H₂ tg gf) (ht : Tests (cxC X s₂ H₂ scope cl C fp N) F₂ H₂ ifs t) (he : SE (cxC X s₂ H₂ scope cl C fp N) F₂ H₂ elt e) (hsz : ds.length ≤ sz)
    (k : KE (fun _ => False) (compD gf t e ds ρ') fun ys => ∀ σ1 F1 H1 vs s1, Gr F₂ H₂ F1 H1 → F1 p = none → H1 p = some (.lst vs) → Reps (kx X) F1 vs ys → Inv (cxC X s₂ H₂ scope cl C fp N) [] σ1 H1 s1 → RR (.ok .next) s1) :
    codeAny (model X.prog X.w) X.A (.compLoop (.ListComp elt [⟨tg, iter, ifs, 0⟩] scope pos) 0 (.ref it) (.ref p) (compEnvC scope cl C X.env)) RR s₄ := by
  have stat : ∀ {H' : Hp}, (∀ b ∈ fp, H' b = none) → ∀ b ∈ fp, FpOk (cxC X s₂ H₂ scope cl C fp N) [] H' b := fun hn b hb => ⟨hn b hb, (hfp b hb).2⟩
  obtain ⟨tgv, PGv, hgv⟩ := hg
  refine compLoop (fun m s => ∃ i σ1 F1 H1 ρ1 vs, ∃ as : List D, m = ds.length - i ∧ i ≤ ds.length ∧ Inv (cxC X s₂ H₂ scope cl C fp N) [] σ1 H1 s ∧ tn i s.heap ∧ (∀ b ∈ fp, H1 b = none) ∧ StOk (kx X) F₂ H₂ F1 H1 ρ1 σ1 ∧ NoOwn ρ1 ∧
    F1 p = none ∧ H1 p = some (.lst vs) ∧ Reps (kx X) F1 vs as ∧ as.length ≤ i ∧
    KE (fun _ => False) (compD gf t e (ds.drop i) ρ1) (fun ys => ∀ σ1 F1 H1 vs s1, Gr F₂ H₂ F1 H1 → F1 p = none → H1 p = some (.lst vs) → Reps (kx X) F1 vs (as ++ ys) → Inv (cxC X s₂ H₂ scope cl C fp N) [] σ1 H1 s1 → RR (.ok .next) s1)) ?_ ds.length
    ⟨0, σ', F₂, upd H₂ p (.lst []), ρ', [], [], by simp, Nat.zero_le _, I4, st, fun b hb => (hfp b hb).1, S4.side hp (Le.none l₂ hp) no, no, Le.none l₂ hp, upd_same, rfl, Nat.le_refl _, by simpa using k⟩
  rintro m s ⟨i, σ1, F1, H1, ρ1, vs, as, rfl, hi, I1, st1, fr1, S1, no1, fp1, hp1, rs1, la, k1⟩
  by_cases hlt : i < ds.length
  · have ed : ds[i]? = some ds[i] := by simp [hlt]
    have edr : ds.drop i = ds[i] :: ds.drop (i + 1) := List.drop_eq_getElem_cons hlt
    obtain ⟨go, yl⟩ := Wk.go i ds[i] F1 H1 ed S1.gr.f S1.s S1.gr.h
    rw [edr] at k1
    refine thn (T.item (cxC X s₂ H₂ scope cl C fp N) rfl rfl rfl hc i [] s σ1 H1 _ I1 (stat fr1) st1 go) fun r s1' ⟨u, hr, h4⟩ => ?_
    subst hr
    refine thn h4 fun _ s5 ⟨x, H5, I5, r5, y5, st5, fr5⟩ => ?_
    obtain ⟨F5, g5, rx⟩ := yl x H5 y5
    have I5' := I5.pinned (stat fr5) (T.obj _ _ st5)
    have S5 := S1.grow g5
    have k1 := KE.bind k1
    cases eg : gf ds[i] ρ1 with
    | exc z => rw [eg] at k1; exact k1.elim
    | stuck => rw [eg] at k1; exact k1.elim
    | ok ρ2 =>
      rw [eg] at k1
      have no2 := hno _ _ _ no1 eg
      have k1 : KE (fun _ => False) (t ρ2) _ := KE.bind k1
      refine thn (PGv _ s5 σ1 H5 x u (fun σ6 H6 => H6 = H5 ∧ StOk (kx X) F₂ H₂ F5 H5 ρ2 σ6) I5' r5 (hgv σ1 F5 H5 ρ1 x ds[i] _ S5 rx (by rw [eg]; exact fun σ1 S => ⟨rfl, S⟩))) fun _ s6 ⟨σ6, H6, I6, e6, S6⟩ => ?_
      subst e6
      have again : ∀ {σ7 : St} {F7 H7 : Hp} {s7 : Shared} {vs7 : List V} {as7 : List D}, Inv (cxC X s₂ H₂ scope cl C fp N) ([] ++ pinsAt fp s5.heap) σ7 H7 s7 → StOk (kx X) F₂ H₂ F7 H7 ρ2 σ7 → F7 p = none → H7 p = some (.lst vs7) → Reps (kx X) F7 vs7 as7 → as7.length ≤ i + 1 →
          KE (fun _ => False) (compD gf t e (ds.drop (i + 1)) ρ2) (fun ys => ∀ σ1 F1 H1 vs s1, Gr F₂ H₂ F1 H1 → F1 p = none → H1 p = some (.lst vs) → Reps (kx X) F1 vs (as7 ++ ys) → Inv (cxC X s₂ H₂ scope cl C fp N) [] σ1 H1 s1 → RR (.ok .next) s1) →
          ∃ m, m < ds.length - i ∧ ∃ i σ1 F1 H1 ρ1 vs, ∃ (as : List D), m = ds.length - i ∧ i ≤ ds.length ∧ Inv (cxC X s₂ H₂ scope cl C fp N) [] σ1 H1 s7 ∧ tn i s7.heap ∧ (∀ b ∈ fp, H1 b = none) ∧ StOk (kx X) F₂ H₂ F1 H1 ρ1 σ1 ∧ NoOwn ρ1 ∧
            F1 p = none ∧ H1 p = some (.lst vs) ∧ Reps (kx X) F1 vs as ∧ as.length ≤ i ∧
            KE (fun _ => False) (compD gf t e (ds.drop i) ρ1) (fun ys => ∀ σ1 F1 H1 vs s1, Gr F₂ H₂ F1 H1 → F1 p = none → H1 p = some (.lst vs) → Reps (kx X) F1 vs (as ++ ys) → Inv (cxC X s₂ H₂ scope cl C fp N) [] σ1 H1 s1 → RR (.ok .next) s1) := by
        intro σ7 F7 H7 s7 vs7 as7 I7 S7 f7 h7 r7 l7 k7
        refine ⟨ds.length - (i + 1), by omega, i + 1, σ7, F7, H7, ρ2, vs7, as7, rfl, hlt, I7.unpinned, T.keep _ _ _ st5 fun b hb o e => (I7.pin (b, o) (List.mem_append_right _ (List.mem_append_right _ (mem_pinsAt hb e)))).1, fun b hb => ?_, S7, no2, f7, h7, r7, l7, k7⟩
        obtain ⟨o, e, d⟩ := T.obj _ _ st5 b hb
        exact (I7.pin (b, o) (List.mem_append_right _ (List.mem_append_right _ (mem_pinsAt hb e)))).2.1
      have nf5 : F5 p = none := by
        cases q : F5 p with
        | none => rfl
        | some z =>
          rcases g5.n p (by rw [q]; exact Option.some_ne_none _) with z | z
          · exact absurd fp1 z
          · rw [hp1] at z; cases z
      refine tests_ok ht S6 I6 (KE.impX k1 (fun b kb F7 H7 s7 g7 I7 => ?_) fun _ z => z)
      have nf7 : F7 p = none := by
        cases q : F7 p with
        | none => rfl
        | some z =>
          rcases g7.n p (by rw [q]; exact Option.some_ne_none _) with z | z
          · exact absurd nf5 z
          · rw [g5.h _ _ hp1] at z; cases z
      have hp7 : H7 p = some (.lst vs) := g7.h _ _ (g5.h _ _ hp1)
      have l17 : Le F1 F7 := Le.trans g5.f g7.f
      cases b with
      | false =>
        rw [if_neg Bool.false_ne_true]
        exact again I7 (S6.grow g7) nf7 hp7 (Reps.le l17 _ rs1) (by omega) kb
      | true =>
        rw [if_pos rfl]
        have kb : KE (fun _ => False) ((e ρ2).bind fun w => w.st.bind fun y => (compD gf t e (ds.drop (i + 1)) ρ2).bind fun ys => .ok (y :: ys)) _ := kb
        refine he _ s7 σ6 F7 H7 ρ2 _ (S6.grow g7) I7 (KE.impX (KE.bind kb) (fun wv kw v u F8 H8 s8 g8 q8 r8 I8 => ?_) fun _ z => z)
        cases es : wv.st with
        | exc z => rw [es] at kw; exact kw.elim
        | stuck => rw [es] at kw; exact kw.elim
        | ok y =>
          rw [es] at kw
          have kw : KE (fun _ => False) ((compD gf t e (ds.drop (i + 1)) ρ2).bind fun ys => .ok (y :: ys)) _ := kw
          have kw := KE.bind kw
          have ry := Vok.st g7.s g8 q8 es
          obtain ⟨g9, _⟩ := fzAll_gr g7.s g8
          have S9 := (S6.grow g7).grow g9
          have nf9 : fzAll H7 F8 H8 p = none := by
            cases q : fzAll H7 F8 H8 p with
            | none => rfl
            | some z =>
              rcases g9.n p (by rw [q]; exact Option.some_ne_none _) with z | z
              · exact absurd nf7 z
              · rw [hp7] at z; cases z
          have lv : vs.length = as.length := Reps.length rs1
          refine thn (mt_append (X := cxC X s₂ H₂ scope cl C fp N) _ s8 σ6 H8 (.ref p) [v] (.ref p) [u] (fun _ H9 => H9 = upd H8 p (.lst (vs ++ [v]))) I8 rfl (.cons r8 .nil) ⟨p, vs, v, rfl, rfl, g8.h _ _ hp7, by rw [lv, ← sz_eq]; omega, rfl⟩) fun _ s9 ⟨_, H9, I9, _, e9⟩ => ?_
          subst e9
          refine again I9 (S9.side hp nf9 no2) nf9 upd_same (Reps.append (Reps.le (Le.trans l17 g9.f) _ rs1) (Reps.one ry)) (by simp; omega) ?_
          exact kw.imp fun ys q σ1 F1 H1 vs s1 => by
            have : (as ++ [y]) ++ ys = as ++ (y :: ys) := by simp
            rw [this]
            exact q σ1 F1 H1 vs s1
  · have ei : i = ds.length := by omega
    subst ei
    rw [List.drop_length] at k1
    refine thn (T.done (cxC X s₂ H₂ scope cl C fp N) rfl rfl rfl hc _ [] s σ1 H1 _ I1 (stat fr1) st1 (Wk.stop _ F1 H1 (Nat.le_refl _) S1.gr.f S1.s S1.gr.h)) fun r s4' ⟨hr, I4'⟩ => ?_
    subst hr
    exact k1 σ1 F1 H1 vs s4' S1.gr fp1 hp1 (by simpa using rs1) I4'
end
end L3

namespace L3
open PySem PySem.Spec PyProof.Rows L2
/-! ### what a comprehension takes from around it, reckoned -/
def clOf (env : Env) : List (Str × NameKind) → List (Str × Addr) → List (Str × Addr)
  | [], cs => cs
  | (n, k) :: r, cs => if k == .free then clOf env r ((n, (env.cells.lookup n).getD 0) :: cs) else clOf env r cs
def capB (env : Env) (names : List (Str × NameKind)) : Bool := names.all fun y => y.2 != .cell && (y.2 != .free || env.kindOf y.1 == some .cell)
theorem closure_ok {scope : Scope} {env : Env} (hb : capB env scope.names = true) (has : ∀ n, env.kindOf n = some .cell → ∃ c, env.cells.lookup n = some c) : closureFor scope env = pure (clOf env scope.names []) := by
  unfold closureFor
  have go : ∀ (names : List (Str × NameKind)) (cs : List (Str × Addr)), capB env names = true →
      (forIn names cs fun (x : Str × NameKind) (r : List (Str × Addr)) => match x with | (name, kind) => if (kind == NameKind.free) = true then do let y ← cellOf env name; pure (ForInStep.yield ((name, y) :: r)) else pure (ForInStep.yield r) : Sem (List (Str × Addr))) = pure (clOf env names cs) := by
    intro names
    induction names with
    | nil => intro cs _; rfl
    | cons y r ih =>
      intro cs hb
      obtain ⟨n, k⟩ := y
      unfold capB at hb
      rw [List.all_cons, Bool.and_eq_true, Bool.and_eq_true] at hb
      rw [List.forIn_cons]
      by_cases hk : (k == NameKind.free) = true
      · have hk' : k = .free := by simpa using hk
        have : env.kindOf n = some .cell := by
          have := hb.1.2
          simp [hk'] at this
          simpa using this
        obtain ⟨c, hc⟩ := has n this
        have e : cellOf env n = pure c := by simp [cellOf, hc]
        simp only [hk, if_true, e, clOf, hc]
        exact ih _ hb.2
      · simp only [hk, clOf, Bool.false_eq_true, if_false]
        exact ih _ hb.2
  exact congrArg (fun (m : Sem (List (Str × Addr))) => m >>= fun s => pure s) (go scope.names [] hb)
theorem clOf_in {env : Env} : ∀ (names : List (Str × NameKind)) (cs : List (Str × Addr)), capB env names = true → (∀ n, env.kindOf n = some .cell → ∃ c, env.cells.lookup n = some c) → ClIn env cs → ClIn env (clOf env names cs)
  | [], cs, _, _, h => h
  | (n, k) :: r, cs, hb, has, h => by
    unfold capB at hb
    rw [List.all_cons, Bool.and_eq_true, Bool.and_eq_true] at hb
    unfold clOf
    by_cases hk : (k == NameKind.free) = true
    · rw [if_pos hk]
      have hk' : k = .free := by simpa using hk
      have : env.kindOf n = some .cell := by
        have := hb.1.2
        simp [hk'] at this
        simpa using this
      obtain ⟨c, hc⟩ := has n this
      exact clOf_in r _ hb.2 has ⟨by rw [hc]; rfl, h⟩
    · rw [if_neg hk]
      exact clOf_in r _ hb.2 has h
theorem clOf_look {env : Env} : ∀ (names : List (Str × NameKind)) (cs : List (Str × Addr)), capB env names = true → (∀ n, env.kindOf n = some .cell → ∃ c, env.cells.lookup n = some c) → ClIn env cs →
    ∀ n, ((n, NameKind.free) ∈ names ∨ (∃ c, cs.lookup n = some c)) → ∃ c, (clOf env names cs).lookup n = some c
  | [], cs, _, _, _, n, h => by
    rcases h with h | h
    · cases h
    · exact h
  | (m, k) :: r, cs, hb, has, hcs, n, h => by
    have hb0 := hb
    unfold capB at hb
    rw [List.all_cons, Bool.and_eq_true, Bool.and_eq_true] at hb
    unfold clOf
    by_cases hk : (k == NameKind.free) = true
    · rw [if_pos hk]
      have hk' : k = .free := by simpa using hk
      have hc : env.kindOf m = some .cell := by
        have := hb.1.2
        simp [hk'] at this
        simpa using this
      obtain ⟨c, hc⟩ := has m hc
      refine clOf_look r ((m, (env.cells.lookup m).getD 0) :: cs) hb.2 has (And.intro (by rw [hc]; rfl) hcs) n ?_
      by_cases e : n = m
      · subst e
        exact .inr ⟨(env.cells.lookup n).getD 0, by simp [List.lookup]⟩
      · rcases h with h | ⟨c', h⟩
        · rcases List.mem_cons.mp h with z | z
          · exact absurd (congrArg Prod.fst z) e
          · exact .inl z
        · have : (n == m) = false := by simpa using e
          exact .inr ⟨c', by simp [List.lookup, this, h]⟩
    · rw [if_neg hk]
      refine clOf_look r _ hb.2 has hcs n ?_
      rcases h with h | h
      · rcases List.mem_cons.mp h with z | z
        · have : k = .free := (congrArg Prod.snd z).symm
          rw [this] at hk
          exact absurd rfl hk
        · exact .inl z
      · exact .inr h
theorem cap_ok {scope : Scope} {env : Env} (hb : capB env scope.names = true) (has : ∀ n, env.kindOf n = some .cell → ∃ c, env.cells.lookup n = some c) : Cap env (clOf env scope.names []) scope.names := by
  have hin := clOf_in scope.names [] hb has trivial
  have all : ∀ (names : List (Str × NameKind)), (∀ y ∈ names, y ∈ scope.names) → Cap env (clOf env scope.names []) names := by
    intro names
    induction names with
    | nil => intro _; trivial
    | cons y r ih =>
      intro h
      obtain ⟨n, k⟩ := y
      have hy := h (n, k) List.mem_cons_self
      have q := List.all_eq_true.mp hb (n, k) hy
      simp only [Bool.and_eq_true] at q
      refine ⟨⟨by simpa using q.1, fun hk => ?_⟩, ih fun z hz => h z (List.mem_cons_of_mem _ hz)⟩
      subst hk
      have q2 : env.kindOf n = some .cell := by
        have := q.2
        simp at this
        simpa using this
      obtain ⟨c, hc⟩ := clOf_look scope.names [] hb has trivial n (.inl hy)
      exact ⟨q2, hc.trans (ClIn.look hin hc).symm⟩
  exact all scope.names fun y hy => hy

section
variable {X : Cx} {F0 H0 : Hp} {pos : Pos} {tg elt iter : Expr} {ifs : List Expr} {scope : Scope} {fi : IF} {gf : GF} {t : TF} {e : EF}
abbrev cxD (X : Cx) (scope : Scope) (N : List Str) (s₂ : Shared) (H₂ : Hp) (C : Addr) (fp : List Addr) : Cx := cxC X s₂ H₂ scope (clOf X.env scope.names []) C fp N
/-- what is left to do with the list: it is at p, its frame at C -/
theorem comp_core {n : Nat} (N : List Str) {use : Option (Value → Sem Unit)} (hi : SIc X F0 H0 tg iter fi) (hno : KeepsNo gf)
    (hg : ∀ s₂ F₂ H₂ C fp, SG (cxD X scope N s₂ H₂ C fp) F₂ H₂ tg gf) (ht : ∀ s₂ F₂ H₂ C fp, Tests (cxD X scope N s₂ H₂ C fp) F₂ H₂ ifs t) (he : ∀ s₂ F₂ H₂ C fp, SE (cxD X scope N s₂ H₂ C fp) F₂ H₂ elt e)
    (hc : X.calm = true) (hkind : scope.kind = .function) (hcap : capB X.env scope.names = true) (hslots : slotsB (relabel scope X.env).names X.N N = true) (hlen : N.length = X.N.length + n)
    (hnames : ∀ x ∈ scope.names, x.2 = .local → scope.names.lookup x.1 = some .local) (hs : ∀ x, foldedSetIterable iter X.env x = pure x)
    {pins : List (Addr × Obj)} {s : Shared} {σ : St} {F H : Hp} {ρ : Rho} {Q : Value → Shared → Prop} {ipos : Pos} (S : StOk (kx X) F0 H0 F H ρ σ) (I : Inv X pins σ H s)
    (h : KE (XP X F0 H0) (eComp n fi gf t e ρ) fun w => ∀ (p C : Addr) F1 H1 s1 m, Gr F H F1 H1 → Vok (kx X) H F1 H1 (.ref p) w → Inv X pins σ H1 s1 → s1.heap.Ns C m →
      (∀ (s2 : Shared) H2 h' (σ' : St), Inv X pins σ' H2 s2 → H2 C = none → (∀ b o, b ≠ C → s2.heap.get? b = some o → h'.get? b = some o) → Inv X pins σ' H2 { s2 with heap := h' }) → H1 C = none → C ≠ X.env.locals → (∀ x c, X.env.cells.lookup x = some c → c ≠ C) →
      compPost (model X.prog X.w) X.A X.xe use Q (.ref p) C (.ok .next) s1) :
    wpAny (model X.prog X.w) X.A (comprehension (.ListComp elt [⟨tg, iter, ifs, 0⟩] scope pos) scope X.env ipos (newList []) false (eval iter X.env) use) Q X.xe s := by
  have has : ∀ n, X.env.kindOf n = some .cell → ∃ c, X.env.cells.lookup n = some c := fun n hn => I.ok.has n (.inl hn)
  have hCl := clOf_in scope.names [] hcap has trivial
  have hCp := cap_ok hcap has
  refine wpAny_comprehension_free rfl hs (closure_ok hcap has) hkind hnames ?_
  obtain ⟨wi, PIv, hwi⟩ := hi
  cases ed : fi ρ with
  | exc x => have h := KE.bind h; rw [ed] at h; exact h.elim
  | stuck => have h := KE.bind h; rw [ed] at h; exact h.elim
  | ok ds =>
    have h := KE.bind h
    rw [ed] at h
    refine thn (PIv pins s σ H (fun J H1 => ∃ F1, Gr F H F1 H1 ∧ Walk (kx X) J F1 H1 ds) I (hwi σ F H ρ _ S (by rw [ed]; exact fun F1 H1 J g W => ⟨F1, g, W⟩))) fun v s1 h1 => thn h1 fun itv s₂ h2 => ?_
    obtain ⟨it, fp, tn, J, H₂, rfl, I2, T, st2, f2, F₂, g2, Wk⟩ := h2
    refine wpAny_newObj_type (wpAny_newFunctionEnv (fun x hx => (Cap.mem hCp x hx).1) (by intro y hy; simp at hy) (fun h₁ hns₁ hsb₁ => ?_) hkind)
    dsimp only at hns₁ hsb₁ ⊢
    generalize hH2 : s₂.heap.push { cls := .type "list", dict := none, data := .seq ([] : List Value).toArray } = HP at hns₁ hsb₁ ⊢
    have hC : HP.objs.size = s₂.heap.objs.size + 1 := by rw [← hH2, Heap.size_push]
    have hDC : s₂.heap.objs.size ≠ HP.objs.size := by rw [hC]; exact Nat.ne_of_lt (Nat.lt_succ_self _)
    have old : ∀ b o, s₂.heap.get? b = some o → h₁.get? b = some o := fun b o e =>
      hsb₁.extBut b o (Nat.ne_of_lt (by rw [hC]; exact Nat.lt_succ_of_lt (Heap.lt_size e))) (Heap.get?_push_of_some _ (hH2 ▸ Heap.get?_push_of_some _ e))
    have hacc : h₁.get? s₂.heap.objs.size = some { cls := .type "list", data := .seq #[] 0 } := hsb₁.extBut _ _ hDC (Heap.get?_push_of_some _ (hH2 ▸ Heap.get?_push_size _ rfl))
    have hp : H₂ s₂.heap.objs.size = none := I2.hok.fresh (Nat.le_refl _)
    have hCl2 : s₂.heap.objs.size < HP.objs.size := by rw [hC]; exact Nat.lt_succ_self _
    have hfC : H₂ HP.objs.size = none := I2.hok.fresh (Nat.le_of_lt hCl2)
    have I4 := block_start (N := N) (n := n) (tk := s₂.toks + ([] : List (Str × Value)).length) I2 T st2 f2 hkind hCp hCl (slots_ok hslots) hlen hCl2 hns₁ old hacc
    have st4 : tn 0 h₁ := T.keep _ _ _ st2 fun b hb o e => old b o e
    have S4 : StOk (kx X) F₂ H₂ F₂ H₂ (cRho n ρ) (σ ++ List.replicate n none) := ro_st n (S.grow g2)
    have hfp4 : ∀ b ∈ fp, FpOk (cxD X scope N s₂ H₂ HP.objs.size fp) [] (upd H₂ s₂.heap.objs.size (.lst [])) b := fun b hb => by
      obtain ⟨f0, f1, f3, f4, f5, f6⟩ := f2 b hb
      obtain ⟨o, ho, _⟩ := T.obj 0 _ st2 b hb
      have lb := Heap.lt_size ho
      refine ⟨by rw [upd_ne (Nat.ne_of_lt lb)]; exact f0, (show b ≠ HP.objs.size from Nat.ne_of_lt (Nat.lt_trans lb hCl2)), fun z => ?_, .inl hb, fun x c e => f5 x c (ClIn.look hCl e), fun q hq => absurd (show q ∈ ([] : List (Addr × Obj)) from hq) (by simp)⟩
      rcases List.mem_cons.mp (I2.stkSub b z) with q | q
      · exact f1 q
      · exact f3 q
    rw [KE_ok] at h
    by_cases csz : ds.length ≤ sz
    · rw [if_pos csz] at h
      have run : ∀ s₄ : Shared, s₄ = { s₂ with heap := h₁, toks := s₂.toks + ([] : List (Str × Value)).length } →
          codeAny (model X.prog X.w) X.A (.compLoop (.ListComp elt [⟨tg, iter, ifs, 0⟩] scope pos) 0 (.ref it) (.ref s₂.heap.objs.size) (compEnvC scope (clOf X.env scope.names []) HP.objs.size X.env))
            (compPost (model X.prog X.w) X.A X.xe use Q (.ref s₂.heap.objs.size) HP.objs.size) s₄ := by
        rintro s₄ rfl
        refine block_run (pins := pins) (σ := σ) (N := N) (s₂ := s₂) (F₂ := F₂) g2.s T hc st4 Wk hfp4 hp I4 S4 (noOwn_ro n ρ) hno (hg _ _ _ _ _) (ht _ _ _ _ _) (he _ _ _ _ _) csz (KE.impX (KE.bind h) (fun ys k σ1 F1 H1 vs s1 g1 nf hv rs I1 => ?_) fun _ z => z)
        have J1 : Inv X pins σ H1 s1 := I2.call' (ch := fp) I1.os I1.base I1.hok I1.bare fun b hb => by
          obtain ⟨f0, f1, f3, f4, f5, f6⟩ := f2 b hb
          exact ⟨f4, f1, f5, f6⟩
        obtain ⟨m1, hn1, _⟩ := I1.loc
        have cl2 : ∀ x c, X.env.cells.lookup x = some c → c ≠ HP.objs.size := fun x c e z => by
          obtain ⟨v, o, ho, _⟩ := I2.cell x c e
          exact Nat.lt_irrefl _ (Nat.lt_trans (Heap.lt_size ho) (z ▸ hCl2))
        have lne : HP.objs.size ≠ X.env.locals := Ne.symm (Nat.ne_of_lt (Nat.lt_trans I2.lt hCl2))
        refine k s₂.heap.objs.size HP.objs.size F1 H1 s1 m1 (g2.trans g1) ⟨_, _, rfl, Le.none g2.h hp, nf, hv, rs⟩ J1 hn1 (fun s2 H2 h' σ' J2 hn kk => ?_) I1.free lne cl2
        refine J2.turned (t' := s2.toks) kk hn lne (.inr (Nat.le_trans I2.sz (Nat.le_of_lt hCl2))) cl2 fun q hq z => ?_
        exact Nat.lt_irrefl _ (Nat.lt_trans (Heap.lt_size (I2.pin q hq).1) (z ▸ hCl2))
      exact codeAny_compStart_list (run _ rfl) (T.self _ 0 _ _ _ st4 (run _ rfl))
    · rw [if_neg csz] at h; exact h.elim
theorem se_comp {n : Nat} (N : List Str) (hi : SIc X F0 H0 tg iter fi) (hno : KeepsNo gf)
    (hg : ∀ s₂ F₂ H₂ C fp, SG (cxD X scope N s₂ H₂ C fp) F₂ H₂ tg gf) (ht : ∀ s₂ F₂ H₂ C fp, Tests (cxD X scope N s₂ H₂ C fp) F₂ H₂ ifs t) (he : ∀ s₂ F₂ H₂ C fp, SE (cxD X scope N s₂ H₂ C fp) F₂ H₂ elt e)
    (hc : X.calm = true := by rfl) (hkind : scope.kind = .function := by rfl) (hcap : capB X.env scope.names = true := by rfl) (hslots : slotsB (relabel scope X.env).names X.N N = true := by rfl) (hlen : N.length = X.N.length + n := by rfl)
    (hnames : ∀ x ∈ scope.names, x.2 = .local → scope.names.lookup x.1 = some .local := by decide +kernel) (hs : ∀ x, foldedSetIterable iter X.env x = pure x := by intro _; rfl) :
    SE X F0 H0 (.ListComp elt [⟨tg, iter, ifs, 0⟩] scope pos) (eComp n fi gf t e) := by
  intro pins s σ F H ρ Q S I h
  rw [eval_ListComp]
  refine comp_core N hi hno hg ht he hc hkind hcap hslots hlen hnames hs S I (h.imp fun w k p C F1 H1 s1 m g q I1 hn turn hC _ _ => ⟨m, hn, fun h' sb => ?_⟩)
  exact k (.ref p) (.ref p) F1 H1 _ g q rfl (turn s1 H1 h' σ I1 hC fun b o hb e => (sb.2 b hb).trans e)
/-- y = [.. for ..] -/
theorem ss_setC (i : Nat) {x : Str} {pos' pos₂ : Pos} {n : Nat} (N : List Str) (hN : X.N.Nodup) (hi : SIc X F0 H0 tg iter fi) (hno : KeepsNo gf)
    (hg : ∀ s₂ F₂ H₂ C fp, SG (cxD X scope N s₂ H₂ C fp) F₂ H₂ tg gf) (ht : ∀ s₂ F₂ H₂ C fp, Tests (cxD X scope N s₂ H₂ C fp) F₂ H₂ ifs t) (he : ∀ s₂ F₂ H₂ C fp, SE (cxD X scope N s₂ H₂ C fp) F₂ H₂ elt e)
    (hix : X.N[i]? = some x := by rfl) (hx : Loc X.env.scope x := by first | exact Or.inl rfl | exact Or.inr rfl) (hsw : swapsWith (.ListComp elt [⟨tg, iter, ifs, 0⟩] scope pos) (some (.Name x pos')) pos₂.line X.env = pure true := by rfl)
    (hf : X.fn x = true ∨ X.env.scope.names.lookup x = some .local := by first | exact .inl rfl | exact .inr rfl | assumption)
    (hc : X.calm = true := by rfl) (hkind : scope.kind = .function := by rfl) (hcap : capB X.env scope.names = true := by rfl) (hslots : slotsB (relabel scope X.env).names X.N N = true := by rfl) (hlen : N.length = X.N.length + n := by rfl)
    (hnames : ∀ x ∈ scope.names, x.2 = .local → scope.names.lookup x.1 = some .local := by decide +kernel) (hs : ∀ x, foldedSetIterable iter X.env x = pure x := by intro _; rfl) :
    SS X F0 H0 (.Assign [.Name x pos'] (.ListComp elt [⟨tg, iter, ifs, 0⟩] scope pos) pos₂) (sSet i (eComp n fi gf t e)) := by
  intro pins s σ F H ρ D S I h
  rw [exec_Assign_Name_used _ _ _ _ hsw]
  refine wpAny_bind (wpAny_standAt (wpAny_bind ?_))
  show wpAny _ X.A (do let _ ← comprehension (.ListComp elt [⟨tg, iter, ifs, 0⟩] scope pos) scope X.env _ (newList []) false (eval iter X.env) (some (assign (.Name x pos') X.env))) _ _ s
  refine wpAny_bind (wpAny_mono (comp_core (use := some (assign (.Name x pos') X.env)) (Q := fun _ s' => SP X pins D .next s') N hi hno hg ht he hc hkind hcap hslots hlen hnames hs S I ((KE.bind (PostS.of h)).imp fun w k p C F1 H1 s1 m g q I1 hn turn hC hL hcl => ?_)) (fun _ s' hq => wpAny_pure (wpAny_pure hq)) fun _ _ e => e)
  obtain ⟨w', e1, k2, rfl⟩ := nm_ok k
  show wpAny _ X.A (assign (.Name x pos') X.env (.ref p)) _ _ _
  refine wpAny_assign_Name (store_ok2 I1 hN hix hx (v := .ref p) rfl (fun s2 I2 hch => ?_) hf)
  obtain ⟨a, sb, ha⟩ := hch
  have aC : C ≠ a := by
    rcases ha with z | z
    · rw [z]; exact hL
    · exact fun q => hcl x a z q.symm
  refine ⟨m, hn.sameBut sb aC, fun h' sb2 => ⟨_, H1, turn s2 H1 h' _ I2 hC fun b o hb e => (sb2.2 b hb).trans e, k2 _ F1 H1 g.f (S.setW g q e1)⟩⟩
end
end L3

namespace L3
open PySem PySem.Spec PyProof.Rows L2
/-! ### max of a list of ints -/
def intsOf : List D → Option (List Int)
  | [] => some []
  | .int i :: r => (match intsOf r with | some l => some (i :: l) | none => none)
  | _ :: _ => none
def maxL : Int → List Int → Int
  | m, [] => m
  | m, x :: r => maxL (if x > m then x else m) r
def dMaxL : List D → R En
  | [.lst ds] => (match intsOf ds with | some (i :: r) => okI (maxL i r) | _ => .stuck)
  | _ => .stuck
theorem maxL_ok : ∀ (r : List Int) (m : Int), (maxL m r ∈ m :: r) ∧ ∀ a ∈ m :: r, a ≤ maxL m r
  | [], m => ⟨List.mem_cons_self, fun a ha => by simp at ha; subst ha; exact Int.le_refl _⟩
  | x :: r, m => by
    obtain ⟨h1, h2⟩ := maxL_ok r (if x > m then x else m)
    have e : maxL m (x :: r) = maxL (if x > m then x else m) r := rfl
    rw [e]
    by_cases c : x > m
    · rw [if_pos c] at h1 h2 ⊢
      refine ⟨List.mem_cons_of_mem _ h1, fun a ha => ?_⟩
      rcases List.mem_cons.mp ha with rfl | ha
      · have := h2 x List.mem_cons_self; omega
      · exact h2 a ha
    · rw [if_neg c] at h1 h2 ⊢
      refine ⟨?_, fun a ha => ?_⟩
      · rcases List.mem_cons.mp h1 with q | q
        · rw [q]; exact List.mem_cons_self
        · exact List.mem_cons_of_mem _ (List.mem_cons_of_mem _ q)
      · rcases List.mem_cons.mp ha with rfl | ha
        · exact h2 _ List.mem_cons_self
        · rcases List.mem_cons.mp ha with rfl | ha
          · have := h2 m List.mem_cons_self; omega
          · exact h2 a (List.mem_cons_of_mem _ ha)
theorem intsOf_reps {κ : Kx} {F : Hp} : ∀ {ds : List D} {vs : List V} {ns : List Int}, intsOf ds = some ns → Reps κ F vs ds → vs = ns.map V.int
  | [], vs, ns, h, r => by cases h; exact r
  | d :: ds, vs, ns, h, r => by
    obtain ⟨v, vr, rfl, r1, r2⟩ := r
    cases d <;> first | (cases h; done) | skip
    rename_i i
    unfold intsOf at h
    cases e : intsOf ds with
    | none => rw [e] at h; cases h
    | some l =>
      rw [e] at h
      cases h
      cases (show v = .int i from r1)
      rw [intsOf_reps e r2]
      rfl
section
variable {X : Cx} {F0 H0 : Hp}
theorem cd_maxL (hc : X.calm = true := by rfl) : CallD X (.builtin "max") dMaxL := by
  intro pins s σ F H xs us ds Q I l rx qx w
  cases qx with
  | nil => exact w.elim
  | @cons x d xs ds q1 q2 =>
    cases q2 with
    | cons _ _ => cases d <;> exact w.elim
    | nil =>
      cases d <;> first | exact w.elim | skip
      rename_i ds
      unfold dMaxL at w
      dsimp only at w
      cases e : intsOf ds with
      | none => rw [e] at w; exact w.elim
      | some ns =>
        rw [e] at w
        cases ns with
        | nil => exact w.elim
        | cons i r =>
          dsimp only at w
          obtain ⟨p, vs, rfl, hq, rs⟩ := RdV.lst l q1
          have ev := intsOf_reps e rs
          subst ev
          cases rx with
          | cons r1 r2 =>
            cases r2
            cases r1
            obtain ⟨its, rv, pl, hz⟩ := I.list hq
            have hi : IntsAre its (i :: r) := intsAre_of rv
            obtain ⟨ys, ey⟩ := hi.allInts.items
            have hns : (i :: r) = ys.toList.map (·.1) := by rw [← hi.numsOf, ← nums_intItems, ← ey]
            have hsz : 0 < ys.size := by
              have h3 : 0 < (i :: r).length := Nat.succ_pos _
              rw [hns, List.length_map, Array.length_toList] at h3
              exact h3
            have hl := pl.isList
            rw [ey] at hl
            refine max_intList (I.ok.hd hc) hl hsz fun v h' tk hv hk => ?_
            obtain ⟨t, rfl⟩ := intItems_at hv
            obtain ⟨h1, h2⟩ := argBest_gt (numAt ys) (ys.size - 1)
            have m1 : numAt ys (argBest (fun i j => decide (numAt ys i > numAt ys j)) (ys.size - 1)) ∈ i :: r := by
              rw [hns, numAt_eq]; exact getD_mem (by rw [List.length_map, Array.length_toList]; omega)
            have m2 : ∀ a ∈ i :: r, a ≤ numAt ys (argBest (fun i j => decide (numAt ys i > numAt ys j)) (ys.size - 1)) := fun a ha => by
              rw [hns] at ha
              obtain ⟨j, hj, rfl⟩ := mem_getD ha
              rw [List.length_map, Array.length_toList] at hj
              rw [← numAt_eq]; exact h2 j (by omega)
            obtain ⟨k1, k2⟩ := maxL_ok r i
            have em : numAt ys (argBest (fun i j => decide (numAt ys i > numAt ys j)) (ys.size - 1)) = maxL i r := Int.le_antisymm (k2 _ m1) (m2 _ k1)
            rw [em]
            exact ⟨.int _, H, I.kept hk, ⟨_, rfl⟩, wish_fz (X := X) l (v := .int _) w rfl⟩

/-! ### a walk over a dict of the module -/
def keyD : Sum Int Str → D
  | .inl i => .int i
  | .inr x => .str x
def iDct (e : EF) : IF := fun ρ => (e ρ).bind fun w => w.st.bind fun d => match d with
  | .dK kvs => .ok (kvs.map fun p => keyD p.1)
  | _ => .stuck
def ItK (ks : List Key) : It := ⟨fun i _ => i < ks.length, fun i H x H' => H' = H ∧ ∃ k, ks[i]? = some k ∧ x = kV k, fun i _ => ks.length ≤ i⟩
theorem kV_rel {P : Program} {w : World} {k : Key} {u : Value} (h : (mixKind P w).is k u = true) : RelV (kV k) u := by
  rcases keyIs_shape (k := k) (v := u) h with ⟨i, t, rfl, rfl⟩ | ⟨x, t, rfl, rfl⟩
  · exact ⟨t, rfl⟩
  · exact ⟨t, rfl⟩
theorem turn_dictK {P : Program} {w : World} {K : PySem.W.Frag} {tg : Expr} {a it : Addr} {o : Obj} {es : Array DictEntry} {ep : Nat} {vs : List (Key × Value)} (hk : K.lookup a = some o) (h1 : o.ExactDict) (h2 : o.data = .dict es ep)
    (h3 : PySem.KeysOf (mixKind P w) es) (h4 : PySem.Pairs (mixKind P w) es.toList vs) (h5 : (vs.map (·.1)).Nodup) : Turn P w K tg (ItK (vs.map (·.1))) [it] it (fun i h => h.IsKeyIter it a i vs.length ep) where
  mem := by simp
  obj := fun i h st b hb => by
    have e : b = it := by simpa using hb
    subst e
    obtain ⟨o, e, c, d⟩ := st
    exact ⟨o, e, fun v z => by rw [d] at z; cases z⟩
  keep := fun i h h' st k => by
    obtain ⟨o, e, r⟩ := st
    exact ⟨o, k it (by simp) o e, r⟩
  item := by
    intro X hP hw hK hc i pins s σ H E I hf st hg
    subst hP hw hK
    have hm : s.heap.DictAt (mixKind X.prog X.w) a vs ep := ⟨o, es, I.kIn a o hk, h1, h2, h3, h4, h5⟩
    have hg : i < (vs.map (·.1)).length := hg
    rw [List.length_map] at hg
    obtain ⟨f0, f1, f2, f3, f4, f5⟩ := hf it (by simp)
    have hx : vs[i]? = some ((vs[i]).1, (vs[i]).2) := by simp [hg]
    refine wpAny_pyNext_dict_item st hm hx fun key h' ik st' sb => ?_
    have I1 : Inv X pins σ H { s with heap := h' } := I.turned (t' := s.toks) (fun b o hb e => (sb.2 b hb).trans e) f0 f1 f3 f4 f5
    obtain ⟨o', e, c, d⟩ := id st'
    exact ⟨key, rfl, go_of (s := { s with heap := h' }) e c d (by decide) ⟨kV (vs[i]).1, H, I1, kV_rel ik, ⟨rfl, (vs[i]).1, by simp [hg], rfl⟩, st', fun b hb => (hf b hb).1⟩⟩
  done := by
    intro X hP hw hK hc i pins s σ H E I hf st hg
    subst hP hw hK
    have hm : s.heap.DictAt (mixKind X.prog X.w) a vs ep := ⟨o, es, I.kIn a o hk, h1, h2, h3, h4, h5⟩
    have hg : (vs.map (·.1)).length ≤ i := hg
    rw [List.length_map] at hg
    obtain ⟨f0, f1, f2, f3, f4, f5⟩ := hf it (by simp)
    exact wpAny_pyNext_dict_end (I.ok.hd hc) st hm (by simp; omega) fun h' eb => ⟨rfl, I.turned (t' := s.toks) (fun b o hb e => eb b o hb e) f0 f1 f3 f4 f5⟩
  self := fun _ _ _ _ _ st h => wpAny_pyIter_keyiter st h
theorem repK_keys {κ : Kx} {F : Hp} : ∀ {kds : List (Sum Int Str × D)} {kvs : List (Key × V)}, RepK κ F kvs kds → kvs.map (·.1) = kds.map (·.1)
  | [], _, h => by cases (show _ = _ from h); rfl
  | (k, d) :: r, _, h => by
    obtain ⟨v, kr, rfl, h1, h2⟩ := h
    simp [repK_keys h2]
theorem si_dictK {x : Str} {v : V} {u : Value} {d : D} {tg : Expr} {pos : Pos} (hm : X.mg x = some u) (r : RelV v u) (q : ∀ F, Rep (kx X) F v d) (hg : Gl X x := by rfl) (hd : (x == ("__debug__" : Str)) = false := by decide) :
    SI X F0 H0 tg (.Name x pos) (iDct (eC d)) := by
  refine ⟨fun σ H R => ∃ kds, d = .dK kds ∧ R (ItK (kds.map (·.1))) H, ?_, fun σ F H ρ R S h => ?_⟩
  · intro pins s σ H R I ⟨kds, ed, hR⟩
    subst ed
    obtain ⟨a, kvs, ev, hq, rk⟩ := q (fun _ => none)
    subst ev
    cases (show u = Value.ref a from r)
    rcases hq with (hq | ⟨_, hq⟩) | ⟨hs, o, es, ep, vs, hk, h1, h2, h3, h4, h5, h6⟩
    · cases hq
    · cases hq
    · refine ld_glob I hg hm ?_ hd
      have hmm : s.heap.DictAt (mixKind X.prog X.w) a vs ep := ⟨o, es, I.kIn a o hk, h1, h2, h3, h4, h5⟩
      have ek : vs.map (·.1) = kds.map (·.1) := by rw [← repK_keys rk]; exact (KV.keys h6).symm
      refine wpAny_pyIter_dict hs hmm ?_
      refine ⟨s.heap.objs.size, [s.heap.objs.size], _, _, H, rfl, I.kept (t' := s.toks) fun b o e => Heap.get?_push_of_some _ e, turn_dictK hk h1 h2 h3 h4 h5, ⟨_, Heap.get?_push_size _ rfl, rfl, rfl⟩, fun b hb => ?_, ?_⟩
      · have e : b = s.heap.objs.size := by simpa using hb
        subst e
        exact I.fpOk (Nat.le_refl _) (I.hok.fresh (Nat.le_refl _))
      · rw [ek]; exact hR
  · cases d <;> first | exact h.elim | skip
    rename_i kds
    refine ⟨kds, rfl, ?_⟩
    have h : ∀ F1 H1 J, Gr F H F1 H1 → Walk (kx X) J F1 H0 (kds.map fun p => keyD p.1) → R J H1 := h
    refine h F H _ (Gr.refl S.s) ⟨fun i dd F2 H2 e l1 l2 _ => ?_, fun i F2 H2 hi l1 l2 _ => ?_⟩
    · rw [List.getElem?_map] at e
      cases ek : kds[i]? with
      | none => rw [ek] at e; cases e
      | some p =>
        rw [ek] at e
        have e : keyD p.1 = dd := by simpa using e
        have hi : i < kds.length := (List.getElem?_eq_some_iff.mp ek).1
        refine ⟨by simpa [ItK] using hi, fun y H' hy => ?_⟩
        obtain ⟨eh, k, e1, e2⟩ := hy
        subst eh
        refine ⟨F2, Gr.refl l2, ?_⟩
        rw [List.getElem?_map, ek] at e1
        have e1 : p.1 = k := by simpa using e1
        subst e1 e2 e
        cases p.1 <;> rfl
    · simpa [ItK] using hi
end
end L3

namespace L3
open PySem PySem.Spec PyProof.Rows L2
/-! ### an own thing is no more changed -/
theorem StOk.frz {κ : Kx} {F0 H0 F H : Hp} {ρ : Rho} {σ : St} {i : Nat} {d : D} {a : Addr} (S : StOk κ F0 H0 F H ρ σ) (ei : ρ[i]? = some (some (.ow d))) : ∃ F', Le F F' ∧ StOk κ F0 H0 F' H (ρ.set i (some (.fz d))) σ := by
  obtain ⟨v, si, b, o, rfl, h0, hf, hh, ro⟩ := S.val i _ ei
  have l : Le F (upd F b o) := fun c u h => by rw [upd_ne (ne_of_none h hf)]; exact h
  refine ⟨upd F b o, l, ⟨⟨Le.trans S.gr.f l, S.gr.h, fun c u h => ?_, fun c h => ?_⟩, by simpa using S.len, fun j w e => ?_, fun j k w w' c hjk ej ek oj ok sj sk => ?_⟩⟩
  · by_cases e : c = b
    · subst e; rw [upd_same] at h; cases h; exact hh
    · rw [upd_ne e] at h; exact S.gr.s c u h
  · by_cases e : c = b
    · subst e; exact .inr h0
    · rw [upd_ne e] at h; exact S.gr.n c h
  · rcases set_get e with ⟨rfl, z⟩ | ⟨ne, z⟩
    · cases z
      refine ⟨_, si, ?_⟩
      have r := OwnO.le l ro
      cases o <;> cases d <;> first
        | exact r.elim
        | exact ⟨b, _, rfl, .inl (.inl upd_same), r⟩
        | exact ⟨b, _, rfl, .inl upd_same, r⟩
    · obtain ⟨v, e1, q⟩ := S.val j w z
      refine ⟨v, e1, ?_⟩
      have nb : ∀ {c}, v = .ref c → w.own = true → c ≠ b := fun {c} ev ow ec => by
        subst ev ec
        exact S.sep j i w _ c ne z ei ow rfl e1 si
      cases w with
      | fz d => exact Rep.le l d q
      | br d => obtain ⟨c, oc, ec, eh, cr⟩ := q; exact ⟨c, oc, ec, eh, OwnO.le l cr⟩
      | ow d => obtain ⟨c, oc, ec, c0, cf, ch, cr⟩ := q; exact ⟨c, oc, ec, c0, by rw [upd_ne (nb ec rfl)]; exact cf, ch, OwnO.le l cr⟩
      | lk d => obtain ⟨c, oc, ec, c0, cf, ch, cr⟩ := q; exact ⟨c, oc, ec, c0, by rw [upd_ne (nb ec rfl)]; exact cf, ch, OwnO.le l cr⟩
  · rcases set_get ej with ⟨_, z⟩ | ⟨nj, ej⟩
    · cases z; cases oj
    rcases set_get ek with ⟨_, z⟩ | ⟨nk, ek⟩
    · cases z; cases ok
    exact S.sep j k w w' c hjk ej ek oj ok sj sk
theorem ss_frz {X : Cx} {F0 H0 : Hp} {st : Stmt} {f : SF} (i : Nat) (h : SS X F0 H0 st f) : SS X F0 H0 st (sFrz i f) := by
  intro pins s σ F H ρ D S I k
  unfold sFrz L3.frz at k
  split at k
  · rename_i d e
    obtain ⟨F', l, S'⟩ := S.frz (a := 0) e
    exact h pins s σ F' H _ D S' I (PostS.le l k)
  · exact h pins s σ F H ρ D S I k
end L3

namespace L3
open PySem PySem.Spec PyProof.Rows L2
/-! ### own dicts -/
def putM {κ : Type} [DecidableEq κ] (k : κ) (v : D) (kds : List (κ × D)) : List (κ × D) :=
  if (kds.any fun kv => decide (kv.1 = k)) = true then kds.map (fun kv => if kv.1 = k then (kv.1, v) else kv) else kds ++ [(k, v)]
def eDK : EF := fun _ => .ok (.ow (.dK []))
def eDT : EF := fun _ => .ok (.ow (.dT []))
theorem repK_append {κ : Kx} {F : Hp} : ∀ {kds es : List (Sum Int Str × D)} {kvs us : List (Key × V)}, RepK κ F kvs kds → RepK κ F us es → RepK κ F (kvs ++ us) (kds ++ es)
  | [], _, _, _, h, k => by cases (show _ = _ from h); exact k
  | (q, d) :: r, _, _, _, h, k => by
    obtain ⟨v, kr, rfl, h1, h2⟩ := h
    exact ⟨v, kr ++ _, rfl, h1, repK_append h2 k⟩
theorem repK_map {κ : Kx} {F : Hp} {k : Key} {v : V} {d : D} (hv : Rep κ F v d) : ∀ {kds : List (Sum Int Str × D)} {kvs : List (Key × V)}, RepK κ F kvs kds →
    RepK κ F (kvs.map (fun kv => if kv.1 = k then (kv.1, v) else kv)) (kds.map (fun kv => if kv.1 = k then (kv.1, d) else kv))
  | [], _, h => by cases (show _ = _ from h); rfl
  | (q, e) :: r, _, h => by
    obtain ⟨u, kr, rfl, h1, h2⟩ := h
    by_cases c : q = k
    · subst c
      have hr := repK_map (k := q) hv h2
      simp only [List.map_cons, if_pos]
      exact ⟨v, _, rfl, hv, hr⟩
    · have hr := repK_map (k := k) hv h2
      simp only [List.map_cons, if_neg c]
      exact ⟨u, _, rfl, h1, hr⟩
theorem repK_any {κ : Kx} {F : Hp} (k : Key) {kds : List (Sum Int Str × D)} {kvs : List (Key × V)} (h : RepK κ F kvs kds) : (kvs.any fun kv => decide (kv.1 = k)) = (kds.any fun kv => decide (kv.1 = k)) := by
  have e := repK_keys h
  have a : ∀ {α : Type} (l : List (Key × α)), (l.any fun kv => decide (kv.1 = k)) = (l.map (·.1)).any fun q => decide (q = k) := fun l => by rw [List.any_map]; rfl
  rw [a, a, e]
theorem putM_rep {κ : Kx} {F : Hp} {k : Key} {v : V} {d : D} (hv : Rep κ F v d) {kds : List (Sum Int Str × D)} {kvs : List (Key × V)} (h : RepK κ F kvs kds) : RepK κ F (putK kvs k v) (putM k d kds) := by
  unfold putK putM
  rw [repK_any k h]
  by_cases c : (kds.any fun kv => decide (kv.1 = k)) = true
  · rw [if_pos c, if_pos c]; exact repK_map hv h
  · rw [if_neg c, if_neg c]; exact repK_append h ⟨v, [], rfl, hv, rfl⟩
section
variable {X : Cx} {F0 H0 : Hp} {pos pos' : Pos}
theorem se_dK : SE X F0 H0 (.Dict [] [] pos) eDK := by
  intro pins s σ F H ρ Q S I h
  refine thn (pe_dnewK (pos := pos) pins s σ H (fun v H' => ∃ p, v = .ref p ∧ H p = none ∧ H' = upd H p (.dK [])) I (fun p hp => ⟨p, rfl, hp, rfl⟩)) fun u s' ⟨v, H', I', r, p, ev, hp, eh⟩ => ?_
  subst ev eh
  exact h (.ref p) u F (upd H p (.dK [])) s' (Gr.new S.s hp) ⟨p, _, rfl, hp, Le.none S.s hp, upd_same, rfl⟩ r I'
theorem se_dT : SE X F0 H0 (.Dict [] [] pos) eDT := by
  intro pins s σ F H ρ Q S I h
  refine thn (pe_dnewT (pos := pos) pins s σ H (fun v H' => ∃ p, v = .ref p ∧ H p = none ∧ H' = upd H p (.dT [])) I (fun p hp => ⟨p, rfl, hp, rfl⟩)) fun u s' ⟨v, H', I', r, p, ev, hp, eh⟩ => ?_
  subst ev eh
  exact h (.ref p) u F (upd H p (.dT [])) s' (Gr.new S.s hp) ⟨p, _, rfl, hp, Le.none S.s hp, upd_same, rfl⟩ r I'
/-- x[k] = e, x a name with an own dict of ints and texts -/
def sPutK (i : Nat) (k e : EF) : SF := fun ρ => match ρ[i]? with
  | some (some (.ow (.dK kvs))) => sOf ((e ρ).bind En.st) fun d => sOf (k ρ) fun q => match keyOf q.d with
    | some key => if kvs.length < sz then .nx (ρ.set i (some (.ow (.dK (putM key d kvs))))) else .stuck
    | none => .stuck
  | _ => .stuck
theorem ss_putK (i : Nat) {x : Str} {np : Pos} {k e : Expr} {fk fe : EF} (hu : X.A.units + 10 < cLine) (hk : SE X F0 H0 k fk) (he : SE X F0 H0 e fe) (hN : X.N[i]? = some x := by rfl) (hv : Vis X.env.scope x := by first | exact Or.inl rfl | exact Or.inr (Or.inl rfl) | exact Or.inr (Or.inr rfl)) (hd : (x == ("__debug__" : Str)) = false := by decide)
    (hcd : (x == ("__classdict__" : Str)) = false := by decide) (hs : swapsWith e (some (.Subscript (.Name x np) k pos')) pos.line X.env = pure false := by rfl) :
    SS X F0 H0 (.Assign [.Subscript (.Name x np) k pos'] e pos) (sPutK i fk fe) := by
  intro pins s σ F H ρ D S I h
  unfold sPutK at h
  cases ew : ρ[i]? with
  | none => rw [ew] at h; exact h.elim
  | some w =>
    rw [ew] at h
    cases w with
    | none => exact h.elim
    | some w =>
      cases w with
      | fz d => exact h.elim
      | br d => exact h.elim
      | lk d => exact h.elim
      | ow d =>
        cases d <;> first | exact h.elim | skip
        rename_i kds
        have h := KE.bind (PostS.of h)
        obtain ⟨v, e1, a, o, rfl, h0, hf, hh, ro⟩ := S.val i _ ew
        cases o <;> first | exact ro.elim | skip
        rename_i kvs
        refine ps_dput (pos := pos) (pos' := pos') (by omega) (pe_var (pos := np) hN hv hd hcd) (pe_sem (e := k)) (pe_sem (e := e)) hs pins s σ H D I (he.sem S (h.imp fun w k1 y F1 H1 g1 q1 => ?_))
        cases es : w.st with
        | exc x => rw [es] at k1; exact k1.elim
        | stuck => rw [es] at k1; exact k1.elim
        | ok d =>
          rw [es] at k1
          have ry := Vok.st S.s g1 q1 es
          obtain ⟨g2, _⟩ := fzAll_gr S.s g1
          have S2 := S.grow g2
          refine ⟨_, e1, hk.sem S2 ((PostS.of (show PostS X F0 H0 F D _ from k1)).imp fun wk k2 y2 F3 H3 g3 q3 => ?_)⟩
          cases ek : keyOf wk.d with
          | none => rw [ek] at k2; exact k2.elim
          | some key =>
            rw [ek] at k2
            have ey : y2 = kV key := by
              have r := Vok.rd q3
              cases ed : wk.d with
              | int j => rw [ed] at ek r; cases ek; exact RdV.int r
              | str j => rw [ed] at ek r; cases ek; exact RdV.str r
              | _ => rw [ed] at ek; cases ek
            subst ey
            have lv : kvs.length = kds.length := RepK.length ro
            by_cases c : kds.length < sz
            · have k3 : PostS X F0 H0 F D (.nx (ρ.set i (some (.ow (.dK (putM key d kds)))))) := by simpa [if_pos c, KE] using k2
              refine ⟨a, _, rfl, DPut.k (g3.h _ _ (g1.h _ _ hh)) (by rw [lv, ← sz_eq]; exact c), ?_⟩
              refine k3 σ _ _ (Le.trans g2.f g3.f) ((S2.grow g3).mut ew e1 (o := .dK (putK kvs key y)) ?_)
              exact putM_rep (Rep.le g3.f _ ry) (RepK.le (Le.trans g2.f g3.f) _ ro)
            · have : False := by simpa [if_neg c, PostS, KE] using k2
              exact this.elim
/-- d.get(k, x) -/
def eGet2 (d k x : EF) : EF := fun ρ => (d ρ).bind fun wd => match wd.d with
  | .dK kvs => (k ρ).bind fun wk => (x ρ).bind fun wx => (match keyOf wk.d with
    | some q => (match look q kvs with | some d => .ok (.fz d) | none => .ok wx)
    | none => .stuck)
  | _ => .stuck
theorem se_get2 {o e f : Expr} {apos cpos : Pos} {fo fe ff : EF} (ho : SE X F0 H0 o fo) (he : SE X F0 H0 e fe) (hf : SE X F0 H0 f ff) (m : M2 X o "get" apos e f cpos := by exact ⟨rfl, rfl, rfl, rfl⟩) :
    SE X F0 H0 (.Call (.Attribute o "get" apos) [e, f] [] cpos) (eGet2 fo fe ff) := by
  intro pins s σ F H ρ Q S I h
  refine wpAny_Call_method m.base m.few m.line PySem.F.plainAttrs_dict PySem.F.slot_dict_get PySem.F.type_dict_get (ho pins s σ F H ρ _ S I ((KE.bind h).imp fun wd h1 v u F1 H1 s1 g1 q1 r1 I1 => ?_))
  have qd := Vok.rd q1
  revert h1 qd
  generalize wd.d = dd
  intro h1 qd
  cases dd <;> first | exact h1.elim | skip
  rename_i kds
  obtain ⟨p, kvs, rfl, hq, rk⟩ := RdV.dK g1.s qd
  cases (show u = Value.ref p from r1)
  obtain ⟨hd, vs, rel, dd⟩ := Inv.dictK I1 hq
  refine ⟨dd.typeIs, fun b q => ?_, ?_⟩
  · cases q
    obtain ⟨ob, _, _, e1, e2, _⟩ := dd
    exact ⟨ob, e1, e2.2.1⟩
  rw [m.trees]
  refine Calls.callWith_builtin rfl (Calls.evalArgs_plain (Calls.spliced_cons (he pins s1 σ F1 H1 ρ _ (S.grow g1) I1 ((KE.bind h1).imp fun wk h2 v2 u2 F2 H2 s2 g2 q2 r2 I2 =>
    Calls.spliced_cons (hf pins s2 σ F2 H2 ρ _ (S.grow (g1.trans g2)) I2 ((KE.bind h2).imp fun wx h3 v3 u3 F3 H3 s3 g3 q3 r3 I3 => Calls.spliced_nil ?_))))))
  cases ek : keyOf wk.d with
  | none => rw [ek] at h3; exact h3.elim
  | some key =>
    rw [ek] at h3
    dsimp only at h3
    have ry : RelV (kV key) u2 := key_rel ek (RdV.gr g3 (Vok.rd q2)) r2
    obtain ⟨hd3, vs3, rel3, dd3⟩ := Inv.dictK I3 (SqK.le (Le.trans g2.h g3.h) hq)
    refine call_meetsIn PySem.F.slot_dict_get dd3.typeIs PySem.F.entry_dict_get (PySem.F.args_dict_get_3 _ _ _) (meets_dict_get_default (mixKind X.prog X.w) p (kV_is ry) hd3 u3) ⟨_, dd3.mapOf, ?_⟩
    have rg := (rel3.val key).getD r3
    have g13 := g1.trans (g2.trans g3)
    rcases RepK.look key rk with ⟨z, d, a1, a2, rz⟩ | ⟨a1, a2⟩
    · rw [a2] at h3
      rw [a1] at rg
      exact h3 z _ F3 H3 _ g13 (Rep.le (Le.trans g2.f g3.f) _ rz) rg (I3.tok _)
    · rw [a2] at h3
      rw [a1] at rg
      exact h3 v3 _ F3 H3 _ g13 (Vok.older (fun a e => Le.none (Le.trans g1.h g2.h) e) q3) rg (I3.tok _)
/-! ### max, min of two; sum -/
def dMax2 : List D → R En
  | [.int i, .int j] => okI (if j > i then j else i)
  | _ => .stuck
theorem cd_max2 (hc : X.calm = true := by rfl) : CallD X (.builtin "max") dMax2 := calld_of (call_max2 hc) fun F H xs ds Q l qx w => by
  cases qx with
  | nil => exact w.elim
  | @cons x d xs ds q1 q2 =>
    cases q2 with
    | nil => cases d <;> exact w.elim
    | @cons y e ys es q2 q3 =>
      cases q3 with
      | cons _ _ => cases d <;> first | exact w.elim | (cases e <;> exact w.elim)
      | nil =>
        cases d <;> first | exact w.elim | skip
        cases e <;> first | exact w.elim | skip
        cases RdV.int q1
        cases RdV.int q2
        exact ⟨_, _, rfl, wish_fz (X := X) l (v := .int _) w rfl⟩
theorem cd_min2 (hc : X.calm = true := by rfl) : CallD X (.builtin "min") dMin2 := calld_of (call_min2 hc) fun F H xs ds Q l qx w => by
  cases qx with
  | nil => exact w.elim
  | @cons x d xs ds q1 q2 =>
    cases q2 with
    | nil => cases d <;> exact w.elim
    | @cons y e ys es q2 q3 =>
      cases q3 with
      | cons _ _ => cases d <;> first | exact w.elim | (cases e <;> exact w.elim)
      | nil =>
        cases d <;> first | exact w.elim | skip
        cases e <;> first | exact w.elim | skip
        cases RdV.int q1
        cases RdV.int q2
        exact ⟨_, _, rfl, wish_fz (X := X) l (v := .int _) w rfl⟩
def dSum : List D → R En
  | [.lst ds] => (match intsOf ds with | some ns => okI ns.sum | none => .stuck)
  | _ => .stuck
theorem cd_sum (hc : X.calm = true := by rfl) : CallD X (.builtin "sum") dSum := by
  intro pins s σ F H xs us ds Q I l rx qx w
  cases qx with
  | nil => exact w.elim
  | @cons x d xs ds q1 q2 =>
    cases q2 with
    | cons _ _ => cases d <;> exact w.elim
    | nil =>
      cases d <;> first | exact w.elim | skip
      rename_i ds
      unfold dSum at w
      dsimp only at w
      cases e : intsOf ds with
      | none => rw [e] at w; exact w.elim
      | some ns =>
        rw [e] at w
        dsimp only at w
        obtain ⟨p, vs, rfl, hq, rs⟩ := RdV.lst l q1
        have ev := intsOf_reps e rs
        subst ev
        cases rx with
        | cons r1 r2 =>
          cases r2
          cases r1
          obtain ⟨its, rv, pl, hz⟩ := I.list hq
          have hi : IntsAre its ns := intsAre_of rv
          obtain ⟨ys, ey⟩ := hi.allInts.items
          have hns : ns = ys.toList.map (·.1) := by rw [← hi.numsOf, ← nums_intItems, ← ey]
          have hl := pl.isList
          rw [ey] at hl
          refine sum_intListG (I.ok.hd hc) hl fun h' tk t' hk => ?_
          rw [preSum_eq, List.take_of_length_le (by simp), ← hns]
          exact ⟨.int _, H, I.kept hk, ⟨_, rfl⟩, wish_fz (X := X) l (v := .int _) w rfl⟩
/-! ### a < b < c -/
def eChain (g g' : D → D → R En) (a b c : EF) : EF := fun ρ => (a ρ).bind fun x => (b ρ).bind fun y => (g x.d y.d).bind fun r => (isB r.d).bind fun t => if t = true then (c ρ).bind fun z => g' y.d z.d else okB false
section
variable {a b c : Expr} {fa fb fc : EF} {g g' : D → D → R En} {op op' : CmpOp}
theorem se_chain (ho : OpD X (compareOp op) g) (ho' : OpD X (compareOp op') g') (ha : SE X F0 H0 a fa) (hb : SE X F0 H0 b fb) (hc : SE X F0 H0 c fc)
    (hm : lastMarks [op, op'] [b, c] = false := by with_unfolding_all rfl) : SE X F0 H0 (.Compare a [op, op'] [b, c] pos) (eChain g g' fa fb fc) := by
  intro pins s σ F H ρ Q S I h
  refine Compare_chain (ha pins s σ F H ρ _ S I ((KE.bind h).imp fun wx h1 v u F1 H1 s1 g1 q1 r1 I1 => chain_link (hb pins s1 σ F1 H1 ρ _ (S.grow g1) I1 ((KE.bind h1).imp fun wy h2 v2 u2 F2 H2 s2 g2 q2 r2 I2 => ?_)))) hm
  refine thn (ho pins s2 σ F2 H2 v v2 u u2 wx.d wy.d (fun v3 H3 => ∃ F3 w3, Gr F2 H2 F3 H3 ∧ Vok (kx X) H2 F3 H3 v3 w3 ∧ KE (XP X F0 H0) ((isB w3.d).bind fun t => if t = true then (fc ρ).bind fun z => g' wy.d z.d else okB false) _) I2 g2.s r1 r2 (RdV.gr g2 (Vok.rd q1)) (Vok.rd q2) (KE.impX (KE.bind h2) (fun w k v3 F3 H3 g3 q3 => ⟨F3, w, g3, q3, k⟩) fun _ z => z.elim)) fun cv s3 ⟨z, H3, I3, rz, F3, w3, g3, q3, k⟩ => ?_
  obtain ⟨t, rfl, k2⟩ := isB_ok (Vok.rd q3) rz (KE.bind k)
  refine wpAny_truthy_bool ?_
  have g03 := g1.trans (g2.trans g3)
  cases t with
  | false => exact k2 (.bl false) _ F3 H3 s3 g03 rfl rfl I3
  | true =>
    refine chain_last (hc pins s3 σ F3 H3 ρ _ (S.grow g03) I3 ((KE.bind k2).imp fun wz k4 v4 u4 F4 H4 s4 g4 q4 r4 I4 => ?_))
    exact ep_end (ho' pins s4 σ F4 H4 v2 v4 u2 u4 wy.d wz.d _ I4 g4.s r2 r4 (RdV.gr (g3.trans g4) (Vok.rd q2)) (Vok.rd q4) (wish_end (g03.trans g4) k4))
theorem st_chain (ho : OpD X (compareOp op) g) (ho' : OpD X (compareOp op') g') (ha : SE X F0 H0 a fa) (hb : SE X F0 H0 b fb) (hc : SE X F0 H0 c fc)
    (hm : lastMarks [op, op'] [b, c] = false := by with_unfolding_all rfl) : ST X F0 H0 (.Compare a [op, op'] [b, c] pos) (tE (eChain g g' fa fb fc)) := by
  intro pins s σ F H ρ Q S I h
  have h := KE.bind h
  refine isTrue_chain (ha pins s σ F H ρ _ S I ((KE.bind h).imp fun wx h1 v u F1 H1 s1 g1 q1 r1 I1 => test_link (hb pins s1 σ F1 H1 ρ _ (S.grow g1) I1 ((KE.bind h1).imp fun wy h2 v2 u2 F2 H2 s2 g2 q2 r2 I2 => ?_)))) hm
  refine thn (ho pins s2 σ F2 H2 v v2 u u2 wx.d wy.d (fun v3 H3 => ∃ F3 w3, Gr F2 H2 F3 H3 ∧ Vok (kx X) H2 F3 H3 v3 w3 ∧ KE (XP X F0 H0) ((isB w3.d).bind fun t => if t = true then (fc ρ).bind fun z => g' wy.d z.d else okB false) _) I2 g2.s r1 r2 (RdV.gr g2 (Vok.rd q1)) (Vok.rd q2) (KE.impX (KE.bind h2) (fun w k v3 F3 H3 g3 q3 => ⟨F3, w, g3, q3, k⟩) fun _ z => z.elim)) fun cv s3 ⟨z, H3, I3, rz, F3, w3, g3, q3, k⟩ => ?_
  obtain ⟨t, rfl, k2⟩ := isB_ok (Vok.rd q3) rz (KE.bind k)
  refine wpAny_truthy_bool ?_
  have g03 := g1.trans (g2.trans g3)
  cases t with
  | false =>
    rw [if_neg Bool.false_ne_true] at k2
    exact k2 F3 H3 s3 g03 I3
  | true =>
    refine test_last (hc pins s3 σ F3 H3 ρ _ (S.grow g03) I3 ((KE.bind k2).imp fun wz k4 v4 u4 F4 H4 s4 g4 q4 r4 I4 => ?_))
    refine ep_end (Q := fun v s' => wpAny (model X.prog X.w) X.A (truthy v) Q X.xe s') (ho' pins s4 σ F4 H4 v2 v4 u2 u4 wy.d wz.d _ I4 g4.s r2 r4 (RdV.gr (g3.trans g4) (Vok.rd q2)) (Vok.rd q4) (wish_end (F0 := F0) (H0 := H0) (g03.trans g4) ?_))
    exact KE.imp k4 fun w k5 v5 u5 F5 H5 s5 g5 q5 r5 I5 => truth_ok I5 g5.s r5 (Vok.rd q5) (k5.imp fun b k6 s6 I6 => k6 F5 H5 s6 g5 I6)
end
/-! ### what is not reached -/
def sStuck : SF := fun _ => .stuck
theorem ss_stuck {st : Stmt} : SS X F0 H0 st sStuck := fun pins s σ F H ρ D S I h => h.elim
end
end L3

namespace L3
open PySem
/-! ### reading loops and comprehensions -/
def Turned (I : Rho → Prop) (Q : Out → Prop) : Out → Prop
  | .nx ρ => I ρ
  | .ct ρ => I ρ
  | .bk ρ => Q (.nx ρ)
  | o => Q o
theorem for_post {g : GF} {b : SF} {Q : Out → Prop} : ∀ (xs : List D) (I : Nat → Rho → Prop) {ρ : Rho}, I 0 ρ →
    (∀ i x ρ, xs[i]? = some x → I i ρ → ∃ ρ1, g x ρ = .ok ρ1 ∧ Turned (I (i + 1)) Q (b ρ1)) → (∀ ρ, I xs.length ρ → Q (.nx ρ)) → Q (forD g b xs ρ)
  | [], I, ρ, h0, _, fin => fin ρ h0
  | x :: xs, I, ρ, h0, step, fin => by
    obtain ⟨ρ1, e1, t⟩ := step 0 x ρ rfl h0
    have rec_ : ∀ ρ2, I 1 ρ2 → Q (forD g b xs ρ2) := fun ρ2 h =>
      for_post xs (fun i => I (i + 1)) h (fun i y ρ e hi => step (i + 1) y ρ (by simpa using e) hi) (fun ρ h => fin ρ (by simpa using h))
    unfold forD
    rw [e1]
    dsimp only
    cases eb : b ρ1 with
    | nx ρ2 => rw [eb] at t; exact rec_ ρ2 t
    | ct ρ2 => rw [eb] at t; exact rec_ ρ2 t
    | bk ρ2 => rw [eb] at t; exact t
    | rt w => rw [eb] at t; exact t
    | exc w => rw [eb] at t; exact t
    | stuck => rw [eb] at t; exact t
theorem for_nx {g : GF} {b : SF} (xs : List D) (I : Nat → Rho → Prop) {ρ : Rho} (h0 : I 0 ρ) (step : ∀ i x ρ, xs[i]? = some x → I i ρ → ∃ ρ1 ρ2, g x ρ = .ok ρ1 ∧ (b ρ1 = .nx ρ2 ∨ b ρ1 = .ct ρ2) ∧ I (i + 1) ρ2) :
    ∃ ρ', forD g b xs ρ = .nx ρ' ∧ I xs.length ρ' := by
  refine for_post (Q := fun o => ∃ ρ', o = .nx ρ' ∧ I xs.length ρ') xs I h0 (fun i x ρ e hi => ?_) fun ρ h => ⟨ρ, rfl, h⟩
  obtain ⟨ρ1, ρ2, e1, e2, h⟩ := step i x ρ e hi
  refine ⟨ρ1, e1, ?_⟩
  rcases e2 with e2 | e2 <;> (rw [e2]; exact h)
theorem rngD_eq (n : Nat) : rngD 0 n = (List.range n).map fun k : Nat => D.int k := by
  apply List.ext_getElem?
  intro i
  rw [rngD_get, List.getElem?_map]
  by_cases h : i < n
  · rw [if_pos h, List.getElem?_range h]; simp
  · rw [if_neg h, List.getElem?_eq_none (by simpa using h)]; rfl
theorem rng_nx {g : GF} {b : SF} (n : Nat) (I : Nat → Rho → Prop) {ρ : Rho} (h0 : I 0 ρ) (step : ∀ i ρ, i < n → I i ρ → ∃ ρ1 ρ2, g (.int i) ρ = .ok ρ1 ∧ (b ρ1 = .nx ρ2 ∨ b ρ1 = .ct ρ2) ∧ I (i + 1) ρ2) :
    ∃ ρ', forD g b (rngD 0 n) ρ = .nx ρ' ∧ I n ρ' := by
  have := for_nx (g := g) (b := b) (rngD 0 n) I h0 fun i x ρ e hi => by
    rw [rngD_get] at e
    by_cases h : i < n
    · rw [if_pos h] at e
      cases e
      have := step i ρ h hi
      simpa using this
    · rw [if_neg h] at e; cases e
  rw [rngD_len] at this
  exact this
theorem rng_post {g : GF} {b : SF} {Q : Out → Prop} (n : Nat) (I : Nat → Rho → Prop) {ρ : Rho} (h0 : I 0 ρ) (step : ∀ i ρ, i < n → I i ρ → ∃ ρ1, g (.int i) ρ = .ok ρ1 ∧ Turned (I (i + 1)) Q (b ρ1)) (fin : ∀ ρ, I n ρ → Q (.nx ρ)) :
    Q (forD g b (rngD 0 n) ρ) := by
  refine for_post (rngD 0 n) I h0 (fun i x ρ e hi => ?_) fun ρ h => fin ρ (by rwa [rngD_len] at h)
  rw [rngD_get] at e
  by_cases h : i < n
  · rw [if_pos h] at e
    cases e
    have := step i ρ h hi
    simpa using this
  · rw [if_neg h] at e; cases e
theorem comp_gV (i : Nat) {t : TF} {e : EF} (p : D → Bool) (f : D → D) : ∀ (ds : List D) (ρ : Rho),
    (∀ d ∈ ds, t (ρ.set i (some (.fz d))) = .ok (p d) ∧ (p d = true → ∃ w, e (ρ.set i (some (.fz d))) = .ok w ∧ w.st = .ok (f d))) → compD (gV i) t e ds ρ = .ok ((ds.filter p).map f)
  | [], _, _ => rfl
  | d :: ds, ρ, h => by
    obtain ⟨h1, h2⟩ := h d List.mem_cons_self
    have rec_ := comp_gV i (t := t) (e := e) p f ds (ρ.set i (some (.fz d))) fun x hx => by
      rw [List.set_set]
      exact h x (List.mem_cons_of_mem _ hx)
    show (R.bind (t (ρ.set i (some (.fz d)))) fun b => if b = true then (e (ρ.set i (some (.fz d)))).bind fun w => w.st.bind fun y => (compD (gV i) t e ds (ρ.set i (some (.fz d)))).bind fun ys => .ok (y :: ys) else compD (gV i) t e ds (ρ.set i (some (.fz d)))) = _
    rw [h1, R.bind_ok]
    by_cases c : p d = true
    · obtain ⟨w, e1, e2⟩ := h2 c
      rw [if_pos c, e1, R.bind_ok, e2, R.bind_ok, rec_]
      simp [c]
    · rw [if_neg c, rec_]
      simp [c]
theorem comp_all (i : Nat) {e : EF} (f : D → D) (ds : List D) (ρ : Rho) (h : ∀ d ∈ ds, ∃ w, e (ρ.set i (some (.fz d))) = .ok w ∧ w.st = .ok (f d)) : compD (gV i) tTrue e ds ρ = .ok (ds.map f) := by
  have := comp_gV i (t := tTrue) (e := e) (fun _ => true) f ds ρ fun d hd => ⟨rfl, fun _ => h d hd⟩
  rw [this]
  congr 2
  exact List.filter_eq_self.mpr fun _ _ => rfl
theorem ati_nat {α : Type} {xs : List α} {i : Nat} : ati xs (i : Int) = xs[i]? := by
  unfold ati ixn
  rw [if_pos (by omega)]
  by_cases h : i < xs.length
  · rw [if_pos (by omega)]; simp
  · rw [if_neg (by omega)]; simp at h; simp [List.getElem?_eq_none h]
theorem ati_last {α : Type} {xs : List α} : ati xs (-1) = xs.getLast? := by
  unfold ati ixn
  cases xs with
  | nil => rfl
  | cons x r =>
    rw [if_neg (by decide), if_pos (by simp; omega)]
    have : ((-1 : Int) + ((x :: r).length : Int)).toNat = (x :: r).length - 1 := by omega
    rw [this, List.getLast?_eq_getElem?]
    rfl
/-- a def's answer for its arguments: a pure function -/
theorem sFor_eq {it : IF} {g : GF} {b : SF} {ρ : Rho} {ds : List D} (h : it ρ = .ok ds) : sFor it g b ρ = forD g b ds ρ := by unfold sFor; rw [h]; rfl
theorem comp_eq {n : Nat} {it : IF} {gf : GF} {t : TF} {e : EF} {ρ : Rho} {ds ys : List D} (h : it ρ = .ok ds) (hl : ds.length ≤ sz) (h2 : compD gf t e ds (cRho n ρ) = .ok ys) : eComp n it gf t e ρ = .ok (.ow (.lst ys)) := by
  unfold eComp
  rw [h, R.bind_ok, if_pos hl, h2, R.bind_ok]
end L3

namespace L3
open PySem
/-! ### meanings, read one step at a time -/
def Out.th (o : Out) (b : SF) : Out := match o with
  | .nx ρ => b ρ
  | o => o
def pickS (a b : SF) (ρ : Rho) (c : Bool) : Out := if c = true then a ρ else b ρ
def pickE (a b : EF) (ρ : Rho) (c : Bool) : R En := if c = true then a ρ else b ρ
def pickT (a b : TF) (ρ : Rho) (c : Bool) : R Bool := if c = true then a ρ else b ρ
def kF : EF := fun _ => okB false
def kT : EF := fun _ => okB true
def kfB : TF := fun _ => .ok false
def ktB : TF := fun _ => .ok true
def varR (o : Option (Option En)) : R En := match o with
  | some (some (.fz d)) => .ok (.fz d)
  | some (some (.ow d)) => .ok (.br d)
  | some (some (.br d)) => .ok (.br d)
  | some (some (.lk d)) => .ok (.br d)
  | _ => .stuck
def retR (o : Option (Option En)) : Out := match o with
  | some (some (.fz d)) => .rt (.fz d)
  | some (some (.ow d)) => .rt (.ow d)
  | _ => .stuck
def R.b {α β : Type} (r : R α) (f : α → R β) : R β := r.bind f
theorem x_b_ok {α β : Type} {a : α} {f : α → R β} : (R.ok a).b f = f a := rfl
theorem x_b_stuck {α β : Type} {f : α → R β} : (R.stuck : R α).b f = .stuck := rfl
theorem x_b_exc {α β : Type} {x : Xc} {f : α → R β} : (R.exc x : R α).b f = .exc x := rfl
def mkLst (ds : List D) : R En := if ds.length ≤ sz then .ok (.ow (.lst ds)) else .stuck
def mkTup (ds : List D) : R En := if ds.length ≤ sz then .ok (.fz (.tup ds)) else .stuck
theorem mkLst_ok {ds : List D} (h : ds.length ≤ sz) : mkLst ds = .ok (.ow (.lst ds)) := if_pos h
theorem mkTup_ok {ds : List D} (h : ds.length ≤ sz) : mkTup ds = .ok (.fz (.tup ds)) := if_pos h
def En.dd (w : En) : D := w.d
def En.sto (w : En) : R D := w.st
def En.argo (w : En) : R En := w.arg
def En.nmo (w : En) : R En := w.nm
section
variable {a b : SF} {ρ ρ' : Rho} {w : En} {x : Xc} {d : D} {e f : EF} {t u : TF} {i j : Nat} {α β : Type} {k : α → Out} {v : α} {l : List EF}
theorem x_th_nx : Out.th (.nx ρ) b = b ρ := rfl
theorem x_th_rt : Out.th (.rt w) b = .rt w := rfl
theorem x_th_bk : Out.th (.bk ρ) b = .bk ρ := rfl
theorem x_th_ct : Out.th (.ct ρ) b = .ct ρ := rfl
theorem x_th_exc : Out.th (.exc x) b = .exc x := rfl
theorem x_th_stuck : Out.th .stuck b = .stuck := rfl
theorem x_seq : sSeq a b ρ = Out.th (a ρ) b := by unfold sSeq Out.th; cases a ρ <;> rfl
theorem x_of_ok : sOf (.ok v) k = k v := rfl
theorem x_of_exc : sOf (.exc x : R α) k = .exc x := rfl
theorem x_of_stuck : sOf (.stuck : R α) k = .stuck := rfl
theorem x_pickS_t : pickS a b ρ true = a ρ := rfl
theorem x_pickS_f : pickS a b ρ false = b ρ := rfl
theorem x_pickE_t : pickE e f ρ true = e ρ := rfl
theorem x_pickE_f : pickE e f ρ false = f ρ := rfl
theorem x_pickT_t : pickT t u ρ true = t ρ := rfl
theorem x_pickT_f : pickT t u ρ false = u ρ := rfl
theorem x_kF : kF ρ = .ok (.fz (.bl false)) := rfl
theorem x_kT : kT ρ = .ok (.fz (.bl true)) := rfl
theorem x_kfB : kfB ρ = .ok false := rfl
theorem x_ktB : ktB ρ = .ok true := rfl
theorem x_set : sSet i e ρ = sOf ((e ρ).b En.nmo) fun w => .nx (ρ.set i (some w)) := rfl
theorem x_ret : sRet e ρ = sOf ((e ρ).b En.nmo) .rt := rfl
theorem x_retV : sRetV i ρ = retR ρ[i]? := rfl
theorem x_retR_fz : retR (some (some (.fz d))) = .rt (.fz d) := rfl
theorem x_retR_ow : retR (some (some (.ow d))) = .rt (.ow d) := rfl
theorem x_retN : sRetN ρ = .rt (.fz .non) := rfl
theorem x_next : sNext ρ = .nx ρ := rfl
theorem x_break : sBreak ρ = .bk ρ := rfl
theorem x_cont : sCont ρ = .ct ρ := rfl
theorem x_expr : sExpr e ρ = sOf (e ρ) fun _ => .nx ρ := rfl
theorem x_if : sIf t a b ρ = sOf (t ρ) (pickS a b ρ) := rfl
theorem x_nm_fz : En.nmo (.fz d) = .ok (.fz d) := rfl
theorem x_nm_ow : En.nmo (.ow d) = .ok (.ow d) := rfl
theorem x_st_fz : En.sto (.fz d) = .ok d := rfl
theorem x_st_ow : En.sto (.ow d) = .ok d := rfl
theorem x_arg_fz : En.argo (.fz d) = .ok (.fz d) := rfl
theorem x_arg_ow : En.argo (.ow d) = .ok (.fz d) := rfl
theorem x_arg_br : En.argo (.br d) = .ok (.br d) := rfl
theorem x_d_fz : En.dd (.fz d) = d := rfl
theorem x_d_ow : En.dd (.ow d) = d := rfl
theorem x_d_br : En.dd (.br d) = d := rfl
theorem x_d_lk : En.dd (.lk d) = d := rfl
theorem x_var : eVar i ρ = varR ρ[i]? := rfl
theorem x_varR_fz : varR (some (some (.fz d))) = .ok (.fz d) := rfl
theorem x_varR_ow : varR (some (some (.ow d))) = .ok (.br d) := rfl
theorem x_varR_br : varR (some (some (.br d))) = .ok (.br d) := rfl
theorem x_varR_lk : varR (some (some (.lk d))) = .ok (.br d) := rfl
theorem x_c : eC d ρ = .ok (.fz d) := rfl
theorem x_op {g : D → D → R En} : eOp g e f ρ = (e ρ).b fun x => (f ρ).b fun y => g x.dd y.dd := rfl
theorem x_un {g : D → R En} : eUn g e ρ = (e ρ).b fun x => g x.dd := rfl
theorem x_evs_nil : evs [] ρ = .ok [] := rfl
theorem x_evs : evs (e :: l) ρ = (e ρ).b fun x => (evs l ρ).b fun xs => .ok (x :: xs) := rfl
theorem x_stA_nil : stAll [] = .ok [] := rfl
theorem x_stA {w : En} {ws : List En} : stAll (w :: ws) = w.sto.b fun d => (stAll ws).b fun ds => .ok (d :: ds) := rfl
theorem x_argA_nil : argAll [] = .ok [] := rfl
theorem x_argA {w : En} {ws : List En} : argAll (w :: ws) = w.argo.b fun d => (argAll ws).b fun ds => .ok (d :: ds) := rfl
theorem x_lst : eLst l ρ = (evs l ρ).b fun xs => (stAll xs).b mkLst := rfl
theorem x_tup : eTup l ρ = (evs l ρ).b fun xs => (stAll xs).b mkTup := rfl
theorem x_mkL0 : mkLst [] = .ok (.ow (.lst [])) := mkLst_ok (Nat.le_of_lt (Nat.lt_of_lt_of_le (show [].length < 17 by simp) (by decide)))
theorem x_mkT0 : mkTup [] = .ok (.fz (.tup [])) := mkTup_ok (Nat.le_of_lt (Nat.lt_of_lt_of_le (show [].length < 17 by simp) (by decide)))
theorem x_mkL1 {a0 : D} : mkLst [a0] = .ok (.ow (.lst [a0])) := mkLst_ok (Nat.le_of_lt (Nat.lt_of_lt_of_le (show [a0].length < 17 by simp) (by decide)))
theorem x_mkT1 {a0 : D} : mkTup [a0] = .ok (.fz (.tup [a0])) := mkTup_ok (Nat.le_of_lt (Nat.lt_of_lt_of_le (show [a0].length < 17 by simp) (by decide)))
theorem x_mkL2 {a0 a1 : D} : mkLst [a0, a1] = .ok (.ow (.lst [a0, a1])) := mkLst_ok (Nat.le_of_lt (Nat.lt_of_lt_of_le (show [a0, a1].length < 17 by simp) (by decide)))
theorem x_mkT2 {a0 a1 : D} : mkTup [a0, a1] = .ok (.fz (.tup [a0, a1])) := mkTup_ok (Nat.le_of_lt (Nat.lt_of_lt_of_le (show [a0, a1].length < 17 by simp) (by decide)))
theorem x_mkL3 {a0 a1 a2 : D} : mkLst [a0, a1, a2] = .ok (.ow (.lst [a0, a1, a2])) := mkLst_ok (Nat.le_of_lt (Nat.lt_of_lt_of_le (show [a0, a1, a2].length < 17 by simp) (by decide)))
theorem x_mkT3 {a0 a1 a2 : D} : mkTup [a0, a1, a2] = .ok (.fz (.tup [a0, a1, a2])) := mkTup_ok (Nat.le_of_lt (Nat.lt_of_lt_of_le (show [a0, a1, a2].length < 17 by simp) (by decide)))
theorem x_mkL4 {a0 a1 a2 a3 : D} : mkLst [a0, a1, a2, a3] = .ok (.ow (.lst [a0, a1, a2, a3])) := mkLst_ok (Nat.le_of_lt (Nat.lt_of_lt_of_le (show [a0, a1, a2, a3].length < 17 by simp) (by decide)))
theorem x_mkT4 {a0 a1 a2 a3 : D} : mkTup [a0, a1, a2, a3] = .ok (.fz (.tup [a0, a1, a2, a3])) := mkTup_ok (Nat.le_of_lt (Nat.lt_of_lt_of_le (show [a0, a1, a2, a3].length < 17 by simp) (by decide)))
theorem x_mkL5 {a0 a1 a2 a3 a4 : D} : mkLst [a0, a1, a2, a3, a4] = .ok (.ow (.lst [a0, a1, a2, a3, a4])) := mkLst_ok (Nat.le_of_lt (Nat.lt_of_lt_of_le (show [a0, a1, a2, a3, a4].length < 17 by simp) (by decide)))
theorem x_mkT5 {a0 a1 a2 a3 a4 : D} : mkTup [a0, a1, a2, a3, a4] = .ok (.fz (.tup [a0, a1, a2, a3, a4])) := mkTup_ok (Nat.le_of_lt (Nat.lt_of_lt_of_le (show [a0, a1, a2, a3, a4].length < 17 by simp) (by decide)))
theorem x_mkL6 {a0 a1 a2 a3 a4 a5 : D} : mkLst [a0, a1, a2, a3, a4, a5] = .ok (.ow (.lst [a0, a1, a2, a3, a4, a5])) := mkLst_ok (Nat.le_of_lt (Nat.lt_of_lt_of_le (show [a0, a1, a2, a3, a4, a5].length < 17 by simp) (by decide)))
theorem x_mkL7 {a0 a1 a2 a3 a4 a5 a6 : D} : mkLst [a0, a1, a2, a3, a4, a5, a6] = .ok (.ow (.lst [a0, a1, a2, a3, a4, a5, a6])) := mkLst_ok (Nat.le_of_lt (Nat.lt_of_lt_of_le (show [a0, a1, a2, a3, a4, a5, a6].length < 17 by simp) (by decide)))
theorem x_mkL8 {a0 a1 a2 a3 a4 a5 a6 a7 : D} : mkLst [a0, a1, a2, a3, a4, a5, a6, a7] = .ok (.ow (.lst [a0, a1, a2, a3, a4, a5, a6, a7])) := mkLst_ok (Nat.le_of_lt (Nat.lt_of_lt_of_le (show [a0, a1, a2, a3, a4, a5, a6, a7].length < 17 by simp) (by decide)))
theorem x_mkL9 {a0 a1 a2 a3 a4 a5 a6 a7 a8 : D} : mkLst [a0, a1, a2, a3, a4, a5, a6, a7, a8] = .ok (.ow (.lst [a0, a1, a2, a3, a4, a5, a6, a7, a8])) := mkLst_ok (Nat.le_of_lt (Nat.lt_of_lt_of_le (show [a0, a1, a2, a3, a4, a5, a6, a7, a8].length < 17 by simp) (by decide)))
theorem x_mkL10 {a0 a1 a2 a3 a4 a5 a6 a7 a8 a9 : D} : mkLst [a0, a1, a2, a3, a4, a5, a6, a7, a8, a9] = .ok (.ow (.lst [a0, a1, a2, a3, a4, a5, a6, a7, a8, a9])) := mkLst_ok (Nat.le_of_lt (Nat.lt_of_lt_of_le (show [a0, a1, a2, a3, a4, a5, a6, a7, a8, a9].length < 17 by simp) (by decide)))
theorem x_mkL11 {a0 a1 a2 a3 a4 a5 a6 a7 a8 a9 a10 : D} : mkLst [a0, a1, a2, a3, a4, a5, a6, a7, a8, a9, a10] = .ok (.ow (.lst [a0, a1, a2, a3, a4, a5, a6, a7, a8, a9, a10])) := mkLst_ok (Nat.le_of_lt (Nat.lt_of_lt_of_le (show [a0, a1, a2, a3, a4, a5, a6, a7, a8, a9, a10].length < 17 by simp) (by decide)))
theorem x_mkL12 {a0 a1 a2 a3 a4 a5 a6 a7 a8 a9 a10 a11 : D} : mkLst [a0, a1, a2, a3, a4, a5, a6, a7, a8, a9, a10, a11] = .ok (.ow (.lst [a0, a1, a2, a3, a4, a5, a6, a7, a8, a9, a10, a11])) := mkLst_ok (Nat.le_of_lt (Nat.lt_of_lt_of_le (show [a0, a1, a2, a3, a4, a5, a6, a7, a8, a9, a10, a11].length < 17 by simp) (by decide)))
theorem x_mkL13 {a0 a1 a2 a3 a4 a5 a6 a7 a8 a9 a10 a11 a12 : D} : mkLst [a0, a1, a2, a3, a4, a5, a6, a7, a8, a9, a10, a11, a12] = .ok (.ow (.lst [a0, a1, a2, a3, a4, a5, a6, a7, a8, a9, a10, a11, a12])) := mkLst_ok (Nat.le_of_lt (Nat.lt_of_lt_of_le (show [a0, a1, a2, a3, a4, a5, a6, a7, a8, a9, a10, a11, a12].length < 17 by simp) (by decide)))
theorem x_mkL14 {a0 a1 a2 a3 a4 a5 a6 a7 a8 a9 a10 a11 a12 a13 : D} : mkLst [a0, a1, a2, a3, a4, a5, a6, a7, a8, a9, a10, a11, a12, a13] = .ok (.ow (.lst [a0, a1, a2, a3, a4, a5, a6, a7, a8, a9, a10, a11, a12, a13])) := mkLst_ok (Nat.le_of_lt (Nat.lt_of_lt_of_le (show [a0, a1, a2, a3, a4, a5, a6, a7, a8, a9, a10, a11, a12, a13].length < 17 by simp) (by decide)))
theorem x_mkL15 {a0 a1 a2 a3 a4 a5 a6 a7 a8 a9 a10 a11 a12 a13 a14 : D} : mkLst [a0, a1, a2, a3, a4, a5, a6, a7, a8, a9, a10, a11, a12, a13, a14] = .ok (.ow (.lst [a0, a1, a2, a3, a4, a5, a6, a7, a8, a9, a10, a11, a12, a13, a14])) := mkLst_ok (Nat.le_of_lt (Nat.lt_of_lt_of_le (show [a0, a1, a2, a3, a4, a5, a6, a7, a8, a9, a10, a11, a12, a13, a14].length < 17 by simp) (by decide)))
theorem x_mkL16 {a0 a1 a2 a3 a4 a5 a6 a7 a8 a9 a10 a11 a12 a13 a14 a15 : D} : mkLst [a0, a1, a2, a3, a4, a5, a6, a7, a8, a9, a10, a11, a12, a13, a14, a15] = .ok (.ow (.lst [a0, a1, a2, a3, a4, a5, a6, a7, a8, a9, a10, a11, a12, a13, a14, a15])) := mkLst_ok (Nat.le_of_lt (Nat.lt_of_lt_of_le (show [a0, a1, a2, a3, a4, a5, a6, a7, a8, a9, a10, a11, a12, a13, a14, a15].length < 17 by simp) (by decide)))
theorem x_call {dn : Den} : eCall dn l ρ = (evs l ρ).b fun xs => (argAll xs).b fun ys => dn ys := rfl
theorem x_B {g : List D → R En} : eB g l ρ = (evs l ρ).b fun xs => g (xs.map En.dd) := rfl
theorem x_tE : tE e ρ = (e ρ).b fun x => truth x.dd := rfl
theorem x_tNot : tNot t ρ = (t ρ).b fun b => .ok (!b) := rfl
theorem x_tAnd : tAnd t u ρ = (t ρ).b (pickT u kfB ρ) := rfl
theorem x_tOr : tOr t u ρ = (t ρ).b (pickT ktB u ρ) := rfl
theorem x_eNot : eNot e ρ = (e ρ).b fun x => (isB x.dd).b fun b => .ok (.fz (.bl (!b))) := rfl
theorem x_eAnd : eAnd e f ρ = (e ρ).b fun x => (isB x.dd).b (pickE f kF ρ) := rfl
theorem x_eOr : eOr e f ρ = (e ρ).b fun x => (isB x.dd).b (pickE kT f ρ) := rfl
theorem x_eIf : eIf t e f ρ = (t ρ).b (pickE e f ρ) := rfl
theorem x_isB {c : Bool} : isB (.bl c) = .ok c := rfl
theorem x_truth_bl {c : Bool} : truth (.bl c) = .ok c := rfl
theorem x_truth_int {c : Int} : truth (.int c) = .ok (c != 0) := rfl
theorem x_truth_lst {c : List D} : truth (.lst c) = .ok (!c.isEmpty) := rfl
theorem x_truth_tup {c : List D} : truth (.tup c) = .ok (!c.isEmpty) := rfl
theorem x_truth_non : truth .non = .ok false := rfl
theorem x_for {it : IF} {g : GF} : sFor it g a ρ = sOf (it ρ) fun xs => forD g a xs ρ := rfl
theorem x_frz : sFrz i a ρ = a (frz i ρ) := rfl
theorem x_add {i j : Int} : dAddI (.int i) (.int j) = .ok (.fz (.int (i + j))) := rfl
theorem x_sub {i j : Int} : dSub (.int i) (.int j) = .ok (.fz (.int (i - j))) := rfl
theorem x_lt {i j : Int} : dLt (.int i) (.int j) = .ok (.fz (.bl (decide (i < j)))) := rfl
theorem x_le {i j : Int} : dLe (.int i) (.int j) = .ok (.fz (.bl (decide (i ≤ j)))) := rfl
theorem x_gt {i j : Int} : dGt (.int i) (.int j) = .ok (.fz (.bl (decide (j < i)))) := rfl
theorem x_ge {i j : Int} : dGe (.int i) (.int j) = .ok (.fz (.bl (decide (j ≤ i)))) := rfl
theorem x_eq {i j : Int} : dEq (.int i) (.int j) = .ok (.fz (.bl (i == j))) := rfl
theorem x_ne {i j : Int} : dNe (.int i) (.int j) = .ok (.fz (.bl (!(i == j)))) := rfl
theorem x_neg {i : Int} : dNeg (.int i) = .ok (.fz (.int (-i))) := rfl
theorem x_mod {i j : Int} (h : 0 < j) : dMod (.int i) (.int j) = .ok (.fz (.int (i % j))) := by unfold dMod; dsimp only; rw [if_pos h]
theorem x_div {i j : Int} (h : 0 < j) (h2 : j < 1073741824) : dDiv (.int i) (.int j) = .ok (.fz (.int (i / j))) := by unfold dDiv; dsimp only; rw [if_pos ⟨h, h2⟩]
theorem x_mulr {i j : Int} (h1 : -1000000000000 < j) (h2 : j < 1000000000000) : dMul (.int i) (.int j) = .ok (.fz (.int (i * j))) := by
  unfold dMul; dsimp only; rw [if_pos]; rw [Bool.or_eq_true]; exact .inr (fits_iff.mpr (by rw [b64e]; omega))
theorem x_mull {i j : Int} (h1 : -1000000000000 < i) (h2 : i < 1000000000000) : dMul (.int i) (.int j) = .ok (.fz (.int (i * j))) := by
  unfold dMul; dsimp only; rw [if_pos]; rw [Bool.or_eq_true]; exact .inl (fits_iff.mpr (by rw [b64e]; omega))
theorem x_len_l {xs : List D} : dLenS [.lst xs] = .ok (.fz (.int xs.length)) := rfl
theorem x_len_t {xs : List D} : dLenS [.tup xs] = .ok (.fz (.int xs.length)) := rfl
theorem x_list_l {xs : List D} : dList [.lst xs] = .ok (.ow (.lst xs)) := rfl
theorem x_list_t {xs : List D} : dList [.tup xs] = .ok (.ow (.lst xs)) := rfl
theorem x_tuple_l {xs : List D} : dTuple [.lst xs] = .ok (.fz (.tup xs)) := rfl
theorem x_tuple_t {xs : List D} : dTuple [.tup xs] = .ok (.fz (.tup xs)) := rfl
theorem x_min {i j : Int} : dMin2 [.int i, .int j] = .ok (.fz (.int (if j < i then j else i))) := rfl
theorem x_max {i j : Int} : dMax2 [.int i, .int j] = .ok (.fz (.int (if j > i then j else i))) := rfl
theorem x_ix_l {xs : List D} {i : Int} : dIxS (.lst xs) (.int i) = okD (ati xs i) := rfl
theorem x_ix_t {xs : List D} {i : Int} : dIxS (.tup xs) (.int i) = okD (ati xs i) := rfl
theorem x_ati0 {d : D} {r : List D} : okD (ati (d :: r) 0) = .ok (.fz d) := by
  rw [show (0 : Int) = ((0 : Nat) : Int) from rfl, ati_nat]; rfl
theorem x_ati1 {c d : D} {r : List D} : okD (ati (c :: d :: r) 1) = .ok (.fz d) := by
  rw [show (1 : Int) = ((1 : Nat) : Int) from rfl, ati_nat]; rfl
theorem x_ati2 {b c d : D} {r : List D} : okD (ati (b :: c :: d :: r) 2) = .ok (.fz d) := by
  rw [show (2 : Int) = ((2 : Nat) : Int) from rfl, ati_nat]; rfl
theorem x_ati3 {a b c d : D} {r : List D} : okD (ati (a :: b :: c :: d :: r) 3) = .ok (.fz d) := by
  rw [show (3 : Int) = ((3 : Nat) : Int) from rfl, ati_nat]; rfl
theorem x_okD {d : D} : okD (some d) = .ok (.fz d) := rfl
theorem x_is_int {n : Int} : dIs .int (.int n) = .ok (.fz (.bl true)) := rfl
theorem x_is_bool {n : Int} : dIs .bool (.int n) = .ok (.fz (.bl false)) := rfl
theorem x_is_list {n : List D} : dIs .list (.lst n) = .ok (.fz (.bl true)) := rfl
theorem x_is_tuple {n : List D} : dIs .tuple (.tup n) = .ok (.fz (.bl true)) := rfl
theorem x_stuck : sStuck ρ = .stuck := rfl
theorem x_gV : gV i d ρ = .ok (ρ.set i (some (.fz d))) := rfl
theorem x_dK : eDK ρ = .ok (.ow (.dK [])) := rfl
theorem x_dT : eDT ρ = .ok (.ow (.dT [])) := rfl
theorem x_den {n : Nat} {ws : List En} : den n a ws = fin (a (ws.map some ++ List.replicate (n - ws.length) none)) := rfl
theorem x_fin_rt : fin (.rt w) = .ok w := rfl
theorem x_fin_nx : fin (.nx ρ) = .ok (.fz .non) := rfl
theorem x_iV_fz {ds : List D} (h : ρ[i]? = some (some (.fz (.lst ds)))) : iV i ρ = .ok ds := by unfold iV; rw [h]; rfl
theorem x_iV_br {ds : List D} (h : ρ[i]? = some (some (.br (.lst ds)))) : iV i ρ = .ok ds := by unfold iV; rw [h]; rfl
theorem x_iVc {ds : List D} {w : En} (h : ρ[i]? = some (some w)) (h2 : w.d = .lst ds) : iVc i ρ = .ok ds := by unfold iVc; rw [h]; dsimp only; rw [h2]; rfl
theorem x_iR {e : EF} {ρ : Rho} {j : Int} (h : e ρ = .ok (.fz (.int j))) (c : fits b62 j = true) : iR1 e ρ = .ok (rngD 0 j.toNat) := by
  unfold iR1
  rw [h, R.bind_ok]
  dsimp only [En.d]
  rw [if_pos c]
theorem x_iR1 {e : EF} {ρ : Rho} {n : Nat} (h : e ρ = .ok (.fz (.int n))) (hn : n < 1000000) : iR1 e ρ = .ok (rngD 0 n) := by
  rw [x_iR h (fits_iff.mpr (by rw [b62e]; omega)), Int.toNat_natCast]
theorem x_app {xs : List D} {i : Nat} (h : ρ[i]? = some (some (.ow (.lst xs)))) (hl : xs.length < sz) (h2 : (e ρ).b En.sto = .ok d) : sApp i e ρ = .nx (ρ.set i (some (.ow (.lst (xs ++ [d]))))) := by
  unfold sApp; have h2 : (e ρ).bind En.st = .ok d := h2
  rw [h]; dsimp only; rw [h2]; unfold sOf; dsimp only; rw [if_pos hl]
theorem x_put {kvs : List (Sum Int Str × D)} {i : Nat} {k : EF} {w : En} {key : Sum Int Str} (h : ρ[i]? = some (some (.ow (.dK kvs)))) (h2 : (e ρ).b En.sto = .ok d) (h3 : k ρ = .ok w) (h4 : keyOf w.d = some key) (hl : kvs.length < sz) :
    sPutK i k e ρ = .nx (ρ.set i (some (.ow (.dK (putM key d kvs))))) := by
  have h2 : (e ρ).bind En.st = .ok d := h2
  unfold sPutK
  rw [h]; dsimp only; rw [h2]; unfold sOf; dsimp only; rw [h3]; dsimp only; rw [h4]; dsimp only; rw [if_pos hl]
def getOr (o : Option D) (w : En) : R En := match o with | some d => .ok (.fz d) | none => .ok w
theorem x_get2 {kvs : List (Sum Int Str × D)} {dd k x : EF} {wd wk wx : En} {q : Sum Int Str} (h1 : dd ρ = .ok wd) (h2 : wd.d = .dK kvs) (h3 : k ρ = .ok wk) (h4 : keyOf wk.d = some q) (h5 : x ρ = .ok wx) :
    eGet2 dd k x ρ = getOr (look q kvs) wx := by
  unfold eGet2
  rw [h1, R.bind_ok]
  cases wd <;> (dsimp only [En.d] at h2 ⊢; subst h2; dsimp only; rw [h3, R.bind_ok, h5, R.bind_ok, h4]; rfl)
theorem deq_self : ∀ (n : Nat) (d : D), eqokN n d = true → deq d d = true
  | _, .non, _ => rfl
  | _, .bl _, _ => by simp [deq]
  | _, .int _, _ => by simp [deq]
  | _, .str _, _ => by simp [deq]
  | 0, .tup _, h => by simp [eqokN] at h
  | 0, .lst _, h => by simp [eqokN] at h
  | n + 1, .tup xs, h => by
    have k : ∀ ys : List D, ys.all (eqokN n) = true → deqs ys ys = true := by
      intro ys
      induction ys with
      | nil => intro _; rfl
      | cons y ys ih =>
        intro hy
        rw [List.all_cons, Bool.and_eq_true] at hy
        show (deq y y && deqs ys ys) = true
        rw [deq_self n y hy.1, ih hy.2]; rfl
    exact k xs h
  | n + 1, .lst xs, h => by
    have k : ∀ ys : List D, ys.all (eqokN n) = true → deqs ys ys = true := by
      intro ys
      induction ys with
      | nil => intro _; rfl
      | cons y ys ih =>
        intro hy
        rw [List.all_cons, Bool.and_eq_true] at hy
        show (deq y y && deqs ys ys) = true
        rw [deq_self n y hy.1, ih hy.2]; rfl
    exact k xs h
  | n, .dK _, h => by cases n <;> simp [eqokN] at h
  | n, .dT _, h => by cases n <;> simp [eqokN] at h
  | n, .xc _ _, h => by cases n <;> simp [eqokN] at h
theorem x_ne_self (h : eqok d = true) : dNe d d = .ok (.fz (.bl false)) := by
  unfold dNe; rw [h, deq_self 8 d h]; rfl
theorem x_eq_self (h : eqok d = true) : dEq d d = .ok (.fz (.bl true)) := by
  unfold dEq; rw [h, deq_self 8 d h]; rfl
theorem eqok_lst {xs : List D} (h : ∀ x ∈ xs, eqokN 7 x = true) : eqok (.lst xs) = true := by
  show xs.all (eqokN 7) = true
  exact List.all_eq_true.mpr h
theorem x_asg {gf : GF} : sAsg gf e ρ = sOf ((e ρ).b fun w => w.sto.b fun d => gf d ρ) .nx := rfl
theorem x_gT {is : List Nat} {ds : List D} : gT is (.tup ds) ρ = gVs is ds ρ := rfl
theorem x_gVs0 : gVs [] [] ρ = .ok ρ := rfl
theorem x_gVs {is : List Nat} {ds : List D} : gVs (i :: is) (d :: ds) ρ = gVs is ds (ρ.set i (some (.fz d))) := rfl
end
end L3

set_option maxHeartbeats 4000000
namespace My
open PySem PySem.Spec PyProof.Rows L2 L3
def top (i : Nat) : Stmt := PySem.Challenge.pw_stavemill_k05_where_ticks_stand.main.body.getD i (.Pass ⟨0, 0, 0, 0⟩)
/-! ### told_length -/
abbrev s_told_length : Stmt := top 1
def B_told_length : SF :=
  (sRet (eOp dMul (eOp dIxS (eVar 0) (eC (.int 1))) (eOp dIxS (eVar 0) (eC (.int 2)))))
def D_told_length : Den := den 1 B_told_length
/-! ### _law_cell -/
abbrev s__law_cell : Stmt := top 5
def B__law_cell : SF :=
  (sSeq (sIf (tE (eOp dLt (eVar 1) (eB dLenS [(eVar 0)]))) (sRet (eOp dIxS (eVar 0) (eVar 1))) sNext)
  (sRet (eC (.int 0))))
def D__law_cell : Den := den 2 B__law_cell
/-! ### _law_mix -/
abbrev s__law_mix : Stmt := top 6
def B__law_mix : SF :=
  (sRet (eOp dMod (eOp dMod (eOp dMul (eVar 0) (eC (.int 48271))) (eVar 1)) (eVar 2)))
def D__law_mix : Den := den 3 B__law_mix
/-! ### _law_whole -/
abbrev s__law_whole : Stmt := top 7
def B__law_whole : SF :=
  (sRet (eAnd (eUn (dIs .int) (eVar 0)) (eNot (eUn (dIs .bool) (eVar 0)))))
def D__law_whole : Den := den 1 B__law_whole
/-! ### _law_length -/
abbrev s__law_length : Stmt := top 10
def B__law_length : SF :=
  (sRet (eOp dIxS (eComp 1 (iVc 0) (gV 2) (tE (eOp dLe (eOp dIxS (eVar 2) (eC (.int 0))) (eVar 1))) (eOp dMul (eOp dIxS (eVar 2) (eC (.int 1))) (eOp dIxS (eVar 2) (eC (.int 2))))) (eUn dNeg (eC (.int 1)))))
def D__law_length : Den := den 2 B__law_length
/-! ### stands -/
abbrev s_stands : Stmt := top 2
def B_stands : SF :=
  (sSeq (sSet 2 (eC (.int 0)))
  (sSeq (sSet 3 (eC (.int 0)))
  (sSeq (sSet 4 (eC (.int 0)))
  (sSeq (sFrz 0 (sFor (iV 0) (gV 5) (sSeq (sSet 6 (eOp dAddI (eVar 3) (eOp dMul (eOp dSub (eOp dIxS (eVar 5) (eC (.int 0))) (eVar 2)) (eVar 4))))
  (sSeq (sIf (tE (eOp dLt (eVar 1) (eVar 6))) sBreak sNext)
  (sSeq (sSet 2 (eOp dIxS (eVar 5) (eC (.int 0))))
  (sSeq (sSet 3 (eVar 6))
  (sSet 4 (eCall D_told_length [(eVar 5)]))))))))
  (sRet (eTup [(eOp dAddI (eVar 2) (eOp dDiv (eOp dSub (eVar 1) (eVar 3)) (eVar 4))), (eOp dMod (eOp dSub (eVar 1) (eVar 3)) (eVar 4))]))))))
def D_stands : Den := den 7 B_stands
/-! ### _law_step -/
abbrev s__law_step : Stmt := top 8
def B__law_step : SF :=
  (sSeq (sSet 3 (eLst [(eC (.int 1)), (eC (.int 2)), (eC (.int 4)), (eC (.int 8)), (eC (.int 16)), (eC (.int 32)), (eC (.int 64))]))
  (sSeq (sSet 4 (eC (.int 8)))
  (sSeq (sSet 5 (eC (.int 96)))
  (sSeq (sIf (tE (eVar 2)) (sSeq (sSet 3 (eLst [(eC (.int 4)), (eC (.int 8)), (eC (.int 16)), (eC (.int 32)), (eC (.int 64))]))
  (sSeq (sSet 4 (eC (.int 64)))
  (sSet 5 (eC (.int 512))))) sNext)
  (sSeq (sSet 6 (eOp dIxS (eVar 3) (eCall D__law_mix [(eVar 0), (eC (.int 10007)), (eB dLenS [(eVar 3)])])))
  (sSeq (sSet 7 (eOp dDiv (eOp dSub (eOp dAddI (eVar 4) (eVar 6)) (eC (.int 1))) (eVar 6)))
  (sSeq (sSet 8 (eB dMin2 [(eC (.int 24)), (eOp dDiv (eVar 5) (eVar 6))]))
  (sRet (eTup [(eVar 1), (eOp dAddI (eVar 7) (eCall D__law_mix [(eVar 0), (eC (.int 9973)), (eOp dAddI (eOp dSub (eVar 8) (eVar 7)) (eC (.int 1)))])), (eVar 6)])))))))))
def D__law_step : Den := den 9 B__law_step
/-! ### _law_ahead -/
abbrev s__law_ahead : Stmt := top 11
def B__law_ahead : SF :=
  (sRet (eB dSum [(eComp 1 (iR1 (eVar 1)) (gV 2) tTrue (eCall D__law_length [(eVar 0), (eVar 2)]))]))
def D__law_ahead : Den := den 2 B__law_ahead
/-! ### bars_needed -/
abbrev s_bars_needed : Stmt := top 3
def B_bars_needed : SF :=
  (sSeq (sSet 2 (eB dMax2 [(eOp dSub (eVar 1) (eC (.int 1))), (eC (.int 0))]))
  (sRet (eOp dAddI (eOp dIxS (eCall D_stands [(eVar 0), (eVar 2)]) (eC (.int 0))) (eC (.int 1)))))
def D_bars_needed : Den := den 3 B_bars_needed
/-! ### _law_meter -/
abbrev s__law_meter : Stmt := top 9
def B__law_meter : SF :=
  (sSeq (sSet 2 (eLst []))
  (sSeq (sSet 3 (eC (.int 0)))
  (sSeq (sFor (iR1 (eOp dAddI (eC (.int 1)) (eOp dMod (eCall D__law_cell [(eVar 0), (eC (.int 1))]) (eC (.int 3))))) (gV 4) (sSeq (sSet 5 (eOp dAddI (eCall D__law_cell [(eVar 0), (eC (.int 1))]) (eOp dMul (eC (.int 7)) (eCall D__law_cell [(eVar 0), (eOp dAddI (eC (.int 2)) (eVar 4))]))))
  (sSeq (sApp 2 (eCall D__law_step [(eVar 5), (eVar 3), (eVar 1)]))
  (sSet 3 (eOp dAddI (eOp dAddI (eVar 3) (eC (.int 1))) (eCall D__law_mix [(eVar 5), (eC (.int 9967)), (eC (.int 3))]))))))
  (sRetV 2))))
def D__law_meter : Den := den 6 B__law_meter
/-! ### _law_tick -/
abbrev s__law_tick : Stmt := top 12
def B__law_tick : SF :=
  (sSeq (sIf (tE (eOp dEq (eOp dMod (eOp dDiv (eCall D__law_cell [(eVar 0), (eC (.int 0))]) (eC (.int 2))) (eC (.int 2))) (eC (.int 0)))) (sRet (eOp dMod (eCall D__law_cell [(eVar 0), (eC (.int 5))]) (eC (.int 1401)))) sNext)
  (sSeq (sSet 2 (eOp dSub (eCall D__law_ahead [(eVar 1), (eOp dMod (eCall D__law_cell [(eVar 0), (eC (.int 5))]) (eC (.int 12)))]) (eOp dMod (eCall D__law_cell [(eVar 0), (eC (.int 6))]) (eC (.int 2)))))
  (sRet (eB dMax2 [(eC (.int 0)), (eVar 2)]))))
def D__law_tick : Den := den 3 B__law_tick
/-! ### law -/
abbrev s_law : Stmt := top 13
def T3_law : SF :=
  (sSeq (sIf (tOr (tNot (tE (eUn (dIs .tuple) (eVar 3)))) (tOr (tE (eOp dNe (eB dLenS [(eVar 3)]) (eC (.int 2)))) (tOr (tNot (tE (eCall D__law_whole [(eOp dIxS (eVar 3) (eC (.int 0)))]))) (tNot (tE (eCall D__law_whole [(eOp dIxS (eVar 3) (eC (.int 1)))])))))) (sRet (eC (.bl false))) sNext)
  (sSeq (sAsg (gT [4, 5]) (eVar 3))
  (sSeq (sIf (tOr (tE (eOp dLt (eVar 4) (eC (.int 0)))) (tOr (tE (eOp dGt (eVar 4) (eC (.int 175)))) (tOr (tE (eOp dLt (eVar 5) (eC (.int 0)))) (tE (eOp dGe (eVar 5) (eCall D__law_length [(eVar 1), (eVar 4)])))))) (sRet (eC (.bl false))) sNext)
  (sSeq (sIf (tE (eOp dNe (eOp dAddI (eCall D__law_ahead [(eVar 1), (eVar 4)]) (eVar 5)) (eVar 2))) (sRet (eC (.bl false))) sNext)
  (sSeq (sSet 6 (eVar 4))
  (sSeq (sIf (tOr (tE (eOp dGt (eVar 5) (eC (.int 0)))) (tE (eOp dEq (eVar 2) (eC (.int 0))))) (sSet 6 (eOp dAddI (eVar 4) (eC (.int 1)))) sNext)
  (sSeq (sSet 7 (eCall D_bars_needed [(eB dList [(eVar 1)]), (eVar 2)]))
  (sRet (eAnd (eCall D__law_whole [(eVar 7)]) (eOp dEq (eVar 7) (eVar 6)))))))))))
def T2_law : SF :=
  (sSeq (sSet 3 (eCall D_stands [(eB dList [(eVar 1)]), (eVar 2)]))
  T3_law)
def T1_law : SF :=
  (sSeq (sSet 2 (eCall D__law_tick [(eVar 0), (eVar 1)]))
  T2_law)
def B_law : SF :=
  (sSeq (sSet 1 (eCall D__law_meter [(eVar 0), (eOp dEq (eOp dMod (eCall D__law_cell [(eVar 0), (eC (.int 0))]) (eC (.int 2))) (eC (.int 1)))]))
  T1_law)
def D_law : Den := den 8 B_law
/-! a script's cell; mix -/
def cell (ns : List Int) (k : Nat) : Int := ns.getD k 0
theorem cell_eq (ns : List Int) (k : Nat) : D__law_cell [.fz (.lst (ns.map D.int)), .fz (.int (k : Int))] = .ok (.fz (.int (cell ns k))) := by
  unfold D__law_cell B__law_cell
  simp only [x_den, x_fin_rt, x_fin_nx, List.map_cons, List.map_nil, List.length_cons, List.length_nil, List.replicate_succ, List.replicate_zero, List.cons_append, List.nil_append, Nat.reduceAdd, Nat.reduceSub, Nat.reduceLeDiff, Nat.zero_add, x_th_nx, x_th_rt, x_th_bk, x_th_ct, x_th_stuck, x_seq, x_of_ok, x_of_stuck, x_pickS_t, x_pickS_f, x_pickE_t, x_pickE_f, x_pickT_t, x_pickT_f, x_kF, x_kT, x_kfB, x_ktB, x_set, x_ret, x_retV, x_retR_fz, x_retR_ow, x_retN, x_next, x_break, x_cont, x_expr, x_if, x_nm_fz, x_nm_ow, x_st_fz, x_st_ow, x_arg_fz, x_arg_ow, x_arg_br, x_d_fz, x_d_ow, x_d_br, x_d_lk, x_var, x_varR_fz, x_varR_ow, x_varR_br, x_varR_lk, x_c, x_op, x_un, x_evs_nil, x_evs, x_stA_nil, x_stA, x_argA_nil, x_argA, x_lst, x_tup, x_call, x_B, x_tE, x_tNot, x_tAnd, x_tOr, x_eNot, x_eAnd, x_eOr, x_eIf, x_isB, x_truth_bl, x_truth_int, x_truth_lst, x_truth_tup, x_truth_non, x_for, x_frz, x_add, x_sub, x_lt, x_le, x_gt, x_ge, x_eq, x_ne, x_neg, x_len_l, x_len_t, x_list_l, x_list_t, x_tuple_l, x_tuple_t, x_min, x_max, x_ix_l, x_ix_t, x_ati0, x_ati1, x_ati2, x_ati3, x_okD, x_is_int, x_is_bool, x_is_list, x_is_tuple, x_stuck, x_gV, x_dK, x_dT, x_b_ok, x_b_stuck, List.getElem?_cons_zero, List.getElem?_cons_succ, List.set_cons_zero, List.set_cons_succ, if_true, Bool.not_true, Bool.not_false, ite_true, L3.frz, x_mkL0, x_mkL1, x_mkL2, x_mkL3, x_mkL4, x_mkL5, x_mkL6, x_mkL7, x_mkL8, x_mkL9, x_mkL10, x_mkL11, x_mkL12, x_mkL13, x_mkL14, x_mkL15, x_mkL16, x_mkT0, x_mkT1, x_mkT2, x_mkT3, x_mkT4, x_mkT5, x_asg, x_gT, x_gVs0, x_gVs, Int.cast_ofNat_Int, ati_nat, List.length_map, cell, List.getD_eq_getElem?_getD]
  by_cases h : (k : Int) < (ns.length : Int)
  · have h2 : k < ns.length := by omega
    simp [h, h2, x_den, x_fin_rt, x_fin_nx, List.map_cons, List.map_nil, List.length_cons, List.length_nil, List.replicate_succ, List.replicate_zero, List.cons_append, List.nil_append, Nat.reduceAdd, Nat.reduceSub, Nat.reduceLeDiff, Nat.zero_add, x_th_nx, x_th_rt, x_th_bk, x_th_ct, x_th_stuck, x_seq, x_of_ok, x_of_stuck, x_pickS_t, x_pickS_f, x_pickE_t, x_pickE_f, x_pickT_t, x_pickT_f, x_kF, x_kT, x_kfB, x_ktB, x_set, x_ret, x_retV, x_retR_fz, x_retR_ow, x_retN, x_next, x_break, x_cont, x_expr, x_if, x_nm_fz, x_nm_ow, x_st_fz, x_st_ow, x_arg_fz, x_arg_ow, x_arg_br, x_d_fz, x_d_ow, x_d_br, x_d_lk, x_var, x_varR_fz, x_varR_ow, x_varR_br, x_varR_lk, x_c, x_op, x_un, x_evs_nil, x_evs, x_stA_nil, x_stA, x_argA_nil, x_argA, x_lst, x_tup, x_call, x_B, x_tE, x_tNot, x_tAnd, x_tOr, x_eNot, x_eAnd, x_eOr, x_eIf, x_isB, x_truth_bl, x_truth_int, x_truth_lst, x_truth_tup, x_truth_non, x_for, x_frz, x_add, x_sub, x_lt, x_le, x_gt, x_ge, x_eq, x_ne, x_neg, x_len_l, x_len_t, x_list_l, x_list_t, x_tuple_l, x_tuple_t, x_min, x_max, x_ix_l, x_ix_t, x_ati0, x_ati1, x_ati2, x_ati3, x_okD, x_is_int, x_is_bool, x_is_list, x_is_tuple, x_stuck, x_gV, x_dK, x_dT, x_b_ok, x_b_stuck, List.getElem?_cons_zero, List.getElem?_cons_succ, List.set_cons_zero, List.set_cons_succ, if_true, Bool.not_true, Bool.not_false, ite_true, L3.frz, x_mkL0, x_mkL1, x_mkL2, x_mkL3, x_mkL4, x_mkL5, x_mkL6, x_mkL7, x_mkL8, x_mkL9, x_mkL10, x_mkL11, x_mkL12, x_mkL13, x_mkL14, x_mkL15, x_mkL16, x_mkT0, x_mkT1, x_mkT2, x_mkT3, x_mkT4, x_mkT5, x_asg, x_gT, x_gVs0, x_gVs, Int.cast_ofNat_Int, ati_nat]
  · have h2 : ¬ k < ns.length := by omega
    simp [h, h2, x_den, x_fin_rt, x_fin_nx, List.map_cons, List.map_nil, List.length_cons, List.length_nil, List.replicate_succ, List.replicate_zero, List.cons_append, List.nil_append, Nat.reduceAdd, Nat.reduceSub, Nat.reduceLeDiff, Nat.zero_add, x_th_nx, x_th_rt, x_th_bk, x_th_ct, x_th_stuck, x_seq, x_of_ok, x_of_stuck, x_pickS_t, x_pickS_f, x_pickE_t, x_pickE_f, x_pickT_t, x_pickT_f, x_kF, x_kT, x_kfB, x_ktB, x_set, x_ret, x_retV, x_retR_fz, x_retR_ow, x_retN, x_next, x_break, x_cont, x_expr, x_if, x_nm_fz, x_nm_ow, x_st_fz, x_st_ow, x_arg_fz, x_arg_ow, x_arg_br, x_d_fz, x_d_ow, x_d_br, x_d_lk, x_var, x_varR_fz, x_varR_ow, x_varR_br, x_varR_lk, x_c, x_op, x_un, x_evs_nil, x_evs, x_stA_nil, x_stA, x_argA_nil, x_argA, x_lst, x_tup, x_call, x_B, x_tE, x_tNot, x_tAnd, x_tOr, x_eNot, x_eAnd, x_eOr, x_eIf, x_isB, x_truth_bl, x_truth_int, x_truth_lst, x_truth_tup, x_truth_non, x_for, x_frz, x_add, x_sub, x_lt, x_le, x_gt, x_ge, x_eq, x_ne, x_neg, x_len_l, x_len_t, x_list_l, x_list_t, x_tuple_l, x_tuple_t, x_min, x_max, x_ix_l, x_ix_t, x_ati0, x_ati1, x_ati2, x_ati3, x_okD, x_is_int, x_is_bool, x_is_list, x_is_tuple, x_stuck, x_gV, x_dK, x_dT, x_b_ok, x_b_stuck, List.getElem?_cons_zero, List.getElem?_cons_succ, List.set_cons_zero, List.set_cons_succ, if_true, Bool.not_true, Bool.not_false, ite_true, L3.frz, x_mkL0, x_mkL1, x_mkL2, x_mkL3, x_mkL4, x_mkL5, x_mkL6, x_mkL7, x_mkL8, x_mkL9, x_mkL10, x_mkL11, x_mkL12, x_mkL13, x_mkL14, x_mkL15, x_mkL16, x_mkT0, x_mkT1, x_mkT2, x_mkT3, x_mkT4, x_mkT5, x_asg, x_gT, x_gVs0, x_gVs, Int.cast_ofNat_Int, ati_nat]
def mixN (c p m : Int) : Int := c * 48271 % p % m
theorem mix_eq (c p m : Int) (hp : 0 < p) (hm : 0 < m) : D__law_mix [.fz (.int c), .fz (.int p), .fz (.int m)] = .ok (.fz (.int (mixN c p m))) := by
  unfold D__law_mix B__law_mix
  simp only [x_den, x_fin_rt, x_fin_nx, List.map_cons, List.map_nil, List.length_cons, List.length_nil, List.replicate_succ, List.replicate_zero, List.cons_append, List.nil_append, Nat.reduceAdd, Nat.reduceSub, Nat.reduceLeDiff, Nat.zero_add, x_th_nx, x_th_rt, x_th_bk, x_th_ct, x_th_stuck, x_seq, x_of_ok, x_of_stuck, x_pickS_t, x_pickS_f, x_pickE_t, x_pickE_f, x_pickT_t, x_pickT_f, x_kF, x_kT, x_kfB, x_ktB, x_set, x_ret, x_retV, x_retR_fz, x_retR_ow, x_retN, x_next, x_break, x_cont, x_expr, x_if, x_nm_fz, x_nm_ow, x_st_fz, x_st_ow, x_arg_fz, x_arg_ow, x_arg_br, x_d_fz, x_d_ow, x_d_br, x_d_lk, x_var, x_varR_fz, x_varR_ow, x_varR_br, x_varR_lk, x_c, x_op, x_un, x_evs_nil, x_evs, x_stA_nil, x_stA, x_argA_nil, x_argA, x_lst, x_tup, x_call, x_B, x_tE, x_tNot, x_tAnd, x_tOr, x_eNot, x_eAnd, x_eOr, x_eIf, x_isB, x_truth_bl, x_truth_int, x_truth_lst, x_truth_tup, x_truth_non, x_for, x_frz, x_add, x_sub, x_lt, x_le, x_gt, x_ge, x_eq, x_ne, x_neg, x_len_l, x_len_t, x_list_l, x_list_t, x_tuple_l, x_tuple_t, x_min, x_max, x_ix_l, x_ix_t, x_ati0, x_ati1, x_ati2, x_ati3, x_okD, x_is_int, x_is_bool, x_is_list, x_is_tuple, x_stuck, x_gV, x_dK, x_dT, x_b_ok, x_b_stuck, List.getElem?_cons_zero, List.getElem?_cons_succ, List.set_cons_zero, List.set_cons_succ, if_true, Bool.not_true, Bool.not_false, ite_true, L3.frz, x_mkL0, x_mkL1, x_mkL2, x_mkL3, x_mkL4, x_mkL5, x_mkL6, x_mkL7, x_mkL8, x_mkL9, x_mkL10, x_mkL11, x_mkL12, x_mkL13, x_mkL14, x_mkL15, x_mkL16, x_mkT0, x_mkT1, x_mkT2, x_mkT3, x_mkT4, x_mkT5, x_asg, x_gT, x_gVs0, x_gVs, Int.cast_ofNat_Int, x_mulr (i := c) (j := 48271) (by decide) (by decide), x_mod hp, x_mod hm, mixN]
theorem mix_lt (c p m : Int) (hm : 0 < m) : 0 ≤ mixN c p m ∧ mixN c p m < m := ⟨Int.emod_nonneg _ (by omega), Int.emod_lt_of_pos _ hm⟩

/-! the meter that a law draws -/
def unitsOf (wd : Bool) : List Int := if wd then [4, 8, 16, 32, 64] else [1, 2, 4, 8, 16, 32, 64]
def leastOf (wd : Bool) : Int := if wd then 64 else 8
def mostOf (wd : Bool) : Int := if wd then 512 else 96
def unitOf (c : Int) (wd : Bool) : Int := (unitsOf wd).getD (mixN c 10007 (unitsOf wd).length).toNat 1
def lowOf (wd : Bool) (u : Int) : Int := (leastOf wd + u - 1) / u
def highOf (wd : Bool) (u : Int) : Int := if mostOf wd / u < 24 then mostOf wd / u else 24
def topOf (c : Int) (wd : Bool) : Int := lowOf wd (unitOf c wd) + mixN c 9973 (highOf wd (unitOf c wd) - lowOf wd (unitOf c wd) + 1)
theorem unit_mem (c : Int) (wd : Bool) : unitOf c wd ∈ unitsOf wd := by
  unfold unitOf
  have h := mix_lt c 10007 (unitsOf wd).length (by cases wd <;> decide)
  rw [List.getD_eq_getElem?_getD, List.getElem?_eq_getElem (by omega)]
  exact List.getElem_mem _
theorem unit_ok (wd : Bool) : ∀ u ∈ unitsOf wd, 0 < u ∧ u ≤ 64 ∧ 0 < lowOf wd u ∧ lowOf wd u ≤ highOf wd u ∧ highOf wd u ≤ 24 ∧ leastOf wd ≤ lowOf wd u * u ∧ highOf wd u * u ≤ mostOf wd := by
  cases wd <;> decide
theorem top_ok (c : Int) (wd : Bool) : lowOf wd (unitOf c wd) ≤ topOf c wd ∧ topOf c wd ≤ highOf wd (unitOf c wd) := by
  obtain ⟨_, _, h1, h2, _⟩ := unit_ok wd _ (unit_mem c wd)
  have h := mix_lt c 9973 (highOf wd (unitOf c wd) - lowOf wd (unitOf c wd) + 1) (by omega)
  unfold topOf
  omega
def barD (p : Int × Int × Int) : D := .tup [.int p.1, .int p.2.1, .int p.2.2]
theorem ix_list (us : List Int) (dflt : Int) (j : Int) (h0 : 0 ≤ j) (h1 : j < us.length) : okD (ati (us.map D.int) j) = .ok (.fz (.int (us.getD j.toNat dflt))) := by
  obtain ⟨n, rfl⟩ := Int.eq_ofNat_of_zero_le h0
  rw [ati_nat, List.getElem?_map, List.getD_eq_getElem?_getD, Int.toNat_natCast, List.getElem?_eq_getElem (by omega)]
  rfl
theorem step_eq (c bar : Int) (wd : Bool) : D__law_step [.fz (.int c), .fz (.int bar), .fz (.bl wd)] = .ok (.fz (barD (bar, topOf c wd, unitOf c wd))) := by
  have hu := unit_mem c wd
  obtain ⟨u1, u2, h1, h2, h3, _⟩ := unit_ok wd _ hu
  have hm := mix_lt c 10007 (unitsOf wd).length (by cases wd <;> decide)
  have mx := mix_eq c 9973 (highOf wd (unitOf c wd) - lowOf wd (unitOf c wd) + 1) (by decide) (by omega)
  have ix := ix_list (unitsOf wd) 1 _ hm.1 hm.2
  have mx2 := mix_eq c 10007 (unitsOf wd).length (by decide) (by cases wd <;> decide)
  have d1 := x_div (i := leastOf wd + unitOf c wd - 1) u1 (by omega)
  have d2 := x_div (i := mostOf wd) u1 (by omega)
  rw [show (unitsOf wd).getD (mixN c 10007 (unitsOf wd).length).toNat 1 = unitOf c wd from rfl] at ix
  unfold D__law_step B__law_step
  cases wd
  · simp only [unitsOf, leastOf, mostOf, if_false, Bool.false_eq_true, List.map_cons, List.map_nil, List.length_cons, List.length_nil, Nat.reduceAdd, Nat.zero_add, Int.cast_ofNat_Int] at ix mx2 d1 d2
    simp only [x_den, x_fin_rt, x_fin_nx, List.map_cons, List.map_nil, List.length_cons, List.length_nil, List.replicate_succ, List.replicate_zero, List.cons_append, List.nil_append, Nat.reduceAdd, Nat.reduceSub, Nat.reduceLeDiff, Nat.zero_add, x_th_nx, x_th_rt, x_th_bk, x_th_ct, x_th_stuck, x_seq, x_of_ok, x_of_stuck, x_pickS_t, x_pickS_f, x_pickE_t, x_pickE_f, x_pickT_t, x_pickT_f, x_kF, x_kT, x_kfB, x_ktB, x_set, x_ret, x_retV, x_retR_fz, x_retR_ow, x_retN, x_next, x_break, x_cont, x_expr, x_if, x_nm_fz, x_nm_ow, x_st_fz, x_st_ow, x_arg_fz, x_arg_ow, x_arg_br, x_d_fz, x_d_ow, x_d_br, x_d_lk, x_var, x_varR_fz, x_varR_ow, x_varR_br, x_varR_lk, x_c, x_op, x_un, x_evs_nil, x_evs, x_stA_nil, x_stA, x_argA_nil, x_argA, x_lst, x_tup, x_call, x_B, x_tE, x_tNot, x_tAnd, x_tOr, x_eNot, x_eAnd, x_eOr, x_eIf, x_isB, x_truth_bl, x_truth_int, x_truth_lst, x_truth_tup, x_truth_non, x_for, x_frz, x_add, x_sub, x_lt, x_le, x_gt, x_ge, x_eq, x_ne, x_neg, x_len_l, x_len_t, x_list_l, x_list_t, x_tuple_l, x_tuple_t, x_min, x_max, x_ix_l, x_ix_t, x_ati0, x_ati1, x_ati2, x_ati3, x_okD, x_is_int, x_is_bool, x_is_list, x_is_tuple, x_stuck, x_gV, x_dK, x_dT, x_b_ok, x_b_stuck, List.getElem?_cons_zero, List.getElem?_cons_succ, List.set_cons_zero, List.set_cons_succ, if_true, Bool.not_true, Bool.not_false, ite_true, L3.frz, x_mkL0, x_mkL1, x_mkL2, x_mkL3, x_mkL4, x_mkL5, x_mkL6, x_mkL7, x_mkL8, x_mkL9, x_mkL10, x_mkL11, x_mkL12, x_mkL13, x_mkL14, x_mkL15, x_mkL16, x_mkT0, x_mkT1, x_mkT2, x_mkT3, x_mkT4, x_mkT5, x_asg, x_gT, x_gVs0, x_gVs, Int.cast_ofNat_Int, mx2, ix, d1, d2]
    rw [show ((8 : Int) + unitOf c false - 1) / unitOf c false = lowOf false (unitOf c false) from rfl, show (if (96 : Int) / unitOf c false < 24 then 96 / unitOf c false else 24) = highOf false (unitOf c false) from rfl]
    simp only [x_den, x_fin_rt, x_fin_nx, List.map_cons, List.map_nil, List.length_cons, List.length_nil, List.replicate_succ, List.replicate_zero, List.cons_append, List.nil_append, Nat.reduceAdd, Nat.reduceSub, Nat.reduceLeDiff, Nat.zero_add, x_th_nx, x_th_rt, x_th_bk, x_th_ct, x_th_stuck, x_seq, x_of_ok, x_of_stuck, x_pickS_t, x_pickS_f, x_pickE_t, x_pickE_f, x_pickT_t, x_pickT_f, x_kF, x_kT, x_kfB, x_ktB, x_set, x_ret, x_retV, x_retR_fz, x_retR_ow, x_retN, x_next, x_break, x_cont, x_expr, x_if, x_nm_fz, x_nm_ow, x_st_fz, x_st_ow, x_arg_fz, x_arg_ow, x_arg_br, x_d_fz, x_d_ow, x_d_br, x_d_lk, x_var, x_varR_fz, x_varR_ow, x_varR_br, x_varR_lk, x_c, x_op, x_un, x_evs_nil, x_evs, x_stA_nil, x_stA, x_argA_nil, x_argA, x_lst, x_tup, x_call, x_B, x_tE, x_tNot, x_tAnd, x_tOr, x_eNot, x_eAnd, x_eOr, x_eIf, x_isB, x_truth_bl, x_truth_int, x_truth_lst, x_truth_tup, x_truth_non, x_for, x_frz, x_add, x_sub, x_lt, x_le, x_gt, x_ge, x_eq, x_ne, x_neg, x_len_l, x_len_t, x_list_l, x_list_t, x_tuple_l, x_tuple_t, x_min, x_max, x_ix_l, x_ix_t, x_ati0, x_ati1, x_ati2, x_ati3, x_okD, x_is_int, x_is_bool, x_is_list, x_is_tuple, x_stuck, x_gV, x_dK, x_dT, x_b_ok, x_b_stuck, List.getElem?_cons_zero, List.getElem?_cons_succ, List.set_cons_zero, List.set_cons_succ, if_true, Bool.not_true, Bool.not_false, ite_true, L3.frz, x_mkL0, x_mkL1, x_mkL2, x_mkL3, x_mkL4, x_mkL5, x_mkL6, x_mkL7, x_mkL8, x_mkL9, x_mkL10, x_mkL11, x_mkL12, x_mkL13, x_mkL14, x_mkL15, x_mkL16, x_mkT0, x_mkT1, x_mkT2, x_mkT3, x_mkT4, x_mkT5, x_asg, x_gT, x_gVs0, x_gVs, Int.cast_ofNat_Int, mx, barD, topOf]
  · simp only [unitsOf, leastOf, mostOf, if_true, List.map_cons, List.map_nil, List.length_cons, List.length_nil, Nat.reduceAdd, Nat.zero_add, Int.cast_ofNat_Int] at ix mx2 d1 d2
    simp only [x_den, x_fin_rt, x_fin_nx, List.map_cons, List.map_nil, List.length_cons, List.length_nil, List.replicate_succ, List.replicate_zero, List.cons_append, List.nil_append, Nat.reduceAdd, Nat.reduceSub, Nat.reduceLeDiff, Nat.zero_add, x_th_nx, x_th_rt, x_th_bk, x_th_ct, x_th_stuck, x_seq, x_of_ok, x_of_stuck, x_pickS_t, x_pickS_f, x_pickE_t, x_pickE_f, x_pickT_t, x_pickT_f, x_kF, x_kT, x_kfB, x_ktB, x_set, x_ret, x_retV, x_retR_fz, x_retR_ow, x_retN, x_next, x_break, x_cont, x_expr, x_if, x_nm_fz, x_nm_ow, x_st_fz, x_st_ow, x_arg_fz, x_arg_ow, x_arg_br, x_d_fz, x_d_ow, x_d_br, x_d_lk, x_var, x_varR_fz, x_varR_ow, x_varR_br, x_varR_lk, x_c, x_op, x_un, x_evs_nil, x_evs, x_stA_nil, x_stA, x_argA_nil, x_argA, x_lst, x_tup, x_call, x_B, x_tE, x_tNot, x_tAnd, x_tOr, x_eNot, x_eAnd, x_eOr, x_eIf, x_isB, x_truth_bl, x_truth_int, x_truth_lst, x_truth_tup, x_truth_non, x_for, x_frz, x_add, x_sub, x_lt, x_le, x_gt, x_ge, x_eq, x_ne, x_neg, x_len_l, x_len_t, x_list_l, x_list_t, x_tuple_l, x_tuple_t, x_min, x_max, x_ix_l, x_ix_t, x_ati0, x_ati1, x_ati2, x_ati3, x_okD, x_is_int, x_is_bool, x_is_list, x_is_tuple, x_stuck, x_gV, x_dK, x_dT, x_b_ok, x_b_stuck, List.getElem?_cons_zero, List.getElem?_cons_succ, List.set_cons_zero, List.set_cons_succ, if_true, Bool.not_true, Bool.not_false, ite_true, L3.frz, x_mkL0, x_mkL1, x_mkL2, x_mkL3, x_mkL4, x_mkL5, x_mkL6, x_mkL7, x_mkL8, x_mkL9, x_mkL10, x_mkL11, x_mkL12, x_mkL13, x_mkL14, x_mkL15, x_mkL16, x_mkT0, x_mkT1, x_mkT2, x_mkT3, x_mkT4, x_mkT5, x_asg, x_gT, x_gVs0, x_gVs, Int.cast_ofNat_Int, mx2, ix, d1, d2]
    rw [show ((64 : Int) + unitOf c true - 1) / unitOf c true = lowOf true (unitOf c true) from rfl, show (if (512 : Int) / unitOf c true < 24 then 512 / unitOf c true else 24) = highOf true (unitOf c true) from rfl]
    simp only [x_den, x_fin_rt, x_fin_nx, List.map_cons, List.map_nil, List.length_cons, List.length_nil, List.replicate_succ, List.replicate_zero, List.cons_append, List.nil_append, Nat.reduceAdd, Nat.reduceSub, Nat.reduceLeDiff, Nat.zero_add, x_th_nx, x_th_rt, x_th_bk, x_th_ct, x_th_stuck, x_seq, x_of_ok, x_of_stuck, x_pickS_t, x_pickS_f, x_pickE_t, x_pickE_f, x_pickT_t, x_pickT_f, x_kF, x_kT, x_kfB, x_ktB, x_set, x_ret, x_retV, x_retR_fz, x_retR_ow, x_retN, x_next, x_break, x_cont, x_expr, x_if, x_nm_fz, x_nm_ow, x_st_fz, x_st_ow, x_arg_fz, x_arg_ow, x_arg_br, x_d_fz, x_d_ow, x_d_br, x_d_lk, x_var, x_varR_fz, x_varR_ow, x_varR_br, x_varR_lk, x_c, x_op, x_un, x_evs_nil, x_evs, x_stA_nil, x_stA, x_argA_nil, x_argA, x_lst, x_tup, x_call, x_B, x_tE, x_tNot, x_tAnd, x_tOr, x_eNot, x_eAnd, x_eOr, x_eIf, x_isB, x_truth_bl, x_truth_int, x_truth_lst, x_truth_tup, x_truth_non, x_for, x_frz, x_add, x_sub, x_lt, x_le, x_gt, x_ge, x_eq, x_ne, x_neg, x_len_l, x_len_t, x_list_l, x_list_t, x_tuple_l, x_tuple_t, x_min, x_max, x_ix_l, x_ix_t, x_ati0, x_ati1, x_ati2, x_ati3, x_okD, x_is_int, x_is_bool, x_is_list, x_is_tuple, x_stuck, x_gV, x_dK, x_dT, x_b_ok, x_b_stuck, List.getElem?_cons_zero, List.getElem?_cons_succ, List.set_cons_zero, List.set_cons_succ, if_true, Bool.not_true, Bool.not_false, ite_true, L3.frz, x_mkL0, x_mkL1, x_mkL2, x_mkL3, x_mkL4, x_mkL5, x_mkL6, x_mkL7, x_mkL8, x_mkL9, x_mkL10, x_mkL11, x_mkL12, x_mkL13, x_mkL14, x_mkL15, x_mkL16, x_mkT0, x_mkT1, x_mkT2, x_mkT3, x_mkT4, x_mkT5, x_asg, x_gT, x_gVs0, x_gVs, Int.cast_ofNat_Int, mx, barD, topOf]
/-- the cell that the k-th tuple is drawn from -/
def mcell (ns : List Int) (k : Nat) : Int := cell ns 1 + 7 * cell ns (2 + k)
def mbar (ns : List Int) : Nat → Int
  | 0 => 0
  | k + 1 => mbar ns k + 1 + mixN (mcell ns k) 9967 3
def mtup (ns : List Int) (wd : Bool) (k : Nat) : Int × Int × Int := (mbar ns k, topOf (mcell ns k) wd, unitOf (mcell ns k) wd)
def mmany (ns : List Int) : Nat := (1 + cell ns 1 % 3).toNat
def meterOf (ns : List Int) (wd : Bool) : List (Int × Int × Int) := (List.range (mmany ns)).map (mtup ns wd)
theorem mmany_ok (ns : List Int) : 1 ≤ mmany ns ∧ mmany ns ≤ 3 ∧ ((mmany ns : Nat) : Int) = 1 + cell ns 1 % 3 := by
  have h0 := Int.emod_nonneg (cell ns 1) (show (3 : Int) ≠ 0 by decide)
  have h1 := Int.emod_lt_of_pos (cell ns 1) (show (0 : Int) < 3 by decide)
  unfold mmany
  omega
theorem meter_eq (ns : List Int) (wd : Bool) : D__law_meter [.fz (.lst (ns.map D.int)), .fz (.bl wd)] = .ok (.ow (.lst ((meterOf ns wd).map barD))) := by
  obtain ⟨m1, m2, m3⟩ := mmany_ok ns
  have c1 := cell_eq ns 1
  have hz : sz = 16777216 := rfl
  unfold D__law_meter B__law_meter
  simp only [x_den, x_fin_rt, x_fin_nx, List.map_cons, List.map_nil, List.length_cons, List.length_nil, List.replicate_succ, List.replicate_zero, List.cons_append, List.nil_append, Nat.reduceAdd, Nat.reduceSub, Nat.reduceLeDiff, Nat.zero_add, x_th_nx, x_th_rt, x_th_bk, x_th_ct, x_th_stuck, x_seq, x_of_ok, x_of_stuck, x_pickS_t, x_pickS_f, x_pickE_t, x_pickE_f, x_pickT_t, x_pickT_f, x_kF, x_kT, x_kfB, x_ktB, x_set, x_ret, x_retV, x_retR_fz, x_retR_ow, x_retN, x_next, x_break, x_cont, x_expr, x_if, x_nm_fz, x_nm_ow, x_st_fz, x_st_ow, x_arg_fz, x_arg_ow, x_arg_br, x_d_fz, x_d_ow, x_d_br, x_d_lk, x_var, x_varR_fz, x_varR_ow, x_varR_br, x_varR_lk, x_c, x_op, x_un, x_evs_nil, x_evs, x_stA_nil, x_stA, x_argA_nil, x_argA, x_lst, x_tup, x_call, x_B, x_tE, x_tNot, x_tAnd, x_tOr, x_eNot, x_eAnd, x_eOr, x_eIf, x_isB, x_truth_bl, x_truth_int, x_truth_lst, x_truth_tup, x_truth_non, x_for, x_frz, x_add, x_sub, x_lt, x_le, x_gt, x_ge, x_eq, x_ne, x_neg, x_len_l, x_len_t, x_list_l, x_list_t, x_tuple_l, x_tuple_t, x_min, x_max, x_ix_l, x_ix_t, x_ati0, x_ati1, x_ati2, x_ati3, x_okD, x_is_int, x_is_bool, x_is_list, x_is_tuple, x_stuck, x_gV, x_dK, x_dT, x_b_ok, x_b_stuck, List.getElem?_cons_zero, List.getElem?_cons_succ, List.set_cons_zero, List.set_cons_succ, if_true, Bool.not_true, Bool.not_false, ite_true, L3.frz, x_mkL0, x_mkL1, x_mkL2, x_mkL3, x_mkL4, x_mkL5, x_mkL6, x_mkL7, x_mkL8, x_mkL9, x_mkL10, x_mkL11, x_mkL12, x_mkL13, x_mkL14, x_mkL15, x_mkL16, x_mkT0, x_mkT1, x_mkT2, x_mkT3, x_mkT4, x_mkT5, x_asg, x_gT, x_gVs0, x_gVs, Int.cast_ofNat_Int]
  rw [show ((1 : Nat) : Int) = 1 from rfl] at c1
  rw [x_iR1 (n := mmany ns) (by simp only [x_den, x_fin_rt, x_fin_nx, List.map_cons, List.map_nil, List.length_cons, List.length_nil, List.replicate_succ, List.replicate_zero, List.cons_append, List.nil_append, Nat.reduceAdd, Nat.reduceSub, Nat.reduceLeDiff, Nat.zero_add, x_th_nx, x_th_rt, x_th_bk, x_th_ct, x_th_stuck, x_seq, x_of_ok, x_of_stuck, x_pickS_t, x_pickS_f, x_pickE_t, x_pickE_f, x_pickT_t, x_pickT_f, x_kF, x_kT, x_kfB, x_ktB, x_set, x_ret, x_retV, x_retR_fz, x_retR_ow, x_retN, x_next, x_break, x_cont, x_expr, x_if, x_nm_fz, x_nm_ow, x_st_fz, x_st_ow, x_arg_fz, x_arg_ow, x_arg_br, x_d_fz, x_d_ow, x_d_br, x_d_lk, x_var, x_varR_fz, x_varR_ow, x_varR_br, x_varR_lk, x_c, x_op, x_un, x_evs_nil, x_evs, x_stA_nil, x_stA, x_argA_nil, x_argA, x_lst, x_tup, x_call, x_B, x_tE, x_tNot, x_tAnd, x_tOr, x_eNot, x_eAnd, x_eOr, x_eIf, x_isB, x_truth_bl, x_truth_int, x_truth_lst, x_truth_tup, x_truth_non, x_for, x_frz, x_add, x_sub, x_lt, x_le, x_gt, x_ge, x_eq, x_ne, x_neg, x_len_l, x_len_t, x_list_l, x_list_t, x_tuple_l, x_tuple_t, x_min, x_max, x_ix_l, x_ix_t, x_ati0, x_ati1, x_ati2, x_ati3, x_okD, x_is_int, x_is_bool, x_is_list, x_is_tuple, x_stuck, x_gV, x_dK, x_dT, x_b_ok, x_b_stuck, List.getElem?_cons_zero, List.getElem?_cons_succ, List.set_cons_zero, List.set_cons_succ, if_true, Bool.not_true, Bool.not_false, ite_true, L3.frz, x_mkL0, x_mkL1, x_mkL2, x_mkL3, x_mkL4, x_mkL5, x_mkL6, x_mkL7, x_mkL8, x_mkL9, x_mkL10, x_mkL11, x_mkL12, x_mkL13, x_mkL14, x_mkL15, x_mkL16, x_mkT0, x_mkT1, x_mkT2, x_mkT3, x_mkT4, x_mkT5, x_asg, x_gT, x_gVs0, x_gVs, Int.cast_ofNat_Int, c1, x_mod (j := 3) (by decide), m3]) (by omega)]
  simp only [x_den, x_fin_rt, x_fin_nx, List.map_cons, List.map_nil, List.length_cons, List.length_nil, List.replicate_succ, List.replicate_zero, List.cons_append, List.nil_append, Nat.reduceAdd, Nat.reduceSub, Nat.reduceLeDiff, Nat.zero_add, x_th_nx, x_th_rt, x_th_bk, x_th_ct, x_th_stuck, x_seq, x_of_ok, x_of_stuck, x_pickS_t, x_pickS_f, x_pickE_t, x_pickE_f, x_pickT_t, x_pickT_f, x_kF, x_kT, x_kfB, x_ktB, x_set, x_ret, x_retV, x_retR_fz, x_retR_ow, x_retN, x_next, x_break, x_cont, x_expr, x_if, x_nm_fz, x_nm_ow, x_st_fz, x_st_ow, x_arg_fz, x_arg_ow, x_arg_br, x_d_fz, x_d_ow, x_d_br, x_d_lk, x_var, x_varR_fz, x_varR_ow, x_varR_br, x_varR_lk, x_c, x_op, x_un, x_evs_nil, x_evs, x_stA_nil, x_stA, x_argA_nil, x_argA, x_lst, x_tup, x_call, x_B, x_tE, x_tNot, x_tAnd, x_tOr, x_eNot, x_eAnd, x_eOr, x_eIf, x_isB, x_truth_bl, x_truth_int, x_truth_lst, x_truth_tup, x_truth_non, x_for, x_frz, x_add, x_sub, x_lt, x_le, x_gt, x_ge, x_eq, x_ne, x_neg, x_len_l, x_len_t, x_list_l, x_list_t, x_tuple_l, x_tuple_t, x_min, x_max, x_ix_l, x_ix_t, x_ati0, x_ati1, x_ati2, x_ati3, x_okD, x_is_int, x_is_bool, x_is_list, x_is_tuple, x_stuck, x_gV, x_dK, x_dT, x_b_ok, x_b_stuck, List.getElem?_cons_zero, List.getElem?_cons_succ, List.set_cons_zero, List.set_cons_succ, if_true, Bool.not_true, Bool.not_false, ite_true, L3.frz, x_mkL0, x_mkL1, x_mkL2, x_mkL3, x_mkL4, x_mkL5, x_mkL6, x_mkL7, x_mkL8, x_mkL9, x_mkL10, x_mkL11, x_mkL12, x_mkL13, x_mkL14, x_mkL15, x_mkL16, x_mkT0, x_mkT1, x_mkT2, x_mkT3, x_mkT4, x_mkT5, x_asg, x_gT, x_gVs0, x_gVs, Int.cast_ofNat_Int]
  obtain ⟨ρ', e, j4, j5, hI⟩ := rng_nx (mmany ns) (fun k ρ => ∃ j4 j5, ρ = [some (.fz (.lst (ns.map D.int))), some (.fz (.bl wd)), some (.ow (.lst (((List.range k).map (mtup ns wd)).map barD))), some (.fz (.int (mbar ns k))), j4, j5])
    (g := gV 4) (b := sSeq (sSet 5 (eOp dAddI (eCall D__law_cell [(eVar 0), (eC (.int 1))]) (eOp dMul (eC (.int 7)) (eCall D__law_cell [(eVar 0), (eOp dAddI (eC (.int 2)) (eVar 4))]))))
      (sSeq (sApp 2 (eCall D__law_step [(eVar 5), (eVar 3), (eVar 1)])) (sSet 3 (eOp dAddI (eOp dAddI (eVar 3) (eC (.int 1))) (eCall D__law_mix [(eVar 5), (eC (.int 9967)), (eC (.int 3))])))))
    (ρ := [some (.fz (.lst (ns.map D.int))), some (.fz (.bl wd)), some (.ow (.lst [])), some (.fz (.int 0)), none, none]) ⟨none, none, rfl⟩ (fun k ρ hk ⟨j4, j5, hρ⟩ => by
      subst hρ
      refine ⟨_, _, rfl, .inl ?_, some (.fz (.int k)), some (.fz (.int (mcell ns k))), rfl⟩
      have c2 := cell_eq ns (2 + k)
      rw [show ((2 + k : Nat) : Int) = 2 + (k : Int) by omega] at c2
      have mx := mix_eq (mcell ns k) 9967 3 (by decide) (by decide)
      have stp := step_eq (mcell ns k) (mbar ns k) wd
      simp only [x_den, x_fin_rt, x_fin_nx, List.map_cons, List.map_nil, List.length_cons, List.length_nil, List.replicate_succ, List.replicate_zero, List.cons_append, List.nil_append, Nat.reduceAdd, Nat.reduceSub, Nat.reduceLeDiff, Nat.zero_add, x_th_nx, x_th_rt, x_th_bk, x_th_ct, x_th_stuck, x_seq, x_of_ok, x_of_stuck, x_pickS_t, x_pickS_f, x_pickE_t, x_pickE_f, x_pickT_t, x_pickT_f, x_kF, x_kT, x_kfB, x_ktB, x_set, x_ret, x_retV, x_retR_fz, x_retR_ow, x_retN, x_next, x_break, x_cont, x_expr, x_if, x_nm_fz, x_nm_ow, x_st_fz, x_st_ow, x_arg_fz, x_arg_ow, x_arg_br, x_d_fz, x_d_ow, x_d_br, x_d_lk, x_var, x_varR_fz, x_varR_ow, x_varR_br, x_varR_lk, x_c, x_op, x_un, x_evs_nil, x_evs, x_stA_nil, x_stA, x_argA_nil, x_argA, x_lst, x_tup, x_call, x_B, x_tE, x_tNot, x_tAnd, x_tOr, x_eNot, x_eAnd, x_eOr, x_eIf, x_isB, x_truth_bl, x_truth_int, x_truth_lst, x_truth_tup, x_truth_non, x_for, x_frz, x_add, x_sub, x_lt, x_le, x_gt, x_ge, x_eq, x_ne, x_neg, x_len_l, x_len_t, x_list_l, x_list_t, x_tuple_l, x_tuple_t, x_min, x_max, x_ix_l, x_ix_t, x_ati0, x_ati1, x_ati2, x_ati3, x_okD, x_is_int, x_is_bool, x_is_list, x_is_tuple, x_stuck, x_gV, x_dK, x_dT, x_b_ok, x_b_stuck, List.getElem?_cons_zero, List.getElem?_cons_succ, List.set_cons_zero, List.set_cons_succ, if_true, Bool.not_true, Bool.not_false, ite_true, L3.frz, x_mkL0, x_mkL1, x_mkL2, x_mkL3, x_mkL4, x_mkL5, x_mkL6, x_mkL7, x_mkL8, x_mkL9, x_mkL10, x_mkL11, x_mkL12, x_mkL13, x_mkL14, x_mkL15, x_mkL16, x_mkT0, x_mkT1, x_mkT2, x_mkT3, x_mkT4, x_mkT5, x_asg, x_gT, x_gVs0, x_gVs, Int.cast_ofNat_Int, c1, c2, x_mull (i := 7) (by decide) (by decide)]
      rw [show cell ns 1 + 7 * cell ns (2 + k) = mcell ns k from rfl]
      rw [x_app (xs := ((List.range k).map (mtup ns wd)).map barD) (d := barD (mtup ns wd k)) rfl (by simp; omega) (by simp only [x_den, x_fin_rt, x_fin_nx, List.map_cons, List.map_nil, List.length_cons, List.length_nil, List.replicate_succ, List.replicate_zero, List.cons_append, List.nil_append, Nat.reduceAdd, Nat.reduceSub, Nat.reduceLeDiff, Nat.zero_add, x_th_nx, x_th_rt, x_th_bk, x_th_ct, x_th_stuck, x_seq, x_of_ok, x_of_stuck, x_pickS_t, x_pickS_f, x_pickE_t, x_pickE_f, x_pickT_t, x_pickT_f, x_kF, x_kT, x_kfB, x_ktB, x_set, x_ret, x_retV, x_retR_fz, x_retR_ow, x_retN, x_next, x_break, x_cont, x_expr, x_if, x_nm_fz, x_nm_ow, x_st_fz, x_st_ow, x_arg_fz, x_arg_ow, x_arg_br, x_d_fz, x_d_ow, x_d_br, x_d_lk, x_var, x_varR_fz, x_varR_ow, x_varR_br, x_varR_lk, x_c, x_op, x_un, x_evs_nil, x_evs, x_stA_nil, x_stA, x_argA_nil, x_argA, x_lst, x_tup, x_call, x_B, x_tE, x_tNot, x_tAnd, x_tOr, x_eNot, x_eAnd, x_eOr, x_eIf, x_isB, x_truth_bl, x_truth_int, x_truth_lst, x_truth_tup, x_truth_non, x_for, x_frz, x_add, x_sub, x_lt, x_le, x_gt, x_ge, x_eq, x_ne, x_neg, x_len_l, x_len_t, x_list_l, x_list_t, x_tuple_l, x_tuple_t, x_min, x_max, x_ix_l, x_ix_t, x_ati0, x_ati1, x_ati2, x_ati3, x_okD, x_is_int, x_is_bool, x_is_list, x_is_tuple, x_stuck, x_gV, x_dK, x_dT, x_b_ok, x_b_stuck, List.getElem?_cons_zero, List.getElem?_cons_succ, List.set_cons_zero, List.set_cons_succ, if_true, Bool.not_true, Bool.not_false, ite_true, L3.frz, x_mkL0, x_mkL1, x_mkL2, x_mkL3, x_mkL4, x_mkL5, x_mkL6, x_mkL7, x_mkL8, x_mkL9, x_mkL10, x_mkL11, x_mkL12, x_mkL13, x_mkL14, x_mkL15, x_mkL16, x_mkT0, x_mkT1, x_mkT2, x_mkT3, x_mkT4, x_mkT5, x_asg, x_gT, x_gVs0, x_gVs, Int.cast_ofNat_Int, stp]; rfl)]
      simp only [x_den, x_fin_rt, x_fin_nx, List.map_cons, List.map_nil, List.length_cons, List.length_nil, List.replicate_succ, List.replicate_zero, List.cons_append, List.nil_append, Nat.reduceAdd, Nat.reduceSub, Nat.reduceLeDiff, Nat.zero_add, x_th_nx, x_th_rt, x_th_bk, x_th_ct, x_th_stuck, x_seq, x_of_ok, x_of_stuck, x_pickS_t, x_pickS_f, x_pickE_t, x_pickE_f, x_pickT_t, x_pickT_f, x_kF, x_kT, x_kfB, x_ktB, x_set, x_ret, x_retV, x_retR_fz, x_retR_ow, x_retN, x_next, x_break, x_cont, x_expr, x_if, x_nm_fz, x_nm_ow, x_st_fz, x_st_ow, x_arg_fz, x_arg_ow, x_arg_br, x_d_fz, x_d_ow, x_d_br, x_d_lk, x_var, x_varR_fz, x_varR_ow, x_varR_br, x_varR_lk, x_c, x_op, x_un, x_evs_nil, x_evs, x_stA_nil, x_stA, x_argA_nil, x_argA, x_lst, x_tup, x_call, x_B, x_tE, x_tNot, x_tAnd, x_tOr, x_eNot, x_eAnd, x_eOr, x_eIf, x_isB, x_truth_bl, x_truth_int, x_truth_lst, x_truth_tup, x_truth_non, x_for, x_frz, x_add, x_sub, x_lt, x_le, x_gt, x_ge, x_eq, x_ne, x_neg, x_len_l, x_len_t, x_list_l, x_list_t, x_tuple_l, x_tuple_t, x_min, x_max, x_ix_l, x_ix_t, x_ati0, x_ati1, x_ati2, x_ati3, x_okD, x_is_int, x_is_bool, x_is_list, x_is_tuple, x_stuck, x_gV, x_dK, x_dT, x_b_ok, x_b_stuck, List.getElem?_cons_zero, List.getElem?_cons_succ, List.set_cons_zero, List.set_cons_succ, if_true, Bool.not_true, Bool.not_false, ite_true, L3.frz, x_mkL0, x_mkL1, x_mkL2, x_mkL3, x_mkL4, x_mkL5, x_mkL6, x_mkL7, x_mkL8, x_mkL9, x_mkL10, x_mkL11, x_mkL12, x_mkL13, x_mkL14, x_mkL15, x_mkL16, x_mkT0, x_mkT1, x_mkT2, x_mkT3, x_mkT4, x_mkT5, x_asg, x_gT, x_gVs0, x_gVs, Int.cast_ofNat_Int, mx]
      simp [List.range_succ, mbar])
  rw [e]
  subst hI
  simp only [x_den, x_fin_rt, x_fin_nx, List.map_cons, List.map_nil, List.length_cons, List.length_nil, List.replicate_succ, List.replicate_zero, List.cons_append, List.nil_append, Nat.reduceAdd, Nat.reduceSub, Nat.reduceLeDiff, Nat.zero_add, x_th_nx, x_th_rt, x_th_bk, x_th_ct, x_th_stuck, x_seq, x_of_ok, x_of_stuck, x_pickS_t, x_pickS_f, x_pickE_t, x_pickE_f, x_pickT_t, x_pickT_f, x_kF, x_kT, x_kfB, x_ktB, x_set, x_ret, x_retV, x_retR_fz, x_retR_ow, x_retN, x_next, x_break, x_cont, x_expr, x_if, x_nm_fz, x_nm_ow, x_st_fz, x_st_ow, x_arg_fz, x_arg_ow, x_arg_br, x_d_fz, x_d_ow, x_d_br, x_d_lk, x_var, x_varR_fz, x_varR_ow, x_varR_br, x_varR_lk, x_c, x_op, x_un, x_evs_nil, x_evs, x_stA_nil, x_stA, x_argA_nil, x_argA, x_lst, x_tup, x_call, x_B, x_tE, x_tNot, x_tAnd, x_tOr, x_eNot, x_eAnd, x_eOr, x_eIf, x_isB, x_truth_bl, x_truth_int, x_truth_lst, x_truth_tup, x_truth_non, x_for, x_frz, x_add, x_sub, x_lt, x_le, x_gt, x_ge, x_eq, x_ne, x_neg, x_len_l, x_len_t, x_list_l, x_list_t, x_tuple_l, x_tuple_t, x_min, x_max, x_ix_l, x_ix_t, x_ati0, x_ati1, x_ati2, x_ati3, x_okD, x_is_int, x_is_bool, x_is_list, x_is_tuple, x_stuck, x_gV, x_dK, x_dT, x_b_ok, x_b_stuck, List.getElem?_cons_zero, List.getElem?_cons_succ, List.set_cons_zero, List.set_cons_succ, if_true, Bool.not_true, Bool.not_false, ite_true, L3.frz, x_mkL0, x_mkL1, x_mkL2, x_mkL3, x_mkL4, x_mkL5, x_mkL6, x_mkL7, x_mkL8, x_mkL9, x_mkL10, x_mkL11, x_mkL12, x_mkL13, x_mkL14, x_mkL15, x_mkL16, x_mkT0, x_mkT1, x_mkT2, x_mkT3, x_mkT4, x_mkT5, x_asg, x_gT, x_gVs0, x_gVs, Int.cast_ofNat_Int]
  rfl

/-! the length that was told last -/
def lenOf (p : Int × Int × Int) : Int := p.2.1 * p.2.2
def Fine (ms : List (Int × Int × Int)) : Prop := ms.Pairwise (fun p q => p.1 < q.1) ∧ (∀ p ∈ ms, 0 ≤ p.1 ∧ 0 ≤ p.2.1 ∧ p.2.1 ≤ 24) ∧ (∃ p ∈ ms, p.1 = 0) ∧ ms.length ≤ 20
def dueL (ms : List (Int × Int × Int)) (b : Int) : List Int := (ms.filter fun p => decide (p.1 ≤ b)).map lenOf
def dueV (ms : List (Int × Int × Int)) (b : Int) : Int := (dueL ms b).getLast?.getD 0
theorem told_eq (p : Int × Int × Int) (h : 0 ≤ p.2.1 ∧ p.2.1 ≤ 24) : D_told_length [.fz (barD p)] = .ok (.fz (.int (lenOf p))) := by
  unfold D_told_length B_told_length
  simp only [x_den, x_fin_rt, x_fin_nx, List.map_cons, List.map_nil, List.length_cons, List.length_nil, List.replicate_succ, List.replicate_zero, List.cons_append, List.nil_append, Nat.reduceAdd, Nat.reduceSub, Nat.reduceLeDiff, Nat.zero_add, x_th_nx, x_th_rt, x_th_bk, x_th_ct, x_th_stuck, x_seq, x_of_ok, x_of_stuck, x_pickS_t, x_pickS_f, x_pickE_t, x_pickE_f, x_pickT_t, x_pickT_f, x_kF, x_kT, x_kfB, x_ktB, x_set, x_ret, x_retV, x_retR_fz, x_retR_ow, x_retN, x_next, x_break, x_cont, x_expr, x_if, x_nm_fz, x_nm_ow, x_st_fz, x_st_ow, x_arg_fz, x_arg_ow, x_arg_br, x_d_fz, x_d_ow, x_d_br, x_d_lk, x_var, x_varR_fz, x_varR_ow, x_varR_br, x_varR_lk, x_c, x_op, x_un, x_evs_nil, x_evs, x_stA_nil, x_stA, x_argA_nil, x_argA, x_lst, x_tup, x_call, x_B, x_tE, x_tNot, x_tAnd, x_tOr, x_eNot, x_eAnd, x_eOr, x_eIf, x_isB, x_truth_bl, x_truth_int, x_truth_lst, x_truth_tup, x_truth_non, x_for, x_frz, x_add, x_sub, x_lt, x_le, x_gt, x_ge, x_eq, x_ne, x_neg, x_len_l, x_len_t, x_list_l, x_list_t, x_tuple_l, x_tuple_t, x_min, x_max, x_ix_l, x_ix_t, x_ati0, x_ati1, x_ati2, x_ati3, x_okD, x_is_int, x_is_bool, x_is_list, x_is_tuple, x_stuck, x_gV, x_dK, x_dT, x_b_ok, x_b_stuck, List.getElem?_cons_zero, List.getElem?_cons_succ, List.set_cons_zero, List.set_cons_succ, if_true, Bool.not_true, Bool.not_false, ite_true, L3.frz, x_mkL0, x_mkL1, x_mkL2, x_mkL3, x_mkL4, x_mkL5, x_mkL6, x_mkL7, x_mkL8, x_mkL9, x_mkL10, x_mkL11, x_mkL12, x_mkL13, x_mkL14, x_mkL15, x_mkL16, x_mkT0, x_mkT1, x_mkT2, x_mkT3, x_mkT4, x_mkT5, x_asg, x_gT, x_gVs0, x_gVs, Int.cast_ofNat_Int, barD, x_mull (i := p.2.1) (j := p.2.2) (by omega) (by omega), lenOf]
def pD (b : Int) : D → Bool
  | .tup (.int q :: _) => decide (q ≤ b)
  | _ => false
def fD : D → D
  | .tup [_, .int t, .int u] => .int (t * u)
  | _ => .non
theorem comp_due (ms : List (Int × Int × Int)) (b : Int) : ((ms.map barD).filter (pD b)).map fD = (dueL ms b).map D.int := by
  unfold dueL
  induction ms with
  | nil => rfl
  | cons p r ih =>
    by_cases c : p.1 ≤ b
    · rw [List.map_cons, List.filter_cons_of_pos (by simpa [barD, pD] using c), List.filter_cons_of_pos (by simpa using c), List.map_cons, ih]
      rfl
    · rw [List.map_cons, List.filter_cons_of_neg (by simpa [barD, pD] using c), List.filter_cons_of_neg (by simpa using c), ih]
theorem mbar_lt (ns : List Int) {i j : Nat} (h : i < j) : mbar ns i < mbar ns j := by
  induction j with
  | zero => omega
  | succ j ih =>
    have := mix_lt (mcell ns j) 9967 3 (by decide)
    have e : mbar ns (j + 1) = mbar ns j + 1 + mixN (mcell ns j) 9967 3 := rfl
    by_cases c : i = j
    · subst c; omega
    · have := ih (by omega); omega
theorem meter_fine (ns : List Int) (wd : Bool) : Fine (meterOf ns wd) := by
  obtain ⟨m1, m2, _⟩ := mmany_ok ns
  refine ⟨?_, fun p hp => ?_, ⟨mtup ns wd 0, List.mem_map.mpr ⟨0, by simp; omega, rfl⟩, rfl⟩, by simp [meterOf]; omega⟩
  · unfold meterOf
    rw [List.pairwise_map]
    exact List.pairwise_lt_range.imp fun h => mbar_lt ns h
  · obtain ⟨k, _, rfl⟩ := List.mem_map.mp hp
    have h1 := top_ok (mcell ns k) wd
    have h2 := unit_ok wd _ (unit_mem (mcell ns k) wd)
    refine ⟨?_, ?_, ?_⟩
    · show 0 ≤ mbar ns k
      cases k with
      | zero => exact Int.le_refl _
      | succ k => exact Int.le_of_lt (mbar_lt ns (Nat.succ_pos k))
    · show 0 ≤ topOf (mcell ns k) wd
      omega
    · show topOf (mcell ns k) wd ≤ 24
      omega
theorem due_last {ms : List (Int × Int × Int)} (f : Fine ms) (i : Nat) : (dueL ms i).getLast? = some (dueV ms i) := by
  obtain ⟨p, hp, hp0⟩ := f.2.2.1
  have ne : dueL ms i ≠ [] := fun z => by
    have : lenOf p ∈ dueL ms i := List.mem_map.mpr ⟨p, List.mem_filter.mpr ⟨hp, by simp; omega⟩, rfl⟩
    rw [z] at this
    simp at this
  unfold dueV
  cases h : (dueL ms i).getLast? with
  | none => exact absurd (List.getLast?_eq_none_iff.mp h) ne
  | some v => rfl

/-! where bars begin -/
def Lens (ms : List (Int × Int × Int)) : Prop := ∀ p ∈ ms, 8 ≤ lenOf p ∧ lenOf p ≤ 512 ∧ p.1 ≤ 1000
theorem due_mem {ms : List (Int × Int × Int)} (f : Fine ms) (i : Nat) : ∃ p ∈ ms, dueV ms i = lenOf p := by
  have h := List.mem_of_getLast? (due_last f i)
  obtain ⟨p, hp, e⟩ := List.mem_map.mp h
  exact ⟨p, (List.mem_filter.mp hp).1, e.symm⟩
theorem due_pos {ms : List (Int × Int × Int)} (f : Fine ms) (l : Lens ms) (i : Nat) : 8 ≤ dueV ms i ∧ dueV ms i ≤ 512 := by
  obtain ⟨p, hp, e⟩ := due_mem f i
  have := l p hp
  omega
def aheadV (ms : List (Int × Int × Int)) (b : Nat) : Int := ((List.range b).map fun k : Nat => dueV ms k).sum
theorem ahead_zero (ms : List (Int × Int × Int)) : aheadV ms 0 = 0 := rfl
theorem ahead_succ (ms : List (Int × Int × Int)) (b : Nat) : aheadV ms (b + 1) = aheadV ms b + dueV ms b := by
  unfold aheadV
  rw [List.range_succ, List.map_append, List.sum_append]
  simp
theorem ahead_mono {ms : List (Int × Int × Int)} (f : Fine ms) (l : Lens ms) (a k : Nat) : aheadV ms a + 8 * k ≤ aheadV ms (a + k) := by
  induction k with
  | zero => simp
  | succ k ih =>
    have := due_pos f l (a + k)
    rw [show a + (k + 1) = a + k + 1 from rfl, ahead_succ]
    omega
/-- there is one bar for a tick -/
theorem bar_one {ms : List (Int × Int × Int)} (f : Fine ms) (l : Lens ms) {a b : Nat} {p q t : Int} (h1 : aheadV ms a + p = t) (h2 : 0 ≤ p) (h3 : p < dueV ms a) (k1 : aheadV ms b + q = t) (k2 : 0 ≤ q) (k3 : q < dueV ms b) : a = b := by
  have go : ∀ {a b : Nat} {p q : Int}, aheadV ms a + p = t → 0 ≤ p → p < dueV ms a → aheadV ms b + q = t → 0 ≤ q → ¬ a < b := fun {a b p q} h1 h2 h3 k1 k2 hab => by
    have m := ahead_mono f l (a + 1) (b - (a + 1))
    rw [show a + 1 + (b - (a + 1)) = b by omega, ahead_succ] at m
    omega
  have x := go h1 h2 h3 k1 k2
  have y := go k1 k2 k3 h1 h2
  omega
theorem due_seg {ms pre post : List (Int × Int × Int)} {p : Int × Int × Int} {b : Int} (e : ms = pre ++ p :: post) (hb : p.1 ≤ b) (hq : ∀ q ∈ post, b < q.1) : dueV ms b = lenOf p := by
  subst e
  have : post.filter (fun q => decide (q.1 ≤ b)) = [] := List.filter_eq_nil_iff.mpr fun q h => by
    have := hq q h
    simp; omega
  unfold dueV dueL
  rw [List.filter_append, List.filter_cons_of_pos (by simpa using hb), this, List.map_append]
  simp
theorem ahead_seg {ms pre post : List (Int × Int × Int)} {p : Int × Int × Int} (e : ms = pre ++ p :: post) (hp : 0 ≤ p.1) (k : Nat) (hq : ∀ q ∈ post, p.1 + k ≤ q.1) : aheadV ms (p.1.toNat + k) = aheadV ms p.1.toNat + k * lenOf p := by
  induction k with
  | zero => simp
  | succ k ih =>
    have d : dueV ms ((p.1.toNat + k : Nat) : Int) = lenOf p := due_seg e (by omega) fun q h => by have := hq q h; omega
    rw [show p.1.toNat + (k + 1) = p.1.toNat + k + 1 from rfl, ahead_succ, ih (fun q h => by have := hq q h; omega), d]
    rw [show ((k + 1 : Nat) : Int) = (k : Int) + 1 from rfl, Int.add_mul]
    omega
theorem len_meter (ns : List Int) (wd : Bool) : Lens (meterOf ns wd) := fun p hp => by
  obtain ⟨m1, m2, _⟩ := mmany_ok ns
  obtain ⟨k, hk, rfl⟩ := List.mem_map.mp hp
  have hk := List.mem_range.mp hk
  have h1 := top_ok (mcell ns k) wd
  obtain ⟨u1, u2, u3, u4, u5, u6, u7⟩ := unit_ok wd _ (unit_mem (mcell ns k) wd)
  have lo := Int.mul_le_mul_of_nonneg_right h1.1 (Int.le_of_lt u1)
  have hi := Int.mul_le_mul_of_nonneg_right h1.2 (Int.le_of_lt u1)
  have hb : ∀ j : Nat, mbar ns j ≤ 3 * j := fun j => by
    induction j with
    | zero => simp [mbar]
    | succ j ih =>
      have := mix_lt (mcell ns j) 9967 3 (by decide)
      show mbar ns j + 1 + mixN (mcell ns j) 9967 3 ≤ _
      omega
  have hb := hb k
  have w8 : (8 : Int) ≤ leastOf wd ∧ mostOf wd ≤ 512 := by cases wd <;> decide
  refine ⟨?_, ?_, ?_⟩
  · show 8 ≤ topOf (mcell ns k) wd * unitOf (mcell ns k) wd
    omega
  · show topOf (mcell ns k) wd * unitOf (mcell ns k) wd ≤ 512
    omega
  · show mbar ns k ≤ 1000
    omega
theorem intsOf_map : ∀ ns : List Int, intsOf (ns.map D.int) = some ns
  | [] => rfl
  | n :: ns => by
    show (match intsOf (ns.map D.int) with | some l => some (n :: l) | none => none) = _
    rw [intsOf_map ns]
theorem x_sum (ns : List Int) : dSum [.lst (ns.map D.int)] = .ok (.fz (.int ns.sum)) := by
  unfold dSum
  dsimp only
  rw [intsOf_map]

/-! the mathematics of the law: where a tick stands -/
theorem whole_eq (n : Int) : D__law_whole [.fz (.int n)] = .ok (.fz (.bl true)) := rfl
theorem length_eq {ms : List (Int × Int × Int)} (f : Fine ms) (b : Nat) : D__law_length [.br (.lst (ms.map barD)), .fz (.int b)] = .ok (.fz (.int (dueV ms b))) := by
  have hz : sz = 16777216 := rfl
  have hl := f.2.2.2
  unfold D__law_length B__law_length
  simp only [x_den, x_fin_rt, x_fin_nx, List.map_cons, List.map_nil, List.length_cons, List.length_nil, List.replicate_succ, List.replicate_zero, List.cons_append, List.nil_append, Nat.reduceAdd, Nat.reduceSub, Nat.reduceLeDiff, Nat.zero_add, x_th_nx, x_th_rt, x_th_bk, x_th_ct, x_th_stuck, x_seq, x_of_ok, x_of_stuck, x_pickS_t, x_pickS_f, x_pickE_t, x_pickE_f, x_pickT_t, x_pickT_f, x_kF, x_kT, x_kfB, x_ktB, x_set, x_ret, x_retV, x_retR_fz, x_retR_ow, x_retN, x_next, x_break, x_cont, x_expr, x_if, x_nm_fz, x_nm_ow, x_st_fz, x_st_ow, x_arg_fz, x_arg_ow, x_arg_br, x_d_fz, x_d_ow, x_d_br, x_d_lk, x_var, x_varR_fz, x_varR_ow, x_varR_br, x_varR_lk, x_c, x_op, x_un, x_evs_nil, x_evs, x_stA_nil, x_stA, x_argA_nil, x_argA, x_lst, x_tup, x_call, x_B, x_tE, x_tNot, x_tAnd, x_tOr, x_eNot, x_eAnd, x_eOr, x_eIf, x_isB, x_truth_bl, x_truth_int, x_truth_lst, x_truth_tup, x_truth_non, x_for, x_frz, x_add, x_sub, x_lt, x_le, x_gt, x_ge, x_eq, x_ne, x_neg, x_len_l, x_len_t, x_list_l, x_list_t, x_tuple_l, x_tuple_t, x_min, x_max, x_ix_l, x_ix_t, x_ati0, x_ati1, x_ati2, x_ati3, x_okD, x_is_int, x_is_bool, x_is_list, x_is_tuple, x_stuck, x_gV, x_dK, x_dT, x_b_ok, x_b_stuck, List.getElem?_cons_zero, List.getElem?_cons_succ, List.set_cons_zero, List.set_cons_succ, if_true, Bool.not_true, Bool.not_false, ite_true, L3.frz, x_mkL0, x_mkL1, x_mkL2, x_mkL3, x_mkL4, x_mkL5, x_mkL6, x_mkL7, x_mkL8, x_mkL9, x_mkL10, x_mkL11, x_mkL12, x_mkL13, x_mkL14, x_mkL15, x_mkL16, x_mkT0, x_mkT1, x_mkT2, x_mkT3, x_mkT4, x_mkT5, x_asg, x_gT, x_gVs0, x_gVs, Int.cast_ofNat_Int]
  rw [comp_eq (ds := ms.map barD) (ys := (dueL ms b).map D.int) (x_iVc (w := .br (.lst (ms.map barD))) rfl rfl) (by rw [List.length_map, hz]; omega) (by
    rw [← comp_due]
    refine comp_gV 2 (pD b) fD _ _ fun d hd => ?_
    obtain ⟨p, hp, rfl⟩ := List.mem_map.mp hd
    have hb := f.2.1 p hp
    refine ⟨by simp only [cRho, ro, x_den, x_fin_rt, x_fin_nx, List.map_cons, List.map_nil, List.length_cons, List.length_nil, List.replicate_succ, List.replicate_zero, List.cons_append, List.nil_append, Nat.reduceAdd, Nat.reduceSub, Nat.reduceLeDiff, Nat.zero_add, x_th_nx, x_th_rt, x_th_bk, x_th_ct, x_th_stuck, x_seq, x_of_ok, x_of_stuck, x_pickS_t, x_pickS_f, x_pickE_t, x_pickE_f, x_pickT_t, x_pickT_f, x_kF, x_kT, x_kfB, x_ktB, x_set, x_ret, x_retV, x_retR_fz, x_retR_ow, x_retN, x_next, x_break, x_cont, x_expr, x_if, x_nm_fz, x_nm_ow, x_st_fz, x_st_ow, x_arg_fz, x_arg_ow, x_arg_br, x_d_fz, x_d_ow, x_d_br, x_d_lk, x_var, x_varR_fz, x_varR_ow, x_varR_br, x_varR_lk, x_c, x_op, x_un, x_evs_nil, x_evs, x_stA_nil, x_stA, x_argA_nil, x_argA, x_lst, x_tup, x_call, x_B, x_tE, x_tNot, x_tAnd, x_tOr, x_eNot, x_eAnd, x_eOr, x_eIf, x_isB, x_truth_bl, x_truth_int, x_truth_lst, x_truth_tup, x_truth_non, x_for, x_frz, x_add, x_sub, x_lt, x_le, x_gt, x_ge, x_eq, x_ne, x_neg, x_len_l, x_len_t, x_list_l, x_list_t, x_tuple_l, x_tuple_t, x_min, x_max, x_ix_l, x_ix_t, x_ati0, x_ati1, x_ati2, x_ati3, x_okD, x_is_int, x_is_bool, x_is_list, x_is_tuple, x_stuck, x_gV, x_dK, x_dT, x_b_ok, x_b_stuck, List.getElem?_cons_zero, List.getElem?_cons_succ, List.set_cons_zero, List.set_cons_succ, if_true, Bool.not_true, Bool.not_false, ite_true, L3.frz, x_mkL0, x_mkL1, x_mkL2, x_mkL3, x_mkL4, x_mkL5, x_mkL6, x_mkL7, x_mkL8, x_mkL9, x_mkL10, x_mkL11, x_mkL12, x_mkL13, x_mkL14, x_mkL15, x_mkL16, x_mkT0, x_mkT1, x_mkT2, x_mkT3, x_mkT4, x_mkT5, x_asg, x_gT, x_gVs0, x_gVs, Int.cast_ofNat_Int, barD, pD], fun _ => ⟨.fz (.int (p.2.1 * p.2.2)), ?_, rfl⟩⟩
    simp only [cRho, ro, x_den, x_fin_rt, x_fin_nx, List.map_cons, List.map_nil, List.length_cons, List.length_nil, List.replicate_succ, List.replicate_zero, List.cons_append, List.nil_append, Nat.reduceAdd, Nat.reduceSub, Nat.reduceLeDiff, Nat.zero_add, x_th_nx, x_th_rt, x_th_bk, x_th_ct, x_th_stuck, x_seq, x_of_ok, x_of_stuck, x_pickS_t, x_pickS_f, x_pickE_t, x_pickE_f, x_pickT_t, x_pickT_f, x_kF, x_kT, x_kfB, x_ktB, x_set, x_ret, x_retV, x_retR_fz, x_retR_ow, x_retN, x_next, x_break, x_cont, x_expr, x_if, x_nm_fz, x_nm_ow, x_st_fz, x_st_ow, x_arg_fz, x_arg_ow, x_arg_br, x_d_fz, x_d_ow, x_d_br, x_d_lk, x_var, x_varR_fz, x_varR_ow, x_varR_br, x_varR_lk, x_c, x_op, x_un, x_evs_nil, x_evs, x_stA_nil, x_stA, x_argA_nil, x_argA, x_lst, x_tup, x_call, x_B, x_tE, x_tNot, x_tAnd, x_tOr, x_eNot, x_eAnd, x_eOr, x_eIf, x_isB, x_truth_bl, x_truth_int, x_truth_lst, x_truth_tup, x_truth_non, x_for, x_frz, x_add, x_sub, x_lt, x_le, x_gt, x_ge, x_eq, x_ne, x_neg, x_len_l, x_len_t, x_list_l, x_list_t, x_tuple_l, x_tuple_t, x_min, x_max, x_ix_l, x_ix_t, x_ati0, x_ati1, x_ati2, x_ati3, x_okD, x_is_int, x_is_bool, x_is_list, x_is_tuple, x_stuck, x_gV, x_dK, x_dT, x_b_ok, x_b_stuck, List.getElem?_cons_zero, List.getElem?_cons_succ, List.set_cons_zero, List.set_cons_succ, if_true, Bool.not_true, Bool.not_false, ite_true, L3.frz, x_mkL0, x_mkL1, x_mkL2, x_mkL3, x_mkL4, x_mkL5, x_mkL6, x_mkL7, x_mkL8, x_mkL9, x_mkL10, x_mkL11, x_mkL12, x_mkL13, x_mkL14, x_mkL15, x_mkL16, x_mkT0, x_mkT1, x_mkT2, x_mkT3, x_mkT4, x_mkT5, x_asg, x_gT, x_gVs0, x_gVs, Int.cast_ofNat_Int, barD, x_mull (i := p.2.1) (j := p.2.2) (by omega) (by omega)])]
  simp only [x_den, x_fin_rt, x_fin_nx, List.map_cons, List.map_nil, List.length_cons, List.length_nil, List.replicate_succ, List.replicate_zero, List.cons_append, List.nil_append, Nat.reduceAdd, Nat.reduceSub, Nat.reduceLeDiff, Nat.zero_add, x_th_nx, x_th_rt, x_th_bk, x_th_ct, x_th_stuck, x_seq, x_of_ok, x_of_stuck, x_pickS_t, x_pickS_f, x_pickE_t, x_pickE_f, x_pickT_t, x_pickT_f, x_kF, x_kT, x_kfB, x_ktB, x_set, x_ret, x_retV, x_retR_fz, x_retR_ow, x_retN, x_next, x_break, x_cont, x_expr, x_if, x_nm_fz, x_nm_ow, x_st_fz, x_st_ow, x_arg_fz, x_arg_ow, x_arg_br, x_d_fz, x_d_ow, x_d_br, x_d_lk, x_var, x_varR_fz, x_varR_ow, x_varR_br, x_varR_lk, x_c, x_op, x_un, x_evs_nil, x_evs, x_stA_nil, x_stA, x_argA_nil, x_argA, x_lst, x_tup, x_call, x_B, x_tE, x_tNot, x_tAnd, x_tOr, x_eNot, x_eAnd, x_eOr, x_eIf, x_isB, x_truth_bl, x_truth_int, x_truth_lst, x_truth_tup, x_truth_non, x_for, x_frz, x_add, x_sub, x_lt, x_le, x_gt, x_ge, x_eq, x_ne, x_neg, x_len_l, x_len_t, x_list_l, x_list_t, x_tuple_l, x_tuple_t, x_min, x_max, x_ix_l, x_ix_t, x_ati0, x_ati1, x_ati2, x_ati3, x_okD, x_is_int, x_is_bool, x_is_list, x_is_tuple, x_stuck, x_gV, x_dK, x_dT, x_b_ok, x_b_stuck, List.getElem?_cons_zero, List.getElem?_cons_succ, List.set_cons_zero, List.set_cons_succ, if_true, Bool.not_true, Bool.not_false, ite_true, L3.frz, x_mkL0, x_mkL1, x_mkL2, x_mkL3, x_mkL4, x_mkL5, x_mkL6, x_mkL7, x_mkL8, x_mkL9, x_mkL10, x_mkL11, x_mkL12, x_mkL13, x_mkL14, x_mkL15, x_mkL16, x_mkT0, x_mkT1, x_mkT2, x_mkT3, x_mkT4, x_mkT5, x_asg, x_gT, x_gVs0, x_gVs, Int.cast_ofNat_Int, Int.reduceNeg, ati_last, List.getLast?_map, due_last f b, Option.map_some]
def fLen (ms : List (Int × Int × Int)) : D → D
  | .int k => .int (dueV ms k)
  | _ => .non
theorem ahead_eq {ms : List (Int × Int × Int)} (f : Fine ms) (b : Nat) (hb : b < 1000) : D__law_ahead [.br (.lst (ms.map barD)), .fz (.int b)] = .ok (.fz (.int (aheadV ms b))) := by
  unfold D__law_ahead B__law_ahead
  simp only [x_den, x_fin_rt, x_fin_nx, List.map_cons, List.map_nil, List.length_cons, List.length_nil, List.replicate_succ, List.replicate_zero, List.cons_append, List.nil_append, Nat.reduceAdd, Nat.reduceSub, Nat.reduceLeDiff, Nat.zero_add, x_th_nx, x_th_rt, x_th_bk, x_th_ct, x_th_stuck, x_seq, x_of_ok, x_of_stuck, x_pickS_t, x_pickS_f, x_pickE_t, x_pickE_f, x_pickT_t, x_pickT_f, x_kF, x_kT, x_kfB, x_ktB, x_set, x_ret, x_retV, x_retR_fz, x_retR_ow, x_retN, x_next, x_break, x_cont, x_expr, x_if, x_nm_fz, x_nm_ow, x_st_fz, x_st_ow, x_arg_fz, x_arg_ow, x_arg_br, x_d_fz, x_d_ow, x_d_br, x_d_lk, x_var, x_varR_fz, x_varR_ow, x_varR_br, x_varR_lk, x_c, x_op, x_un, x_evs_nil, x_evs, x_stA_nil, x_stA, x_argA_nil, x_argA, x_lst, x_tup, x_call, x_B, x_tE, x_tNot, x_tAnd, x_tOr, x_eNot, x_eAnd, x_eOr, x_eIf, x_isB, x_truth_bl, x_truth_int, x_truth_lst, x_truth_tup, x_truth_non, x_for, x_frz, x_add, x_sub, x_lt, x_le, x_gt, x_ge, x_eq, x_ne, x_neg, x_len_l, x_len_t, x_list_l, x_list_t, x_tuple_l, x_tuple_t, x_min, x_max, x_ix_l, x_ix_t, x_ati0, x_ati1, x_ati2, x_ati3, x_okD, x_is_int, x_is_bool, x_is_list, x_is_tuple, x_stuck, x_gV, x_dK, x_dT, x_b_ok, x_b_stuck, List.getElem?_cons_zero, List.getElem?_cons_succ, List.set_cons_zero, List.set_cons_succ, if_true, Bool.not_true, Bool.not_false, ite_true, L3.frz, x_mkL0, x_mkL1, x_mkL2, x_mkL3, x_mkL4, x_mkL5, x_mkL6, x_mkL7, x_mkL8, x_mkL9, x_mkL10, x_mkL11, x_mkL12, x_mkL13, x_mkL14, x_mkL15, x_mkL16, x_mkT0, x_mkT1, x_mkT2, x_mkT3, x_mkT4, x_mkT5, x_asg, x_gT, x_gVs0, x_gVs, Int.cast_ofNat_Int]
  rw [comp_eq (ds := rngD 0 b) (ys := ((List.range b).map fun k : Nat => dueV ms k).map D.int) (x_iR1 (n := b) rfl (by omega)) (by rw [rngD_len]; have hz : sz = 16777216 := rfl; omega) (by
    rw [comp_all 2 (fLen ms) (rngD 0 b) _ fun d hd => ?_]
    · rw [rngD_eq, List.map_map, List.map_map]
      rfl
    · rw [rngD_eq] at hd
      obtain ⟨k, hk, rfl⟩ := List.mem_map.mp hd
      refine ⟨.fz (.int (dueV ms k)), ?_, rfl⟩
      simp only [cRho, ro, x_den, x_fin_rt, x_fin_nx, List.map_cons, List.map_nil, List.length_cons, List.length_nil, List.replicate_succ, List.replicate_zero, List.cons_append, List.nil_append, Nat.reduceAdd, Nat.reduceSub, Nat.reduceLeDiff, Nat.zero_add, x_th_nx, x_th_rt, x_th_bk, x_th_ct, x_th_stuck, x_seq, x_of_ok, x_of_stuck, x_pickS_t, x_pickS_f, x_pickE_t, x_pickE_f, x_pickT_t, x_pickT_f, x_kF, x_kT, x_kfB, x_ktB, x_set, x_ret, x_retV, x_retR_fz, x_retR_ow, x_retN, x_next, x_break, x_cont, x_expr, x_if, x_nm_fz, x_nm_ow, x_st_fz, x_st_ow, x_arg_fz, x_arg_ow, x_arg_br, x_d_fz, x_d_ow, x_d_br, x_d_lk, x_var, x_varR_fz, x_varR_ow, x_varR_br, x_varR_lk, x_c, x_op, x_un, x_evs_nil, x_evs, x_stA_nil, x_stA, x_argA_nil, x_argA, x_lst, x_tup, x_call, x_B, x_tE, x_tNot, x_tAnd, x_tOr, x_eNot, x_eAnd, x_eOr, x_eIf, x_isB, x_truth_bl, x_truth_int, x_truth_lst, x_truth_tup, x_truth_non, x_for, x_frz, x_add, x_sub, x_lt, x_le, x_gt, x_ge, x_eq, x_ne, x_neg, x_len_l, x_len_t, x_list_l, x_list_t, x_tuple_l, x_tuple_t, x_min, x_max, x_ix_l, x_ix_t, x_ati0, x_ati1, x_ati2, x_ati3, x_okD, x_is_int, x_is_bool, x_is_list, x_is_tuple, x_stuck, x_gV, x_dK, x_dT, x_b_ok, x_b_stuck, List.getElem?_cons_zero, List.getElem?_cons_succ, List.set_cons_zero, List.set_cons_succ, if_true, Bool.not_true, Bool.not_false, ite_true, L3.frz, x_mkL0, x_mkL1, x_mkL2, x_mkL3, x_mkL4, x_mkL5, x_mkL6, x_mkL7, x_mkL8, x_mkL9, x_mkL10, x_mkL11, x_mkL12, x_mkL13, x_mkL14, x_mkL15, x_mkL16, x_mkT0, x_mkT1, x_mkT2, x_mkT3, x_mkT4, x_mkT5, x_asg, x_gT, x_gVs0, x_gVs, Int.cast_ofNat_Int, length_eq f k])]
  simp only [x_den, x_fin_rt, x_fin_nx, List.map_cons, List.map_nil, List.length_cons, List.length_nil, List.replicate_succ, List.replicate_zero, List.cons_append, List.nil_append, Nat.reduceAdd, Nat.reduceSub, Nat.reduceLeDiff, Nat.zero_add, x_th_nx, x_th_rt, x_th_bk, x_th_ct, x_th_stuck, x_seq, x_of_ok, x_of_stuck, x_pickS_t, x_pickS_f, x_pickE_t, x_pickE_f, x_pickT_t, x_pickT_f, x_kF, x_kT, x_kfB, x_ktB, x_set, x_ret, x_retV, x_retR_fz, x_retR_ow, x_retN, x_next, x_break, x_cont, x_expr, x_if, x_nm_fz, x_nm_ow, x_st_fz, x_st_ow, x_arg_fz, x_arg_ow, x_arg_br, x_d_fz, x_d_ow, x_d_br, x_d_lk, x_var, x_varR_fz, x_varR_ow, x_varR_br, x_varR_lk, x_c, x_op, x_un, x_evs_nil, x_evs, x_stA_nil, x_stA, x_argA_nil, x_argA, x_lst, x_tup, x_call, x_B, x_tE, x_tNot, x_tAnd, x_tOr, x_eNot, x_eAnd, x_eOr, x_eIf, x_isB, x_truth_bl, x_truth_int, x_truth_lst, x_truth_tup, x_truth_non, x_for, x_frz, x_add, x_sub, x_lt, x_le, x_gt, x_ge, x_eq, x_ne, x_neg, x_len_l, x_len_t, x_list_l, x_list_t, x_tuple_l, x_tuple_t, x_min, x_max, x_ix_l, x_ix_t, x_ati0, x_ati1, x_ati2, x_ati3, x_okD, x_is_int, x_is_bool, x_is_list, x_is_tuple, x_stuck, x_gV, x_dK, x_dT, x_b_ok, x_b_stuck, List.getElem?_cons_zero, List.getElem?_cons_succ, List.set_cons_zero, List.set_cons_succ, if_true, Bool.not_true, Bool.not_false, ite_true, L3.frz, x_mkL0, x_mkL1, x_mkL2, x_mkL3, x_mkL4, x_mkL5, x_mkL6, x_mkL7, x_mkL8, x_mkL9, x_mkL10, x_mkL11, x_mkL12, x_mkL13, x_mkL14, x_mkL15, x_mkL16, x_mkT0, x_mkT1, x_mkT2, x_mkT3, x_mkT4, x_mkT5, x_asg, x_gT, x_gVs0, x_gVs, Int.cast_ofNat_Int, x_sum]
  rfl
/-- what stands tells -/
def Stands (ms : List (Int × Int × Int)) (t : Int) (B : Nat) (P : Int) : Prop := 0 ≤ P ∧ P < dueV ms B ∧ aheadV ms B + P = t
abbrev restS : SF := sRet (eTup [(eOp dAddI (eVar 2) (eOp dDiv (eOp dSub (eVar 1) (eVar 3)) (eVar 4))), (eOp dMod (eOp dSub (eVar 1) (eVar 3)) (eVar 4))])
theorem stand_end {ms pre post : List (Int × Int × Int)} {p : Int × Int × Int} (f : Fine ms) (l : Lens ms) (e : ms = pre ++ p :: post) {t : Int} (h1 : aheadV ms p.1.toNat ≤ t) (h2 : ∀ q ∈ post, t - aheadV ms p.1.toNat < (q.1 - p.1) * lenOf p) (w : Option En) (j5 j6 : Option En) :
    ∃ B P, fin ((Out.nx [w, some (.fz (.int t)), some (.fz (.int p.1)), some (.fz (.int (aheadV ms p.1.toNat))), some (.fz (.int (lenOf p))), j5, j6]).th restS) = .ok (.fz (.tup [.int (B : Nat), .int P])) ∧ Stands ms t B P := by
  have hp : p ∈ ms := by rw [e]; simp
  have f1 := f.2.1 p hp
  have l1 := l p hp
  have hx : 0 ≤ t - aheadV ms p.1.toNat := by omega
  have d0 : 0 ≤ (t - aheadV ms p.1.toNat) / lenOf p := Int.ediv_nonneg hx (by omega)
  have hlt : ∀ q ∈ post, p.1 + (t - aheadV ms p.1.toNat) / lenOf p < q.1 := fun q hq => by
    have := Int.ediv_lt_of_lt_mul (by omega) (h2 q hq)
    omega
  obtain ⟨k, hk⟩ := Int.eq_ofNat_of_zero_le d0
  have eB : ((p.1.toNat + k : Nat) : Int) = p.1 + (t - aheadV ms p.1.toNat) / lenOf p := by rw [hk]; omega
  refine ⟨p.1.toNat + k, (t - aheadV ms p.1.toNat) % lenOf p, ?_, Int.emod_nonneg _ (by omega), ?_, ?_⟩
  · simp only [x_den, x_fin_rt, x_fin_nx, List.map_cons, List.map_nil, List.length_cons, List.length_nil, List.replicate_succ, List.replicate_zero, List.cons_append, List.nil_append, Nat.reduceAdd, Nat.reduceSub, Nat.reduceLeDiff, Nat.zero_add, x_th_nx, x_th_rt, x_th_bk, x_th_ct, x_th_stuck, x_seq, x_of_ok, x_of_stuck, x_pickS_t, x_pickS_f, x_pickE_t, x_pickE_f, x_pickT_t, x_pickT_f, x_kF, x_kT, x_kfB, x_ktB, x_set, x_ret, x_retV, x_retR_fz, x_retR_ow, x_retN, x_next, x_break, x_cont, x_expr, x_if, x_nm_fz, x_nm_ow, x_st_fz, x_st_ow, x_arg_fz, x_arg_ow, x_arg_br, x_d_fz, x_d_ow, x_d_br, x_d_lk, x_var, x_varR_fz, x_varR_ow, x_varR_br, x_varR_lk, x_c, x_op, x_un, x_evs_nil, x_evs, x_stA_nil, x_stA, x_argA_nil, x_argA, x_lst, x_tup, x_call, x_B, x_tE, x_tNot, x_tAnd, x_tOr, x_eNot, x_eAnd, x_eOr, x_eIf, x_isB, x_truth_bl, x_truth_int, x_truth_lst, x_truth_tup, x_truth_non, x_for, x_frz, x_add, x_sub, x_lt, x_le, x_gt, x_ge, x_eq, x_ne, x_neg, x_len_l, x_len_t, x_list_l, x_list_t, x_tuple_l, x_tuple_t, x_min, x_max, x_ix_l, x_ix_t, x_ati0, x_ati1, x_ati2, x_ati3, x_okD, x_is_int, x_is_bool, x_is_list, x_is_tuple, x_stuck, x_gV, x_dK, x_dT, x_b_ok, x_b_stuck, List.getElem?_cons_zero, List.getElem?_cons_succ, List.set_cons_zero, List.set_cons_succ, if_true, Bool.not_true, Bool.not_false, ite_true, L3.frz, x_mkL0, x_mkL1, x_mkL2, x_mkL3, x_mkL4, x_mkL5, x_mkL6, x_mkL7, x_mkL8, x_mkL9, x_mkL10, x_mkL11, x_mkL12, x_mkL13, x_mkL14, x_mkL15, x_mkL16, x_mkT0, x_mkT1, x_mkT2, x_mkT3, x_mkT4, x_mkT5, x_asg, x_gT, x_gVs0, x_gVs, Int.cast_ofNat_Int, x_div (i := t - aheadV ms p.1.toNat) (j := lenOf p) (by omega) (by omega), x_mod (i := t - aheadV ms p.1.toNat) (j := lenOf p) (by omega), eB]
  · rw [due_seg e (b := ((p.1.toNat + k : Nat) : Int)) (by omega) fun q hq => by have := hlt q hq; omega]
    exact Int.emod_lt_of_pos _ (by omega)
  · rw [ahead_seg e f1.1 k fun q hq => by have := hlt q hq; omega]
    have := Int.mul_ediv_add_emod (t - aheadV ms p.1.toNat) (lenOf p)
    rw [hk, Int.mul_comm] at this
    omega
theorem stands_eq {ms : List (Int × Int × Int)} (f : Fine ms) (l : Lens ms) (t : Int) (ht : 0 ≤ t) :
    ∃ B P, D_stands [.fz (.lst (ms.map barD)), .fz (.int t)] = .ok (.fz (.tup [.int (B : Nat), .int P])) ∧ Stands ms t B P := by
  unfold D_stands B_stands
  simp only [x_den, x_fin_rt, x_fin_nx, List.map_cons, List.map_nil, List.length_cons, List.length_nil, List.replicate_succ, List.replicate_zero, List.cons_append, List.nil_append, Nat.reduceAdd, Nat.reduceSub, Nat.reduceLeDiff, Nat.zero_add, x_th_nx, x_th_rt, x_th_bk, x_th_ct, x_th_stuck, x_seq, x_of_ok, x_of_stuck, x_pickS_t, x_pickS_f, x_pickE_t, x_pickE_f, x_pickT_t, x_pickT_f, x_kF, x_kT, x_kfB, x_ktB, x_set, x_ret, x_retV, x_retR_fz, x_retR_ow, x_retN, x_next, x_break, x_cont, x_expr, x_if, x_nm_fz, x_nm_ow, x_st_fz, x_st_ow, x_arg_fz, x_arg_ow, x_arg_br, x_d_fz, x_d_ow, x_d_br, x_d_lk, x_var, x_varR_fz, x_varR_ow, x_varR_br, x_varR_lk, x_c, x_op, x_un, x_evs_nil, x_evs, x_stA_nil, x_stA, x_argA_nil, x_argA, x_lst, x_tup, x_call, x_B, x_tE, x_tNot, x_tAnd, x_tOr, x_eNot, x_eAnd, x_eOr, x_eIf, x_isB, x_truth_bl, x_truth_int, x_truth_lst, x_truth_tup, x_truth_non, x_for, x_frz, x_add, x_sub, x_lt, x_le, x_gt, x_ge, x_eq, x_ne, x_neg, x_len_l, x_len_t, x_list_l, x_list_t, x_tuple_l, x_tuple_t, x_min, x_max, x_ix_l, x_ix_t, x_ati0, x_ati1, x_ati2, x_ati3, x_okD, x_is_int, x_is_bool, x_is_list, x_is_tuple, x_stuck, x_gV, x_dK, x_dT, x_b_ok, x_b_stuck, List.getElem?_cons_zero, List.getElem?_cons_succ, List.set_cons_zero, List.set_cons_succ, if_true, Bool.not_true, Bool.not_false, ite_true, L3.frz, x_mkL0, x_mkL1, x_mkL2, x_mkL3, x_mkL4, x_mkL5, x_mkL6, x_mkL7, x_mkL8, x_mkL9, x_mkL10, x_mkL11, x_mkL12, x_mkL13, x_mkL14, x_mkL15, x_mkL16, x_mkT0, x_mkT1, x_mkT2, x_mkT3, x_mkT4, x_mkT5, x_asg, x_gT, x_gVs0, x_gVs, Int.cast_ofNat_Int]
  rw [x_iV_fz (ds := ms.map barD) rfl]
  simp only [x_den, x_fin_rt, x_fin_nx, List.map_cons, List.map_nil, List.length_cons, List.length_nil, List.replicate_succ, List.replicate_zero, List.cons_append, List.nil_append, Nat.reduceAdd, Nat.reduceSub, Nat.reduceLeDiff, Nat.zero_add, x_th_nx, x_th_rt, x_th_bk, x_th_ct, x_th_stuck, x_seq, x_of_ok, x_of_stuck, x_pickS_t, x_pickS_f, x_pickE_t, x_pickE_f, x_pickT_t, x_pickT_f, x_kF, x_kT, x_kfB, x_ktB, x_set, x_ret, x_retV, x_retR_fz, x_retR_ow, x_retN, x_next, x_break, x_cont, x_expr, x_if, x_nm_fz, x_nm_ow, x_st_fz, x_st_ow, x_arg_fz, x_arg_ow, x_arg_br, x_d_fz, x_d_ow, x_d_br, x_d_lk, x_var, x_varR_fz, x_varR_ow, x_varR_br, x_varR_lk, x_c, x_op, x_un, x_evs_nil, x_evs, x_stA_nil, x_stA, x_argA_nil, x_argA, x_lst, x_tup, x_call, x_B, x_tE, x_tNot, x_tAnd, x_tOr, x_eNot, x_eAnd, x_eOr, x_eIf, x_isB, x_truth_bl, x_truth_int, x_truth_lst, x_truth_tup, x_truth_non, x_for, x_frz, x_add, x_sub, x_lt, x_le, x_gt, x_ge, x_eq, x_ne, x_neg, x_len_l, x_len_t, x_list_l, x_list_t, x_tuple_l, x_tuple_t, x_min, x_max, x_ix_l, x_ix_t, x_ati0, x_ati1, x_ati2, x_ati3, x_okD, x_is_int, x_is_bool, x_is_list, x_is_tuple, x_stuck, x_gV, x_dK, x_dT, x_b_ok, x_b_stuck, List.getElem?_cons_zero, List.getElem?_cons_succ, List.set_cons_zero, List.set_cons_succ, if_true, Bool.not_true, Bool.not_false, ite_true, L3.frz, x_mkL0, x_mkL1, x_mkL2, x_mkL3, x_mkL4, x_mkL5, x_mkL6, x_mkL7, x_mkL8, x_mkL9, x_mkL10, x_mkL11, x_mkL12, x_mkL13, x_mkL14, x_mkL15, x_mkL16, x_mkT0, x_mkT1, x_mkT2, x_mkT3, x_mkT4, x_mkT5, x_asg, x_gT, x_gVs0, x_gVs, Int.cast_ofNat_Int]
  refine for_post (Q := fun o => ∃ B P, fin (o.th restS) = .ok (.fz (.tup [.int (B : Nat), .int P])) ∧ Stands ms t B P) (ms.map barD)
    (fun i ρ => ∃ b g n j5 j6, ρ = [some (.fz (.lst (ms.map barD))), some (.fz (.int t)), some (.fz (.int b)), some (.fz (.int g)), some (.fz (.int n)), j5, j6] ∧
      ((i = 0 ∧ b = 0 ∧ g = 0 ∧ n = 0) ∨ ∃ pre p post, ms = pre ++ p :: post ∧ pre.length + 1 = i ∧ b = p.1 ∧ g = aheadV ms p.1.toNat ∧ n = lenOf p ∧ g ≤ t))
    ⟨0, 0, 0, none, none, rfl, .inl ⟨rfl, rfl, rfl, rfl⟩⟩ (fun i x ρ hx ⟨b, g, n, j5, j6, hρ, hI⟩ => ?_) (fun ρ ⟨b, g, n, j5, j6, hρ, hI⟩ => ?_)
  · subst hρ
    rw [List.getElem?_map] at hx
    cases eq : ms[i]? with
    | none => rw [eq] at hx; cases hx
    | some q =>
      rw [eq] at hx
      cases hx
      have hq := List.mem_of_getElem? eq
      have f1 := f.2.1 q hq
      have l1 := l q hq
      have tl := told_eq q f1.2
      have hi : i < ms.length := (List.getElem?_eq_some_iff.mp eq).1
      refine ⟨_, rfl, ?_⟩
      rcases hI with ⟨rfl, rfl, rfl, rfl⟩ | ⟨pre, p, post, e, hl, rfl, rfl, rfl, hg⟩
      · have q0 : q.1 = 0 := by
          obtain ⟨p, hp, hp0⟩ := f.2.2.1
          cases ms with
          | nil => simp at hi
          | cons m r =>
            simp at eq
            subst eq
            rcases List.mem_cons.mp hp with rfl | hp
            · exact hp0
            · have := (List.pairwise_cons.mp f.1).1 p hp
              omega
        have hd : decide (t < 0) = false := by simp; omega
        simp only [x_den, x_fin_rt, x_fin_nx, List.map_cons, List.map_nil, List.length_cons, List.length_nil, List.replicate_succ, List.replicate_zero, List.cons_append, List.nil_append, Nat.reduceAdd, Nat.reduceSub, Nat.reduceLeDiff, Nat.zero_add, x_th_nx, x_th_rt, x_th_bk, x_th_ct, x_th_stuck, x_seq, x_of_ok, x_of_stuck, x_pickS_t, x_pickS_f, x_pickE_t, x_pickE_f, x_pickT_t, x_pickT_f, x_kF, x_kT, x_kfB, x_ktB, x_set, x_ret, x_retV, x_retR_fz, x_retR_ow, x_retN, x_next, x_break, x_cont, x_expr, x_if, x_nm_fz, x_nm_ow, x_st_fz, x_st_ow, x_arg_fz, x_arg_ow, x_arg_br, x_d_fz, x_d_ow, x_d_br, x_d_lk, x_var, x_varR_fz, x_varR_ow, x_varR_br, x_varR_lk, x_c, x_op, x_un, x_evs_nil, x_evs, x_stA_nil, x_stA, x_argA_nil, x_argA, x_lst, x_tup, x_call, x_B, x_tE, x_tNot, x_tAnd, x_tOr, x_eNot, x_eAnd, x_eOr, x_eIf, x_isB, x_truth_bl, x_truth_int, x_truth_lst, x_truth_tup, x_truth_non, x_for, x_frz, x_add, x_sub, x_lt, x_le, x_gt, x_ge, x_eq, x_ne, x_neg, x_len_l, x_len_t, x_list_l, x_list_t, x_tuple_l, x_tuple_t, x_min, x_max, x_ix_l, x_ix_t, x_ati0, x_ati1, x_ati2, x_ati3, x_okD, x_is_int, x_is_bool, x_is_list, x_is_tuple, x_stuck, x_gV, x_dK, x_dT, x_b_ok, x_b_stuck, List.getElem?_cons_zero, List.getElem?_cons_succ, List.set_cons_zero, List.set_cons_succ, if_true, Bool.not_true, Bool.not_false, ite_true, L3.frz, x_mkL0, x_mkL1, x_mkL2, x_mkL3, x_mkL4, x_mkL5, x_mkL6, x_mkL7, x_mkL8, x_mkL9, x_mkL10, x_mkL11, x_mkL12, x_mkL13, x_mkL14, x_mkL15, x_mkL16, x_mkT0, x_mkT1, x_mkT2, x_mkT3, x_mkT4, x_mkT5, x_asg, x_gT, x_gVs0, x_gVs, Int.cast_ofNat_Int, barD, x_mulr (i := q.1 - 0) (j := 0) (by decide) (by decide), Int.mul_zero, Int.add_zero, hd]
        have tl : D_told_length [.fz (.tup [.int q.1, .int q.2.1, .int q.2.2])] = .ok (.fz (.int (lenOf q))) := tl
        simp only [x_den, x_fin_rt, x_fin_nx, List.map_cons, List.map_nil, List.length_cons, List.length_nil, List.replicate_succ, List.replicate_zero, List.cons_append, List.nil_append, Nat.reduceAdd, Nat.reduceSub, Nat.reduceLeDiff, Nat.zero_add, x_th_nx, x_th_rt, x_th_bk, x_th_ct, x_th_stuck, x_seq, x_of_ok, x_of_stuck, x_pickS_t, x_pickS_f, x_pickE_t, x_pickE_f, x_pickT_t, x_pickT_f, x_kF, x_kT, x_kfB, x_ktB, x_set, x_ret, x_retV, x_retR_fz, x_retR_ow, x_retN, x_next, x_break, x_cont, x_expr, x_if, x_nm_fz, x_nm_ow, x_st_fz, x_st_ow, x_arg_fz, x_arg_ow, x_arg_br, x_d_fz, x_d_ow, x_d_br, x_d_lk, x_var, x_varR_fz, x_varR_ow, x_varR_br, x_varR_lk, x_c, x_op, x_un, x_evs_nil, x_evs, x_stA_nil, x_stA, x_argA_nil, x_argA, x_lst, x_tup, x_call, x_B, x_tE, x_tNot, x_tAnd, x_tOr, x_eNot, x_eAnd, x_eOr, x_eIf, x_isB, x_truth_bl, x_truth_int, x_truth_lst, x_truth_tup, x_truth_non, x_for, x_frz, x_add, x_sub, x_lt, x_le, x_gt, x_ge, x_eq, x_ne, x_neg, x_len_l, x_len_t, x_list_l, x_list_t, x_tuple_l, x_tuple_t, x_min, x_max, x_ix_l, x_ix_t, x_ati0, x_ati1, x_ati2, x_ati3, x_okD, x_is_int, x_is_bool, x_is_list, x_is_tuple, x_stuck, x_gV, x_dK, x_dT, x_b_ok, x_b_stuck, List.getElem?_cons_zero, List.getElem?_cons_succ, List.set_cons_zero, List.set_cons_succ, if_true, Bool.not_true, Bool.not_false, ite_true, L3.frz, x_mkL0, x_mkL1, x_mkL2, x_mkL3, x_mkL4, x_mkL5, x_mkL6, x_mkL7, x_mkL8, x_mkL9, x_mkL10, x_mkL11, x_mkL12, x_mkL13, x_mkL14, x_mkL15, x_mkL16, x_mkT0, x_mkT1, x_mkT2, x_mkT3, x_mkT4, x_mkT5, x_asg, x_gT, x_gVs0, x_gVs, Int.cast_ofNat_Int, tl]
        refine ⟨q.1, 0, lenOf q, some (.fz (barD q)), some (.fz (.int 0)), rfl, .inr ?_⟩
        cases ms with
        | nil => simp at hi
        | cons m r =>
          simp at eq
          subst eq
          exact ⟨[], m, r, rfl, rfl, rfl, by rw [q0]; rfl, rfl, ht⟩
      · have hp : p ∈ ms := by rw [e]; simp
        have fp := f.2.1 p hp
        have lp := l p hp
        obtain ⟨post', rfl⟩ : ∃ post', post = q :: post' := by
          rw [e, ← hl, List.getElem?_append_right (by omega)] at eq
          cases post with
          | nil => simp [show pre.length + 1 - pre.length = 1 by omega] at eq
          | cons m r =>
            simp [show pre.length + 1 - pre.length = 1 by omega] at eq
            exact ⟨r, by rw [eq]⟩
        have pw := f.1
        rw [e, List.pairwise_append] at pw
        have pw2 := List.pairwise_cons.mp pw.2.1
        have pq : p.1 < q.1 := pw2.1 q List.mem_cons_self
        have after : ∀ r ∈ post', q.1 < r.1 := (List.pairwise_cons.mp pw2.2).1
        have seg := ahead_seg e fp.1 (q.1 - p.1).toNat fun r hr => by
          rcases List.mem_cons.mp hr with rfl | hr
          · omega
          · have := after r hr; omega
        rw [show p.1.toNat + (q.1 - p.1).toNat = q.1.toNat by omega, show (((q.1 - p.1).toNat : Nat) : Int) = q.1 - p.1 by omega] at seg
        have tl : D_told_length [.fz (.tup [.int q.1, .int q.2.1, .int q.2.2])] = .ok (.fz (.int (lenOf q))) := tl
        simp only [x_den, x_fin_rt, x_fin_nx, List.map_cons, List.map_nil, List.length_cons, List.length_nil, List.replicate_succ, List.replicate_zero, List.cons_append, List.nil_append, Nat.reduceAdd, Nat.reduceSub, Nat.reduceLeDiff, Nat.zero_add, x_th_nx, x_th_rt, x_th_bk, x_th_ct, x_th_stuck, x_seq, x_of_ok, x_of_stuck, x_pickS_t, x_pickS_f, x_pickE_t, x_pickE_f, x_pickT_t, x_pickT_f, x_kF, x_kT, x_kfB, x_ktB, x_set, x_ret, x_retV, x_retR_fz, x_retR_ow, x_retN, x_next, x_break, x_cont, x_expr, x_if, x_nm_fz, x_nm_ow, x_st_fz, x_st_ow, x_arg_fz, x_arg_ow, x_arg_br, x_d_fz, x_d_ow, x_d_br, x_d_lk, x_var, x_varR_fz, x_varR_ow, x_varR_br, x_varR_lk, x_c, x_op, x_un, x_evs_nil, x_evs, x_stA_nil, x_stA, x_argA_nil, x_argA, x_lst, x_tup, x_call, x_B, x_tE, x_tNot, x_tAnd, x_tOr, x_eNot, x_eAnd, x_eOr, x_eIf, x_isB, x_truth_bl, x_truth_int, x_truth_lst, x_truth_tup, x_truth_non, x_for, x_frz, x_add, x_sub, x_lt, x_le, x_gt, x_ge, x_eq, x_ne, x_neg, x_len_l, x_len_t, x_list_l, x_list_t, x_tuple_l, x_tuple_t, x_min, x_max, x_ix_l, x_ix_t, x_ati0, x_ati1, x_ati2, x_ati3, x_okD, x_is_int, x_is_bool, x_is_list, x_is_tuple, x_stuck, x_gV, x_dK, x_dT, x_b_ok, x_b_stuck, List.getElem?_cons_zero, List.getElem?_cons_succ, List.set_cons_zero, List.set_cons_succ, if_true, Bool.not_true, Bool.not_false, ite_true, L3.frz, x_mkL0, x_mkL1, x_mkL2, x_mkL3, x_mkL4, x_mkL5, x_mkL6, x_mkL7, x_mkL8, x_mkL9, x_mkL10, x_mkL11, x_mkL12, x_mkL13, x_mkL14, x_mkL15, x_mkL16, x_mkT0, x_mkT1, x_mkT2, x_mkT3, x_mkT4, x_mkT5, x_asg, x_gT, x_gVs0, x_gVs, Int.cast_ofNat_Int, barD, x_mulr (i := q.1 - p.1) (j := lenOf p) (by omega) (by omega)]
        rw [← seg]
        by_cases c : t < aheadV ms q.1.toNat
        · have hd : decide (t < aheadV ms q.1.toNat) = true := by simpa using c
          simp only [hd, x_den, x_fin_rt, x_fin_nx, List.map_cons, List.map_nil, List.length_cons, List.length_nil, List.replicate_succ, List.replicate_zero, List.cons_append, List.nil_append, Nat.reduceAdd, Nat.reduceSub, Nat.reduceLeDiff, Nat.zero_add, x_th_nx, x_th_rt, x_th_bk, x_th_ct, x_th_stuck, x_seq, x_of_ok, x_of_stuck, x_pickS_t, x_pickS_f, x_pickE_t, x_pickE_f, x_pickT_t, x_pickT_f, x_kF, x_kT, x_kfB, x_ktB, x_set, x_ret, x_retV, x_retR_fz, x_retR_ow, x_retN, x_next, x_break, x_cont, x_expr, x_if, x_nm_fz, x_nm_ow, x_st_fz, x_st_ow, x_arg_fz, x_arg_ow, x_arg_br, x_d_fz, x_d_ow, x_d_br, x_d_lk, x_var, x_varR_fz, x_varR_ow, x_varR_br, x_varR_lk, x_c, x_op, x_un, x_evs_nil, x_evs, x_stA_nil, x_stA, x_argA_nil, x_argA, x_lst, x_tup, x_call, x_B, x_tE, x_tNot, x_tAnd, x_tOr, x_eNot, x_eAnd, x_eOr, x_eIf, x_isB, x_truth_bl, x_truth_int, x_truth_lst, x_truth_tup, x_truth_non, x_for, x_frz, x_add, x_sub, x_lt, x_le, x_gt, x_ge, x_eq, x_ne, x_neg, x_len_l, x_len_t, x_list_l, x_list_t, x_tuple_l, x_tuple_t, x_min, x_max, x_ix_l, x_ix_t, x_ati0, x_ati1, x_ati2, x_ati3, x_okD, x_is_int, x_is_bool, x_is_list, x_is_tuple, x_stuck, x_gV, x_dK, x_dT, x_b_ok, x_b_stuck, List.getElem?_cons_zero, List.getElem?_cons_succ, List.set_cons_zero, List.set_cons_succ, if_true, Bool.not_true, Bool.not_false, ite_true, L3.frz, x_mkL0, x_mkL1, x_mkL2, x_mkL3, x_mkL4, x_mkL5, x_mkL6, x_mkL7, x_mkL8, x_mkL9, x_mkL10, x_mkL11, x_mkL12, x_mkL13, x_mkL14, x_mkL15, x_mkL16, x_mkT0, x_mkT1, x_mkT2, x_mkT3, x_mkT4, x_mkT5, x_asg, x_gT, x_gVs0, x_gVs, Int.cast_ofNat_Int]
          refine stand_end f l e hg (fun r hr => ?_) _ _ _
          rw [seg] at c
          rcases List.mem_cons.mp hr with rfl | hr
          · omega
          · have a1 := after r hr
            have := Int.mul_le_mul_of_nonneg_right (show q.1 - p.1 ≤ r.1 - p.1 by omega) (show 0 ≤ lenOf p by omega)
            omega
        · have hd : decide (t < aheadV ms q.1.toNat) = false := by simpa using c
          simp only [hd, x_den, x_fin_rt, x_fin_nx, List.map_cons, List.map_nil, List.length_cons, List.length_nil, List.replicate_succ, List.replicate_zero, List.cons_append, List.nil_append, Nat.reduceAdd, Nat.reduceSub, Nat.reduceLeDiff, Nat.zero_add, x_th_nx, x_th_rt, x_th_bk, x_th_ct, x_th_stuck, x_seq, x_of_ok, x_of_stuck, x_pickS_t, x_pickS_f, x_pickE_t, x_pickE_f, x_pickT_t, x_pickT_f, x_kF, x_kT, x_kfB, x_ktB, x_set, x_ret, x_retV, x_retR_fz, x_retR_ow, x_retN, x_next, x_break, x_cont, x_expr, x_if, x_nm_fz, x_nm_ow, x_st_fz, x_st_ow, x_arg_fz, x_arg_ow, x_arg_br, x_d_fz, x_d_ow, x_d_br, x_d_lk, x_var, x_varR_fz, x_varR_ow, x_varR_br, x_varR_lk, x_c, x_op, x_un, x_evs_nil, x_evs, x_stA_nil, x_stA, x_argA_nil, x_argA, x_lst, x_tup, x_call, x_B, x_tE, x_tNot, x_tAnd, x_tOr, x_eNot, x_eAnd, x_eOr, x_eIf, x_isB, x_truth_bl, x_truth_int, x_truth_lst, x_truth_tup, x_truth_non, x_for, x_frz, x_add, x_sub, x_lt, x_le, x_gt, x_ge, x_eq, x_ne, x_neg, x_len_l, x_len_t, x_list_l, x_list_t, x_tuple_l, x_tuple_t, x_min, x_max, x_ix_l, x_ix_t, x_ati0, x_ati1, x_ati2, x_ati3, x_okD, x_is_int, x_is_bool, x_is_list, x_is_tuple, x_stuck, x_gV, x_dK, x_dT, x_b_ok, x_b_stuck, List.getElem?_cons_zero, List.getElem?_cons_succ, List.set_cons_zero, List.set_cons_succ, if_true, Bool.not_true, Bool.not_false, ite_true, L3.frz, x_mkL0, x_mkL1, x_mkL2, x_mkL3, x_mkL4, x_mkL5, x_mkL6, x_mkL7, x_mkL8, x_mkL9, x_mkL10, x_mkL11, x_mkL12, x_mkL13, x_mkL14, x_mkL15, x_mkL16, x_mkT0, x_mkT1, x_mkT2, x_mkT3, x_mkT4, x_mkT5, x_asg, x_gT, x_gVs0, x_gVs, Int.cast_ofNat_Int, tl]
          refine ⟨q.1, aheadV ms q.1.toNat, lenOf q, some (.fz (barD q)), some (.fz (.int (aheadV ms q.1.toNat))), rfl, .inr ⟨pre ++ [p], q, post', by rw [e]; simp, by simp; omega, rfl, rfl, rfl, by omega⟩⟩
  · subst hρ
    rcases hI with ⟨h0, _⟩ | ⟨pre, p, post, e, hl, rfl, rfl, rfl, hg⟩
    · obtain ⟨p, hp, _⟩ := f.2.2.1
      rw [List.length_map] at h0
      rw [List.length_eq_zero_iff.mp h0] at hp
      simp at hp
    · have : post = [] := by
        rw [List.length_map, e] at hl
        simp at hl
        exact hl
      subst this
      exact stand_end f l e hg (fun q hq => by simp at hq) _ _ _
theorem needed_eq {ms : List (Int × Int × Int)} (f : Fine ms) (l : Lens ms) (t : Int) (ht : 0 ≤ t) {B : Nat} {P : Int} (S : Stands ms t B P) :
    D_bars_needed [.fz (.lst (ms.map barD)), .fz (.int t)] = .ok (.fz (.int (if 0 < P ∨ t = 0 then (B : Int) + 1 else B))) := by
  obtain ⟨B2, P2, e, S2⟩ := stands_eq f l (if 0 > t - 1 then 0 else t - 1) (by split <;> omega)
  unfold D_bars_needed B_bars_needed
  simp only [x_den, x_fin_rt, x_fin_nx, List.map_cons, List.map_nil, List.length_cons, List.length_nil, List.replicate_succ, List.replicate_zero, List.cons_append, List.nil_append, Nat.reduceAdd, Nat.reduceSub, Nat.reduceLeDiff, Nat.zero_add, x_th_nx, x_th_rt, x_th_bk, x_th_ct, x_th_stuck, x_seq, x_of_ok, x_of_stuck, x_pickS_t, x_pickS_f, x_pickE_t, x_pickE_f, x_pickT_t, x_pickT_f, x_kF, x_kT, x_kfB, x_ktB, x_set, x_ret, x_retV, x_retR_fz, x_retR_ow, x_retN, x_next, x_break, x_cont, x_expr, x_if, x_nm_fz, x_nm_ow, x_st_fz, x_st_ow, x_arg_fz, x_arg_ow, x_arg_br, x_d_fz, x_d_ow, x_d_br, x_d_lk, x_var, x_varR_fz, x_varR_ow, x_varR_br, x_varR_lk, x_c, x_op, x_un, x_evs_nil, x_evs, x_stA_nil, x_stA, x_argA_nil, x_argA, x_lst, x_tup, x_call, x_B, x_tE, x_tNot, x_tAnd, x_tOr, x_eNot, x_eAnd, x_eOr, x_eIf, x_isB, x_truth_bl, x_truth_int, x_truth_lst, x_truth_tup, x_truth_non, x_for, x_frz, x_add, x_sub, x_lt, x_le, x_gt, x_ge, x_eq, x_ne, x_neg, x_len_l, x_len_t, x_list_l, x_list_t, x_tuple_l, x_tuple_t, x_min, x_max, x_ix_l, x_ix_t, x_ati0, x_ati1, x_ati2, x_ati3, x_okD, x_is_int, x_is_bool, x_is_list, x_is_tuple, x_stuck, x_gV, x_dK, x_dT, x_b_ok, x_b_stuck, List.getElem?_cons_zero, List.getElem?_cons_succ, List.set_cons_zero, List.set_cons_succ, if_true, Bool.not_true, Bool.not_false, ite_true, L3.frz, x_mkL0, x_mkL1, x_mkL2, x_mkL3, x_mkL4, x_mkL5, x_mkL6, x_mkL7, x_mkL8, x_mkL9, x_mkL10, x_mkL11, x_mkL12, x_mkL13, x_mkL14, x_mkL15, x_mkL16, x_mkT0, x_mkT1, x_mkT2, x_mkT3, x_mkT4, x_mkT5, x_asg, x_gT, x_gVs0, x_gVs, Int.cast_ofNat_Int, e]
  congr 3
  obtain ⟨s1, s2, s3⟩ := S
  obtain ⟨z1, z2, z3⟩ := S2
  by_cases h0 : t = 0
  · subst h0
    rw [if_pos (by decide)] at z3
    rw [if_pos (.inr rfl), bar_one f l z3 z1 z2 s3 s1 s2]
  · rw [if_neg (by omega)] at z3
    by_cases hP : 0 < P
    · rw [if_pos (.inl hP)]
      rw [bar_one f l (b := B) (q := P - 1) z3 z1 z2 (by omega) (by omega) (by omega)]
    · rw [if_neg (by omega)]
      have : P = 0 := by omega
      subst this
      cases B with
      | zero => rw [ahead_zero] at s3; omega
      | succ B =>
        rw [ahead_succ] at s3
        have d := due_pos f l B
        rw [bar_one f l (b := B) (q := dueV ms B - 1) z3 z1 z2 (by omega) (by omega) (by omega)]
        rfl
theorem tail_true {ms : List (Int × Int × Int)} (f : Fine ms) (l : Lens ms) (ns : List Int) (t : Int) (ht : 0 ≤ t) (hB : ∀ B, aheadV ms B ≤ t → B ≤ 175) :
    fin (T2_law [some (.fz (.lst (ns.map D.int))), some (.ow (.lst (ms.map barD))), some (.fz (.int t)), none, none, none, none, none]) = .ok (.fz (.bl true)) := by
  obtain ⟨B, P, e, S⟩ := stands_eq f l t ht
  have S' := S
  obtain ⟨s1, s2, s3⟩ := S
  have b1 := hB B (by omega)
  have n := needed_eq f l t ht S'
  have d1 : decide ((B : Int) < 0) = false := by simp
  have d2 : decide ((175 : Int) < B) = false := by simp; omega
  have d3 : decide (P < 0) = false := by simp; omega
  have d4 : decide (dueV ms B ≤ P) = false := by simp; omega
  unfold T2_law T3_law
  simp only [x_den, x_fin_rt, x_fin_nx, List.map_cons, List.map_nil, List.length_cons, List.length_nil, List.replicate_succ, List.replicate_zero, List.cons_append, List.nil_append, Nat.reduceAdd, Nat.reduceSub, Nat.reduceLeDiff, Nat.zero_add, x_th_nx, x_th_rt, x_th_bk, x_th_ct, x_th_stuck, x_seq, x_of_ok, x_of_stuck, x_pickS_t, x_pickS_f, x_pickE_t, x_pickE_f, x_pickT_t, x_pickT_f, x_kF, x_kT, x_kfB, x_ktB, x_set, x_ret, x_retV, x_retR_fz, x_retR_ow, x_retN, x_next, x_break, x_cont, x_expr, x_if, x_nm_fz, x_nm_ow, x_st_fz, x_st_ow, x_arg_fz, x_arg_ow, x_arg_br, x_d_fz, x_d_ow, x_d_br, x_d_lk, x_var, x_varR_fz, x_varR_ow, x_varR_br, x_varR_lk, x_c, x_op, x_un, x_evs_nil, x_evs, x_stA_nil, x_stA, x_argA_nil, x_argA, x_lst, x_tup, x_call, x_B, x_tE, x_tNot, x_tAnd, x_tOr, x_eNot, x_eAnd, x_eOr, x_eIf, x_isB, x_truth_bl, x_truth_int, x_truth_lst, x_truth_tup, x_truth_non, x_for, x_frz, x_add, x_sub, x_lt, x_le, x_gt, x_ge, x_eq, x_ne, x_neg, x_len_l, x_len_t, x_list_l, x_list_t, x_tuple_l, x_tuple_t, x_min, x_max, x_ix_l, x_ix_t, x_ati0, x_ati1, x_ati2, x_ati3, x_okD, x_is_int, x_is_bool, x_is_list, x_is_tuple, x_stuck, x_gV, x_dK, x_dT, x_b_ok, x_b_stuck, List.getElem?_cons_zero, List.getElem?_cons_succ, List.set_cons_zero, List.set_cons_succ, if_true, Bool.not_true, Bool.not_false, ite_true, L3.frz, x_mkL0, x_mkL1, x_mkL2, x_mkL3, x_mkL4, x_mkL5, x_mkL6, x_mkL7, x_mkL8, x_mkL9, x_mkL10, x_mkL11, x_mkL12, x_mkL13, x_mkL14, x_mkL15, x_mkL16, x_mkT0, x_mkT1, x_mkT2, x_mkT3, x_mkT4, x_mkT5, x_asg, x_gT, x_gVs0, x_gVs, Int.cast_ofNat_Int, e, whole_eq, beq_self_eq_true, length_eq f B, ahead_eq f B (by omega), d1, d2, d3, d4, s3]
  by_cases c : 0 < P ∨ t = 0
  · rw [if_pos c] at n
    rcases c with c | c
    · have d5 : decide (0 < P) = true := by simpa using c
      simp only [d5, x_den, x_fin_rt, x_fin_nx, List.map_cons, List.map_nil, List.length_cons, List.length_nil, List.replicate_succ, List.replicate_zero, List.cons_append, List.nil_append, Nat.reduceAdd, Nat.reduceSub, Nat.reduceLeDiff, Nat.zero_add, x_th_nx, x_th_rt, x_th_bk, x_th_ct, x_th_stuck, x_seq, x_of_ok, x_of_stuck, x_pickS_t, x_pickS_f, x_pickE_t, x_pickE_f, x_pickT_t, x_pickT_f, x_kF, x_kT, x_kfB, x_ktB, x_set, x_ret, x_retV, x_retR_fz, x_retR_ow, x_retN, x_next, x_break, x_cont, x_expr, x_if, x_nm_fz, x_nm_ow, x_st_fz, x_st_ow, x_arg_fz, x_arg_ow, x_arg_br, x_d_fz, x_d_ow, x_d_br, x_d_lk, x_var, x_varR_fz, x_varR_ow, x_varR_br, x_varR_lk, x_c, x_op, x_un, x_evs_nil, x_evs, x_stA_nil, x_stA, x_argA_nil, x_argA, x_lst, x_tup, x_call, x_B, x_tE, x_tNot, x_tAnd, x_tOr, x_eNot, x_eAnd, x_eOr, x_eIf, x_isB, x_truth_bl, x_truth_int, x_truth_lst, x_truth_tup, x_truth_non, x_for, x_frz, x_add, x_sub, x_lt, x_le, x_gt, x_ge, x_eq, x_ne, x_neg, x_len_l, x_len_t, x_list_l, x_list_t, x_tuple_l, x_tuple_t, x_min, x_max, x_ix_l, x_ix_t, x_ati0, x_ati1, x_ati2, x_ati3, x_okD, x_is_int, x_is_bool, x_is_list, x_is_tuple, x_stuck, x_gV, x_dK, x_dT, x_b_ok, x_b_stuck, List.getElem?_cons_zero, List.getElem?_cons_succ, List.set_cons_zero, List.set_cons_succ, if_true, Bool.not_true, Bool.not_false, ite_true, L3.frz, x_mkL0, x_mkL1, x_mkL2, x_mkL3, x_mkL4, x_mkL5, x_mkL6, x_mkL7, x_mkL8, x_mkL9, x_mkL10, x_mkL11, x_mkL12, x_mkL13, x_mkL14, x_mkL15, x_mkL16, x_mkT0, x_mkT1, x_mkT2, x_mkT3, x_mkT4, x_mkT5, x_asg, x_gT, x_gVs0, x_gVs, Int.cast_ofNat_Int, n, whole_eq, beq_self_eq_true]
    · have d6 : (t == 0) = true := by simpa using c
      cases d5 : decide (0 < P)
      · simp only [d6, x_den, x_fin_rt, x_fin_nx, List.map_cons, List.map_nil, List.length_cons, List.length_nil, List.replicate_succ, List.replicate_zero, List.cons_append, List.nil_append, Nat.reduceAdd, Nat.reduceSub, Nat.reduceLeDiff, Nat.zero_add, x_th_nx, x_th_rt, x_th_bk, x_th_ct, x_th_stuck, x_seq, x_of_ok, x_of_stuck, x_pickS_t, x_pickS_f, x_pickE_t, x_pickE_f, x_pickT_t, x_pickT_f, x_kF, x_kT, x_kfB, x_ktB, x_set, x_ret, x_retV, x_retR_fz, x_retR_ow, x_retN, x_next, x_break, x_cont, x_expr, x_if, x_nm_fz, x_nm_ow, x_st_fz, x_st_ow, x_arg_fz, x_arg_ow, x_arg_br, x_d_fz, x_d_ow, x_d_br, x_d_lk, x_var, x_varR_fz, x_varR_ow, x_varR_br, x_varR_lk, x_c, x_op, x_un, x_evs_nil, x_evs, x_stA_nil, x_stA, x_argA_nil, x_argA, x_lst, x_tup, x_call, x_B, x_tE, x_tNot, x_tAnd, x_tOr, x_eNot, x_eAnd, x_eOr, x_eIf, x_isB, x_truth_bl, x_truth_int, x_truth_lst, x_truth_tup, x_truth_non, x_for, x_frz, x_add, x_sub, x_lt, x_le, x_gt, x_ge, x_eq, x_ne, x_neg, x_len_l, x_len_t, x_list_l, x_list_t, x_tuple_l, x_tuple_t, x_min, x_max, x_ix_l, x_ix_t, x_ati0, x_ati1, x_ati2, x_ati3, x_okD, x_is_int, x_is_bool, x_is_list, x_is_tuple, x_stuck, x_gV, x_dK, x_dT, x_b_ok, x_b_stuck, List.getElem?_cons_zero, List.getElem?_cons_succ, List.set_cons_zero, List.set_cons_succ, if_true, Bool.not_true, Bool.not_false, ite_true, L3.frz, x_mkL0, x_mkL1, x_mkL2, x_mkL3, x_mkL4, x_mkL5, x_mkL6, x_mkL7, x_mkL8, x_mkL9, x_mkL10, x_mkL11, x_mkL12, x_mkL13, x_mkL14, x_mkL15, x_mkL16, x_mkT0, x_mkT1, x_mkT2, x_mkT3, x_mkT4, x_mkT5, x_asg, x_gT, x_gVs0, x_gVs, Int.cast_ofNat_Int, n, whole_eq, beq_self_eq_true]
      · simp only [x_den, x_fin_rt, x_fin_nx, List.map_cons, List.map_nil, List.length_cons, List.length_nil, List.replicate_succ, List.replicate_zero, List.cons_append, List.nil_append, Nat.reduceAdd, Nat.reduceSub, Nat.reduceLeDiff, Nat.zero_add, x_th_nx, x_th_rt, x_th_bk, x_th_ct, x_th_stuck, x_seq, x_of_ok, x_of_stuck, x_pickS_t, x_pickS_f, x_pickE_t, x_pickE_f, x_pickT_t, x_pickT_f, x_kF, x_kT, x_kfB, x_ktB, x_set, x_ret, x_retV, x_retR_fz, x_retR_ow, x_retN, x_next, x_break, x_cont, x_expr, x_if, x_nm_fz, x_nm_ow, x_st_fz, x_st_ow, x_arg_fz, x_arg_ow, x_arg_br, x_d_fz, x_d_ow, x_d_br, x_d_lk, x_var, x_varR_fz, x_varR_ow, x_varR_br, x_varR_lk, x_c, x_op, x_un, x_evs_nil, x_evs, x_stA_nil, x_stA, x_argA_nil, x_argA, x_lst, x_tup, x_call, x_B, x_tE, x_tNot, x_tAnd, x_tOr, x_eNot, x_eAnd, x_eOr, x_eIf, x_isB, x_truth_bl, x_truth_int, x_truth_lst, x_truth_tup, x_truth_non, x_for, x_frz, x_add, x_sub, x_lt, x_le, x_gt, x_ge, x_eq, x_ne, x_neg, x_len_l, x_len_t, x_list_l, x_list_t, x_tuple_l, x_tuple_t, x_min, x_max, x_ix_l, x_ix_t, x_ati0, x_ati1, x_ati2, x_ati3, x_okD, x_is_int, x_is_bool, x_is_list, x_is_tuple, x_stuck, x_gV, x_dK, x_dT, x_b_ok, x_b_stuck, List.getElem?_cons_zero, List.getElem?_cons_succ, List.set_cons_zero, List.set_cons_succ, if_true, Bool.not_true, Bool.not_false, ite_true, L3.frz, x_mkL0, x_mkL1, x_mkL2, x_mkL3, x_mkL4, x_mkL5, x_mkL6, x_mkL7, x_mkL8, x_mkL9, x_mkL10, x_mkL11, x_mkL12, x_mkL13, x_mkL14, x_mkL15, x_mkL16, x_mkT0, x_mkT1, x_mkT2, x_mkT3, x_mkT4, x_mkT5, x_asg, x_gT, x_gVs0, x_gVs, Int.cast_ofNat_Int, n, whole_eq, beq_self_eq_true]
  · rw [if_neg c] at n
    have d5 : decide (0 < P) = false := by simp; omega
    have d6 : (t == 0) = false := by simp; omega
    simp only [d5, d6, x_den, x_fin_rt, x_fin_nx, List.map_cons, List.map_nil, List.length_cons, List.length_nil, List.replicate_succ, List.replicate_zero, List.cons_append, List.nil_append, Nat.reduceAdd, Nat.reduceSub, Nat.reduceLeDiff, Nat.zero_add, x_th_nx, x_th_rt, x_th_bk, x_th_ct, x_th_stuck, x_seq, x_of_ok, x_of_stuck, x_pickS_t, x_pickS_f, x_pickE_t, x_pickE_f, x_pickT_t, x_pickT_f, x_kF, x_kT, x_kfB, x_ktB, x_set, x_ret, x_retV, x_retR_fz, x_retR_ow, x_retN, x_next, x_break, x_cont, x_expr, x_if, x_nm_fz, x_nm_ow, x_st_fz, x_st_ow, x_arg_fz, x_arg_ow, x_arg_br, x_d_fz, x_d_ow, x_d_br, x_d_lk, x_var, x_varR_fz, x_varR_ow, x_varR_br, x_varR_lk, x_c, x_op, x_un, x_evs_nil, x_evs, x_stA_nil, x_stA, x_argA_nil, x_argA, x_lst, x_tup, x_call, x_B, x_tE, x_tNot, x_tAnd, x_tOr, x_eNot, x_eAnd, x_eOr, x_eIf, x_isB, x_truth_bl, x_truth_int, x_truth_lst, x_truth_tup, x_truth_non, x_for, x_frz, x_add, x_sub, x_lt, x_le, x_gt, x_ge, x_eq, x_ne, x_neg, x_len_l, x_len_t, x_list_l, x_list_t, x_tuple_l, x_tuple_t, x_min, x_max, x_ix_l, x_ix_t, x_ati0, x_ati1, x_ati2, x_ati3, x_okD, x_is_int, x_is_bool, x_is_list, x_is_tuple, x_stuck, x_gV, x_dK, x_dT, x_b_ok, x_b_stuck, List.getElem?_cons_zero, List.getElem?_cons_succ, List.set_cons_zero, List.set_cons_succ, if_true, Bool.not_true, Bool.not_false, ite_true, L3.frz, x_mkL0, x_mkL1, x_mkL2, x_mkL3, x_mkL4, x_mkL5, x_mkL6, x_mkL7, x_mkL8, x_mkL9, x_mkL10, x_mkL11, x_mkL12, x_mkL13, x_mkL14, x_mkL15, x_mkL16, x_mkT0, x_mkT1, x_mkT2, x_mkT3, x_mkT4, x_mkT5, x_asg, x_gT, x_gVs0, x_gVs, Int.cast_ofNat_Int, n, whole_eq, beq_self_eq_true]
theorem law_true (ns : List Int) (_ : ns.length ≤ 63) : D_law [.fz (.lst (ns.map D.int))] = .ok (.fz (.bl true)) := by
  have c0 := cell_eq ns 0
  have c5 := cell_eq ns 5
  have c6 := cell_eq ns 6
  rw [show ((0 : Nat) : Int) = 0 from rfl] at c0
  rw [show ((5 : Nat) : Int) = 5 from rfl] at c5
  rw [show ((6 : Nat) : Int) = 6 from rfl] at c6
  have f := meter_fine ns (cell ns 0 % 2 == 1)
  have l := len_meter ns (cell ns 0 % 2 == 1)
  unfold D_law B_law
  simp only [x_den, x_fin_rt, x_fin_nx, List.map_cons, List.map_nil, List.length_cons, List.length_nil, List.replicate_succ, List.replicate_zero, List.cons_append, List.nil_append, Nat.reduceAdd, Nat.reduceSub, Nat.reduceLeDiff, Nat.zero_add, x_th_nx, x_th_rt, x_th_bk, x_th_ct, x_th_stuck, x_seq, x_of_ok, x_of_stuck, x_pickS_t, x_pickS_f, x_pickE_t, x_pickE_f, x_pickT_t, x_pickT_f, x_kF, x_kT, x_kfB, x_ktB, x_set, x_ret, x_retV, x_retR_fz, x_retR_ow, x_retN, x_next, x_break, x_cont, x_expr, x_if, x_nm_fz, x_nm_ow, x_st_fz, x_st_ow, x_arg_fz, x_arg_ow, x_arg_br, x_d_fz, x_d_ow, x_d_br, x_d_lk, x_var, x_varR_fz, x_varR_ow, x_varR_br, x_varR_lk, x_c, x_op, x_un, x_evs_nil, x_evs, x_stA_nil, x_stA, x_argA_nil, x_argA, x_lst, x_tup, x_call, x_B, x_tE, x_tNot, x_tAnd, x_tOr, x_eNot, x_eAnd, x_eOr, x_eIf, x_isB, x_truth_bl, x_truth_int, x_truth_lst, x_truth_tup, x_truth_non, x_for, x_frz, x_add, x_sub, x_lt, x_le, x_gt, x_ge, x_eq, x_ne, x_neg, x_len_l, x_len_t, x_list_l, x_list_t, x_tuple_l, x_tuple_t, x_min, x_max, x_ix_l, x_ix_t, x_ati0, x_ati1, x_ati2, x_ati3, x_okD, x_is_int, x_is_bool, x_is_list, x_is_tuple, x_stuck, x_gV, x_dK, x_dT, x_b_ok, x_b_stuck, List.getElem?_cons_zero, List.getElem?_cons_succ, List.set_cons_zero, List.set_cons_succ, if_true, Bool.not_true, Bool.not_false, ite_true, L3.frz, x_mkL0, x_mkL1, x_mkL2, x_mkL3, x_mkL4, x_mkL5, x_mkL6, x_mkL7, x_mkL8, x_mkL9, x_mkL10, x_mkL11, x_mkL12, x_mkL13, x_mkL14, x_mkL15, x_mkL16, x_mkT0, x_mkT1, x_mkT2, x_mkT3, x_mkT4, x_mkT5, x_asg, x_gT, x_gVs0, x_gVs, Int.cast_ofNat_Int, c0, x_mod (j := 2) (by decide), meter_eq]
  unfold T1_law
  generalize meterOf ns (cell ns 0 % 2 == 1) = ms at f l
  have tick : ∃ t, D__law_tick [.fz (.lst (ns.map D.int)), .br (.lst (ms.map barD))] = .ok (.fz (.int t)) ∧ 0 ≤ t ∧ ∀ B, aheadV ms B ≤ t → B ≤ 175 := by
    unfold D__law_tick B__law_tick
    have a0 := fun B => ahead_mono f l 0 B
    simp only [Nat.zero_add, ahead_zero, Int.zero_add] at a0
    simp only [x_den, x_fin_rt, x_fin_nx, List.map_cons, List.map_nil, List.length_cons, List.length_nil, List.replicate_succ, List.replicate_zero, List.cons_append, List.nil_append, Nat.reduceAdd, Nat.reduceSub, Nat.reduceLeDiff, Nat.zero_add, x_th_nx, x_th_rt, x_th_bk, x_th_ct, x_th_stuck, x_seq, x_of_ok, x_of_stuck, x_pickS_t, x_pickS_f, x_pickE_t, x_pickE_f, x_pickT_t, x_pickT_f, x_kF, x_kT, x_kfB, x_ktB, x_set, x_ret, x_retV, x_retR_fz, x_retR_ow, x_retN, x_next, x_break, x_cont, x_expr, x_if, x_nm_fz, x_nm_ow, x_st_fz, x_st_ow, x_arg_fz, x_arg_ow, x_arg_br, x_d_fz, x_d_ow, x_d_br, x_d_lk, x_var, x_varR_fz, x_varR_ow, x_varR_br, x_varR_lk, x_c, x_op, x_un, x_evs_nil, x_evs, x_stA_nil, x_stA, x_argA_nil, x_argA, x_lst, x_tup, x_call, x_B, x_tE, x_tNot, x_tAnd, x_tOr, x_eNot, x_eAnd, x_eOr, x_eIf, x_isB, x_truth_bl, x_truth_int, x_truth_lst, x_truth_tup, x_truth_non, x_for, x_frz, x_add, x_sub, x_lt, x_le, x_gt, x_ge, x_eq, x_ne, x_neg, x_len_l, x_len_t, x_list_l, x_list_t, x_tuple_l, x_tuple_t, x_min, x_max, x_ix_l, x_ix_t, x_ati0, x_ati1, x_ati2, x_ati3, x_okD, x_is_int, x_is_bool, x_is_list, x_is_tuple, x_stuck, x_gV, x_dK, x_dT, x_b_ok, x_b_stuck, List.getElem?_cons_zero, List.getElem?_cons_succ, List.set_cons_zero, List.set_cons_succ, if_true, Bool.not_true, Bool.not_false, ite_true, L3.frz, x_mkL0, x_mkL1, x_mkL2, x_mkL3, x_mkL4, x_mkL5, x_mkL6, x_mkL7, x_mkL8, x_mkL9, x_mkL10, x_mkL11, x_mkL12, x_mkL13, x_mkL14, x_mkL15, x_mkL16, x_mkT0, x_mkT1, x_mkT2, x_mkT3, x_mkT4, x_mkT5, x_asg, x_gT, x_gVs0, x_gVs, Int.cast_ofNat_Int, c0, c5, c6, x_div (j := 2) (by decide) (by decide), x_mod (j := 2) (by decide), x_mod (j := 1401) (by decide), x_mod (j := 12) (by decide)]
    cases hc : (cell ns 0 / 2 % 2 == 0)
    · have h0 := Int.emod_nonneg (cell ns 5) (show (12 : Int) ≠ 0 by decide)
      have h1 := Int.emod_lt_of_pos (cell ns 5) (show (0 : Int) < 12 by decide)
      have h2 := Int.emod_nonneg (cell ns 6) (show (2 : Int) ≠ 0 by decide)
      obtain ⟨b, hb⟩ := Int.eq_ofNat_of_zero_le h0
      have ae := ahead_eq f b (by omega)
      have hb' : cell ns 5 % 12 = (b : Int) := hb
      simp only [x_den, x_fin_rt, x_fin_nx, List.map_cons, List.map_nil, List.length_cons, List.length_nil, List.replicate_succ, List.replicate_zero, List.cons_append, List.nil_append, Nat.reduceAdd, Nat.reduceSub, Nat.reduceLeDiff, Nat.zero_add, x_th_nx, x_th_rt, x_th_bk, x_th_ct, x_th_stuck, x_seq, x_of_ok, x_of_stuck, x_pickS_t, x_pickS_f, x_pickE_t, x_pickE_f, x_pickT_t, x_pickT_f, x_kF, x_kT, x_kfB, x_ktB, x_set, x_ret, x_retV, x_retR_fz, x_retR_ow, x_retN, x_next, x_break, x_cont, x_expr, x_if, x_nm_fz, x_nm_ow, x_st_fz, x_st_ow, x_arg_fz, x_arg_ow, x_arg_br, x_d_fz, x_d_ow, x_d_br, x_d_lk, x_var, x_varR_fz, x_varR_ow, x_varR_br, x_varR_lk, x_c, x_op, x_un, x_evs_nil, x_evs, x_stA_nil, x_stA, x_argA_nil, x_argA, x_lst, x_tup, x_call, x_B, x_tE, x_tNot, x_tAnd, x_tOr, x_eNot, x_eAnd, x_eOr, x_eIf, x_isB, x_truth_bl, x_truth_int, x_truth_lst, x_truth_tup, x_truth_non, x_for, x_frz, x_add, x_sub, x_lt, x_le, x_gt, x_ge, x_eq, x_ne, x_neg, x_len_l, x_len_t, x_list_l, x_list_t, x_tuple_l, x_tuple_t, x_min, x_max, x_ix_l, x_ix_t, x_ati0, x_ati1, x_ati2, x_ati3, x_okD, x_is_int, x_is_bool, x_is_list, x_is_tuple, x_stuck, x_gV, x_dK, x_dT, x_b_ok, x_b_stuck, List.getElem?_cons_zero, List.getElem?_cons_succ, List.set_cons_zero, List.set_cons_succ, if_true, Bool.not_true, Bool.not_false, ite_true, L3.frz, x_mkL0, x_mkL1, x_mkL2, x_mkL3, x_mkL4, x_mkL5, x_mkL6, x_mkL7, x_mkL8, x_mkL9, x_mkL10, x_mkL11, x_mkL12, x_mkL13, x_mkL14, x_mkL15, x_mkL16, x_mkT0, x_mkT1, x_mkT2, x_mkT3, x_mkT4, x_mkT5, x_asg, x_gT, x_gVs0, x_gVs, Int.cast_ofNat_Int, c5, c6, x_mod (j := 2) (by decide), x_mod (j := 12) (by decide), hb', ae]
      refine ⟨_, rfl, by split <;> omega, fun B hB => ?_⟩
      have ab := a0 b
      by_cases c : B ≤ b
      · omega
      · have m := ahead_mono f l b (B - b)
        rw [show b + (B - b) = B by omega] at m
        split at hB <;> omega
    · have h0 := Int.emod_nonneg (cell ns 5) (show (1401 : Int) ≠ 0 by decide)
      have h1 := Int.emod_lt_of_pos (cell ns 5) (show (0 : Int) < 1401 by decide)
      simp only [x_den, x_fin_rt, x_fin_nx, List.map_cons, List.map_nil, List.length_cons, List.length_nil, List.replicate_succ, List.replicate_zero, List.cons_append, List.nil_append, Nat.reduceAdd, Nat.reduceSub, Nat.reduceLeDiff, Nat.zero_add, x_th_nx, x_th_rt, x_th_bk, x_th_ct, x_th_stuck, x_seq, x_of_ok, x_of_stuck, x_pickS_t, x_pickS_f, x_pickE_t, x_pickE_f, x_pickT_t, x_pickT_f, x_kF, x_kT, x_kfB, x_ktB, x_set, x_ret, x_retV, x_retR_fz, x_retR_ow, x_retN, x_next, x_break, x_cont, x_expr, x_if, x_nm_fz, x_nm_ow, x_st_fz, x_st_ow, x_arg_fz, x_arg_ow, x_arg_br, x_d_fz, x_d_ow, x_d_br, x_d_lk, x_var, x_varR_fz, x_varR_ow, x_varR_br, x_varR_lk, x_c, x_op, x_un, x_evs_nil, x_evs, x_stA_nil, x_stA, x_argA_nil, x_argA, x_lst, x_tup, x_call, x_B, x_tE, x_tNot, x_tAnd, x_tOr, x_eNot, x_eAnd, x_eOr, x_eIf, x_isB, x_truth_bl, x_truth_int, x_truth_lst, x_truth_tup, x_truth_non, x_for, x_frz, x_add, x_sub, x_lt, x_le, x_gt, x_ge, x_eq, x_ne, x_neg, x_len_l, x_len_t, x_list_l, x_list_t, x_tuple_l, x_tuple_t, x_min, x_max, x_ix_l, x_ix_t, x_ati0, x_ati1, x_ati2, x_ati3, x_okD, x_is_int, x_is_bool, x_is_list, x_is_tuple, x_stuck, x_gV, x_dK, x_dT, x_b_ok, x_b_stuck, List.getElem?_cons_zero, List.getElem?_cons_succ, List.set_cons_zero, List.set_cons_succ, if_true, Bool.not_true, Bool.not_false, ite_true, L3.frz, x_mkL0, x_mkL1, x_mkL2, x_mkL3, x_mkL4, x_mkL5, x_mkL6, x_mkL7, x_mkL8, x_mkL9, x_mkL10, x_mkL11, x_mkL12, x_mkL13, x_mkL14, x_mkL15, x_mkL16, x_mkT0, x_mkT1, x_mkT2, x_mkT3, x_mkT4, x_mkT5, x_asg, x_gT, x_gVs0, x_gVs, Int.cast_ofNat_Int, c5, x_mod (j := 1401) (by decide)]
      exact ⟨_, rfl, h0, fun B hB => by have := a0 B; omega⟩
  obtain ⟨t, et, ht, hB⟩ := tick
  simp only [x_den, x_fin_rt, x_fin_nx, List.map_cons, List.map_nil, List.length_cons, List.length_nil, List.replicate_succ, List.replicate_zero, List.cons_append, List.nil_append, Nat.reduceAdd, Nat.reduceSub, Nat.reduceLeDiff, Nat.zero_add, x_th_nx, x_th_rt, x_th_bk, x_th_ct, x_th_stuck, x_seq, x_of_ok, x_of_stuck, x_pickS_t, x_pickS_f, x_pickE_t, x_pickE_f, x_pickT_t, x_pickT_f, x_kF, x_kT, x_kfB, x_ktB, x_set, x_ret, x_retV, x_retR_fz, x_retR_ow, x_retN, x_next, x_break, x_cont, x_expr, x_if, x_nm_fz, x_nm_ow, x_st_fz, x_st_ow, x_arg_fz, x_arg_ow, x_arg_br, x_d_fz, x_d_ow, x_d_br, x_d_lk, x_var, x_varR_fz, x_varR_ow, x_varR_br, x_varR_lk, x_c, x_op, x_un, x_evs_nil, x_evs, x_stA_nil, x_stA, x_argA_nil, x_argA, x_lst, x_tup, x_call, x_B, x_tE, x_tNot, x_tAnd, x_tOr, x_eNot, x_eAnd, x_eOr, x_eIf, x_isB, x_truth_bl, x_truth_int, x_truth_lst, x_truth_tup, x_truth_non, x_for, x_frz, x_add, x_sub, x_lt, x_le, x_gt, x_ge, x_eq, x_ne, x_neg, x_len_l, x_len_t, x_list_l, x_list_t, x_tuple_l, x_tuple_t, x_min, x_max, x_ix_l, x_ix_t, x_ati0, x_ati1, x_ati2, x_ati3, x_okD, x_is_int, x_is_bool, x_is_list, x_is_tuple, x_stuck, x_gV, x_dK, x_dT, x_b_ok, x_b_stuck, List.getElem?_cons_zero, List.getElem?_cons_succ, List.set_cons_zero, List.set_cons_succ, if_true, Bool.not_true, Bool.not_false, ite_true, L3.frz, x_mkL0, x_mkL1, x_mkL2, x_mkL3, x_mkL4, x_mkL5, x_mkL6, x_mkL7, x_mkL8, x_mkL9, x_mkL10, x_mkL11, x_mkL12, x_mkL13, x_mkL14, x_mkL15, x_mkL16, x_mkT0, x_mkT1, x_mkT2, x_mkT3, x_mkT4, x_mkT5, x_asg, x_gT, x_gVs0, x_gVs, Int.cast_ofNat_Int, et]
  exact tail_true f l ns t ht hB

section
variable {P : Program} {w : World} {K : PySem.W.Frag} {mg : Str → Option Value} {base : Heap}
theorem sc_told_length : FnScope ["told"] ["told"] (defScope s_told_length) := ⟨rfl, rfl, rfl, by decide +kernel, rfl, by decide +kernel, by decide +kernel⟩
theorem ok_told_length {f : Addr} {fd : FuncData} (F : Fun K "told_length" "told_length" s_told_length f fd) :
    FnOk P w K mg base CX0 1 f fd ["told"] (spD ⟨P, w, K⟩ D_told_length 1) := by
  refine fnD (N := ["told"]) F sc_told_length (fun cdv A outer s H F0 hr => ?_)
  have nd := sc_told_length.nd
  have hu := hu10 hr
  exact (sss_one (ss_ret (se_op od_mul (se_ix (se_var 0) se_int) (se_ix (se_var 0) se_int))))
theorem sc__law_cell : FnScope ["_law_script", "_law_k"] ["_law_script", "_law_k"] (defScope s__law_cell) := ⟨rfl, rfl, rfl, by decide +kernel, rfl, by decide +kernel, by decide +kernel⟩
theorem ok__law_cell {f : Addr} {fd : FuncData} (F : Fun K "_law_cell" "_law_cell" s__law_cell f fd)
    (b_len : mg "len" = none) :
    FnOk P w K mg base CX0 1 f fd ["_law_script", "_law_k"] (spD ⟨P, w, K⟩ D__law_cell 2) := by
  refine fnD (N := ["_law_script", "_law_k"]) F sc__law_cell (fun cdv A outer s H F0 hr => ?_)
  have nd := sc__law_cell.nd
  have hu := hu10 hr
  exact (sss_cons (ss_if (st_cmp od_lt (se_var 1) (se_callB cd_len b_len PySem.boot_len (sa_cons (se_var 0) sa_nil))) (sss_one (ss_ret (se_ix (se_var 0) (se_var 1)))) sss_nil)
  (sss_one (ss_ret se_int)))
theorem sc__law_mix : FnScope ["_law_cell_here", "_law_prime", "_law_many"] ["_law_cell_here", "_law_prime", "_law_many"] (defScope s__law_mix) := ⟨rfl, rfl, rfl, by decide +kernel, rfl, by decide +kernel, by decide +kernel⟩
theorem ok__law_mix {f : Addr} {fd : FuncData} (F : Fun K "_law_mix" "_law_mix" s__law_mix f fd) :
    FnOk P w K mg base CX0 1 f fd ["_law_cell_here", "_law_prime", "_law_many"] (spD ⟨P, w, K⟩ D__law_mix 3) := by
  refine fnD (N := ["_law_cell_here", "_law_prime", "_law_many"]) F sc__law_mix (fun cdv A outer s H F0 hr => ?_)
  have nd := sc__law_mix.nd
  have hu := hu10 hr
  exact (sss_one (ss_ret (se_op od_mod (se_op od_mod (se_op od_mul (se_var 0) se_int) (se_var 1)) (se_var 2))))
theorem sc__law_whole : FnScope ["_law_found"] ["_law_found"] (defScope s__law_whole) := ⟨rfl, rfl, rfl, by decide +kernel, rfl, by decide +kernel, by decide +kernel⟩
theorem ok__law_whole {f : Addr} {fd : FuncData} (F : Fun K "_law_whole" "_law_whole" s__law_whole f fd)
    (b_isinstance : mg "isinstance" = none)
    (b_int : mg "int" = none)
    (b_bool : mg "bool" = none) :
    FnOk P w K mg base CX0 1 f fd ["_law_found"] (spD ⟨P, w, K⟩ D__law_whole 1) := by
  refine fnD (N := ["_law_found"]) F sc__law_whole (fun cdv A outer s H F0 hr => ?_)
  have nd := sc__law_whole.nd
  have hu := hu10 hr
  exact (sss_one (ss_ret (se_and (se_isi .int (se_var 0) b_isinstance b_int) (se_one (se_not (se_isi .bool (se_var 0) b_isinstance b_bool))))))
theorem sc__law_length : FnScope ["_law_meter_here", "_law_bar"] ["_law_meter_here", "_law_bar"] (defScope s__law_length) := ⟨rfl, rfl, rfl, by decide +kernel, rfl, by decide +kernel, by decide +kernel⟩
theorem ok__law_length {f : Addr} {fd : FuncData} (F : Fun K "_law_length" "_law_length" s__law_length f fd) :
    FnOk P w K mg base CX0 1 f fd ["_law_meter_here", "_law_bar"] (spD ⟨P, w, K⟩ D__law_length 2) := by
  refine fnD (N := ["_law_meter_here", "_law_bar"]) F sc__law_length (fun cdv A outer s H F0 hr => ?_)
  have nd := sc__law_length.nd
  have hu := hu10 hr
  have nd1 : (["_law_meter_here", "_law_bar", "_law_step_here"] : List Str).Nodup := by decide +kernel
  exact (sss_one (ss_ret (se_ix (se_comp (n := 1) ["_law_meter_here", "_law_bar", "_law_step_here"] (sic_var 0) (no_gV 2) (fun _ _ _ _ _ => (sg_name 2 nd1)) (fun _ _ _ _ _ => (.one (st_cmp od_le (se_ix (se_var 2) se_int) (se_var 1)))) (fun _ _ _ _ _ => (se_op od_mul (se_ix (se_var 2) se_int) (se_ix (se_var 2) se_int)))) (se_neg se_int))))
theorem sc_stands : FnScope ["meter", "tick", "bar", "begin", "length", "told", "told_begin"] ["meter", "tick"] (defScope s_stands) := ⟨rfl, rfl, rfl, by decide +kernel, rfl, by decide +kernel, by decide +kernel⟩
theorem ok_stands {f : Addr} {fd : FuncData} (F : Fun K "stands" "stands" s_stands f fd)
    {f_told_length : Addr} {fd_told_length : FuncData} (G_told_length : FnOk P w K mg base CX0 1 f_told_length fd_told_length ["told"] (spD ⟨P, w, K⟩ D_told_length 1)) (m_told_length : mg "told_length" = some (.ref f_told_length)) (k_told_length : PySem.W.keepIn K (.ref f_told_length) = true) (b_told_length : Binds K fd_told_length ["told"] []) :
    FnOk P w K mg base CX0 2 f fd ["meter", "tick"] (spD ⟨P, w, K⟩ D_stands 2) := by
  refine fnD (N := ["meter", "tick", "bar", "begin", "length", "told", "told_begin"]) F sc_stands (fun cdv A outer s H F0 hr => ?_)
  have nd := sc_stands.nd
  have hu := hu10 hr
  exact (sss_cons (ss_set 2 nd se_int)
  (sss_cons (ss_set 3 nd se_int)
  (sss_cons (ss_set 4 nd se_int)
  (sss_cons (ss_frz 0 (ss_for PassesOwn.never rfl (si_var 0) (sg_name 5 nd) (sss_cons (ss_set 6 nd (se_op od_addI (se_var 3) (se_op od_mul (se_op od_sub (se_ix (se_var 5) se_int) (se_var 2)) (se_var 4))))
  (sss_cons (ss_if (st_cmp od_lt (se_var 1) (se_var 6)) (sss_one ss_break) sss_nil)
  (sss_cons (ss_set 2 nd (se_ix (se_var 5) se_int))
  (sss_cons (ss_set 3 nd (se_var 6))
  (sss_one (ss_set 4 nd (se_call G_told_length (hr.mono (by decide)) m_told_length k_told_length b_told_length (sa_cons (se_var 5) sa_nil))))))))))
  (sss_one (ss_ret (se_tup (sa_cons (se_op od_addI (se_var 2) (se_op od_div (se_op od_sub (se_var 1) (se_var 3)) (se_var 4))) (sa_cons (se_op od_mod (se_op od_sub (se_var 1) (se_var 3)) (se_var 4)) sa_nil)))))))))
theorem sc__law_step : FnScope ["_law_cell_here", "_law_bar", "_law_wide", "_law_units", "_law_least", "_law_most", "_law_unit", "_law_low", "_law_high"] ["_law_cell_here", "_law_bar", "_law_wide"] (defScope s__law_step) := ⟨rfl, rfl, rfl, by decide +kernel, rfl, by decide +kernel, by decide +kernel⟩
theorem ok__law_step {f : Addr} {fd : FuncData} (F : Fun K "_law_step" "_law_step" s__law_step f fd)
    {f__law_mix : Addr} {fd__law_mix : FuncData} (G__law_mix : FnOk P w K mg base CX0 1 f__law_mix fd__law_mix ["_law_cell_here", "_law_prime", "_law_many"] (spD ⟨P, w, K⟩ D__law_mix 3)) (m__law_mix : mg "_law_mix" = some (.ref f__law_mix)) (k__law_mix : PySem.W.keepIn K (.ref f__law_mix) = true) (b__law_mix : Binds K fd__law_mix ["_law_cell_here", "_law_prime", "_law_many"] [])
    (b_len : mg "len" = none)
    (b_min : mg "min" = none) :
    FnOk P w K mg base CX0 2 f fd ["_law_cell_here", "_law_bar", "_law_wide"] (spD ⟨P, w, K⟩ D__law_step 3) := by
  refine fnD (N := ["_law_cell_here", "_law_bar", "_law_wide", "_law_units", "_law_least", "_law_most", "_law_unit", "_law_low", "_law_high"]) F sc__law_step (fun cdv A outer s H F0 hr => ?_)
  have nd := sc__law_step.nd
  have hu := hu10 hr
  exact (sss_cons (ss_set 3 nd (se_lst (sa_cons se_int (sa_cons se_int (sa_cons se_int (sa_cons se_int (sa_cons se_int (sa_cons se_int (sa_cons se_int sa_nil)))))))))
  (sss_cons (ss_set 4 nd se_int)
  (sss_cons (ss_set 5 nd se_int)
  (sss_cons (ss_if (st_val (se_var 2)) (sss_cons (ss_set 3 nd (se_lst (sa_cons se_int (sa_cons se_int (sa_cons se_int (sa_cons se_int (sa_cons se_int sa_nil)))))))
  (sss_cons (ss_set 4 nd se_int)
  (sss_one (ss_set 5 nd se_int)))) sss_nil)
  (sss_cons (ss_set 6 nd (se_ix (se_var 3) (se_call G__law_mix (hr.mono (by decide)) m__law_mix k__law_mix b__law_mix (sa_cons (se_var 0) (sa_cons se_int (sa_cons (se_callB cd_len b_len PySem.boot_len (sa_cons (se_var 3) sa_nil)) sa_nil))))))
  (sss_cons (ss_set 7 nd (se_op od_div (se_op od_sub (se_op od_addI (se_var 4) (se_var 6)) se_int) (se_var 6)))
  (sss_cons (ss_set 8 nd (se_callB (cd_min2 rfl) b_min PyProof.Rows.boot_min (sa_cons se_int (sa_cons (se_op od_div (se_var 5) (se_var 6)) sa_nil))))
  (sss_one (ss_ret (se_tup (sa_cons (se_var 1) (sa_cons (se_op od_addI (se_var 7) (se_call G__law_mix (hr.mono (by decide)) m__law_mix k__law_mix b__law_mix (sa_cons (se_var 0) (sa_cons se_int (sa_cons (se_op od_addI (se_op od_sub (se_var 8) (se_var 7)) se_int) sa_nil))))) (sa_cons (se_var 6) sa_nil)))))))))))))
theorem sc__law_ahead : FnScope ["_law_meter_here", "_law_bar"] ["_law_meter_here", "_law_bar"] (defScope s__law_ahead) := ⟨rfl, rfl, rfl, by decide +kernel, rfl, by decide +kernel, by decide +kernel⟩
theorem ok__law_ahead {f : Addr} {fd : FuncData} (F : Fun K "_law_ahead" "_law_ahead" s__law_ahead f fd)
    {f__law_length : Addr} {fd__law_length : FuncData} (G__law_length : FnOk P w K mg base CX0 1 f__law_length fd__law_length ["_law_meter_here", "_law_bar"] (spD ⟨P, w, K⟩ D__law_length 2)) (m__law_length : mg "_law_length" = some (.ref f__law_length)) (k__law_length : PySem.W.keepIn K (.ref f__law_length) = true) (b__law_length : Binds K fd__law_length ["_law_meter_here", "_law_bar"] [])
    (b_range : mg "range" = none)
    (b_sum : mg "sum" = none) :
    FnOk P w K mg base CX0 2 f fd ["_law_meter_here", "_law_bar"] (spD ⟨P, w, K⟩ D__law_ahead 2) := by
  refine fnD (N := ["_law_meter_here", "_law_bar"]) F sc__law_ahead (fun cdv A outer s H F0 hr => ?_)
  have nd := sc__law_ahead.nd
  have hu := hu10 hr
  have nd1 : (["_law_meter_here", "_law_bar", "_law_k"] : List Str).Nodup := by decide +kernel
  exact (sss_one (ss_ret (se_callB (cd_sum rfl) b_sum PyProof.Rows.boot_sum (sa_cons (se_comp (n := 1) ["_law_meter_here", "_law_bar", "_law_k"] (SI.c (si_range1 (se_var 1) b_range)) (no_gV 2) (fun _ _ _ _ _ => (sg_name 2 nd1)) (fun _ _ _ _ _ => .nil) (fun _ _ _ _ _ => (se_call G__law_length (hr.mono (by decide)) m__law_length k__law_length b__law_length (sa_cons (se_var 0) (sa_cons (se_var 2) sa_nil))))) sa_nil))))
theorem sc_bars_needed : FnScope ["meter", "end", "last"] ["meter", "end"] (defScope s_bars_needed) := ⟨rfl, rfl, rfl, by decide +kernel, rfl, by decide +kernel, by decide +kernel⟩
theorem ok_bars_needed {f : Addr} {fd : FuncData} (F : Fun K "bars_needed" "bars_needed" s_bars_needed f fd)
    {f_stands : Addr} {fd_stands : FuncData} (G_stands : FnOk P w K mg base CX0 2 f_stands fd_stands ["meter", "tick"] (spD ⟨P, w, K⟩ D_stands 2)) (m_stands : mg "stands" = some (.ref f_stands)) (k_stands : PySem.W.keepIn K (.ref f_stands) = true) (b_stands : Binds K fd_stands ["meter", "tick"] [])
    (b_max : mg "max" = none) :
    FnOk P w K mg base CX0 3 f fd ["meter", "end"] (spD ⟨P, w, K⟩ D_bars_needed 2) := by
  refine fnD (N := ["meter", "end", "last"]) F sc_bars_needed (fun cdv A outer s H F0 hr => ?_)
  have nd := sc_bars_needed.nd
  have hu := hu10 hr
  exact (sss_cons (ss_set 2 nd (se_callB (cd_max2 rfl) b_max PyProof.Rows.boot_max (sa_cons (se_op od_sub (se_var 1) se_int) (sa_cons se_int sa_nil))))
  (sss_one (ss_ret (se_op od_addI (se_ix (se_call G_stands (hr.mono (by decide)) m_stands k_stands b_stands (sa_cons (se_var 0) (sa_cons (se_var 2) sa_nil))) se_int) se_int))))
theorem sc__law_meter : FnScope ["_law_script", "_law_wide", "_law_found", "_law_bar", "_law_k", "_law_cell_here"] ["_law_script", "_law_wide"] (defScope s__law_meter) := ⟨rfl, rfl, rfl, by decide +kernel, rfl, by decide +kernel, by decide +kernel⟩
theorem ok__law_meter {f : Addr} {fd : FuncData} (F : Fun K "_law_meter" "_law_meter" s__law_meter f fd)
    {f__law_cell : Addr} {fd__law_cell : FuncData} (G__law_cell : FnOk P w K mg base CX0 1 f__law_cell fd__law_cell ["_law_script", "_law_k"] (spD ⟨P, w, K⟩ D__law_cell 2)) (m__law_cell : mg "_law_cell" = some (.ref f__law_cell)) (k__law_cell : PySem.W.keepIn K (.ref f__law_cell) = true) (b__law_cell : Binds K fd__law_cell ["_law_script", "_law_k"] [])
    {f__law_step : Addr} {fd__law_step : FuncData} (G__law_step : FnOk P w K mg base CX0 2 f__law_step fd__law_step ["_law_cell_here", "_law_bar", "_law_wide"] (spD ⟨P, w, K⟩ D__law_step 3)) (m__law_step : mg "_law_step" = some (.ref f__law_step)) (k__law_step : PySem.W.keepIn K (.ref f__law_step) = true) (b__law_step : Binds K fd__law_step ["_law_cell_here", "_law_bar", "_law_wide"] [])
    {f__law_mix : Addr} {fd__law_mix : FuncData} (G__law_mix : FnOk P w K mg base CX0 1 f__law_mix fd__law_mix ["_law_cell_here", "_law_prime", "_law_many"] (spD ⟨P, w, K⟩ D__law_mix 3)) (m__law_mix : mg "_law_mix" = some (.ref f__law_mix)) (k__law_mix : PySem.W.keepIn K (.ref f__law_mix) = true) (b__law_mix : Binds K fd__law_mix ["_law_cell_here", "_law_prime", "_law_many"] [])
    (b_range : mg "range" = none) :
    FnOk P w K mg base CX0 3 f fd ["_law_script", "_law_wide"] (spD ⟨P, w, K⟩ D__law_meter 2) := by
  refine fnD (N := ["_law_script", "_law_wide", "_law_found", "_law_bar", "_law_k", "_law_cell_here"]) F sc__law_meter (fun cdv A outer s H F0 hr => ?_)
  have nd := sc__law_meter.nd
  have hu := hu10 hr
  exact (sss_cons (ss_set 2 nd (se_lst sa_nil))
  (sss_cons (ss_set 3 nd se_int)
  (sss_cons (ss_for PassesOwn.never rfl (si_range1 (se_op od_addI se_int (se_op od_mod (se_call G__law_cell (hr.mono (by decide)) m__law_cell k__law_cell b__law_cell (sa_cons (se_var 0) (sa_cons se_int sa_nil))) se_int)) b_range) (sg_name 4 nd) (sss_cons (ss_set 5 nd (se_op od_addI (se_call G__law_cell (hr.mono (by decide)) m__law_cell k__law_cell b__law_cell (sa_cons (se_var 0) (sa_cons se_int sa_nil))) (se_op od_mul se_int (se_call G__law_cell (hr.mono (by decide)) m__law_cell k__law_cell b__law_cell (sa_cons (se_var 0) (sa_cons (se_op od_addI se_int (se_var 4)) sa_nil))))))
  (sss_cons (ss_app 2 (se_call G__law_step (hr.mono (by decide)) m__law_step k__law_step b__law_step (sa_cons (se_var 5) (sa_cons (se_var 3) (sa_cons (se_var 1) sa_nil)))))
  (sss_one (ss_set 3 nd (se_op od_addI (se_op od_addI (se_var 3) se_int) (se_call G__law_mix (hr.mono (by decide)) m__law_mix k__law_mix b__law_mix (sa_cons (se_var 5) (sa_cons se_int (sa_cons se_int sa_nil))))))))))
  (sss_one (ss_retV 2)))))
theorem sc__law_tick : FnScope ["_law_script", "_law_meter_here", "_law_tick_here"] ["_law_script", "_law_meter_here"] (defScope s__law_tick) := ⟨rfl, rfl, rfl, by decide +kernel, rfl, by decide +kernel, by decide +kernel⟩
theorem ok__law_tick {f : Addr} {fd : FuncData} (F : Fun K "_law_tick" "_law_tick" s__law_tick f fd)
    {f__law_cell : Addr} {fd__law_cell : FuncData} (G__law_cell : FnOk P w K mg base CX0 1 f__law_cell fd__law_cell ["_law_script", "_law_k"] (spD ⟨P, w, K⟩ D__law_cell 2)) (m__law_cell : mg "_law_cell" = some (.ref f__law_cell)) (k__law_cell : PySem.W.keepIn K (.ref f__law_cell) = true) (b__law_cell : Binds K fd__law_cell ["_law_script", "_law_k"] [])
    {f__law_ahead : Addr} {fd__law_ahead : FuncData} (G__law_ahead : FnOk P w K mg base CX0 2 f__law_ahead fd__law_ahead ["_law_meter_here", "_law_bar"] (spD ⟨P, w, K⟩ D__law_ahead 2)) (m__law_ahead : mg "_law_ahead" = some (.ref f__law_ahead)) (k__law_ahead : PySem.W.keepIn K (.ref f__law_ahead) = true) (b__law_ahead : Binds K fd__law_ahead ["_law_meter_here", "_law_bar"] [])
    (b_max : mg "max" = none) :
    FnOk P w K mg base CX0 3 f fd ["_law_script", "_law_meter_here"] (spD ⟨P, w, K⟩ D__law_tick 2) := by
  refine fnD (N := ["_law_script", "_law_meter_here", "_law_tick_here"]) F sc__law_tick (fun cdv A outer s H F0 hr => ?_)
  have nd := sc__law_tick.nd
  have hu := hu10 hr
  exact (sss_cons (ss_if (st_cmp (od_eq hu) (se_op od_mod (se_op od_div (se_call G__law_cell (hr.mono (by decide)) m__law_cell k__law_cell b__law_cell (sa_cons (se_var 0) (sa_cons se_int sa_nil))) se_int) se_int) se_int) (sss_one (ss_ret (se_op od_mod (se_call G__law_cell (hr.mono (by decide)) m__law_cell k__law_cell b__law_cell (sa_cons (se_var 0) (sa_cons se_int sa_nil))) se_int))) sss_nil)
  (sss_cons (ss_set 2 nd (se_op od_sub (se_call G__law_ahead (hr.mono (by decide)) m__law_ahead k__law_ahead b__law_ahead (sa_cons (se_var 1) (sa_cons (se_op od_mod (se_call G__law_cell (hr.mono (by decide)) m__law_cell k__law_cell b__law_cell (sa_cons (se_var 0) (sa_cons se_int sa_nil))) se_int) sa_nil))) (se_op od_mod (se_call G__law_cell (hr.mono (by decide)) m__law_cell k__law_cell b__law_cell (sa_cons (se_var 0) (sa_cons se_int sa_nil))) se_int)))
  (sss_one (ss_ret (se_callB (cd_max2 rfl) b_max PyProof.Rows.boot_max (sa_cons se_int (sa_cons (se_var 2) sa_nil)))))))
theorem sc_law : FnScope ["_law_script", "_law_meter_here", "_law_tick_here", "_law_found", "_law_bar", "_law_place", "_law_due", "_law_many"] ["_law_script"] (defScope s_law) := ⟨rfl, rfl, rfl, by decide +kernel, rfl, by decide +kernel, by decide +kernel⟩
theorem ok_law {f : Addr} {fd : FuncData} (F : Fun K "law" "law" s_law f fd)
    {f__law_cell : Addr} {fd__law_cell : FuncData} (G__law_cell : FnOk P w K mg base CX0 1 f__law_cell fd__law_cell ["_law_script", "_law_k"] (spD ⟨P, w, K⟩ D__law_cell 2)) (m__law_cell : mg "_law_cell" = some (.ref f__law_cell)) (k__law_cell : PySem.W.keepIn K (.ref f__law_cell) = true) (b__law_cell : Binds K fd__law_cell ["_law_script", "_law_k"] [])
    {f__law_meter : Addr} {fd__law_meter : FuncData} (G__law_meter : FnOk P w K mg base CX0 3 f__law_meter fd__law_meter ["_law_script", "_law_wide"] (spD ⟨P, w, K⟩ D__law_meter 2)) (m__law_meter : mg "_law_meter" = some (.ref f__law_meter)) (k__law_meter : PySem.W.keepIn K (.ref f__law_meter) = true) (b__law_meter : Binds K fd__law_meter ["_law_script", "_law_wide"] [])
    {f__law_tick : Addr} {fd__law_tick : FuncData} (G__law_tick : FnOk P w K mg base CX0 3 f__law_tick fd__law_tick ["_law_script", "_law_meter_here"] (spD ⟨P, w, K⟩ D__law_tick 2)) (m__law_tick : mg "_law_tick" = some (.ref f__law_tick)) (k__law_tick : PySem.W.keepIn K (.ref f__law_tick) = true) (b__law_tick : Binds K fd__law_tick ["_law_script", "_law_meter_here"] [])
    {f_stands : Addr} {fd_stands : FuncData} (G_stands : FnOk P w K mg base CX0 2 f_stands fd_stands ["meter", "tick"] (spD ⟨P, w, K⟩ D_stands 2)) (m_stands : mg "stands" = some (.ref f_stands)) (k_stands : PySem.W.keepIn K (.ref f_stands) = true) (b_stands : Binds K fd_stands ["meter", "tick"] [])
    {f__law_whole : Addr} {fd__law_whole : FuncData} (G__law_whole : FnOk P w K mg base CX0 1 f__law_whole fd__law_whole ["_law_found"] (spD ⟨P, w, K⟩ D__law_whole 1)) (m__law_whole : mg "_law_whole" = some (.ref f__law_whole)) (k__law_whole : PySem.W.keepIn K (.ref f__law_whole) = true) (b__law_whole : Binds K fd__law_whole ["_law_found"] [])
    {f__law_length : Addr} {fd__law_length : FuncData} (G__law_length : FnOk P w K mg base CX0 1 f__law_length fd__law_length ["_law_meter_here", "_law_bar"] (spD ⟨P, w, K⟩ D__law_length 2)) (m__law_length : mg "_law_length" = some (.ref f__law_length)) (k__law_length : PySem.W.keepIn K (.ref f__law_length) = true) (b__law_length : Binds K fd__law_length ["_law_meter_here", "_law_bar"] [])
    {f__law_ahead : Addr} {fd__law_ahead : FuncData} (G__law_ahead : FnOk P w K mg base CX0 2 f__law_ahead fd__law_ahead ["_law_meter_here", "_law_bar"] (spD ⟨P, w, K⟩ D__law_ahead 2)) (m__law_ahead : mg "_law_ahead" = some (.ref f__law_ahead)) (k__law_ahead : PySem.W.keepIn K (.ref f__law_ahead) = true) (b__law_ahead : Binds K fd__law_ahead ["_law_meter_here", "_law_bar"] [])
    {f_bars_needed : Addr} {fd_bars_needed : FuncData} (G_bars_needed : FnOk P w K mg base CX0 3 f_bars_needed fd_bars_needed ["meter", "end"] (spD ⟨P, w, K⟩ D_bars_needed 2)) (m_bars_needed : mg "bars_needed" = some (.ref f_bars_needed)) (k_bars_needed : PySem.W.keepIn K (.ref f_bars_needed) = true) (b_bars_needed : Binds K fd_bars_needed ["meter", "end"] [])
    (b_list : mg "list" = none)
    (b_isinstance : mg "isinstance" = none)
    (b_tuple : mg "tuple" = none)
    (b_len : mg "len" = none) :
    FnOk P w K mg base CX0 4 f fd ["_law_script"] (spD ⟨P, w, K⟩ D_law 1) := by
  refine fnD (N := ["_law_script", "_law_meter_here", "_law_tick_here", "_law_found", "_law_bar", "_law_place", "_law_due", "_law_many"]) F sc_law (fun cdv A outer s H F0 hr => ?_)
  have nd := sc_law.nd
  have hu := hu10 hr
  exact (sss_cons (ss_set 1 nd (se_call G__law_meter (hr.mono (by decide)) m__law_meter k__law_meter b__law_meter (sa_cons (se_var 0) (sa_cons (se_cmp (od_eq hu) (se_op od_mod (se_call G__law_cell (hr.mono (by decide)) m__law_cell k__law_cell b__law_cell (sa_cons (se_var 0) (sa_cons se_int sa_nil))) se_int) se_int) sa_nil))))
  (sss_cons (ss_set 2 nd (se_call G__law_tick (hr.mono (by decide)) m__law_tick k__law_tick b__law_tick (sa_cons (se_var 0) (sa_cons (se_var 1) sa_nil))))
  (sss_cons (ss_set 3 nd (se_call G_stands (hr.mono (by decide)) m_stands k_stands b_stands (sa_cons (se_callTy cd_list b_list PyProof.Rows.boot_list (sa_cons (se_var 1) sa_nil)) (sa_cons (se_var 2) sa_nil))))
  (sss_cons (ss_if (st_w (sw_or (st_not (st_val (se_isi .tuple (se_var 3) b_isinstance b_tuple))) (sw_or (st_cmp (od_ne hu) (se_callB cd_len b_len PySem.boot_len (sa_cons (se_var 3) sa_nil)) se_int) (sw_or (st_not (st_val (se_call G__law_whole (hr.mono (by decide)) m__law_whole k__law_whole b__law_whole (sa_cons (se_ix (se_var 3) se_int) sa_nil)))) (sw_or1 (st_not (st_val (se_call G__law_whole (hr.mono (by decide)) m__law_whole k__law_whole b__law_whole (sa_cons (se_ix (se_var 3) se_int) sa_nil))))))))) (sss_one (ss_ret se_bl)) sss_nil)
  (sss_cons (ss_asg (se_var 3) (sg_tup rfl (sgs_cons 4 nd (sgs_cons 5 nd sgs_nil))))
  (sss_cons (ss_if (st_w (sw_or (st_cmp od_lt (se_var 4) se_int) (sw_or (st_cmp od_gt (se_var 4) se_int) (sw_or (st_cmp od_lt (se_var 5) se_int) (sw_or1 (st_cmp od_ge (se_var 5) (se_call G__law_length (hr.mono (by decide)) m__law_length k__law_length b__law_length (sa_cons (se_var 1) (sa_cons (se_var 4) sa_nil))))))))) (sss_one (ss_ret se_bl)) sss_nil)
  (sss_cons (ss_if (st_cmp (od_ne hu) (se_op od_addI (se_call G__law_ahead (hr.mono (by decide)) m__law_ahead k__law_ahead b__law_ahead (sa_cons (se_var 1) (sa_cons (se_var 4) sa_nil))) (se_var 5)) (se_var 2)) (sss_one (ss_ret se_bl)) sss_nil)
  (sss_cons (ss_set 6 nd (se_var 4))
  (sss_cons (ss_if (st_w (sw_or (st_cmp od_gt (se_var 5) se_int) (sw_or1 (st_cmp (od_eq hu) (se_var 2) se_int)))) (sss_one (ss_set 6 nd (se_op od_addI (se_var 4) se_int))) sss_nil)
  (sss_cons (ss_set 7 nd (se_call G_bars_needed (hr.mono (by decide)) m_bars_needed k_bars_needed b_bars_needed (sa_cons (se_callTy cd_list b_list PyProof.Rows.boot_list (sa_cons (se_var 1) sa_nil)) (sa_cons (se_var 2) sa_nil))))
  (sss_one (ss_ret (se_and (se_call G__law_whole (hr.mono (by decide)) m__law_whole k__law_whole b__law_whole (sa_cons (se_var 7) sa_nil)) (se_one (se_cmp (od_eq hu) (se_var 7) (se_var 6))))))))))))))))
end
theorem all_mk {l : PySem.W.OpenLaw} {w : World} {K : PySem.W.Frag} {h : Heap} {mg : Str → Option Value} {fa : Addr} (X : K.In h) (G : h.Ns mainGlobals mg) (hfa : mg "law" = some (.ref fa))
    {f_told_length : Addr} {od_told_length an_told_length : Option Addr} {sl_told_length : Array (Option Value)} {oc_told_length kV_told_length dc_told_length pm_told_length cd_told_length ct_told_length : Value}
    {f__law_cell : Addr} {od__law_cell an__law_cell : Option Addr} {sl__law_cell : Array (Option Value)} {oc__law_cell kV__law_cell dc__law_cell pm__law_cell cd__law_cell ct__law_cell : Value}
    {f__law_mix : Addr} {od__law_mix an__law_mix : Option Addr} {sl__law_mix : Array (Option Value)} {oc__law_mix kV__law_mix dc__law_mix pm__law_mix cd__law_mix ct__law_mix : Value}
    {f__law_whole : Addr} {od__law_whole an__law_whole : Option Addr} {sl__law_whole : Array (Option Value)} {oc__law_whole kV__law_whole dc__law_whole pm__law_whole cd__law_whole ct__law_whole : Value}
    {f__law_length : Addr} {od__law_length an__law_length : Option Addr} {sl__law_length : Array (Option Value)} {oc__law_length kV__law_length dc__law_length pm__law_length cd__law_length ct__law_length : Value}
    {f_stands : Addr} {od_stands an_stands : Option Addr} {sl_stands : Array (Option Value)} {oc_stands kV_stands dc_stands pm_stands cd_stands ct_stands : Value}
    {f__law_step : Addr} {od__law_step an__law_step : Option Addr} {sl__law_step : Array (Option Value)} {oc__law_step kV__law_step dc__law_step pm__law_step cd__law_step ct__law_step : Value}
    {f__law_ahead : Addr} {od__law_ahead an__law_ahead : Option Addr} {sl__law_ahead : Array (Option Value)} {oc__law_ahead kV__law_ahead dc__law_ahead pm__law_ahead cd__law_ahead ct__law_ahead : Value}
    {f_bars_needed : Addr} {od_bars_needed an_bars_needed : Option Addr} {sl_bars_needed : Array (Option Value)} {oc_bars_needed kV_bars_needed dc_bars_needed pm_bars_needed cd_bars_needed ct_bars_needed : Value}
    {f__law_meter : Addr} {od__law_meter an__law_meter : Option Addr} {sl__law_meter : Array (Option Value)} {oc__law_meter kV__law_meter dc__law_meter pm__law_meter cd__law_meter ct__law_meter : Value}
    {f__law_tick : Addr} {od__law_tick an__law_tick : Option Addr} {sl__law_tick : Array (Option Value)} {oc__law_tick kV__law_tick dc__law_tick pm__law_tick cd__law_tick ct__law_tick : Value}
    {f_law : Addr} {od_law an_law : Option Addr} {sl_law : Array (Option Value)} {oc_law kV_law dc_law pm_law cd_law ct_law : Value}
    (a_told_length : PySem.W.nsIn K mainGlobals "told_length" = some (some (.ref f_told_length))) (l_told_length : K.lookup f_told_length = some ⟨oc_told_length, od_told_length, .func (PySem.W.fnOf "told_length" "told_length" (defArgs s_told_length) (defBody s_told_length) (defScope s_told_length) .none kV_told_length dc_told_length pm_told_length an_told_length cd_told_length ct_told_length), sl_told_length⟩) (c_told_length' : PySem.W.codeIn K cd_told_length "told_length" = true) (k_told_length : PySem.W.keepIn K (.ref f_told_length) = true)
    (a__law_cell : PySem.W.nsIn K mainGlobals "_law_cell" = some (some (.ref f__law_cell))) (l__law_cell : K.lookup f__law_cell = some ⟨oc__law_cell, od__law_cell, .func (PySem.W.fnOf "_law_cell" "_law_cell" (defArgs s__law_cell) (defBody s__law_cell) (defScope s__law_cell) .none kV__law_cell dc__law_cell pm__law_cell an__law_cell cd__law_cell ct__law_cell), sl__law_cell⟩) (c__law_cell' : PySem.W.codeIn K cd__law_cell "_law_cell" = true) (k__law_cell : PySem.W.keepIn K (.ref f__law_cell) = true)
    (a__law_mix : PySem.W.nsIn K mainGlobals "_law_mix" = some (some (.ref f__law_mix))) (l__law_mix : K.lookup f__law_mix = some ⟨oc__law_mix, od__law_mix, .func (PySem.W.fnOf "_law_mix" "_law_mix" (defArgs s__law_mix) (defBody s__law_mix) (defScope s__law_mix) .none kV__law_mix dc__law_mix pm__law_mix an__law_mix cd__law_mix ct__law_mix), sl__law_mix⟩) (c__law_mix' : PySem.W.codeIn K cd__law_mix "_law_mix" = true) (k__law_mix : PySem.W.keepIn K (.ref f__law_mix) = true)
    (a__law_whole : PySem.W.nsIn K mainGlobals "_law_whole" = some (some (.ref f__law_whole))) (l__law_whole : K.lookup f__law_whole = some ⟨oc__law_whole, od__law_whole, .func (PySem.W.fnOf "_law_whole" "_law_whole" (defArgs s__law_whole) (defBody s__law_whole) (defScope s__law_whole) .none kV__law_whole dc__law_whole pm__law_whole an__law_whole cd__law_whole ct__law_whole), sl__law_whole⟩) (c__law_whole' : PySem.W.codeIn K cd__law_whole "_law_whole" = true) (k__law_whole : PySem.W.keepIn K (.ref f__law_whole) = true)
    (a__law_length : PySem.W.nsIn K mainGlobals "_law_length" = some (some (.ref f__law_length))) (l__law_length : K.lookup f__law_length = some ⟨oc__law_length, od__law_length, .func (PySem.W.fnOf "_law_length" "_law_length" (defArgs s__law_length) (defBody s__law_length) (defScope s__law_length) .none kV__law_length dc__law_length pm__law_length an__law_length cd__law_length ct__law_length), sl__law_length⟩) (c__law_length' : PySem.W.codeIn K cd__law_length "_law_length" = true) (k__law_length : PySem.W.keepIn K (.ref f__law_length) = true)
    (a_stands : PySem.W.nsIn K mainGlobals "stands" = some (some (.ref f_stands))) (l_stands : K.lookup f_stands = some ⟨oc_stands, od_stands, .func (PySem.W.fnOf "stands" "stands" (defArgs s_stands) (defBody s_stands) (defScope s_stands) .none kV_stands dc_stands pm_stands an_stands cd_stands ct_stands), sl_stands⟩) (c_stands' : PySem.W.codeIn K cd_stands "stands" = true) (k_stands : PySem.W.keepIn K (.ref f_stands) = true)
    (a__law_step : PySem.W.nsIn K mainGlobals "_law_step" = some (some (.ref f__law_step))) (l__law_step : K.lookup f__law_step = some ⟨oc__law_step, od__law_step, .func (PySem.W.fnOf "_law_step" "_law_step" (defArgs s__law_step) (defBody s__law_step) (defScope s__law_step) .none kV__law_step dc__law_step pm__law_step an__law_step cd__law_step ct__law_step), sl__law_step⟩) (c__law_step' : PySem.W.codeIn K cd__law_step "_law_step" = true) (k__law_step : PySem.W.keepIn K (.ref f__law_step) = true)
    (a__law_ahead : PySem.W.nsIn K mainGlobals "_law_ahead" = some (some (.ref f__law_ahead))) (l__law_ahead : K.lookup f__law_ahead = some ⟨oc__law_ahead, od__law_ahead, .func (PySem.W.fnOf "_law_ahead" "_law_ahead" (defArgs s__law_ahead) (defBody s__law_ahead) (defScope s__law_ahead) .none kV__law_ahead dc__law_ahead pm__law_ahead an__law_ahead cd__law_ahead ct__law_ahead), sl__law_ahead⟩) (c__law_ahead' : PySem.W.codeIn K cd__law_ahead "_law_ahead" = true) (k__law_ahead : PySem.W.keepIn K (.ref f__law_ahead) = true)
    (a_bars_needed : PySem.W.nsIn K mainGlobals "bars_needed" = some (some (.ref f_bars_needed))) (l_bars_needed : K.lookup f_bars_needed = some ⟨oc_bars_needed, od_bars_needed, .func (PySem.W.fnOf "bars_needed" "bars_needed" (defArgs s_bars_needed) (defBody s_bars_needed) (defScope s_bars_needed) .none kV_bars_needed dc_bars_needed pm_bars_needed an_bars_needed cd_bars_needed ct_bars_needed), sl_bars_needed⟩) (c_bars_needed' : PySem.W.codeIn K cd_bars_needed "bars_needed" = true) (k_bars_needed : PySem.W.keepIn K (.ref f_bars_needed) = true)
    (a__law_meter : PySem.W.nsIn K mainGlobals "_law_meter" = some (some (.ref f__law_meter))) (l__law_meter : K.lookup f__law_meter = some ⟨oc__law_meter, od__law_meter, .func (PySem.W.fnOf "_law_meter" "_law_meter" (defArgs s__law_meter) (defBody s__law_meter) (defScope s__law_meter) .none kV__law_meter dc__law_meter pm__law_meter an__law_meter cd__law_meter ct__law_meter), sl__law_meter⟩) (c__law_meter' : PySem.W.codeIn K cd__law_meter "_law_meter" = true) (k__law_meter : PySem.W.keepIn K (.ref f__law_meter) = true)
    (a__law_tick : PySem.W.nsIn K mainGlobals "_law_tick" = some (some (.ref f__law_tick))) (l__law_tick : K.lookup f__law_tick = some ⟨oc__law_tick, od__law_tick, .func (PySem.W.fnOf "_law_tick" "_law_tick" (defArgs s__law_tick) (defBody s__law_tick) (defScope s__law_tick) .none kV__law_tick dc__law_tick pm__law_tick an__law_tick cd__law_tick ct__law_tick), sl__law_tick⟩) (c__law_tick' : PySem.W.codeIn K cd__law_tick "_law_tick" = true) (k__law_tick : PySem.W.keepIn K (.ref f__law_tick) = true)
    (a_law : PySem.W.nsIn K mainGlobals "law" = some (some (.ref f_law))) (l_law : K.lookup f_law = some ⟨oc_law, od_law, .func (PySem.W.fnOf "law" "law" (defArgs s_law) (defBody s_law) (defScope s_law) .none kV_law dc_law pm_law an_law cd_law ct_law), sl_law⟩) (c_law' : PySem.W.codeIn K cd_law "law" = true) (k_law : PySem.W.keepIn K (.ref f_law) = true)
    (z_len : PySem.W.nsIn K mainGlobals "len" = some none)
    (z_isinstance : PySem.W.nsIn K mainGlobals "isinstance" = some none)
    (z_int : PySem.W.nsIn K mainGlobals "int" = some none)
    (z_bool : PySem.W.nsIn K mainGlobals "bool" = some none)
    (z_min : PySem.W.nsIn K mainGlobals "min" = some none)
    (z_range : PySem.W.nsIn K mainGlobals "range" = some none)
    (z_sum : PySem.W.nsIn K mainGlobals "sum" = some none)
    (z_max : PySem.W.nsIn K mainGlobals "max" = some none)
    (z_list : PySem.W.nsIn K mainGlobals "list" = some none)
    (z_tuple : PySem.W.nsIn K mainGlobals "tuple" = some none) :
    ∃ fd : FuncData, (∀ (s : Shared) (v : Value), BindsTo s fd ⟨[v], []⟩ [("_law_script", v)]) ∧ ∀ base : Heap, K.In base → base.Ns mainGlobals mg → FnOk l.prog w K mg base CX0 4 fa fd ["_law_script"] (spD ⟨l.prog, w, K⟩ D_law 1) := by
  have e := hfa.symm.trans (PySem.W.mg_of X G a_law)
  cases e
  have F_told_length := fun_mk (st := s_told_length) l_told_length c_told_length' k_told_length
  have b_told_length := F_told_length.binds (ps := ["told"]) fun _ _ _ _ _ _ us hl => match us, hl with | [_], _ => rfl
  have m_told_length := PySem.W.mg_of X G a_told_length
  have F__law_cell := fun_mk (st := s__law_cell) l__law_cell c__law_cell' k__law_cell
  have b__law_cell := F__law_cell.binds (ps := ["_law_script", "_law_k"]) fun _ _ _ _ _ _ us hl => match us, hl with | [_, _], _ => rfl
  have m__law_cell := PySem.W.mg_of X G a__law_cell
  have F__law_mix := fun_mk (st := s__law_mix) l__law_mix c__law_mix' k__law_mix
  have b__law_mix := F__law_mix.binds (ps := ["_law_cell_here", "_law_prime", "_law_many"]) fun _ _ _ _ _ _ us hl => match us, hl with | [_, _, _], _ => rfl
  have m__law_mix := PySem.W.mg_of X G a__law_mix
  have F__law_whole := fun_mk (st := s__law_whole) l__law_whole c__law_whole' k__law_whole
  have b__law_whole := F__law_whole.binds (ps := ["_law_found"]) fun _ _ _ _ _ _ us hl => match us, hl with | [_], _ => rfl
  have m__law_whole := PySem.W.mg_of X G a__law_whole
  have F__law_length := fun_mk (st := s__law_length) l__law_length c__law_length' k__law_length
  have b__law_length := F__law_length.binds (ps := ["_law_meter_here", "_law_bar"]) fun _ _ _ _ _ _ us hl => match us, hl with | [_, _], _ => rfl
  have m__law_length := PySem.W.mg_of X G a__law_length
  have F_stands := fun_mk (st := s_stands) l_stands c_stands' k_stands
  have b_stands := F_stands.binds (ps := ["meter", "tick"]) fun _ _ _ _ _ _ us hl => match us, hl with | [_, _], _ => rfl
  have m_stands := PySem.W.mg_of X G a_stands
  have F__law_step := fun_mk (st := s__law_step) l__law_step c__law_step' k__law_step
  have b__law_step := F__law_step.binds (ps := ["_law_cell_here", "_law_bar", "_law_wide"]) fun _ _ _ _ _ _ us hl => match us, hl with | [_, _, _], _ => rfl
  have m__law_step := PySem.W.mg_of X G a__law_step
  have F__law_ahead := fun_mk (st := s__law_ahead) l__law_ahead c__law_ahead' k__law_ahead
  have b__law_ahead := F__law_ahead.binds (ps := ["_law_meter_here", "_law_bar"]) fun _ _ _ _ _ _ us hl => match us, hl with | [_, _], _ => rfl
  have m__law_ahead := PySem.W.mg_of X G a__law_ahead
  have F_bars_needed := fun_mk (st := s_bars_needed) l_bars_needed c_bars_needed' k_bars_needed
  have b_bars_needed := F_bars_needed.binds (ps := ["meter", "end"]) fun _ _ _ _ _ _ us hl => match us, hl with | [_, _], _ => rfl
  have m_bars_needed := PySem.W.mg_of X G a_bars_needed
  have F__law_meter := fun_mk (st := s__law_meter) l__law_meter c__law_meter' k__law_meter
  have b__law_meter := F__law_meter.binds (ps := ["_law_script", "_law_wide"]) fun _ _ _ _ _ _ us hl => match us, hl with | [_, _], _ => rfl
  have m__law_meter := PySem.W.mg_of X G a__law_meter
  have F__law_tick := fun_mk (st := s__law_tick) l__law_tick c__law_tick' k__law_tick
  have b__law_tick := F__law_tick.binds (ps := ["_law_script", "_law_meter_here"]) fun _ _ _ _ _ _ us hl => match us, hl with | [_, _], _ => rfl
  have m__law_tick := PySem.W.mg_of X G a__law_tick
  have F_law := fun_mk (st := s_law) l_law c_law' k_law
  have b_len := PySem.W.mg_none_of X G z_len
  have b_isinstance := PySem.W.mg_none_of X G z_isinstance
  have b_int := PySem.W.mg_none_of X G z_int
  have b_bool := PySem.W.mg_none_of X G z_bool
  have b_min := PySem.W.mg_none_of X G z_min
  have b_range := PySem.W.mg_none_of X G z_range
  have b_sum := PySem.W.mg_none_of X G z_sum
  have b_max := PySem.W.mg_none_of X G z_max
  have b_list := PySem.W.mg_none_of X G z_list
  have b_tuple := PySem.W.mg_none_of X G z_tuple
  refine ⟨PySem.W.fnOf "law" "law" (defArgs s_law) (defBody s_law) (defScope s_law) .none kV_law dc_law pm_law an_law cd_law ct_law, fun s v => .of_eq rfl, fun base _ _ => ?_⟩
  have G_told_length := ok_told_length (P := l.prog) (w := w) (mg := mg) (base := base) F_told_length
  have G__law_cell := ok__law_cell (P := l.prog) (w := w) (mg := mg) (base := base) F__law_cell b_len
  have G__law_mix := ok__law_mix (P := l.prog) (w := w) (mg := mg) (base := base) F__law_mix
  have G__law_whole := ok__law_whole (P := l.prog) (w := w) (mg := mg) (base := base) F__law_whole b_isinstance b_int b_bool
  have G__law_length := ok__law_length (P := l.prog) (w := w) (mg := mg) (base := base) F__law_length
  have G_stands := ok_stands (P := l.prog) (w := w) (mg := mg) (base := base) F_stands G_told_length m_told_length k_told_length b_told_length
  have G__law_step := ok__law_step (P := l.prog) (w := w) (mg := mg) (base := base) F__law_step G__law_mix m__law_mix k__law_mix b__law_mix b_len b_min
  have G__law_ahead := ok__law_ahead (P := l.prog) (w := w) (mg := mg) (base := base) F__law_ahead G__law_length m__law_length k__law_length b__law_length b_range b_sum
  have G_bars_needed := ok_bars_needed (P := l.prog) (w := w) (mg := mg) (base := base) F_bars_needed G_stands m_stands k_stands b_stands b_max
  have G__law_meter := ok__law_meter (P := l.prog) (w := w) (mg := mg) (base := base) F__law_meter G__law_cell m__law_cell k__law_cell b__law_cell G__law_step m__law_step k__law_step b__law_step G__law_mix m__law_mix k__law_mix b__law_mix b_range
  have G__law_tick := ok__law_tick (P := l.prog) (w := w) (mg := mg) (base := base) F__law_tick G__law_cell m__law_cell k__law_cell b__law_cell G__law_ahead m__law_ahead k__law_ahead b__law_ahead b_max
  exact ok_law (P := l.prog) (w := w) (mg := mg) (base := base) F_law G__law_cell m__law_cell k__law_cell b__law_cell G__law_meter m__law_meter k__law_meter b__law_meter G__law_tick m__law_tick k__law_tick b__law_tick G_stands m_stands k_stands b_stands G__law_whole m__law_whole k__law_whole b__law_whole G__law_length m__law_length k__law_length b__law_length G__law_ahead m__law_ahead k__law_ahead b__law_ahead G_bars_needed m_bars_needed k_bars_needed b_bars_needed b_list b_isinstance b_tuple b_len
theorem walk {l : PySem.W.OpenLaw} {q : Program} {loose : List Str} {XP : (Str → Option Value) → Heap → Prop} {YP : World → Heap → Prop} {d : DefRec} {K : Params → PySem.W.Frag} (hn : l.most = some 63) (hdf : d.params.defaults = [])
    (hY : ∀ (w : World) (h : Heap), YP w h → (K w.params).In h)
    (F : ∀ (w : World) (mg : Str → Option Value) (fa : Addr) (h : Heap), (K w.params).In h → h.Ns mainGlobals mg → mg d.name = some (.ref fa) →
      ∃ fd : FuncData, (∀ (s : Shared) (u : Value), BindsTo s fd ⟨[u], []⟩ [("_law_script", u)]) ∧ ∀ base : Heap, (K w.params).In base → base.Ns mainGlobals mg → FnOk l.prog w (K w.params) mg base CX0 4 fa fd ["_law_script"] (spD ⟨l.prog, w, K w.params⟩ D_law 1)) :
    PySem.W.WalkO q loose XP YP l.row.toRowW d [] (fun f vs => PySem.call f vs) :=
  L2.walk_of (n := 63) (k := 4) (x := "_law_script") (CX := fun _ => CX0) (sp := fun w => spD ⟨l.prog, w, K w.params⟩ D_law 1) hn (by decide) hdf ⟨rfl, by decide, by decide⟩ hY F (fun w H a ns hl _ hS => law_end D_law ns hS (law_true ns hl)) fun _ _ _ _ _ z => z
end My
open PySem PySem.W PyProof.Rows
set_option maxRecDepth 100000 in
set_option maxHeartbeats 0 in
theorem PySem.Challenge.cw_stavemill_k05_where_ticks_stand_holds : PySem.Challenge.rw_stavemill_k05_where_ticks_stand.Holds := by
  w_on; o_law; k_head; (case hw => w_witness2)
  k_fill
  refine My.walk (l := PySem.Challenge.rw_stavemill_k05_where_ticks_stand) rfl rfl (fun w h Y => PySem.W.kIn_of Y) ?F
  case F =>
    intro w mg fa h KX G hmg
    refine' My.all_mk KX G hmg ?a_told_length ?l_told_length ?c_told_length ?k_told_length ?a__law_cell ?l__law_cell ?c__law_cell ?k__law_cell ?a__law_mix ?l__law_mix ?c__law_mix ?k__law_mix ?a__law_whole ?l__law_whole ?c__law_whole ?k__law_whole ?a__law_length ?l__law_length ?c__law_length ?k__law_length ?a_stands ?l_stands ?c_stands ?k_stands ?a__law_step ?l__law_step ?c__law_step ?k__law_step ?a__law_ahead ?l__law_ahead ?c__law_ahead ?k__law_ahead ?a_bars_needed ?l_bars_needed ?c_bars_needed ?k_bars_needed ?a__law_meter ?l__law_meter ?c__law_meter ?k__law_meter ?a__law_tick ?l__law_tick ?c__law_tick ?k__law_tick ?a_law ?l_law ?c_law ?k_law ?z_len ?z_isinstance ?z_int ?z_bool ?z_min ?z_range ?z_sum ?z_max ?z_list ?z_tuple
    (case a_told_length => k_is)
    (case l_told_length => k_is)
    (case c_told_length => k_is)
    (case k_told_length => k_is)
    (case a__law_cell => k_is)
    (case l__law_cell => k_is)
    (case c__law_cell => k_is)
    (case k__law_cell => k_is)
    (case a__law_mix => k_is)
    (case l__law_mix => k_is)
    (case c__law_mix => k_is)
    (case k__law_mix => k_is)
    (case a__law_whole => k_is)
    (case l__law_whole => k_is)
    (case c__law_whole => k_is)
    (case k__law_whole => k_is)
    (case a__law_length => k_is)
    (case l__law_length => k_is)
    (case c__law_length => k_is)
    (case k__law_length => k_is)
    (case a_stands => k_is)
    (case l_stands => k_is)
    (case c_stands => k_is)
    (case k_stands => k_is)
    (case a__law_step => k_is)
    (case l__law_step => k_is)
    (case c__law_step => k_is)
    (case k__law_step => k_is)
    (case a__law_ahead => k_is)
    (case l__law_ahead => k_is)
    (case c__law_ahead => k_is)
    (case k__law_ahead => k_is)
    (case a_bars_needed => k_is)
    (case l_bars_needed => k_is)
    (case c_bars_needed => k_is)
    (case k_bars_needed => k_is)
    (case a__law_meter => k_is)
    (case l__law_meter => k_is)
    (case c__law_meter => k_is)
    (case k__law_meter => k_is)
    (case a__law_tick => k_is)
    (case l__law_tick => k_is)
    (case c__law_tick => k_is)
    (case k__law_tick => k_is)
    (case a_law => k_is)
    (case l_law => k_is)
    (case c_law => k_is)
    (case k_law => k_is)
    (case z_len => k_is)
    (case z_isinstance => k_is)
    (case z_int => k_is)
    (case z_bool => k_is)
    (case z_min => k_is)
    (case z_range => k_is)
    (case z_sum => k_is)
    (case z_max => k_is)
    (case z_list => k_is)
    (case z_tuple => k_is)
#print axioms PySem.Challenge.cw_stavemill_k05_where_ticks_stand_holds

