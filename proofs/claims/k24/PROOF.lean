import PyProof.Rows.All
import Wide.All
import OpenK.AllK
import Wide.FinOn
import Lean
import PyProof.EqAt
import PyProof.EqKinds
import PyProof.TupleCall
import PyProof.P3In
import PyProof.NeData
import PyProof.MaxThree
import PySem.Challenge.RW_stavemill_k24_prices_of_lines
set_option Elab.async false
set_option linter.all false
set_option maxRecDepth 100000
namespace L2
open PySem PySem.Spec PyProof.Rows
abbrev Key := Sum Int Str
def keyIs : Key → Value → Bool
  | .inl k, v => Value.isInt k v
  | .inr x, v => Value.isStrOf x v
def keyH (w : World) : Key → Int
  | .inl k => hashInt k
  | .inr x => hashStr w x
theorem keyIs_shape : ∀ {k : Key} {v : Value}, keyIs k v = true → (∃ i t, k = Sum.inl i ∧ v = Value.int i t) ∨ (∃ x t, k = Sum.inr x ∧ v = Value.str x t)
  | .inl i, v, h => by
    obtain ⟨t, e⟩ := Value.isInt_shape (k := i) (v := v) h
    exact .inl ⟨i, t, rfl, e⟩
  | .inr x, v, h => by
    obtain ⟨t, e⟩ := Value.isStrOf_shape (x := x) (v := v) h
    exact .inr ⟨x, t, rfl, e⟩
theorem key_ll (a b : Int) : decide ((Sum.inl a : Key) = Sum.inl b) = (a == b) := by
  by_cases e : a = b
  · subst e; simp
  · have h : ¬ (Sum.inl a : Key) = Sum.inl b := fun q => e (Sum.inl.inj q)
    rw [decide_eq_false h]
    exact (beq_eq_false_iff_ne.mpr e).symm
theorem key_rr (a b : Str) : decide ((Sum.inr a : Key) = Sum.inr b) = decide (a = b) := by
  by_cases e : a = b
  · subst e; simp
  · have h : ¬ (Sum.inr a : Key) = Sum.inr b := fun q => e (Sum.inr.inj q)
    rw [decide_eq_false h, decide_eq_false e]
theorem key_lr (a : Int) (b : Str) : decide ((Sum.inl a : Key) = Sum.inr b) = false := decide_eq_false (fun q => nomatch q)
theorem key_rl (a : Str) (b : Int) : decide ((Sum.inr a : Key) = Sum.inl b) = false := decide_eq_false (fun q => nomatch q)
def mixKind (prog : Program) (w : World) : PySem.KeyKind prog w Key where
  is := keyIs
  hash := keyH w
  inj := fun v a b ha hb => by
    rcases keyIs_shape ha with ⟨i, t, rfl, rfl⟩ | ⟨x, t, rfl, rfl⟩
    · rcases keyIs_shape hb with ⟨j, u, rfl, e⟩ | ⟨y, u, rfl, e⟩
      · injection e with e1 _; rw [e1]
      · exact nomatch e
    · rcases keyIs_shape hb with ⟨j, u, rfl, e⟩ | ⟨y, u, rfl, e⟩
      · exact nomatch e
      · injection e with e1 _; rw [e1]
  byValue := fun k v h => by
    rcases keyIs_shape h with ⟨i, t, rfl, rfl⟩ | ⟨x, t, rfl, rfl⟩ <;> rfl
  pyHash := fun hv h => by
    rcases keyIs_shape hv with ⟨i, t, rfl, rfl⟩ | ⟨x, t, rfl, rfl⟩
    · exact wpAny_pyHash_int h
    · exact wpAny_pyHash_str h
  eqBool := fun hu hv h => by
    rcases keyIs_shape hu with ⟨i, t, rfl, rfl⟩ | ⟨x, t, rfl, rfl⟩
    · rcases keyIs_shape hv with ⟨j, u, rfl, rfl⟩ | ⟨y, u, rfl, rfl⟩
      · rw [key_ll] at h; exact wpAny_eqBool_int h
      · rw [key_lr] at h; exact SeqAt.EqAt.int_str i t y u _ _ _ _ h
    · rcases keyIs_shape hv with ⟨j, u, rfl, rfl⟩ | ⟨y, u, rfl, rfl⟩
      · rw [key_rl] at h; exact SeqAt.EqAt.str_int x t j u _ _ _ _ h
      · rw [key_rr] at h; exact wpAny_eqBool_str h
  «strs» := fun k x t v h => by
    rcases keyIs_shape h with ⟨i, u, rfl, e⟩ | ⟨y, u, rfl, e⟩
    · exact nomatch e
    · injection e with e1 _
      subst e1
      cases v <;> rfl
end L2
namespace L2
open PySem PySem.Spec PyProof.Rows
inductive V where
  | non | bl (b : Bool) | int (i : Int) | str (x : Str) | byt (b : Array UInt8) | flt (b : UInt64) | ref (a : Addr) | ty (n : String)
  deriving DecidableEq
def RelV : V → Value → Prop
  | .non, u => u = Value.none
  | .bl b, u => u = Value.bool b
  | .int i, u => ∃ t, u = Value.int i t
  | .str x, u => ∃ t, u = Value.str x t
  | .byt b, u => ∃ t, u = Value.bytes b t
  | .flt b, u => ∃ t, u = Value.float b t
  | .ref a, u => u = Value.ref a
  | .ty n, u => u = Value.type n
abbrev Vals : List V → List Value → Prop := Paired RelV
theorem Vals.length {xs : List V} {us : List Value} (r : Vals xs us) : xs.length = us.length := Paired.length r
theorem Vals.get : ∀ {xs : List V} {us : List Value} {i : Nat} {x : V}, Vals xs us → xs[i]? = some x → ∃ u, us[i]? = some u ∧ RelV x u
  | _, _, _, _, .nil, e => by simp at e
  | _, _, 0, _, .cons r _, e => by simp at e; subst e; exact ⟨_, rfl, r⟩
  | _, _, i + 1, x, .cons _ t, e => by
    obtain ⟨u, h1, h2⟩ := Vals.get (i := i) (x := x) t (by simpa using e)
    exact ⟨u, by simpa using h1, h2⟩
theorem Vals.set {x : V} {u : Value} (r : RelV x u) : ∀ {xs : List V} {us : List Value} (i : Nat), Vals xs us → Vals (xs.set i x) (us.set i u)
  | _, _, _, .nil => .nil
  | _, _, 0, .cons _ t => .cons r t
  | _, _, i + 1, .cons q t => .cons q (Vals.set r i t)
theorem Vals.append : ∀ {xs ys : List V} {us ws : List Value}, Vals xs us → Vals ys ws → Vals (xs ++ ys) (us ++ ws)
  | _, _, _, _, .nil, s => s
  | _, _, _, _, .cons r t, s => .cons r (Vals.append t s)
theorem Vals.take : ∀ {xs : List V} {us : List Value} (n : Nat), Vals xs us → Vals (xs.take n) (us.take n)
  | _, _, 0, _ => .nil
  | _, _, _ + 1, .nil => .nil
  | _, _, n + 1, .cons r t => .cons r (Vals.take n t)
theorem Vals.drop : ∀ {xs : List V} {us : List Value} (n : Nat), Vals xs us → Vals (xs.drop n) (us.drop n)
  | _, _, 0, r => r
  | _, _, _ + 1, .nil => .nil
  | _, _, n + 1, .cons _ t => Vals.drop n t
def RelO : Option V → Option Value → Prop
  | some v, some u => RelV v u
  | none, none => True
  | _, _ => False
def KV {κ : Type} : List (κ × V) → List (κ × Value) → Prop := Paired fun (p : κ × V) (q : κ × Value) => p.1 = q.1 ∧ RelV p.2 q.2
def kV : Key → V
  | .inl i => .int i
  | .inr x => .str x
inductive HO where
  | lst (xs : List V)
  | tup (xs : List V)
  | dK (kvs : List (Key × V)) | dT (kvs : List (List Key × V))
  | set (S : Int → Bool) (n : Nat)
  | ins (C dx : Addr) (fs : List (Str × V))
  | own (x : Addr)
  | xd (fs : List (Str × V))
  | met (f x : Addr)
  | rng (lo hi : Int)
  | frz (o : Obj) (u : HO)
  | tbl (ps : Array Value)
  | ext (φ : Heap → Prop)
abbrev Hp := Addr → Option HO
def upd (H : Hp) (a : Addr) (o : HO) : Hp := fun b => if b = a then some o else H b
theorem upd_same {H : Hp} {a : Addr} {o : HO} : upd H a o a = some o := by unfold upd; rw [if_pos rfl]
theorem upd_ne {H : Hp} {a b : Addr} {o : HO} (h : b ≠ a) : upd H a o b = H b := by unfold upd; rw [if_neg h]
theorem ne_of_none {H : Hp} {a b : Addr} {o : HO} (h : H a = some o) (h' : H b = none) : a ≠ b := by
  intro e; subst e; rw [h] at h'; cases h'
section
variable (P : Program) (w : World)
def ObjOk (H : Hp) (h : Heap) (a : Addr) : HO → Prop
  | .lst xs => xs.length ≤ sizeLine ∧ ∃ (its : List Value) (n : Nat), Vals xs its ∧ h.get? a = some { cls := .type "list", data := .seq its.toArray n }
  | .tup xs => xs.length ≤ sizeLine ∧ ∃ its : List Value, Vals xs its ∧ IsTup h a its.toArray
  | .dK kvs => kvs.length ≤ sizeLine ∧ (a == sysModules) = false ∧ ∃ vs, KV kvs vs ∧ h.DictOf (mixKind P w) a vs
  | .dT kvs => kvs.length ≤ sizeLine ∧ (a == sysModules) = false ∧ ∃ xs : List (List Key × Addr × Value),
      Paired (fun (p : List Key × V) (q : List Key × Addr × Value) => p.1 = q.1 ∧ H q.2.1 = some (.tup (p.1.map kV)) ∧ RelV p.2 q.2.2) kvs xs ∧
      ∃ o es ep, h.get? a = some o ∧ o.ExactDict ∧ o.data = .dict es ep ∧ es.toList = xs.map (entryOfKey (tupleKind (mixKind P w))) ∧ (xs.map (·.1)).Nodup
  | .set S n => h.SetOf (intKind P w) a S n
  | .ins C dx fs => H dx = some (.own a) ∧ fs.length ≤ 1000 ∧ dx ≠ a ∧ h.get? a = some (PySem.W.instObj C dx) ∧
      ∃ mA, h.Ns1 dx mA ∧ (∀ f, RelO (fs.lookup f) (mA f)) ∧ PySem.Within mA (fs.map (·.1))
  | .own _ => ∃ o, h.get? a = some o
  | .xd fs => ∃ mA, h.Ns1 a mA ∧ ∀ f, RelO (fs.lookup f) (mA f)
  | .rng lo hi => ∃ t u v, h.get? a = some { cls := .type "range", data := .fields #[.int lo t, .int hi u, .int 1 v] }
  | .frz o u => h.get? a = some o ∧ ObjOk H h a u
  | .tbl ps => h.get? a = some { cls := .none, data := .fields ps }
  | .met f x => h.get? a = some (PySem.W.methodObj (.ref f) (.ref x))
  | .ext φ => φ h ∧ (∃ o, h.get? a = some o) ∧ ∀ h1 h2 : Heap, φ h1 → (∀ o, h1.get? a = some o → h2.get? a = some o) → φ h2
def HOk (H : Hp) (h : Heap) : Prop := ∀ a o, H a = some o → ObjOk P w H h a o
end
section
variable {P : Program} {w : World} {H H' : Hp} {h h' : Heap} {a : Addr} {o : HO}
theorem ObjOk.lt (x : ObjOk P w H h a o) : a < h.objs.size := by
  cases o with
  | lst xs => obtain ⟨_, _, _, _, e⟩ := x; exact Heap.lt_size e
  | tup xs => obtain ⟨_, _, _, p⟩ := x; exact p.lt
  | dK kvs => obtain ⟨_, _, _, _, o, _, _, e, _⟩ := x; exact Heap.lt_size e
  | dT kvs => obtain ⟨_, _, _, _, o, _, _, e, _⟩ := x; exact Heap.lt_size e
  | set S n => obtain ⟨o, _, _, _, e, _⟩ := x; exact Heap.lt_size e
  | ins C dx fs => obtain ⟨_, _, _, e, _⟩ := x; exact Heap.lt_size e
  | own y => obtain ⟨_, e⟩ := x; exact Heap.lt_size e
  | xd fs => obtain ⟨_, ⟨_, _, _, e, _⟩, _⟩ := x; exact Heap.lt_size e
  | rng lo hi => obtain ⟨_, _, _, e⟩ := x; exact Heap.lt_size e
  | frz ob u => obtain ⟨e, _⟩ := x; exact Heap.lt_size e
  | tbl ps => exact Heap.lt_size (show h.get? a = some _ from x)
  | met f y => exact Heap.lt_size (show h.get? a = some _ from x)
  | ext φ => obtain ⟨_, ⟨_, e⟩, _⟩ := x; exact Heap.lt_size e
theorem Paired.mapP {α β : Type} {F G : α → β → Prop} : ∀ {l₁ : List α} {l₂ : List β}, Paired F l₁ l₂ → (∀ a b, F a b → G a b) → Paired G l₁ l₂
  | _, _, .nil, _ => .nil
  | _, _, .cons r t, f => .cons (f _ _ r) (Paired.mapP t f)
theorem ObjOk.stay (x : ObjOk P w H h a o) (k : ∀ b u, (b = a ∨ H b = some (.own a)) → h.get? b = some u → h'.get? b = some u)
    (ho : ∀ b, H b = some (.own a) → H' b = some (.own a)) (ht : ∀ b xs, H b = some (.tup xs) → H' b = some (.tup xs)) : ObjOk P w H' h' a o := by
  induction o with
  | lst xs => obtain ⟨z, its, n, r, e⟩ := x; exact ⟨z, its, n, r, k _ _ (.inl rfl) e⟩
  | tup xs => obtain ⟨z, its, r, ob, e, c⟩ := x; exact ⟨z, its, r, ob, k _ _ (.inl rfl) e, c⟩
  | dK kvs => obtain ⟨z, y, vs, r, ob, es, ep, e, c⟩ := x; exact ⟨z, y, vs, r, ob, es, ep, k _ _ (.inl rfl) e, c⟩
  | dT kvs =>
    obtain ⟨z, y, xs, r, ob, es, ep, e, c⟩ := x
    exact ⟨z, y, xs, Paired.mapP r fun p q z => ⟨z.1, ht _ _ z.2.1, z.2.2⟩, ob, es, ep, k _ _ (.inl rfl) e, c⟩
  | set S n => obtain ⟨ob, es, ep, t, e, c⟩ := x; exact ⟨ob, es, ep, t, k _ _ (.inl rfl) e, c⟩
  | ins C dx fs =>
    obtain ⟨d, z, ne, e, mA, ⟨od, es, ep, e2, c⟩, r⟩ := x
    exact ⟨ho _ d, z, ne, k _ _ (.inl rfl) e, mA, ⟨od, es, ep, k _ _ (.inr d) e2, c⟩, r⟩
  | own y => obtain ⟨ob, e⟩ := x; exact ⟨ob, k _ _ (.inl rfl) e⟩
  | xd fs => obtain ⟨mA, ⟨od, es, ep, e, c⟩, r⟩ := x; exact ⟨mA, ⟨od, es, ep, k _ _ (.inl rfl) e, c⟩, r⟩
  | rng lo hi => obtain ⟨t, u, v, e⟩ := x; exact ⟨t, u, v, k _ _ (.inl rfl) e⟩
  | frz ob u ih => obtain ⟨e, q⟩ := x; exact ⟨k _ _ (.inl rfl) e, ih q⟩
  | tbl ps =>
    have e : h.get? a = some { cls := .none, data := .fields ps } := x
    show h'.get? a = some { cls := .none, data := .fields ps }
    exact k a _ (.inl rfl) e
  | met f y =>
    have e : h.get? a = some (PySem.W.methodObj (.ref f) (.ref y)) := x
    show h'.get? a = some (PySem.W.methodObj (.ref f) (.ref y))
    exact k a _ (.inl rfl) e
  | ext φ => obtain ⟨p, ⟨o, e⟩, st⟩ := x; exact ⟨st _ _ p fun o q => k _ _ (.inl rfl) q, ⟨o, k _ _ (.inl rfl) e⟩, st⟩
theorem HOk.lt (x : HOk P w H h) (e : H a = some o) : a < h.objs.size := (x a o e).lt
theorem HOk.fresh (x : HOk P w H h) (e : h.objs.size ≤ a) : H a = none := by
  cases q : H a with
  | none => rfl
  | some u => exact absurd (Nat.lt_of_lt_of_le (x.lt q) e) (Nat.lt_irrefl _)
theorem HOk.kept (x : HOk P w H h) (k : ∀ b u, h.get? b = some u → h'.get? b = some u) : HOk P w H h' := fun a o e =>
  (x a o e).stay (fun b u _ q => k b u q) (fun _ q => q) fun _ _ q => q
theorem HOk.laid (x : HOk P w H h) (k : ∀ b u, h.get? b = some u → h'.get? b = some u) (hp : h.objs.size ≤ a) (new : ObjOk P w (upd H a o) h' a o) : HOk P w (upd H a o) h' := fun b u e => by
  have hn := x.fresh hp
  by_cases hb : b = a
  · subst hb; rw [upd_same] at e; cases e; exact new
  · rw [upd_ne hb] at e
    exact (x b u e).stay (fun c v _ q => k c v q) (fun c q => by rw [upd_ne (ne_of_none q hn)]; exact q) fun c xs q => by rw [upd_ne (ne_of_none q hn)]; exact q
end
def Rd (H : Hp) (a : Addr) (u : HO) : Prop := H a = some u ∨ ∃ o, H a = some (.frz o u)
theorem Rd.of {H : Hp} {a : Addr} {u : HO} (h : H a = some u) : Rd H a u := .inl h
theorem Rd.ok {P : Program} {w : World} {H : Hp} {h : Heap} {a : Addr} {u : HO} (r : Rd H a u) (x : HOk P w H h) : ObjOk P w H h a u := by
  rcases r with r | ⟨o, r⟩
  · exact x a u r
  · obtain ⟨_, q⟩ := x a _ r
    exact q
def Mut : Option HO → Prop
  | some (.lst _) => True
  | some (.dK _) => True
  | some (.dT _) => True
  | some (.set _ _) => True
  | some (.ins _ _ _) => True
  | some (.ext _) => True
  | _ => False
section
variable {P : Program} {w : World} {H : Hp} {h h' : Heap} {x e : Addr} {o' : HO}
theorem HOk.write (ok : HOk P w H h) (mu : Mut (H x)) (he : e = x ∨ H e = some (.own x)) (k : ∀ b u, b ≠ e → h.get? b = some u → h'.get? b = some u) (heo : ∃ u, h'.get? e = some u)
    (new : ObjOk P w (upd H x o') h' x o') : HOk P w (upd H x o') h' := fun b u q => by
  have nown : ∀ c y, H c = some (.own y) → c ≠ x := fun c y r z => by subst z; rw [r] at mu; exact mu
  have ntup : ∀ c xs, H c = some (.tup xs) → c ≠ x := fun c xs r z => by subst z; rw [r] at mu; exact mu
  by_cases hb : b = x
  · subst hb; rw [upd_same] at q; cases q; exact new
  · rw [upd_ne hb] at q
    by_cases hbe : b = e
    · have q' : H b = some (.own x) := by
        rcases he with z | z
        · exact absurd (hbe.trans z) hb
        · rw [hbe]; exact z
      rw [q] at q'; cases q'
      obtain ⟨v, hv⟩ := heo
      exact ⟨v, by rw [hbe]; exact hv⟩
    · refine (ok b u q).stay (fun c v hc r => k c v ?_ r) (fun c r => by rw [upd_ne (nown c b r)]; exact r) fun c xs r => by rw [upd_ne (ntup c xs r)]; exact r
      rcases hc with rfl | hc
      · exact hbe
      · rintro rfl
        rcases he with z | z
        · exact nown c b hc z
        · rw [hc] at z; cases z; exact hb rfl
end
structure Un (fs ex : List Addr) (H H' : Hp) (h h' : Heap) : Prop where
  keep : ∀ b o, h.get? b = some o → H b = none → b ∉ fs → b ∉ ex → h'.get? b = some o
  slot : ∀ b o, h.get? b = some o → H b = none → b ∈ fs → b ∉ ex → ∃ sl, h'.get? b = some { o with slots := sl }
  free : ∀ b o, h.get? b = some o → H b = none → b ∉ ex → H' b = none
  there : ∀ b o, h.get? b = some o → b ∉ ex → ∃ o', h'.get? b = some o'
  tups : ∀ b xs, H b = some (.tup xs) → H' b = some (.tup xs)
  frzs : ∀ b o u, H b = some (.frz o u) → H' b = some (.frz o u)
  tbls : ∀ b ps, H b = some (.tbl ps) → ∃ more, H' b = some (.tbl (ps ++ more))
section
variable {fs fs' ex ex' : List Addr} {H H1 H2 : Hp} {h h1 h2 h' : Heap} {a x e : Addr} {o : HO}
theorem Un.any (u : Un fs ex H H1 h h1) {b : Addr} {ob : Obj} (q : h.get? b = some ob) (n : H b = none) (hx : b ∉ ex) : ∃ sl, h1.get? b = some { ob with slots := sl } := by
  by_cases hb : b ∈ fs
  · exact u.slot b ob q n hb hx
  · exact ⟨ob.slots, u.keep b ob q n hb hx⟩
theorem Un.trans (a : Un fs ex H H1 h h1) (b : Un fs ex H1 H2 h1 h2) : Un fs ex H H2 h h2 where
  keep := fun c ob q n hc hx => b.keep c ob (a.keep c ob q n hc hx) (a.free c ob q n hx) hc hx
  slot := fun c ob q n hc hx => by
    obtain ⟨sl, e1⟩ := a.slot c ob q n hc hx
    obtain ⟨sl', e2⟩ := b.slot c _ e1 (a.free c ob q n hx) hc hx
    exact ⟨sl', e2⟩
  free := fun c ob q n hx => by
    obtain ⟨o', e1⟩ := a.there c ob q hx
    exact b.free c o' e1 (a.free c ob q n hx) hx
  there := fun c ob q hx => by
    obtain ⟨o', e1⟩ := a.there c ob q hx
    exact b.there c o' e1 hx
  tups := fun c xs q => b.tups c xs (a.tups c xs q)
  frzs := fun c ob xs q => b.frzs c ob xs (a.frzs c ob xs q)
  tbls := fun c ps q => by
    obtain ⟨m1, e1⟩ := a.tbls c ps q
    obtain ⟨m2, e2⟩ := b.tbls c _ e1
    exact ⟨m1 ++ m2, by rw [e2, Array.append_assoc]⟩
theorem Un.kept (k : ∀ b u, h.get? b = some u → h'.get? b = some u) : Un fs ex H H h h' :=
  ⟨fun b ob q _ _ _ => k b ob q, fun b ob q _ _ _ => ⟨ob.slots, k b ob q⟩, fun _ _ _ n _ => n, fun b ob q _ => ⟨ob, k b ob q⟩, fun _ _ q => q, fun _ _ _ q => q, fun _ ps q => ⟨#[], by rw [q]; simp⟩⟩
theorem Un.refl : Un fs ex H H h h := Un.kept fun _ _ q => q
theorem Un.laid (k : ∀ b u, h.get? b = some u → h'.get? b = some u) (hp : h.objs.size ≤ a) (hn : H a = none) : Un fs ex H (upd H a o) h h' where
  keep := fun b u q _ _ _ => k b u q
  slot := fun b u q _ _ _ => ⟨u.slots, k b u q⟩
  free := fun b u q n _ => by rw [upd_ne (Nat.ne_of_lt (Nat.lt_of_lt_of_le (Heap.lt_size q) hp))]; exact n
  there := fun b u q _ => ⟨u, k b u q⟩
  tups := fun b xs q => by rw [upd_ne (ne_of_none q hn)]; exact q
  frzs := fun b u xs q => by rw [upd_ne (ne_of_none q hn)]; exact q
  tbls := fun b ps q => ⟨#[], by rw [upd_ne (ne_of_none q hn), q]; simp⟩
theorem Un.write (mu : Mut (H x)) (he : e = x ∨ H e = some (.own x)) (k : ∀ b u, b ≠ e → h.get? b = some u → h'.get? b = some u) (heo : ∃ u, h'.get? e = some u) : Un fs ex H (upd H x o) h h' := by
  have hx : ∀ b, H b = none → b ≠ x := fun b n z => by subst z; rw [n] at mu; exact mu
  have hb : ∀ b, H b = none → b ≠ e := fun b n z => by
    subst z
    rcases he with r | r
    · exact hx b n r
    · rw [n] at r; cases r
  have hm : ∀ b u, H b = some u → ¬ Mut (some u) → b ≠ x := fun b u q nm z => by subst z; rw [q] at mu; exact nm mu
  refine ⟨fun b u q n _ _ => k b u (hb b n) q, fun b u q n _ _ => ⟨u.slots, k b u (hb b n) q⟩, fun b u q n _ => by rw [upd_ne (hx b n)]; exact n, fun b u q _ => ?_,
    fun b xs q => by rw [upd_ne (hm b _ q fun z => z)]; exact q, fun b u xs q => by rw [upd_ne (hm b _ q fun z => z)]; exact q, fun b ps q => ⟨#[], by rw [upd_ne (hm b _ q fun z => z), q]; simp⟩⟩
  by_cases hbe : b = e
  · subst hbe; exact heo
  · exact ⟨u, k b u hbe q⟩
theorem Un.mono (u : Un fs ex H H1 h h1) (hs : ∀ b ∈ fs, b ∈ fs') (hx : ∀ b ∈ ex, b ∈ ex') : Un fs' ex' H H1 h h1 :=
  ⟨fun b ob q n hb he => u.keep b ob q n (fun z => hb (hs b z)) fun z => he (hx b z), fun _ _ q n _ he => u.any q n fun z => he (hx _ z), fun b ob q n he => u.free b ob q n fun z => he (hx b z), fun b ob q he => u.there b ob q fun z => he (hx b z), u.tups, u.frzs, u.tbls⟩
end
def trk (h : Heap) (H : Hp) : List Addr := (List.range h.objs.size).filter fun a => (H a).isSome
def hidT (h : Heap) (H : Hp) : Heap := PySem.W.hideAll h (trk h H)
theorem hidT_size (h : Heap) (H : Hp) : (hidT h H).objs.size = h.objs.size := PySem.W.hideAll_size _ _
theorem hidT_get {h : Heap} {H : Hp} {b : Addr} {o : Obj} (e : h.get? b = some o) (n : H b = none) : (hidT h H).get? b = some o :=
  PySem.W.hideAll_get _ e fun hm => by
    have q : (H b).isSome = true := (List.mem_filter.mp hm).2
    rw [n] at q; simp at q
theorem of_hidT {h : Heap} {H : Hp} {b : Addr} {o : Obj} (e : (hidT h H).get? b = some o) : h.get? b = some o ∧ H b = none := by
  have e' : h.get? b = some o := PySem.W.of_hideAll (trk h H) e
  refine ⟨e', ?_⟩
  cases q : H b with
  | none => rfl
  | some x =>
    have hm : b ∈ trk h H := List.mem_filter.mpr ⟨List.mem_range.mpr (Heap.lt_size e'), by simp [q]⟩
    have z : (hidT h H).get? b = none := PySem.W.hideAll_none (trk h H) hm
    rw [z] at e; cases e
def allNews (g h : Heap) (L : Addr) : List (Addr × Obj) := (List.range h.objs.size).filterMap fun a => if a = L ∨ (g.get? a).isSome = true then none else (h.get? a).map fun o => (a, o)
def rest (g h : Heap) (L d : Addr) : List (Addr × Obj) := (allNews g h L).filter fun p => decide (p.1 ≠ d)
end L2
namespace L2
open PySem PySem.Spec PyProof.Rows
structure Mod (K : PySem.W.Frag) (mg : Str → Option Value) (base : Heap) : Prop where
  kin : K.In base
  glob : base.Ns mainGlobals mg
  blt : ∃ mb, base.Ns builtinsNs mb ∧ ∀ x : Str, x ≠ "__name__" → mb x = bootBuiltins x
  nolimit : base.NoLimit
/-- the context: a def's body (or a comprehension's block) running. base: fixed through the whole law; s₀, H₀: the entry; outer: the frames whose slots others may change (a def's callers); stack: all frames that run;
   ex: iterators that were made ahead of the entry and are walked here (a comprehension's); fn: the names whose cells were made at the entry (a def: all; a comprehension's block: its own); calm: not within an except suite; pn: pins that every state bears; xe: what is wanted of an exception that leaves the code -/
structure Cx where
  prog : Program
  w : World
  K : PySem.W.Frag
  mg : Str → Option Value
  base : Heap
  A : Around
  N : List Str
  s₀ : Shared
  H₀ : Hp
  env : Env
  outer : List Env
  stack : List Env
  ex : List Addr
  fn : Str → Bool
  calm : Bool
  pn : List (Addr × Obj)
  xe : Value → Shared → Prop
def frs (l : List Env) : List Addr := l.filterMap (·.frame)
abbrev Cx.fs (X : Cx) : List Addr := frs X.outer
def Vis (sc : Scope) (x : Str) : Prop := sc.names.lookup x = some .local ∨ sc.names.lookup x = some .cell ∨ sc.names.lookup x = some .free
def Loc (sc : Scope) (x : Str) : Prop := sc.names.lookup x = some .local ∨ sc.names.lookup x = some .cell
def Look (env : Env) (h : Heap) (m : Str → Option Value) (x : Str) (u : Value) : Prop :=
  (env.kindOf x = some .local ∧ m x = some u) ∨ ((env.kindOf x = some .cell ∨ env.kindOf x = some .free) ∧ ∃ c, env.cells.lookup x = some c ∧ h.IsCell c (some u))
structure Cx.Ok (X : Cx) : Prop where
  mod : Mod X.K X.mg X.base
  kind : X.env.scope.kind = .function
  glob : X.env.globals = mainGlobals
  blt : X.env.builtins = builtinsNs
  above : X.s₀.heap.objs.size ≤ X.env.locals
  inj : ∀ x y c, X.env.cells.lookup x = some c → X.env.cells.lookup y = some c → x = y
  has : ∀ x, (X.env.kindOf x = some .cell ∨ X.env.kindOf x = some .free) → ∃ c, X.env.cells.lookup x = some c
  cab : ∀ x c, X.fn x = true → X.env.cells.lookup x = some c → X.s₀.heap.objs.size ≤ c
  hd : X.calm = true → X.A.handled = none
  frames : X.A.frames = some X.stack
  stk : X.stack = X.outer ∨ (X.stack = X.env :: X.outer ∧ X.env.frame = some X.env.locals)
  exf : ∀ b ∈ X.ex, b ≠ X.env.locals ∧ ∀ x c, X.env.cells.lookup x = some c → c ≠ b
  bs : ∀ b o, X.base.get? b = some o → X.s₀.heap.get? b = some o ∧ X.H₀ b = none
  bsz : X.base.objs.size ≤ X.s₀.heap.objs.size
  noex : ∀ b o, X.base.get? b = some o → b ∉ X.ex
  exfs : ∀ b ∈ X.ex, b ∉ X.fs
  funs : X.s₀.heap.FunFrames X.base X.outer
  frf : ∀ b ∈ X.fs, X.H₀ b = none
structure Inv (X : Cx) (pins : List (Addr × Obj)) (σ : List (Option V)) (H : Hp) (s : Shared) : Prop where
  ok : X.Ok
  os : s.os = X.s₀.os
  bare : AllBare s.gens
  base : Un X.fs X.ex X.H₀ H X.s₀.heap s.heap
  loc : ∃ m, s.heap.Ns X.env.locals m ∧ ∀ (i : Nat) (x : Str) (v : V), X.N[i]? = some x → σ[i]? = some (some v) → Vis X.env.scope x → ∃ u, RelV v u ∧ Look X.env s.heap m x u
  cell : ∀ x c, X.env.cells.lookup x = some c → ∃ v, s.heap.IsCell c v
  free : H X.env.locals = none
  freeC : ∀ x c, X.env.cells.lookup x = some c → H c = none
  pin : ∀ p ∈ X.pn ++ pins, s.heap.get? p.1 = some p.2 ∧ H p.1 = none ∧ p.1 ≠ X.env.locals ∧ p.1 ∉ X.fs ∧ ∀ v, p.2.data ≠ .cell v
  hok : HOk X.prog X.w H s.heap
  len : σ.length = X.N.length
section
variable {X : Cx} {pins : List (Addr × Obj)} {σ : List (Option V)} {H H' : Hp} {s : Shared} {h' : Heap}
theorem Cx.Ok.nofr (ok : X.Ok) {b : Addr} {o : Obj} (e : X.base.get? b = some o) : b ∉ X.fs := fun hb => by
  have := (ok.funs.mem hb).1
  rw [e] at this; cases this
theorem Inv.bs (I : Inv X pins σ H s) : ∀ b o, X.base.get? b = some o → s.heap.get? b = some o ∧ H b = none := fun b o e =>
  ⟨I.base.keep b o (I.ok.bs b o e).1 (I.ok.bs b o e).2 (I.ok.nofr e) (I.ok.noex b o e), I.base.free b o (I.ok.bs b o e).1 (I.ok.bs b o e).2 (I.ok.noex b o e)⟩
theorem Inv.bk (I : Inv X pins σ H s) : ∀ b o, X.base.get? b = some o → s.heap.get? b = some o := fun b o e => (I.bs b o e).1
theorem Inv.mod (I : Inv X pins σ H s) : Mod X.K X.mg X.base := I.ok.mod
theorem Inv.kIn (I : Inv X pins σ H s) : X.K.In s.heap := I.ok.mod.kin.keeps I.bk
theorem Inv.nolimit (I : Inv X pins σ H s) : s.heap.NoLimit := I.ok.mod.nolimit.keeps I.bk
theorem Inv.fr (I : Inv X pins σ H s) : ∃ m, Fr X.base X.env.locals s.heap m :=
  let ⟨m, hn, _⟩ := I.loc
  ⟨m, hn, I.bk, Nat.le_trans I.ok.bsz I.ok.above⟩
theorem Inv.lt (I : Inv X pins σ H s) : X.env.locals < s.heap.objs.size := let ⟨_, hn, _⟩ := I.loc; hn.lt
theorem Inv.sz (I : Inv X pins σ H s) : X.s₀.heap.objs.size ≤ s.heap.objs.size := Nat.le_trans I.ok.above (Nat.le_of_lt I.lt)
theorem Inv.nofs (I : Inv X pins σ H s) {a : Addr} (h : s.heap.objs.size ≤ a) : a ∉ X.fs := fun hb => by
  obtain ⟨_, o, ho, _⟩ := I.ok.funs.mem hb
  exact absurd (Nat.lt_of_lt_of_le (Heap.lt_size ho) (Nat.le_trans I.sz h)) (Nat.lt_irrefl _)
theorem Inv.cne (I : Inv X pins σ H s) : ∀ x c, X.env.cells.lookup x = some c → c ≠ X.env.locals := fun x c e z => by
  obtain ⟨v, o, ho, hd⟩ := I.cell x c e
  obtain ⟨m, ⟨o', es, ep, ho', hd', _⟩, _⟩ := I.loc
  rw [z, ho'] at ho; cases ho; rw [hd'] at hd; cases hd
theorem Inv.funs (I : Inv X pins σ H s) : s.heap.FunFrames X.base X.outer := by
  have all : ∀ (l : List Env), (∀ b ∈ frs l, b ∈ X.fs) → X.s₀.heap.FunFrames X.base l → s.heap.FunFrames X.base l := by
    intro l
    induction l with
    | nil => intro _ _; trivial
    | cons env r ih =>
      intro hs hl
      obtain ⟨hk, ⟨L, o, hf, hn, ho, hd⟩, hr⟩ := hl
      have hL : L ∈ X.fs := hs L (by unfold frs; rw [List.filterMap_cons, hf]; exact List.mem_cons_self)
      obtain ⟨sl, e⟩ := I.base.slot L o ho (I.ok.frf L hL) hL fun z => I.ok.exfs L z hL
      exact ⟨hk, ⟨L, _, hf, hn, e, hd⟩, ih (fun b hb => hs b (by unfold frs; rw [List.filterMap_cons, hf]; exact List.mem_cons_of_mem _ hb)) hr⟩
  exact all X.outer (fun _ hb => hb) I.ok.funs
theorem Inv.stack (I : Inv X pins σ H s) : s.heap.FunFrames X.base X.stack := by
  rcases I.ok.stk with e | ⟨e, hf⟩
  · rw [e]; exact I.funs
  · rw [e]
    obtain ⟨m, hn, _⟩ := I.loc
    refine .cons (by rw [I.ok.kind]; decide) hf hn ?_ I.funs
    exact Heap.get?_none_of_le (Nat.le_trans I.ok.bsz I.ok.above)
theorem Inv.stkSub (I : Inv X pins σ H s) : ∀ b ∈ frs X.stack, b ∈ X.env.locals :: X.fs := fun b hb => by
  rcases I.ok.stk with e | ⟨e, hf⟩
  · rw [e] at hb; exact List.mem_cons_of_mem _ hb
  · rw [e] at hb
    unfold frs at hb
    rw [List.filterMap_cons, hf] at hb
    exact hb
theorem Inv.stkFree (I : Inv X pins σ H s) : ∀ b ∈ frs X.stack, H b = none := fun b hb => by
  rcases List.mem_cons.mp (I.stkSub b hb) with e | hb
  · rw [e]; exact I.free
  · obtain ⟨_, o, ho, _⟩ := I.ok.funs.mem hb
    exact I.base.free b o ho (I.ok.frf b hb) fun z => I.ok.exfs b z hb
theorem Inv.step {g' : Array GenState} {t' : Nat} {d' : Drawn} {ch : List Addr} (I : Inv X pins σ H s)
    (hch : ∀ b ∈ ch, (b ∈ X.ex ∨ X.s₀.heap.objs.size ≤ b) ∧ b ≠ X.env.locals ∧ (∀ x c, X.env.cells.lookup x = some c → c ≠ b) ∧ ∀ p ∈ X.pn ++ pins, p.1 ≠ b)
    (keep : ∀ b o, b ≠ X.env.locals → b ∉ X.fs → b ∉ ch → s.heap.get? b = some o → H b = none → h'.get? b = some o)
    (slot : ∀ b o, b ≠ X.env.locals → b ∈ X.fs → b ∉ ch → s.heap.get? b = some o → H b = none → ∃ sl, h'.get? b = some { o with slots := sl }) (free : ∀ b o, b ∉ ch → s.heap.get? b = some o → H b = none → H' b = none)
    (there : ∀ b o, b ∉ ch → s.heap.get? b = some o → ∃ o', h'.get? b = some o')
    (tups : ∀ b xs, H b = some (.tup xs) → H' b = some (.tup xs)) (frzs : ∀ b o u, H b = some (.frz o u) → H' b = some (.frz o u)) (tbls : ∀ b ps, H b = some (.tbl ps) → ∃ more, H' b = some (.tbl (ps ++ more)))
    (ns : ∀ m, s.heap.Ns X.env.locals m → h'.Ns X.env.locals m) (hok : HOk X.prog X.w H' h') (hg : AllBare g') :
    Inv X pins σ H' { s with heap := h', gens := g', drawn := d', toks := t' } := by
  have neL : ∀ b o, X.s₀.heap.get? b = some o → b ≠ X.env.locals := fun b o e => Nat.ne_of_lt (Nat.lt_of_lt_of_le (Heap.lt_size e) I.ok.above)
  have neC : ∀ b o, X.s₀.heap.get? b = some o → b ∉ X.ex → b ∉ ch := fun b o e hx hb => by
    rcases (hch b hb).1 with z | z
    · exact hx z
    · exact absurd (Nat.lt_of_lt_of_le (Heap.lt_size e) z) (Nat.lt_irrefl _)
  have cellK : ∀ x c, X.env.cells.lookup x = some c → ∀ v, s.heap.IsCell c v → h'.IsCell c v := fun x c e v ⟨o, ho, hd⟩ => by
    have nch : c ∉ ch := fun z => (hch c z).2.2.1 x c e rfl
    by_cases hc : c ∈ X.fs
    · obtain ⟨sl, q⟩ := slot c o (I.cne x c e) hc nch ho (I.freeC x c e)
      exact ⟨_, q, hd⟩
    · exact ⟨o, keep c o (I.cne x c e) hc nch ho (I.freeC x c e), hd⟩
  refine ⟨I.ok, I.os, hg, ⟨fun b o e n hb hx => ?_, fun b o e n hb hx => ?_, fun b o e n hx => ?_, fun b o e hx => ?_, fun b xs e => tups b xs (I.base.tups b xs e), fun b o xs e => frzs b o xs (I.base.frzs b o xs e), fun b ps e => ?_⟩, ?_, fun x c e => ?_, ?_, fun x c e => ?_, fun p hp => ?_, hok, I.len⟩
  · exact keep b o (neL b o e) hb (neC b o e hx) (I.base.keep b o e n hb hx) (I.base.free b o e n hx)
  · obtain ⟨sl, e1⟩ := I.base.slot b o e n hb hx
    obtain ⟨sl', e2⟩ := slot b _ (neL b o e) hb (neC b o e hx) e1 (I.base.free b o e n hx)
    exact ⟨sl', e2⟩
  · obtain ⟨o', e1⟩ := I.base.there b o e hx
    exact free b o' (neC b o e hx) e1 (I.base.free b o e n hx)
  · obtain ⟨o', e1⟩ := I.base.there b o e hx
    exact there b o' (neC b o e hx) e1
  · obtain ⟨m1, e1⟩ := I.base.tbls b ps e
    obtain ⟨m2, e2⟩ := tbls b _ e1
    exact ⟨m1 ++ m2, by rw [e2, Array.append_assoc]⟩
  · obtain ⟨m, hn, hl⟩ := I.loc
    refine ⟨m, ns m hn, fun i x v e1 e2 e3 => ?_⟩
    obtain ⟨u, r, l⟩ := hl i x v e1 e2 e3
    refine ⟨u, r, ?_⟩
    rcases l with l | ⟨k, c, e, z⟩
    · exact .inl l
    · exact .inr ⟨k, c, e, cellK x c e _ z⟩
  · obtain ⟨v, z⟩ := I.cell x c e
    exact ⟨v, cellK x c e v z⟩
  · obtain ⟨m, ⟨o, _, _, ho, _⟩, _⟩ := I.loc
    exact free _ o (fun z => (hch _ z).2.1 rfl) ho I.free
  · obtain ⟨v, o, ho, hd⟩ := I.cell x c e
    exact free c o (fun z => (hch c z).2.2.1 x c e rfl) ho (I.freeC x c e)
  · obtain ⟨e, n, ne, nf, d⟩ := I.pin p hp
    have nch : p.1 ∉ ch := fun z => (hch p.1 z).2.2.2 p hp rfl
    exact ⟨keep p.1 p.2 ne nf nch e n, free p.1 p.2 nch e n, ne, nf, d⟩
theorem Inv.un {t' : Nat} (I : Inv X pins σ H s) (u : Un X.fs [] H H' s.heap h') (hok : HOk X.prog X.w H' h') : Inv X pins σ H' { s with heap := h', toks := t' } := by
  obtain ⟨m, ⟨o, es, ep, ho, r⟩, _⟩ := id I.loc
  obtain ⟨sl, hL⟩ := u.any ho I.free (by simp)
  exact I.step (g' := s.gens) (d' := s.drawn) (ch := []) (fun _ z => nomatch z) (fun b o _ hb _ e n => u.keep b o e n hb (by simp)) (fun b o _ hb _ e n => u.slot b o e n hb (by simp)) (fun b o _ e n => u.free b o e n (by simp)) (fun b o _ e => u.there b o e (by simp)) u.tups u.frzs u.tbls (fun m' hm => by
    obtain ⟨o', es', ep', ho', r'⟩ := hm
    rw [ho] at ho'; cases ho'
    exact ⟨_, es', ep', hL, r'⟩) hok I.bare
theorem Inv.call {g' : Array GenState} {t' : Nat} {d' : Drawn} {ch : List Addr} (I : Inv X pins σ H s) (u : Un (frs X.stack) ch H H' s.heap h') (hok : HOk X.prog X.w H' h') (hg : AllBare g')
    (hch : ∀ b ∈ ch, (b ∈ X.ex ∨ X.s₀.heap.objs.size ≤ b) ∧ b ≠ X.env.locals ∧ (∀ x c, X.env.cells.lookup x = some c → c ≠ b) ∧ ∀ p ∈ X.pn ++ pins, p.1 ≠ b) :
    Inv X pins σ H' { s with heap := h', gens := g', drawn := d', toks := t' } := by
  obtain ⟨m, ⟨o, es, ep, ho, r⟩, _⟩ := id I.loc
  obtain ⟨sl, hL⟩ := u.any ho I.free fun z => (hch _ z).2.1 rfl
  exact I.step (ch := ch) hch (fun b o hL hb hc e n => u.keep b o e n (fun z => (List.mem_cons.mp (I.stkSub b z)).elim hL hb) hc) (fun b o _ _ hc e n => u.any e n hc) (fun b o hc e n => u.free b o e n hc) (fun b o hc e => u.there b o e hc) u.tups u.frzs u.tbls (fun m' hm => by
    obtain ⟨o', es', ep', ho', r'⟩ := hm
    rw [ho] at ho'; cases ho'
    exact ⟨_, es', ep', hL, r'⟩) hok hg
theorem Inv.turned {t' : Nat} {it : Addr} (I : Inv X pins σ H s) (k : ∀ b o, b ≠ it → s.heap.get? b = some o → h'.get? b = some o) (hn : H it = none) (hL : it ≠ X.env.locals)
    (h1 : it ∈ X.ex ∨ X.s₀.heap.objs.size ≤ it) (h2 : ∀ x c, X.env.cells.lookup x = some c → c ≠ it) (h3 : ∀ p ∈ X.pn ++ pins, p.1 ≠ it) : Inv X pins σ H { s with heap := h', toks := t' } := by
  have nit : ∀ b u, H b = some u → b ≠ it := fun b u e z => by rw [z, hn] at e; cases e
  refine I.step (g' := s.gens) (d' := s.drawn) (ch := [it]) (fun b hb => ?_) (fun b o _ _ hc e _ => k b o (fun z => hc (by simp [z])) e) (fun b o _ _ hc e _ => ⟨o.slots, k b o (fun z => hc (by simp [z])) e⟩) (fun _ _ _ _ n => n)
    (fun b o hc e => ⟨o, k b o (fun z => hc (by simp [z])) e⟩) (fun _ _ e => e) (fun _ _ _ e => e) (fun b ps e => ⟨#[], by rw [e]; simp⟩) (fun m hm => ?_) (fun b u e => ?_) I.bare
  · have e : b = it := by simpa using hb
    subst e
    exact ⟨h1, hL, h2, h3⟩
  · obtain ⟨o, es, ep, ho, r⟩ := hm
    exact ⟨o, es, ep, k _ o (Ne.symm hL) ho, r⟩
  · refine (I.hok b u e).stay (fun c v hc q => k c v ?_ q) (fun _ q => q) fun _ _ q => q
    rcases hc with z | z
    · rw [z]; exact nit b u e
    · exact nit c _ z
theorem Inv.tok (I : Inv X pins σ H s) (t : Nat) : Inv X pins σ H { s with toks := t } := I.un (h' := s.heap) (t' := t) Un.refl I.hok
theorem Inv.kept {t' : Nat} (I : Inv X pins σ H s) (k : ∀ b u, s.heap.get? b = some u → h'.get? b = some u) : Inv X pins σ H { s with heap := h', toks := t' } := I.un (Un.kept k) (I.hok.kept k)
theorem Inv.laid {a : Addr} {o : HO} {t' : Nat} (I : Inv X pins σ H s) (k : ∀ b u, s.heap.get? b = some u → h'.get? b = some u) (hp : s.heap.objs.size ≤ a) (new : ObjOk X.prog X.w (upd H a o) h' a o) :
    Inv X pins σ (upd H a o) { s with heap := h', toks := t' } := I.un (Un.laid k hp (I.hok.fresh hp)) (I.hok.laid k hp new)
theorem Inv.write {x e : Addr} {o : HO} {t' : Nat} (I : Inv X pins σ H s) (mu : Mut (H x)) (he : e = x ∨ H e = some (.own x)) (k : ∀ b u, b ≠ e → s.heap.get? b = some u → h'.get? b = some u) (heo : ∃ u, h'.get? e = some u)
    (new : ObjOk X.prog X.w (upd H x o) h' x o) : Inv X pins σ (upd H x o) { s with heap := h', toks := t' } := I.un (Un.write mu he k heo) (I.hok.write mu he k heo new)
theorem Inv.pins_of {pins' : List (Addr × Obj)} (I : Inv X pins σ H s) (h : ∀ p ∈ pins', s.heap.get? p.1 = some p.2 ∧ H p.1 = none ∧ p.1 ≠ X.env.locals ∧ p.1 ∉ X.fs ∧ ∀ v, p.2.data ≠ .cell v) : Inv X pins' σ H s :=
  ⟨I.ok, I.os, I.bare, I.base, I.loc, I.cell, I.free, I.freeC, fun p hp => (List.mem_append.mp hp).elim (fun z => I.pin p (List.mem_append_left _ z)) (h p), I.hok, I.len⟩
theorem nodup_ix {N : List Str} (hN : N.Nodup) {i j : Nat} {x : Str} (a : N[i]? = some x) (b : N[j]? = some x) : i = j := by
  obtain ⟨h1, e1⟩ := List.getElem?_eq_some_iff.mp a
  obtain ⟨h2, e2⟩ := List.getElem?_eq_some_iff.mp b
  exact (List.getElem_inj hN).mp (e1.trans e2.symm)
theorem store_ok2 {M : Model} {A : Around} {E : Value → Shared → Prop} {i : Nat} {x : Str} {v : V} {u : Value} {Q : Unit → Shared → Prop} (I : Inv X pins σ H s) (hN : X.N.Nodup) (hi : X.N[i]? = some x) (hx : Loc X.env.scope x) (r : RelV v u)
    (h : ∀ s', Inv X pins (σ.set i (some v)) H s' → (∃ a, Heap.SameBut a s.heap s'.heap ∧ (a = X.env.locals ∨ X.env.cells.lookup x = some a)) → Q () s') (hf : X.fn x = true ∨ X.env.scope.names.lookup x = some .local := by first | exact .inl rfl | exact .inr rfl | assumption) : wpAny M A (storeName X.env x u) Q E s := by
  obtain ⟨m, hn, hl⟩ := id I.loc
  have hcls : (X.env.scope.kind == .class || (X.env.scope.kind == .module && X.env.locals != X.env.globals)) = false := by rw [I.ok.kind]; rfl
  have hiσ : i < σ.length := by rw [I.len]; exact (List.getElem?_eq_some_iff.mp hi).1
  have cne := I.cne
  have tracked : ∀ {a : Addr} {h' : Heap}, (∃ o, s.heap.get? a = some o ∧ H a = none) → Heap.SameBut a s.heap h' → HOk X.prog X.w H h' := fun {a h'} ha hs b ob e => by
    obtain ⟨_, _, hfree⟩ := ha
    refine (I.hok b ob e).stay (fun c w' hc q => (hs.2 c ?_).trans q) (fun _ q => q) fun _ _ q => q
    rintro rfl
    rcases hc with rfl | hc
    · rw [hfree] at e; cases e
    · rw [hfree] at hc; cases hc
  rcases hx with hk | hk
  · refine wpAny_storeName_local hk hn (fun h' hn' hs => ?_) hcls
    obtain ⟨oL, _, _, hoL, _⟩ := id hn
    refine h _ ⟨I.ok, I.os, I.bare, ⟨fun b o e n hb hx => ?_, fun b o e n hb hx => ?_, I.base.free, fun b o e hx => ?_, I.base.tups, I.base.frzs, I.base.tbls⟩, ⟨_, hn', fun j y v' e1 e2 e3 => ?_⟩, fun y c e => ?_, I.free, I.freeC, fun p hp => ?_, tracked ⟨oL, hoL, I.free⟩ hs, by simpa using I.len⟩ ⟨_, hs, .inl rfl⟩
    · exact (hs.2 b (Nat.ne_of_lt (Nat.lt_of_lt_of_le (Heap.lt_size e) I.ok.above))).trans (I.base.keep b o e n hb hx)
    · obtain ⟨sl, e1⟩ := I.base.slot b o e n hb hx
      exact ⟨sl, (hs.2 b (Nat.ne_of_lt (Nat.lt_of_lt_of_le (Heap.lt_size e) I.ok.above))).trans e1⟩
    · obtain ⟨o', e1⟩ := I.base.there b o e hx
      exact ⟨o', (hs.2 b (Nat.ne_of_lt (Nat.lt_of_lt_of_le (Heap.lt_size e) I.ok.above))).trans e1⟩
    · by_cases hj : j = i
      · subst hj
        rw [hi] at e1; cases e1
        rw [List.getElem?_set_self hiσ] at e2
        cases e2
        exact ⟨u, r, .inl ⟨hk, by simp⟩⟩
      · rw [List.getElem?_set_ne (Ne.symm hj)] at e2
        obtain ⟨u', r', q⟩ := hl j y v' e1 e2 e3
        refine ⟨u', r', ?_⟩
        rcases q with ⟨k, e⟩ | ⟨k, c, e, z⟩
        · refine .inl ⟨k, ?_⟩
          have : y ≠ x := fun e => hj (nodup_ix hN e1 (e ▸ hi))
          simp [this, e]
        · exact .inr ⟨k, c, e, z.sameBut hs (cne y c e)⟩
    · obtain ⟨w', z⟩ := I.cell y c e
      exact ⟨w', z.sameBut hs (cne y c e)⟩
    · obtain ⟨e, n, ne, nf, d⟩ := I.pin p hp
      exact ⟨(hs.2 p.1 ne).trans e, n, ne, nf, d⟩
  · have hfn : X.fn x = true := by
      rcases hf with z | z
      · exact z
      · rw [z] at hk; cases hk
    obtain ⟨c, hc⟩ := I.ok.has x (.inl hk)
    obtain ⟨w', z⟩ := I.cell x c hc
    refine wpAny_storeName_cell I.ok.kind hk hc z (fun h' hc' hs => ?_)
    obtain ⟨oc, hoc, hocd⟩ := id z
    refine h { s with heap := h' } ⟨I.ok, I.os, I.bare, ⟨fun b o e n hb hx => ?_, fun b o e n hb hx => ?_, I.base.free, fun b o e hx => ?_, I.base.tups, I.base.frzs, I.base.tbls⟩, ⟨m, hn.sameBut hs (Ne.symm (cne x c hc)), fun j y v' e1 e2 e3 => ?_⟩, fun y c' e => ?_, I.free, I.freeC, fun p hp => ?_, tracked ⟨oc, hoc, I.freeC x c hc⟩ hs, by simpa using I.len⟩ ⟨c, hs, .inr hc⟩
    · exact (hs.2 b (Nat.ne_of_lt (Nat.lt_of_lt_of_le (Heap.lt_size e) (I.ok.cab x c hfn hc)))).trans (I.base.keep b o e n hb hx)
    · obtain ⟨sl, e1⟩ := I.base.slot b o e n hb hx
      exact ⟨sl, (hs.2 b (Nat.ne_of_lt (Nat.lt_of_lt_of_le (Heap.lt_size e) (I.ok.cab x c hfn hc)))).trans e1⟩
    · obtain ⟨o', e1⟩ := I.base.there b o e hx
      exact ⟨o', (hs.2 b (Nat.ne_of_lt (Nat.lt_of_lt_of_le (Heap.lt_size e) (I.ok.cab x c hfn hc)))).trans e1⟩
    · by_cases hj : j = i
      · subst hj
        rw [hi] at e1; cases e1
        rw [List.getElem?_set_self hiσ] at e2
        cases e2
        exact ⟨u, r, .inr ⟨.inl hk, c, hc, hc'⟩⟩
      · rw [List.getElem?_set_ne (Ne.symm hj)] at e2
        obtain ⟨u', r', q⟩ := hl j y v' e1 e2 e3
        refine ⟨u', r', ?_⟩
        rcases q with q | ⟨k, c', e, z'⟩
        · exact .inl q
        · refine .inr ⟨k, c', e, z'.sameBut hs ?_⟩
          rintro rfl
          exact hj (nodup_ix hN e1 (I.ok.inj _ _ _ e hc ▸ hi))
    · by_cases hcc : c' = c
      · subst hcc; exact ⟨_, hc'⟩
      · obtain ⟨w2, z2⟩ := I.cell y c' e
        exact ⟨w2, z2.sameBut hs hcc⟩
    · obtain ⟨e, n, ne, nf, d⟩ := I.pin p hp
      refine ⟨(hs.2 p.1 ?_).trans e, n, ne, nf, d⟩
      intro q
      rw [q, hoc] at e
      have q' : oc = p.2 := Option.some.inj e
      exact d w' (by rw [← q']; exact hocd)
theorem store_ok {M : Model} {A : Around} {E : Value → Shared → Prop} {i : Nat} {x : Str} {v : V} {u : Value} {Q : Unit → Shared → Prop} (I : Inv X pins σ H s) (hN : X.N.Nodup) (hi : X.N[i]? = some x) (hx : Loc X.env.scope x) (r : RelV v u)
    (h : ∀ s', Inv X pins (σ.set i (some v)) H s' → Q () s') (hf : X.fn x = true ∨ X.env.scope.names.lookup x = some .local := by first | exact .inl rfl | exact .inr rfl | assumption) : wpAny M A (storeName X.env x u) Q E s :=
  store_ok2 I hN hi hx r (fun s' I' _ => h s' I') hf
theorem Inv.call' {s' : Shared} {ch : List Addr} (I : Inv X pins σ H s) (ho : s'.os = s.os) (u : Un (frs X.stack) ch H H' s.heap s'.heap) (hok : HOk X.prog X.w H' s'.heap) (hg : AllBare s'.gens)
    (hch : ∀ b ∈ ch, (b ∈ X.ex ∨ X.s₀.heap.objs.size ≤ b) ∧ b ≠ X.env.locals ∧ (∀ x c, X.env.cells.lookup x = some c → c ≠ b) ∧ ∀ p ∈ X.pn ++ pins, p.1 ≠ b) : Inv X pins σ H' s' := by
  obtain ⟨h', g', d', t', o'⟩ := s'
  have e : o' = s.os := ho
  subst e
  exact I.call (g' := g') (t' := t') (d' := d') u hok hg hch
end
abbrev XK := Value → Option Addr → Hp → Prop
abbrev St := List (Option V)
abbrev VK := V → Hp → Prop
abbrev TE := St → Hp → VK → Prop
abbrev TT := St → Hp → (Bool → Hp → Prop) → Prop
abbrev TA := St → Hp → (List V → Hp → Prop) → Prop
structure Ends where
  nx : St → Hp → Prop
  rt : VK
  bk : St → Hp → Prop := fun _ _ => False
  ct : St → Hp → Prop := fun _ _ => False
abbrev TS := Ends → St → Hp → Prop
def EP (X : Cx) (pins : List (Addr × Obj)) (σ : St) (Q : VK) (u : Value) (s' : Shared) : Prop := ∃ v H', Inv X pins σ H' s' ∧ RelV v u ∧ Q v H'
def TP (X : Cx) (pins : List (Addr × Obj)) (σ : St) (Q : Bool → Hp → Prop) (b : Bool) (s' : Shared) : Prop := ∃ H', Inv X pins σ H' s' ∧ Q b H'
def AP (X : Cx) (pins : List (Addr × Obj)) (σ : St) (Q : List V → Hp → Prop) (us : List Value) (s' : Shared) : Prop := ∃ vs H', Inv X pins σ H' s' ∧ Vals vs us ∧ Q vs H'
def SP (X : Cx) (pins : List (Addr × Obj)) (D : Ends) (f : Flow) (s' : Shared) : Prop :=
  match f with
  | .next => ∃ σ' H', Inv X pins σ' H' s' ∧ D.nx σ' H'
  | .brk => ∃ σ' H', Inv X pins σ' H' s' ∧ D.bk σ' H'
  | .cont => ∃ σ' H', Inv X pins σ' H' s' ∧ D.ct σ' H'
  | .ret u => ∃ v σ' H', Inv X pins σ' H' s' ∧ RelV v u ∧ D.rt v H'
def PE (X : Cx) (e : Expr) (t : TE) : Prop :=
  ∀ (pins : List (Addr × Obj)) (s : Shared) (σ : St) (H : Hp) (Q : VK), Inv X pins σ H s → t σ H Q → wpAny (model X.prog X.w) X.A (eval e X.env) (EP X pins σ Q) X.xe s
def PT (X : Cx) (e : Expr) (t : TT) : Prop :=
  ∀ (pins : List (Addr × Obj)) (s : Shared) (σ : St) (H : Hp) (Q : Bool → Hp → Prop), Inv X pins σ H s → t σ H Q → wpAny (model X.prog X.w) X.A (isTrue e X.env (eval e X.env)) (TP X pins σ Q) X.xe s
def PA (X : Cx) (es : List Expr) (t : TA) : Prop :=
  ∀ (pos : Pos) (pins : List (Addr × Obj)) (s : Shared) (σ : St) (H : Hp) (Q : List V → Hp → Prop), Inv X pins σ H s → t σ H Q → wpAny (model X.prog X.w) X.A (spliced (backTo pos (starEach es X.env))) (AP X pins σ Q) X.xe s
def PS (X : Cx) (st : Stmt) (t : TS) : Prop :=
  ∀ (pins : List (Addr × Obj)) (s : Shared) (σ : St) (H : Hp) (D : Ends), Inv X pins σ H s → t D σ H → wpAny (model X.prog X.w) X.A (exec st X.env) (SP X pins D) X.xe s
def PSs (X : Cx) (st : List Stmt) (t : TS) : Prop :=
  ∀ (pins : List (Addr × Obj)) (s : Shared) (σ : St) (H : Hp) (D : Ends), Inv X pins σ H s → t D σ H → wpAny (model X.prog X.w) X.A (execs st X.env) (SP X pins D) X.xe s
theorem thn {α : Type} {t : Sem α} {Q Q' : α → Shared → Prop} {M : Model} {A : Around} {E : Value → Shared → Prop} {s : Shared} (h : wpAny M A t Q E s) (hQ : ∀ a s, Q a s → Q' a s) : wpAny M A t Q' E s := wpAny_mono h hQ fun _ _ x => x
end L2
namespace L2
open PySem PySem.Spec PyProof.Rows
section
variable {X : Cx}
def tVar (i : Nat) : TE := fun σ H Q => ∃ v, σ[i]? = some (some v) ∧ Q v H
def tC (v : V) : TE := fun _ H Q => Q v H
theorem pe_var {i : Nat} {x : Str} {pos : Pos} (hN : X.N[i]? = some x) (hv : Vis X.env.scope x) (hd : (x == ("__debug__" : Str)) = false := by decide) (hcd : (x == ("__classdict__" : Str)) = false := by decide) : PE X (.Name x pos) (tVar i) := by
  intro pins s σ H Q I h
  obtain ⟨v, e, h⟩ := h
  obtain ⟨m, hn, hl⟩ := I.loc
  obtain ⟨u, r, l⟩ := hl i x v hN e hv
  have fin : EP X pins σ Q u s := ⟨v, H, I, r, h⟩
  rcases l with ⟨hk, hm⟩ | ⟨hk, c, hc, hcell⟩
  · exact wpAny_Name (wpAny_loadName_local I.ok.kind hk hn hm fin) hd
  · rcases hk with hk | hk
    · exact wpAny_Name (wpAny_loadName_cell I.ok.kind hk hc hcell fin) hd
    · exact wpAny_Name (wpAny_loadName_free I.ok.kind hk hc hcell fin hcd) hd
theorem pe_int {i j pos} : PE X (.Constant (.int i) j pos) (tC (.int i)) := fun _ _ _ H _ I h => wpAny_Constant_int ⟨.int i, H, I.tok _, ⟨_, rfl⟩, h⟩
theorem pe_bl {b j pos} : PE X (.Constant (.bool b) j pos) (tC (.bl b)) := fun _ _ _ H _ I h => Constant_bool ⟨.bl b, H, I, rfl, h⟩
theorem pe_non {j pos} : PE X (.Constant .none j pos) (tC .non) := fun _ _ _ H _ I h => Constant_none ⟨.non, H, I, rfl, h⟩
theorem pe_str {x j pos} : PE X (.Constant (.str x) j pos) (tC (.str x)) := fun _ _ _ H _ I h => Calls.Constant_str ⟨.str x, H, I.tok _, ⟨_, rfl⟩, h⟩
def Gl (X : Cx) (x : Str) : Prop := X.env.kindOf x = some .globalImplicit
theorem ld_glob {E : Value → Shared → Prop} {pins : List (Addr × Obj)} {s : Shared} {σ : St} {H : Hp} {x : Str} {u : Value} {pos : Pos} {Q : Value → Shared → Prop} (I : Inv X pins σ H s) (hg : Gl X x) (hm : X.mg x = some u) (h : Q u s)
    (hd : (x == ("__debug__" : Str)) = false := by decide) : wpAny (model X.prog X.w) X.A (eval (.Name x pos) X.env) Q E s :=
  Calls.Name_function_global I.ok.kind hg (Calls.loadGlobal_global (by rw [I.ok.glob]; exact I.mod.glob.keeps I.bk) hm h) hd
theorem ld_blt {E : Value → Shared → Prop} {pins : List (Addr × Obj)} {s : Shared} {σ : St} {H : Hp} {x : Str} {u : Value} {pos : Pos} {Q : Value → Shared → Prop} (I : Inv X pins σ H s) (hg : Gl X x) (hm : X.mg x = none) (hv : bootBuiltins x = some u) (h : Q u s)
    (hn : x ≠ "__name__" := by decide) (hd : (x == ("__debug__" : Str)) = false := by decide) : wpAny (model X.prog X.w) X.A (eval (.Name x pos) X.env) Q E s := by
  obtain ⟨mb, h1, h2⟩ := I.mod.blt
  exact Calls.Name_function_global I.ok.kind hg (Calls.loadGlobal_builtin (by rw [I.ok.glob]; exact I.mod.glob.keeps I.bk) hm (by rw [I.ok.blt]; exact h1.keeps I.bk) ((h2 x hn).trans hv) h) hd
variable {a b : Expr} {ta tb : TE} {pos : Pos}
theorem nobehind (b : Expr) {op : CmpOp} (h : op ≠ .In) (h2 : op ≠ .NotIn) : behindInMarks op b = false := by
  have e1 : (op == CmpOp.In) = false := by cases op <;> first | rfl | exact absurd rfl h
  have e2 : (op == CmpOp.NotIn) = false := by cases op <;> first | rfl | exact absurd rfl h2
  cases b <;> simp [behindInMarks, e1, e2]
variable {tA tB' : TT} {rest : List Expr}
def tAnd (t u : TT) : TT := fun σ H Q => t σ H fun c H1 => if c = true then u σ H1 Q else Q false H1
def tOr (t u : TT) : TT := fun σ H Q => t σ H fun c H1 => if c = true then Q true H1 else u σ H1 Q
def tNot (t : TT) : TT := fun σ H Q => t σ H fun c H1 => Q (!c) H1
end
end L2
namespace L2
open PySem PySem.Spec PyProof.Rows
def SqL (K : PySem.W.Frag) (H : Hp) (a : Addr) (xs : List V) : Prop :=
  Rd H a (.lst xs) ∨
    ∃ (o : Obj) (its : Array Value) (n : Nat), K.lookup a = some o ∧ o.cls = .type "list" ∧ o.dict = none ∧ o.data = .seq its n ∧ its.size ≤ sizeLine ∧ Vals xs its.toList
def SqT (K : PySem.W.Frag) (H : Hp) (a : Addr) (xs : List V) : Prop :=
  Rd H a (.tup xs) ∨
    ∃ (o : Obj) (its : Array Value) (n : Nat), K.lookup a = some o ∧ o.cls = .type "tuple" ∧ o.data = .seq its n ∧ its.size ≤ sizeLine ∧ Vals xs its.toList
def absV : Value → Option V
  | .none => some .non
  | .bool b => some (.bl b)
  | .int i _ => some (.int i)
  | .str x _ => some (.str x)
  | .bytes b _ => some (.byt b)
  | .float b _ => some (.flt b)
  | .ref a => some (.ref a)
  | .type n => some (.ty n)
  | _ => none
theorem RelV.abs {x : V} {u : Value} (r : RelV x u) : absV u = some x := by
  cases x with
  | non => cases r; rfl
  | bl _ => cases r; rfl
  | int _ => obtain ⟨t, rfl⟩ := r; rfl
  | str _ => obtain ⟨t, rfl⟩ := r; rfl
  | byt _ => obtain ⟨t, rfl⟩ := r; rfl
  | flt _ => obtain ⟨t, rfl⟩ := r; rfl
  | ref _ => cases r; rfl
  | ty _ => cases r; rfl
theorem RelV.inj {x y : V} {u : Value} (r : RelV x u) (q : RelV y u) : x = y := Option.some.inj (r.abs.symm.trans q.abs)
theorem Vals.inj : ∀ {xs ys : List V} {us : List Value}, Vals xs us → Vals ys us → xs = ys
  | _, _, _, .nil, .nil => rfl
  | _, _, _, .cons r t, .cons r' t' => by rw [r.inj r', Vals.inj t t']
section
variable {X : Cx} {pins : List (Addr × Obj)} {σ : St} {H : Hp} {s : Shared} {a : Addr} {xs ys : List V}
theorem SqL.of {K : PySem.W.Frag} (h : H a = some (.lst xs)) : SqL K H a xs := .inl (.inl h)
theorem SqT.of {K : PySem.W.Frag} (h : H a = some (.tup xs)) : SqT K H a xs := .inl (.inl h)
theorem Inv.list (I : Inv X pins σ H s) (h : SqL X.K H a xs) : ∃ its : List Value, Vals xs its ∧ PlainL s.heap a its.toArray ∧ xs.length ≤ sizeLine := by
  rcases h with h | ⟨o, its, n, hk, hc, hd, hs, hz, r⟩
  · obtain ⟨z, its, n, r, e⟩ := h.ok I.hok
    exact ⟨its, r, ⟨_, n, e, rfl, rfl, rfl⟩, z⟩
  · refine ⟨its.toList, r, ⟨o, n, I.kIn a o hk, hc, hd, by simpa using hs⟩, ?_⟩
    have e := r.length
    simp only [Array.length_toList] at e
    omega
theorem Inv.tuple (I : Inv X pins σ H s) (h : SqT X.K H a xs) : ∃ its : List Value, Vals xs its ∧ IsTup s.heap a its.toArray ∧ xs.length ≤ sizeLine := by
  rcases h with h | ⟨o, its, n, hk, hc, hs, hz, r⟩
  · obtain ⟨z, its, r, p⟩ := h.ok I.hok
    exact ⟨its, r, p, z⟩
  · refine ⟨its.toList, r, ⟨o, I.kIn a o hk, hc, n, by simpa using hs⟩, ?_⟩
    have e := r.length
    simp only [Array.length_toList] at e
    omega
theorem Inv.list_inj (I : Inv X pins σ H s) (h : SqL X.K H a xs) (h' : SqL X.K H a ys) : xs = ys := by
  obtain ⟨its, r, ⟨o, n, e, _, _, d⟩, _⟩ := I.list h
  obtain ⟨its', r', ⟨o', n', e', _, _, d'⟩, _⟩ := I.list h'
  rw [e] at e'; cases e'
  rw [d] at d'
  injection d' with d1 _
  have : its = its' := by simpa using congrArg Array.toList d1
  subst this
  exact r.inj r'
theorem Inv.tuple_inj (I : Inv X pins σ H s) (h : SqT X.K H a xs) (h' : SqT X.K H a ys) : xs = ys := by
  obtain ⟨its, r, ⟨o, e, _, n, d⟩, _⟩ := I.tuple h
  obtain ⟨its', r', ⟨o', e', _, n', d'⟩, _⟩ := I.tuple h'
  rw [e] at e'; cases e'
  rw [d] at d'
  injection d' with d1 _
  have : its = its' := by simpa using congrArg Array.toList d1
  subst this
  exact r.inj r'
end
abbrev Cx.wish (X : Cx) (E : Value → Shared → Prop) : Cx := { X with xe := E }
abbrev Cx.nox (X : Cx) : Cx := X.wish fun _ _ => False
theorem Cx.Ok.wish {X : Cx} (ok : X.Ok) (E : Value → Shared → Prop) : (X.wish E).Ok :=
  ⟨ok.mod, ok.kind, ok.glob, ok.blt, ok.above, ok.inj, ok.has, ok.cab, ok.hd, ok.frames, ok.stk, ok.exf, ok.bs, ok.bsz, ok.noex, ok.exfs, ok.funs, ok.frf⟩
theorem Cx.Ok.unwish {X : Cx} {E : Value → Shared → Prop} (ok : (X.wish E).Ok) : X.Ok :=
  ⟨ok.mod, ok.kind, ok.glob, ok.blt, ok.above, ok.inj, ok.has, ok.cab, ok.hd, ok.frames, ok.stk, ok.exf, ok.bs, ok.bsz, ok.noex, ok.exfs, ok.funs, ok.frf⟩
section
variable {X : Cx} {pins : List (Addr × Obj)} {σ : St} {H : Hp} {s : Shared} {E : Value → Shared → Prop}
theorem Inv.wish (I : Inv X pins σ H s) (E : Value → Shared → Prop) : Inv (X.wish E) pins σ H s := ⟨I.ok.wish E, I.os, I.bare, I.base, I.loc, I.cell, I.free, I.freeC, I.pin, I.hok, I.len⟩
theorem Inv.unwish (I : Inv (X.wish E) pins σ H s) : Inv X pins σ H s := ⟨I.ok.unwish, I.os, I.bare, I.base, I.loc, I.cell, I.free, I.freeC, I.pin, I.hok, I.len⟩
theorem SP.unwish {D : Ends} {f : Flow} {s' : Shared} (h : SP (X.wish E) pins D f s') : SP X pins D f s' := by
  cases f with
  | next => obtain ⟨σ', H', I, q⟩ := h; exact ⟨σ', H', I.unwish, q⟩
  | brk => obtain ⟨σ', H', I, q⟩ := h; exact ⟨σ', H', I.unwish, q⟩
  | cont => obtain ⟨σ', H', I, q⟩ := h; exact ⟨σ', H', I.unwish, q⟩
  | ret u => obtain ⟨v, σ', H', I, r, q⟩ := h; exact ⟨v, σ', H', I.unwish, r, q⟩
theorem PE.nox {e : Expr} {t : TE} (h : PE X.nox e t) : PE X e t := fun pins s σ H Q I hw =>
  wpAny_mono (h pins s σ H Q (I.wish _) hw) (fun _ _ ⟨v, H', I', r, q⟩ => ⟨v, H', I'.unwish, r, q⟩) fun _ _ z => False.elim z
theorem PT.nox {e : Expr} {t : TT} (h : PT X.nox e t) : PT X e t := fun pins s σ H Q I hw =>
  wpAny_mono (h pins s σ H Q (I.wish _) hw) (fun _ _ ⟨H', I', q⟩ => ⟨H', I'.unwish, q⟩) fun _ _ z => False.elim z
theorem PSs.nox {st : List Stmt} {t : TS} (h : PSs X.nox st t) : PSs X st t := fun pins s σ H D I hw =>
  wpAny_mono (h pins s σ H D (I.wish _) hw) (fun _ _ q => q.unwish) fun _ _ z => False.elim z
end
section
variable {X : Cx} {st : Stmt} {rest : List Stmt} {t u : TS} {e : Expr} {te : TE} {pos : Pos}
theorem pss_one (h1 : PS X st t) : PSs X [st] t := by
  intro pins s σ H D I h
  refine wpAny_execs_cons (thn (h1 pins s σ H D I h) fun f s1 q => ?_)
  cases f with
  | next => exact wpAny_execs_nil q
  | ret v => exact q
  | brk => exact q
  | cont => exact q
theorem Inv.quiet {pins : List (Addr × Obj)} {σ : St} {H : Hp} {s : Shared} (I : Inv X pins σ H s) : interactive X.env = false := by simp [interactive, I.ok.kind]
def tDrop (te : TE) : TS := fun D σ H => te σ H fun _ H1 => D.nx σ H1
theorem ps_expr (he : PE X e te) (hs : swapsWith e none pos.line X.env = pure false := by rfl) : PS X (.Expr e pos) (tDrop te) := by
  intro pins s σ H D I h
  exact wpAny_Expr_any (thn (he pins s σ H _ I h) fun v s1 ⟨x, H1, I1, r1, q1⟩ => ⟨σ, H1, I1, q1⟩) I.quiet hs
def tRet (te : TE) : TS := fun D σ H => te σ H D.rt
theorem ps_ret (he : PE X e te) : PS X (.Return (some e) pos) (tRet te) := by
  intro pins s σ H D I h
  exact wpAny_Return_some (thn (he pins s σ H _ I h) fun v s1 ⟨x, H1, I1, r1, q1⟩ => ⟨x, σ, H1, I1, r1, q1⟩)
end
abbrev TG := V → St → Hp → (St → Hp → Prop) → Prop
abbrev TGs := List V → St → Hp → (St → Hp → Prop) → Prop
def PG (X : Cx) (target : Expr) (t : TG) : Prop :=
  ∀ (pins : List (Addr × Obj)) (s : Shared) (σ : St) (H : Hp) (v : V) (u : Value) (Q : St → Hp → Prop), Inv X pins σ H s → RelV v u → t v σ H Q →
    wpAny (model X.prog X.w) X.A (assign target X.env u) (fun _ s' => ∃ σ' H', Inv X pins σ' H' s' ∧ Q σ' H') X.xe s
def PGs (X : Cx) (ts : List Expr) (t : TGs) : Prop :=
  ∀ (pins : List (Addr × Obj)) (s : Shared) (σ : St) (H : Hp) (vs : List V) (us : List Value) (Q : St → Hp → Prop), Inv X pins σ H s → Vals vs us → t vs σ H Q →
    wpAny (model X.prog X.w) X.A (assignInOrder ((assignEach ts X.env).map (·.2)) us) (fun _ s' => ∃ σ' H', Inv X pins σ' H' s' ∧ Q σ' H') X.xe s
abbrev TSet := V → V → V → Hp → (Hp → Prop) → Prop
def PSet (X : Cx) (t : TSet) : Prop :=
  ∀ (pins : List (Addr × Obj)) (s : Shared) (σ : St) (H : Hp) (o i v : V) (ov iv u : Value) (Q : Hp → Prop), Inv X pins σ H s → RelV o ov → RelV i iv → RelV v u → t o i v H Q →
    wpAny (model X.prog X.w) X.A (setItem ov iv u) (fun _ s' => ∃ H', Inv X pins σ H' s' ∧ Q H') X.xe s
abbrev TIp := V → V → Hp → VK → Prop
def PIp (X : Cx) (op : Operator) (t : TIp) : Prop :=
  ∀ (pins : List (Addr × Obj)) (s : Shared) (σ : St) (H : Hp) (x y : V) (v u : Value) (Q : VK), Inv X pins σ H s → RelV x v → RelV y u → t x y H Q →
    wpAny (model X.prog X.w) X.A (inplaceOp op v u) (EP X pins σ Q) X.xe s
section
variable {X : Cx} {pos : Pos}
def gName (i : Nat) : TG := fun v σ H Q => Q (σ.set i (some v)) H
theorem pg_name {i : Nat} {x : Str} (hN : X.N.Nodup) (hi : X.N[i]? = some x) (hx : Loc X.env.scope x) (hf : X.fn x = true ∨ X.env.scope.names.lookup x = some .local := by first | exact .inl rfl | exact .inr rfl | assumption) : PG X (.Name x pos) (gName i) := by
  intro pins s σ H v u Q I r h
  exact wpAny_assign_Name (store_ok I hN hi hx r (fun s' I' => ⟨_, H, I', h⟩) hf)
def gNil : TGs := fun vs σ H Q => vs = [] ∧ Q σ H
def gCons (t : TG) (u : TGs) : TGs := fun vs σ H Q => ∃ v r, vs = v :: r ∧ t v σ H fun σ' H' => u r σ' H' Q
theorem pgs_nil : PGs X [] gNil := by
  intro pins s σ H vs us Q I r h
  obtain ⟨e, h⟩ := h
  subst e
  cases r
  exact assignInOrder_nil ⟨σ, H, I, h⟩
theorem pgs_cons {e : Expr} {es : List Expr} {t : TG} {u : TGs} (h1 : PG X e t) (h2 : PGs X es u)
    (hs : (assignEach (e :: es) X.env).map (·.2) = assign e X.env :: (assignEach es X.env).map (·.2) := by rfl) : PGs X (e :: es) (gCons t u) := by
  intro pins s σ H vs us Q I r h
  obtain ⟨v, vr, e1, h⟩ := h
  subst e1
  cases r with
  | cons r rr =>
    rw [hs]
    refine assignInOrder_cons (thn (h1 pins s σ H _ _ _ I r h) fun _ s1 ⟨σ1, H1, I1, q1⟩ => ?_)
    exact h2 pins s1 σ1 H1 _ _ Q I1 rr q1
def gTup (K : PySem.W.Frag) (n : Nat) (t : TGs) : TG := fun v σ H Q => ∃ a xs, v = .ref a ∧ SqT K H a xs ∧ xs.length = n ∧ t xs σ H Q
theorem pg_tup {es : List Expr} {k : Nat} {t : TGs} {n : Nat} (hc : X.calm = true) (h : PGs X es t)
    (hn : (assignEach es X.env).length = n := by rfl) (hst : (assignEach es X.env).findIdx? (·.1) = none := by rfl) : PG X (.Tuple es k pos) (gTup X.K n t) := by
  intro pins s σ H v u Q I r hw
  obtain ⟨a, xs, e1, hq, hl, hw⟩ := hw
  subst e1
  cases r
  obtain ⟨its, rv, ht, hz⟩ := I.tuple hq
  refine assign_Tuple_tuple (I.ok.hd hc) ht (by simp [hn, ← hl, rv.length]) hst fun h' hx => ?_
  have I1 : Inv X pins σ H { s with heap := h' } := I.kept (t' := s.toks) fun b o e => hx b o (Nat.ne_of_lt (Heap.lt_size e)) e
  exact h pins _ σ H xs _ Q I1 (by simpa using rv) hw
def gSub (to ti : TE) (t : TSet) : TG := fun v σ H Q => to σ H fun o H1 => ti σ H1 fun i H2 => t o i v H2 fun H3 => Q σ H3
theorem pg_sub {o i : Expr} {to ti : TE} {t : TSet} (ho : PE X o to) (hi : PE X i ti) (hs : PSet X t)
    (ha : ∀ v, assign (.Subscript o i pos) X.env v = (do
      let ov ← holding [v] (eval o X.env)
      let iv ← holding [v, ov] (eval i X.env)
      standAt pos
      holding [v, ov, iv] (setItem ov iv v)
      release [v, ov, iv] []) := by intro _; rfl) : PG X (.Subscript o i pos) (gSub to ti t) := by
  intro pins s σ H v u Q I r h
  rw [ha]
  refine wpAny_bind (wpAny_holding (thn (ho pins s σ H _ I h) fun ov s1 ⟨x, H1, I1, r1, q1⟩ => ?_))
  refine wpAny_bind (wpAny_holding (thn (hi pins s1 σ H1 _ I1 q1) fun iv s2 ⟨y, H2, I2, r2, q2⟩ => ?_))
  refine wpAny_bind (wpAny_standAt (wpAny_bind (wpAny_holding (thn (hs pins s2 σ H2 x y v ov iv u _ I2 r1 r2 r q2) fun _ s3 ⟨H3, I3, q3⟩ => ?_))))
  exact wpAny_release ⟨σ, H3, I3, q3⟩
def tAsg (te : TE) (g : TG) : TS := fun D σ H => te σ H fun x H1 => g x σ H1 D.nx
theorem ps_asg {tg e : Expr} {te : TE} {g : TG} (he : PE X e te) (hg : PG X tg g) (hs : swapsWithSole [tg] e pos.line X.env = pure false := by rfl) (hw : swappedStores [tg] e X.env = pure none := by rfl)
    (h1 : (assignEach [tg] X.env).map (·.2) = [assign tg X.env] := by rfl) : PS X (.Assign [tg] e pos) (tAsg te g) := by
  intro pins s σ H D I h
  refine wpAny_Assign_stores (thn (he pins s σ H _ I h) fun v s1 ⟨x, H1, I1, r1, q1⟩ => ?_) hs hw
  rw [h1]
  exact thn (hg pins s1 σ H1 x v _ I1 r1 q1) fun _ s2 q => q
def tAug (i : Nat) (te : TE) (ti : TIp) : TS := fun D σ H => ∃ x, σ[i]? = some (some x) ∧ te σ H fun y H1 => ti x y H1 fun z H2 => D.nx (σ.set i (some z)) H2
theorem ps_aug {i : Nat} {x : Str} {e : Expr} {te : TE} {op : Operator} {ti : TIp} {pos' : Pos} (hN : X.N.Nodup) (hi : X.N[i]? = some x) (hx : Loc X.env.scope x) (he : PE X e te) (ho : PIp X op ti) (hf : X.fn x = true ∨ X.env.scope.names.lookup x = some .local := by first | exact .inl rfl | exact .inr rfl | assumption) :
    PS X (.AugAssign (.Name x pos') op e pos) (tAug i te ti) := by
  intro pins s σ H D I h
  obtain ⟨v, e1, h⟩ := h
  obtain ⟨m, hn, hl⟩ := I.loc
  have vis : Vis X.env.scope x := by rcases hx with k | k; exact .inl k; exact .inr (.inl k)
  obtain ⟨u, r, l⟩ := hl i x v hi e1 vis
  refine wpAny_AugAssign_Name ?_
  have go : wpAny (model X.prog X.w) X.A (eval e X.env) (fun w s₂ => wpAny (model X.prog X.w) X.A (inplaceOp op u w) (fun r s₃ => wpAny (model X.prog X.w) X.A (storeName X.env x r) (fun _ => SP X pins D .next) X.xe s₃) X.xe s₂) X.xe s := by
    refine thn (he pins s σ H _ I h) fun w s1 ⟨y, H1, I1, r1, q1⟩ => ?_
    refine thn (ho pins s1 σ H1 v y u w _ I1 r r1 q1) fun z s2 ⟨zv, H2, I2, r2, q2⟩ => ?_
    exact store_ok I2 hN hi hx r2 (fun s3 I3 => ⟨_, H2, I3, q2⟩) hf
  rcases l with ⟨hk, hm⟩ | ⟨hk, c, hc, hcell⟩
  · exact wpAny_loadName_local I.ok.kind hk hn hm go
  · rcases hk with hk | hk
    · exact wpAny_loadName_cell I.ok.kind hk hc hcell go
    · rcases hx with k | k
      · have : X.env.scope.names.lookup x = some .free := hk
        rw [k] at this; cases this
      · have : X.env.scope.names.lookup x = some .free := hk
        rw [k] at this; cases this
end
section
variable {X : Cx} {pos : Pos}
def tWhile (c : TT) (tb : TS) : TS := fun D σ H => ∃ W : Nat → St → Hp → Prop, (∃ m, W m σ H) ∧ ∀ m σ H, W m σ H →
  c σ H fun b H1 => if b = true then ∃ N : St → Hp → Prop, (∀ σ' H', N σ' H' → ∃ m', m' < m ∧ W m' σ' H') ∧ tb { D with nx := N, ct := N, bk := D.nx } σ H1 else D.nx σ H1
theorem ps_while {c : Expr} {body : List Stmt} {tc : TT} {tb : TS} (hp : PassesOwn (model X.prog X.w) X.A X.env X.xe) (hc : PT X c tc) (hb : PSs X body tb) : PS X (.While c body [] pos) (tWhile tc tb) := by
  intro pins s σ H D I h
  obtain ⟨W, ⟨m0, w0⟩, turn⟩ := h
  refine wpAny_While (codeAny_whileLoop (fun n s' => ∃ σ' H', Inv X pins σ' H' s' ∧ W n σ' H') ?_ m0 ⟨σ, H, I, w0⟩)
  rintro n s1 ⟨σ1, H1, I1, w1⟩
  refine wpAny_passesOwn hp (thn (hc pins s1 σ1 H1 _ I1 (turn n σ1 H1 w1)) fun b s2 ⟨H2, I2, q2⟩ => ?_)
  cases b with
  | true =>
    obtain ⟨N, hN, q2⟩ := q2
    rw [if_pos rfl]
    refine wpAny_passesOwn hp (thn (hb pins s2 σ1 H2 _ I2 q2) fun f s3 q3 => ?_)
    cases f with
    | next =>
      obtain ⟨σ3, H3, I3, n3⟩ := q3
      obtain ⟨m', hm, w3⟩ := hN σ3 H3 n3
      exact ⟨m', hm, σ3, H3, I3, w3⟩
    | cont =>
      obtain ⟨σ3, H3, I3, n3⟩ := q3
      obtain ⟨m', hm, w3⟩ := hN σ3 H3 n3
      exact ⟨m', hm, σ3, H3, I3, w3⟩
    | brk => exact q3
    | ret v => exact q3
  | false =>
    rw [if_neg Bool.false_ne_true]
    exact wpAny_execs_nil ⟨σ1, H2, I2, q2⟩
end
structure It where
  go : Nat → Hp → Prop
  yld : Nat → Hp → V → Hp → Prop
  stop : Nat → Hp → Prop
def FpOk (X : Cx) (pins : List (Addr × Obj)) (H : Hp) (b : Addr) : Prop :=
  H b = none ∧ b ≠ X.env.locals ∧ b ∉ X.fs ∧ (b ∈ X.ex ∨ X.s₀.heap.objs.size ≤ b) ∧ (∀ x c, X.env.cells.lookup x = some c → c ≠ b) ∧ ∀ p ∈ X.pn ++ pins, p.1 ≠ b
theorem Inv.fpOk {X : Cx} {pins : List (Addr × Obj)} {σ : St} {H H' : Hp} {s : Shared} {b : Addr} (I : Inv X pins σ H s) (hb : s.heap.objs.size ≤ b) (hn : H' b = none) : FpOk X pins H' b := by
  refine ⟨hn, Nat.ne_of_gt (Nat.lt_of_lt_of_le I.lt hb), I.nofs hb, .inr (Nat.le_trans I.sz hb), fun x c e z => ?_, fun p hp z => ?_⟩
  · obtain ⟨v, q⟩ := I.cell x c e
    exact absurd (Nat.lt_of_lt_of_le q.lt (by rw [z]; exact hb)) (Nat.lt_irrefl _)
  · exact absurd (Nat.lt_of_lt_of_le (Heap.lt_size (I.pin p hp).1) (by rw [z]; exact hb)) (Nat.lt_irrefl _)
structure Turn (P : Program) (w : World) (K : PySem.W.Frag) (tg : Expr) (J : It) (fp : List Addr) (it : Addr) (tn : Nat → Heap → Prop) : Prop where
  mem : it ∈ fp
  obj : ∀ i h, tn i h → ∀ b ∈ fp, ∃ o, h.get? b = some o ∧ ∀ v, o.data ≠ .cell v
  keep : ∀ i h h', tn i h → (∀ b ∈ fp, ∀ o, h.get? b = some o → h'.get? b = some o) → tn i h'
  item : ∀ (X : Cx), X.prog = P → X.w = w → X.K = K → X.calm = true → ∀ (i : Nat) (pins : List (Addr × Obj)) (s : Shared) (σ : St) (H : Hp) (E : Value → Shared → Prop), Inv X pins σ H s → (∀ b ∈ fp, FpOk X pins H b) → tn i s.heap → J.go i H →
    wpAny (model P w) X.A (pyNext (.ref it)) (fun r s1 => ∃ u, r = some u ∧
      wpAny (model P w) X.A (letOwnedTupleGo tg (.ref it) u) (fun _ s2 => ∃ x H', Inv X pins σ H' s2 ∧ RelV x u ∧ J.yld i H x H' ∧ tn (i + 1) s2.heap ∧ ∀ b ∈ fp, H' b = none) E s1) E s
  done : ∀ (X : Cx), X.prog = P → X.w = w → X.K = K → X.calm = true → ∀ (i : Nat) (pins : List (Addr × Obj)) (s : Shared) (σ : St) (H : Hp) (E : Value → Shared → Prop), Inv X pins σ H s → (∀ b ∈ fp, FpOk X pins H b) → tn i s.heap → J.stop i H →
    wpAny (model P w) X.A (pyNext (.ref it)) (fun r s1 => r = none ∧ Inv X pins σ H s1) E s
  self : ∀ (A : Around) (i : Nat) (s : Shared) (Q : Value → Shared → Prop) (E : Value → Shared → Prop), tn i s.heap → Q (.ref it) s → wpAny (model P w) A (pyIter (.ref it)) Q E s
abbrev TI := St → Hp → (It → Hp → Prop) → Prop
def PIE (X : Cx) (pins : List (Addr × Obj)) (σ : St) (tg : Expr) (R : It → Hp → Prop) (itv : Value) (s2 : Shared) : Prop :=
  ∃ (it : Addr) (fp : List Addr) (tn : Nat → Heap → Prop) (J : It) (H' : Hp), itv = .ref it ∧ Inv X pins σ H' s2 ∧ Turn X.prog X.w X.K tg J fp it tn ∧ tn 0 s2.heap ∧ (∀ b ∈ fp, FpOk X pins H' b) ∧ R J H'
def PI (X : Cx) (tg iter : Expr) (wi : TI) : Prop :=
  ∀ (pins : List (Addr × Obj)) (s : Shared) (σ : St) (H : Hp) (R : It → Hp → Prop), Inv X pins σ H s → wi σ H R →
    wpAny (model X.prog X.w) X.A (eval iter X.env) (fun v s1 => wpAny (model X.prog X.w) X.A (pyIter v) (PIE X pins σ tg R) X.xe s1) X.xe s
theorem go_of {M : Model} {A : Around} {E : Value → Shared → Prop} {s : Shared} {tg : Expr} {it : Addr} {u : Value} {o : Obj} {n : String} {vs : Array Value} {Q : Unit → Shared → Prop} (ho : s.heap.get? it = some o) (hc : o.cls = .type n) (hd : o.data = .fields vs)
    (hn : ["enumerate", "zip", "dict_itemiterator", "dict_reverseitemiterator", "odict_iterator", "itertools.zip_longest", "itertools.pairwise"].contains n = false) (hQ : Q () s) : wpAny M A (letOwnedTupleGo tg (.ref it) u) Q E s := by
  unfold letOwnedTupleGo
  cases tg <;> first
    | exact wpAny_pure hQ
    | (cases u <;> first
        | exact wpAny_pure hQ
        | (refine wpAny_bind (wpAny_load ho ?_)
           rw [hc, hd]
           show wpAny M A (if (["enumerate", "zip", "dict_itemiterator", "dict_reverseitemiterator", "odict_iterator", "itertools.zip_longest", "itertools.pairwise"].contains n && vs[0]? == some (rawInt _)) = true then _ else _) Q E s
           rw [if_neg (by intro h; rw [hn, Bool.false_and] at h; cases h)]
           exact wpAny_pure hQ))
def Itl (K : PySem.W.Frag) (a : Addr) : It :=
  ⟨fun i H => ∃ xs x, SqL K H a xs ∧ xs[i]? = some x, fun i H x H' => H' = H ∧ ∀ xs, SqL K H a xs → xs[i]? = some x, fun i H => ∃ xs, SqL K H a xs ∧ xs.length ≤ i⟩
def Itt (K : PySem.W.Frag) (a : Addr) : It :=
  ⟨fun i H => ∃ xs x, SqT K H a xs ∧ xs[i]? = some x, fun i H x H' => H' = H ∧ ∀ xs, SqT K H a xs → xs[i]? = some x, fun i H => ∃ xs, SqT K H a xs ∧ xs.length ≤ i⟩
def Itr (lo : Int) (n : Nat) : It := ⟨fun i _ => i < n, fun i H x H' => H' = H ∧ x = .int (lo + i), fun i _ => n ≤ i⟩
theorem turn_list {P : Program} {w : World} {K : PySem.W.Frag} {tg : Expr} (a it : Addr) : Turn P w K tg (Itl K a) [it] it (fun i h => h.IsListIter it a i) where
  mem := by simp
  obj := fun i h st b hb => by
    have e : b = it := by simpa using hb
    subst e
    obtain ⟨o, e, c, d⟩ := st
    exact ⟨o, e, fun v z => by rw [d] at z; cases z⟩
  keep := fun i h h' st k => st.at fun o e => k it (by simp) o e
  item := by
    intro X hP hw hK hc i pins s σ H E I hf st hg
    subst hP hw hK
    obtain ⟨xs, x, hq, hx⟩ := hg
    obtain ⟨its, rv, p, hz⟩ := I.list hq
    obtain ⟨u, hu, ru⟩ := rv.get hx
    obtain ⟨f0, f1, f2, f3, f4, f5⟩ := hf it (by simp)
    refine wpAny_pyNext_list_item st p.isList (x := u) (by simpa using hu) fun h' st' sb => ?_
    have I1 : Inv X pins σ H { s with heap := h' } := I.turned (t' := s.toks) (fun b o hb e => (sb.2 b hb).trans e) f0 f1 f3 f4 f5
    obtain ⟨o, e, c, d⟩ := id st'
    exact ⟨u, rfl, go_of (s := { s with heap := h' }) e c d (by decide) ⟨x, H, I1, ru, ⟨rfl, fun ys hy => by rw [I.list_inj hy hq]; exact hx⟩, st', fun b hb => (hf b hb).1⟩⟩
  done := by
    intro X hP hw hK hc i pins s σ H E I hf st hg
    subst hP hw hK
    obtain ⟨xs, hq, hx⟩ := hg
    obtain ⟨its, rv, p, hz⟩ := I.list hq
    obtain ⟨f0, f1, f2, f3, f4, f5⟩ := hf it (by simp)
    have hl := rv.length
    exact wpAny_pyNext_list_end (I.ok.hd hc) st p.isList (by simp; omega) fun h' eb => ⟨rfl, I.turned (t' := s.toks) (fun b o hb e => eb b o hb e) f0 f1 f3 f4 f5⟩
  self := fun _ _ _ _ _ st h => wpAny_pyIter_listiter st h
theorem turn_tuple {P : Program} {w : World} {K : PySem.W.Frag} {tg : Expr} (a it : Addr) : Turn P w K tg (Itt K a) [it] it (fun i h => h.IsTupleIter it a i) where
  mem := by simp
  obj := fun i h st b hb => by
    have e : b = it := by simpa using hb
    subst e
    obtain ⟨o, e, c, d⟩ := st
    exact ⟨o, e, fun v z => by rw [d] at z; cases z⟩
  keep := fun i h h' st k => st.at fun o e => k it (by simp) o e
  item := by
    intro X hP hw hK hc i pins s σ H E I hf st hg
    subst hP hw hK
    obtain ⟨xs, x, hq, hx⟩ := hg
    obtain ⟨its, rv, p, hz⟩ := I.tuple hq
    obtain ⟨u, hu, ru⟩ := rv.get hx
    obtain ⟨f0, f1, f2, f3, f4, f5⟩ := hf it (by simp)
    refine wpAny_pyNext_tuple_item st (show s.heap.IsTuple a its.toArray from p) (x := u) (by simpa using hu) fun h' st' sb => ?_
    have I1 : Inv X pins σ H { s with heap := h' } := I.turned (t' := s.toks) (fun b o hb e => (sb.2 b hb).trans e) f0 f1 f3 f4 f5
    obtain ⟨o, e, c, d⟩ := id st'
    exact ⟨u, rfl, go_of (s := { s with heap := h' }) e c d (by decide) ⟨x, H, I1, ru, ⟨rfl, fun ys hy => by rw [I.tuple_inj hy hq]; exact hx⟩, st', fun b hb => (hf b hb).1⟩⟩
  done := by
    intro X hP hw hK hc i pins s σ H E I hf st hg
    subst hP hw hK
    obtain ⟨xs, hq, hx⟩ := hg
    obtain ⟨its, rv, p, hz⟩ := I.tuple hq
    obtain ⟨f0, f1, f2, f3, f4, f5⟩ := hf it (by simp)
    have hl := rv.length
    exact wpAny_pyNext_tuple_end (I.ok.hd hc) st (show s.heap.IsTuple a its.toArray from p) (by simp; omega) fun h' eb => ⟨rfl, I.turned (t' := s.toks) (fun b o hb e => eb b o hb e) f0 f1 f3 f4 f5⟩
  self := fun _ _ _ _ _ st h => wpAny_pyIter_tupleiter st h
theorem turn_range {P : Program} {w : World} {K : PySem.W.Frag} {tg : Expr} (it : Addr) (lo : Int) (n : Nat) : Turn P w K tg (Itr lo n) [it] it (fun i h => IsRangeIter h it (lo + (i : Nat) * 1) ((n : Int) - (i : Nat)) 1) where
  mem := by simp
  obj := fun i h st b hb => by
    have e : b = it := by simpa using hb
    subst e
    exact ⟨_, st, fun v z => by
      have z' : Data.fields _ = Data.cell v := z
      cases z'⟩
  keep := fun i h h' st k => k it (by simp) _ st
  item := by
    intro X hP hw hK hc i pins s σ H E I hf st hg
    subst hP hw hK
    obtain ⟨f0, f1, f2, f3, f4, f5⟩ := hf it (by simp)
    have W := Walks.range (prog := X.prog) (w := X.w) (I.ok.hd hc) it lo 1 n
    refine W.item i s _ _ hg st fun v h' tk hv st' kk => ?_
    obtain ⟨t, rfl⟩ := hv
    have I1 : Inv X pins σ H { s with heap := h', toks := tk } := I.turned (fun b o hb e => kk b o (by simpa using hb) e) f0 f1 f3 f4 f5
    refine ⟨_, rfl, go_of (s := { s with heap := h', toks := tk }) (n := "range_iterator") st' rfl rfl (by decide) ⟨.int (lo + i), H, I1, ⟨t, ?_⟩, ⟨rfl, rfl⟩, st', fun b hb => (hf b hb).1⟩⟩
    rw [Int.mul_one]
  done := by
    intro X hP hw hK hc i pins s σ H E I hf st hg
    subst hP hw hK
    obtain ⟨f0, f1, f2, f3, f4, f5⟩ := hf it (by simp)
    exact wpAny_pyNext_range_end (I.ok.hd hc) st (by have : n ≤ i := hg; omega) fun h' eb => ⟨rfl, I.turned (t' := s.toks) (fun b o hb e => eb b o hb e) f0 f1 f3 f4 f5⟩
  self := fun _ _ _ _ _ st h => wpAny_pyIter_rangeiter st h
end L2
namespace L2
open PySem PySem.Spec PyProof.Rows
section
variable {X : Cx} {tg : Expr}
def iList (K : PySem.W.Frag) (tl : TE) : TI := fun σ H R => tl σ H fun x H1 => ∃ a, x = .ref a ∧ (∃ xs, SqL K H1 a xs) ∧ R (Itl K a) H1
def iTup (K : PySem.W.Frag) (tl : TE) : TI := fun σ H R => tl σ H fun x H1 => ∃ a, x = .ref a ∧ (∃ xs, SqT K H1 a xs) ∧ R (Itt K a) H1
theorem pi_list {l : Expr} {tl : TE} (hl : PE X l tl) : PI X tg l (iList X.K tl) := by
  intro pins s σ H R I h
  refine thn (hl pins s σ H _ I h) fun v s1 ⟨x, H1, I1, r1, q1⟩ => ?_
  obtain ⟨a, e, ⟨xs, hq⟩, q⟩ := q1
  subst e
  cases r1
  obtain ⟨its, rv, p, hz⟩ := I1.list hq
  refine wpAny_pyIter_list p.isList ?_
  refine ⟨s1.heap.objs.size, [s1.heap.objs.size], _, _, H1, rfl, I1.kept (t' := s1.toks) fun b o e => Heap.get?_push_of_some _ e, turn_list a _, ⟨_, Heap.get?_push_size _ rfl, rfl, rfl⟩, fun b hb => ?_, q⟩
  have e : b = s1.heap.objs.size := by simpa using hb
  subst e
  exact I1.fpOk (Nat.le_refl _) (I1.hok.fresh (Nat.le_refl _))
theorem pi_tup {l : Expr} {tl : TE} (hl : PE X l tl) : PI X tg l (iTup X.K tl) := by
  intro pins s σ H R I h
  refine thn (hl pins s σ H _ I h) fun v s1 ⟨x, H1, I1, r1, q1⟩ => ?_
  obtain ⟨a, e, ⟨xs, hq⟩, q⟩ := q1
  subst e
  cases r1
  obtain ⟨its, rv, p, hz⟩ := I1.tuple hq
  refine wpAny_pyIter_tuple (show s1.heap.IsTuple a its.toArray from p) ?_
  refine ⟨s1.heap.objs.size, [s1.heap.objs.size], _, _, H1, rfl, I1.kept (t' := s1.toks) fun b o e => Heap.get?_push_of_some _ e, turn_tuple a _, ⟨_, Heap.get?_push_size _ rfl, rfl, rfl⟩, fun b hb => ?_, q⟩
  have e : b = s1.heap.objs.size := by simpa using hb
  subst e
  exact I1.fpOk (Nat.le_refl _) (I1.hok.fresh (Nat.le_refl _))
theorem range_it {pins : List (Addr × Obj)} {σ : St} {H : Hp} {s : Shared} {R : It → Hp → Prop} {E : Value → Shared → Prop} {lo hi : Int} {t u v : Tok} {tk : Nat} (I : Inv X pins σ H s) (h1 : -(2 ^ 62) ≤ lo) (h2 : lo < 2 ^ 62) (h3 : -(2 ^ 62) ≤ hi) (h4 : hi < 2 ^ 62)
    (q : R (Itr lo (hi - lo).toNat) H) : wpAny (model X.prog X.w) X.A (pyIter (.ref s.heap.objs.size)) (PIE X pins σ tg R) E { s with heap := s.heap.push { cls := .type "range", data := .fields #[.int lo t, .int hi u, .int 1 v] }, toks := tk } := by
  refine wpAny_pyIter_range (IsRange.new ..) (small_one h1 h2 h3 h4) ?_
  have I1 : Inv X pins σ H { s with heap := s.heap.push { cls := .type "range", data := .fields #[.int lo t, .int hi u, .int 1 v] }, toks := tk } := I.kept fun b o e => Heap.get?_push_of_some _ e
  refine ⟨(s.heap.push { cls := .type "range", data := .fields #[.int lo t, .int hi u, .int 1 v] }).objs.size, [(s.heap.push { cls := .type "range", data := .fields #[.int lo t, .int hi u, .int 1 v] }).objs.size], _, _, H, rfl,
    I1.kept (t' := tk) fun b o e => Heap.get?_push_of_some _ e, turn_range _ lo (hi - lo).toNat, ?_, fun b hb => ?_, q⟩
  · have e1 : lo + ((0 : Nat) : Int) * 1 = lo := by simp
    have e2 : (((hi - lo).toNat : Nat) : Int) - ((0 : Nat) : Int) = Builtin.Range.rangeSize lo hi 1 := by rw [rangeSize_one]; split <;> omega
    show IsRangeIter _ _ (lo + ((0 : Nat) : Int) * 1) ((((hi - lo).toNat : Nat) : Int) - ((0 : Nat) : Int)) 1
    rw [e1, e2]
    exact Heap.get?_push_size _ rfl
  · have e : b = (s.heap.push { cls := .type "range", data := .fields #[.int lo t, .int hi u, .int 1 v] }).objs.size := by simpa using hb
    subst e
    exact I1.fpOk (Nat.le_refl _) (I1.hok.fresh (Nat.le_refl _))
def iRng1 (ta : TA) : TI := fun σ H R => ta σ H fun vs H1 => ∃ j : Int, vs = [.int j] ∧ -(2 ^ 62) ≤ j ∧ j < 2 ^ 62 ∧ R (Itr 0 j.toNat) H1
def iRng2 (ta : TA) : TI := fun σ H R => ta σ H fun vs H1 => ∃ i j : Int, vs = [.int i, .int j] ∧ (-(2 ^ 62) ≤ i ∧ i < 2 ^ 62 ∧ -(2 ^ 62) ≤ j ∧ j < 2 ^ 62) ∧ R (Itr i (j - i).toNat) H1
theorem pi_range1 {a : Expr} {ta : TA} {p pos : Pos} (hg : Gl X "range") (hm : X.mg "range" = none) (ha : PA X [a] ta) (hs : starEach [a] X.env = [(false, eval a X.env)] := by rfl) : PI X tg (.Call (.Name "range" p) [a] [] pos) (iRng1 ta) := by
  intro pins s σ H R I h
  refine Call_ (ld_blt I hg hm boot_range (PyProof.Rows.callWith_type1 (thn (ha pos pins s σ H _ I h) fun us s1 ⟨vs, H1, I1, r1, q1⟩ => ?_) hs rfl))
  obtain ⟨j, e, q1, q2, q⟩ := q1
  subst e
  cases r1 with
  | cons r rr =>
    cases rr
    obtain ⟨t, rfl⟩ := r
    exact call_range_1 (range_it I1 (by omega) (by omega) q1 q2 (by simpa using q))
theorem pi_range2 {a b : Expr} {ta : TA} {p pos : Pos} (hg : Gl X "range") (hm : X.mg "range" = none) (ha : PA X [a, b] ta) (hs : starEach [a, b] X.env = [(false, eval a X.env), (false, eval b X.env)] := by rfl) (hs2 : starEach [b] X.env = [(false, eval b X.env)] := by rfl) :
    PI X tg (.Call (.Name "range" p) [a, b] [] pos) (iRng2 ta) := by
  intro pins s σ H R I h
  refine Call_ (ld_blt I hg hm boot_range (PyProof.Rows.callWith_type1 (thn (ha pos pins s σ H _ I h) fun us s1 ⟨vs, H1, I1, r1, q1⟩ => ?_) (by rw [hs, hs2]) (by rw [hs2]; rfl)))
  obtain ⟨i, j, e, ⟨q1, q2, q3, q4⟩, q⟩ := q1
  subst e
  cases r1 with
  | cons r rr =>
    cases rr with
    | cons r' rr =>
      cases rr
      obtain ⟨t, rfl⟩ := r
      obtain ⟨t', rfl⟩ := r'
      exact call_range_2 (range_it I1 q1 q2 q3 q4 q)
def tFor (wi : TI) (g : TG) (tb : TS) : TS := fun D σ H => wi σ H fun J H1 => ∃ W : Nat → Nat → St → Hp → Prop, (∃ m, W 0 m σ H1) ∧ ∀ i m σ H, W i m σ H →
  (J.stop i H ∧ D.nx σ H) ∨ (J.go i H ∧ ∃ N : St → Hp → Prop, (∀ σ' H', N σ' H' → ∃ m', m' < m ∧ W (i + 1) m' σ' H') ∧ ∀ x H', J.yld i H x H' → g x σ H' fun σ2 H2 => tb { D with nx := N, ct := N, bk := D.nx } σ2 H2)
def pinsAt (fp : List Addr) (h : Heap) : List (Addr × Obj) := fp.filterMap fun b => (h.get? b).map fun o => (b, o)
theorem mem_pinsAt {fp : List Addr} {h : Heap} {b : Addr} {o : Obj} (hb : b ∈ fp) (e : h.get? b = some o) : (b, o) ∈ pinsAt fp h := List.mem_filterMap.mpr ⟨b, hb, by rw [e]; rfl⟩
theorem of_pinsAt {fp : List Addr} {h : Heap} {p : Addr × Obj} (hp : p ∈ pinsAt fp h) : p.1 ∈ fp ∧ h.get? p.1 = some p.2 := by
  obtain ⟨b, hb, e⟩ := List.mem_filterMap.mp hp
  cases q : h.get? b with
  | none => rw [q] at e; cases e
  | some o =>
    rw [q] at e
    have e' : (b, o) = p := Option.some.inj e
    subst e'
    exact ⟨hb, q⟩
theorem Inv.pinned {pins : List (Addr × Obj)} {σ : St} {H : Hp} {s : Shared} {fp : List Addr} (I : Inv X pins σ H s) (hf : ∀ b ∈ fp, FpOk X pins H b) (ho : ∀ b ∈ fp, ∃ o, s.heap.get? b = some o ∧ ∀ v, o.data ≠ .cell v) : Inv X (pins ++ pinsAt fp s.heap) σ H s :=
  I.pins_of fun p hp => (List.mem_append.mp hp).elim (fun z => I.pin p (List.mem_append_right _ z)) fun z => by
    obtain ⟨hb, e⟩ := of_pinsAt z
    obtain ⟨f0, f1, f2, _⟩ := hf p.1 hb
    obtain ⟨o, e', d⟩ := ho p.1 hb
    rw [e] at e'; cases e'
    exact ⟨e, f0, f1, f2, d⟩
theorem Inv.unpinned {pins pl : List (Addr × Obj)} {σ : St} {H : Hp} {s : Shared} (I : Inv X (pins ++ pl) σ H s) : Inv X pins σ H s := I.pins_of fun p hp => I.pin p (List.mem_append_right _ (List.mem_append_left _ hp))
theorem ps_for {iter : Expr} {body : List Stmt} {wi : TI} {g : TG} {tb : TS} {pos : Pos} (hp : PassesOwn (model X.prog X.w) X.A X.env X.xe) (hc : X.calm = true) (hi : PI X tg iter wi) (hg : PG X tg g) (hb : PSs X body tb)
    (hs : ∀ x, foldedSetIterable iter X.env x = pure x := by intro _; rfl) : PS X (.For tg iter body [] pos) (tFor wi g tb) := by
  intro pins s σ H D I h
  refine wpAny_For (thn (hi pins s σ H _ I h) fun v s1 h1 => thn h1 fun itv s2 h2 => ?_) hs
  obtain ⟨it, fp, tn, J, H2, e, I2, T, st2, f2, W, ⟨m0, w0⟩, turn⟩ := h2
  subst e
  -- what stays true of the iterator's objects through the loop
  have stat : ∀ {H' : Hp}, (∀ b ∈ fp, H' b = none) → ∀ b ∈ fp, FpOk X pins H' b := fun hn b hb => ⟨hn b hb, (f2 b hb).2⟩
  refine codeAny_forLoop_any (fun n s' => ∃ i σ' H', Inv X pins σ' H' s' ∧ tn i s'.heap ∧ (∀ b ∈ fp, H' b = none) ∧ W i n σ' H') ?_ m0 ⟨0, σ, H2, I2, st2, fun b hb => (f2 b hb).1, w0⟩
  rintro n s3 ⟨i, σ3, H3, I3, st3, fr3, w3⟩
  rcases turn i n σ3 H3 w3 with ⟨stop, qn⟩ | ⟨go, N, hN, step⟩
  · refine wpAny_passesOwn hp (thn (T.done X rfl rfl rfl hc i pins s3 σ3 H3 X.xe I3 (stat fr3) st3 stop) fun r s4 ⟨hr, I4⟩ => ?_)
    subst hr
    exact wpAny_execs_nil ⟨σ3, H3, I4, qn⟩
  · refine wpAny_passesOwn hp (thn (T.item X rfl rfl rfl hc i pins s3 σ3 H3 X.xe I3 (stat fr3) st3 go) fun r s4 ⟨u, hr, h4⟩ => ?_)
    subst hr
    refine wpAny_passesOwn hp (thn h4 fun _ s5 ⟨x, H5, I5, r5, y5, st5, fr5⟩ => ?_)
    have I5' := I5.pinned (stat fr5) (T.obj _ _ st5)
    refine wpAny_passesOwn hp (thn (hg _ s5 σ3 H5 x u _ I5' r5 (step x H5 y5)) fun _ s6 ⟨σ6, H6, I6, q6⟩ => ?_)
    refine wpAny_passesOwn hp (thn (hb _ s6 σ6 H6 _ I6 q6) fun f s7 q7 => ?_)
    have again : ∀ {σ7 : St} {H7 : Hp}, Inv X (pins ++ pinsAt fp s5.heap) σ7 H7 s7 → N σ7 H7 → ∃ m, m < n ∧ ∃ i σ' H', Inv X pins σ' H' s7 ∧ tn i s7.heap ∧ (∀ b ∈ fp, H' b = none) ∧ W i m σ' H' := fun {σ7 H7} I7 n7 => by
      obtain ⟨m', hm, w7⟩ := hN σ7 H7 n7
      refine ⟨m', hm, i + 1, σ7, H7, I7.unpinned, T.keep _ _ _ st5 fun b hb o e => (I7.pin (b, o) (List.mem_append_right _ (List.mem_append_right _ (mem_pinsAt hb e)))).1, fun b hb => ?_, w7⟩
      obtain ⟨o, e, d⟩ := T.obj _ _ st5 b hb
      exact (I7.pin (b, o) (List.mem_append_right _ (List.mem_append_right _ (mem_pinsAt hb e)))).2.1
    cases f with
    | next => obtain ⟨σ7, H7, I7, n7⟩ := q7; exact again I7 n7
    | cont => obtain ⟨σ7, H7, I7, n7⟩ := q7; exact again I7 n7
    | brk => obtain ⟨σ7, H7, I7, q7⟩ := q7; exact ⟨σ7, H7, I7.unpinned, q7⟩
    | ret v => obtain ⟨x7, σ7, H7, I7, r7, q7⟩ := q7; exact ⟨x7, σ7, H7, I7.unpinned, r7, q7⟩
end
end L2
namespace L2
open PySem PySem.Spec PyProof.Rows
abbrev R2 := V → V → Hp → VK → Prop
def OpR (X : Cx) (f : Value → Value → Sem Value) (r : R2) : Prop :=
  ∀ (pins : List (Addr × Obj)) (s : Shared) (σ : St) (H : Hp) (x y : V) (v u : Value) (Q : VK), Inv X pins σ H s → RelV x v → RelV y u → r x y H Q →
    wpAny (model X.prog X.w) X.A (f v u) (EP X pins σ Q) X.xe s
def CallR (X : Cx) (f : Value) (r : List V → Hp → VK → Prop) : Prop :=
  ∀ (pins : List (Addr × Obj)) (s : Shared) (σ : St) (H : Hp) (xs : List V) (us : List Value) (Q : VK), Inv X pins σ H s → Vals xs us → r xs H Q →
    wpAny (model X.prog X.w) X.A (call f us) (EP X pins σ Q) X.xe s
def TruR (X : Cx) (r : V → Hp → (Bool → Hp → Prop) → Prop) : Prop :=
  ∀ (pins : List (Addr × Obj)) (s : Shared) (σ : St) (H : Hp) (x : V) (v : Value) (Q : Bool → Hp → Prop), Inv X pins σ H s → RelV x v → r x H Q →
    wpAny (model X.prog X.w) X.A (truthy v) (TP X pins σ Q) X.xe s
def rI (C : Int → Int → Prop) (g : Int → Int → V) : R2 := fun x y H Q => ∃ i j, x = .int i ∧ y = .int j ∧ C i j ∧ Q (g i j) H
def rI0 (g : Int → Int → V) : R2 := fun x y H Q => ∃ i j, x = .int i ∧ y = .int j ∧ Q (g i j) H
section
variable {X : Cx} {a b c : Expr} {ta tb tc : TE} {pos : Pos}
theorem augR {op : Operator} {r : R2} (ho : OpR X (inplaceOp op) r) {pins : List (Addr × Obj)} {s : Shared} {σ : St} {H : Hp} {x y : V} {v u : Value} {Q : VK} (I : Inv X pins σ H s)
    (rx : RelV x v) (ry : RelV y u) (q : r x y H Q) : wpAny (model X.prog X.w) X.A (inplaceOp op v u) (EP X pins σ Q) X.xe s := ho pins s σ H x y v u Q I rx ry q
theorem opI {f : Value → Value → Sem Value} {C : Int → Int → Prop} {g : Int → Int → Int}
    (rule : ∀ (i j : Int) (t u : Tok) (s : Shared) (Q : Value → Shared → Prop) (E : Value → Shared → Prop), C i j → Q (.int (g i j) s.toks) { s with toks := s.toks + 1 } → wpAny (model X.prog X.w) X.A (f (.int i t) (.int j u)) Q E s) :
    OpR X f (rI C fun i j => .int (g i j)) := by
  intro pins s σ H x y v u Q I rx ry h
  obtain ⟨i, j, rfl, rfl, hc, q⟩ := h
  obtain ⟨t, rfl⟩ := rx
  obtain ⟨t', rfl⟩ := ry
  exact rule i j t t' s _ _ hc ⟨.int (g i j), H, I.tok _, ⟨_, rfl⟩, q⟩
theorem opI0 {f : Value → Value → Sem Value} {g : Int → Int → Int}
    (rule : ∀ (i j : Int) (t u : Tok) (s : Shared) (Q : Value → Shared → Prop) (E : Value → Shared → Prop), Q (.int (g i j) s.toks) { s with toks := s.toks + 1 } → wpAny (model X.prog X.w) X.A (f (.int i t) (.int j u)) Q E s) :
    OpR X f (rI0 fun i j => .int (g i j)) := by
  intro pins s σ H x y v u Q I rx ry h
  obtain ⟨i, j, rfl, rfl, q⟩ := h
  obtain ⟨t, rfl⟩ := rx
  obtain ⟨t', rfl⟩ := ry
  exact rule i j t t' s _ _ ⟨.int (g i j), H, I.tok _, ⟨_, rfl⟩, q⟩
theorem opB0 {f : Value → Value → Sem Value} {g : Int → Int → Bool}
    (rule : ∀ (i j : Int) (t u : Tok) (s : Shared) (Q : Value → Shared → Prop) (E : Value → Shared → Prop), Q (.bool (g i j)) s → wpAny (model X.prog X.w) X.A (f (.int i t) (.int j u)) Q E s) :
    OpR X f (rI0 fun i j => .bl (g i j)) := by
  intro pins s σ H x y v u Q I rx ry h
  obtain ⟨i, j, rfl, rfl, q⟩ := h
  obtain ⟨t, rfl⟩ := rx
  obtain ⟨t', rfl⟩ := ry
  exact rule i j t t' s _ _ ⟨.bl (g i j), H, I, rfl, q⟩
def CMul (i j : Int) : Prop := (-(2 ^ 64) < i ∧ i < 2 ^ 64) ∨ (-(2 ^ 64) < j ∧ j < 2 ^ 64)
theorem CMul.ok {i j : Int} (h : CMul i j) : IntMulOk i j := by
  rcases h with ⟨h1, h2⟩ | ⟨h1, h2⟩
  · exact .of_left (intBits_le_64 h1 h2)
  · exact .of_right (intBits_le_64 h1 h2)
theorem op_add : OpR X (binaryOp .Add) (rI0 fun i j => .int (i + j)) := opI0 fun _ _ _ _ _ _ _ q => add_int q
theorem op_sub : OpR X (binaryOp .Sub) (rI0 fun i j => .int (i - j)) := opI0 fun _ _ _ _ _ _ _ q => sub_int q
theorem op_mul : OpR X (binaryOp .Mult) (rI CMul fun i j => .int (i * j)) := opI fun _ _ _ _ _ _ _ hc q => mul_int q hc.ok
theorem op_mod : OpR X (binaryOp .Mod) (rI (fun _ j => 0 < j) fun i j => .int (i % j)) := opI fun i j _ _ _ _ _ hc q => by
  have h1 : (0 : Int) < j := hc
  exact mod_int' (by omega) (by rw [Int.fmod_eq_emod_of_nonneg i (by omega)]; exact q)
theorem iop_sub : OpR X (inplaceOp .Sub) (rI0 fun i j => .int (i - j)) := opI0 fun _ _ _ _ _ _ _ q => isub_int q
end
section
variable {X : Cx} {a b c : Expr} {ta tb tc : TE} {pos : Pos}
theorem fin_bl {pins : List (Addr × Obj)} {σ : St} {H : Hp} {s : Shared} {Q : VK} {k k' : Bool} (I : Inv X pins σ H s) (q : Q (.bl k) H) (e : k = k') : EP X pins σ Q (.bool k') s := by
  subst e
  exact ⟨.bl k, H, I, rfl, q⟩
theorem op_lt : OpR X (compareOp .Lt) (rI0 fun i j => .bl (decide (i < j))) := opB0 fun _ _ _ _ _ _ _ q => lt_int q
theorem op_gt : OpR X (compareOp .Gt) (rI0 fun i j => .bl (decide (j < i))) := opB0 fun _ _ _ _ _ _ _ q => gt_int q
theorem op_notN : OpR X (compareOp .IsNot) (fun x y H Q => y = .non ∧ Q (.bl (!decide (x = .non))) H) := by
  intro pins s σ H x y v u Q I rx ry h
  obtain ⟨rfl, q⟩ := h
  cases ry
  refine isnot_none_gen (fin_bl I q ?_)
  cases x <;> first
    | (cases rx; rfl)
    | (obtain ⟨t, rfl⟩ := rx; rfl)
theorem OpR.or {f : Value → Value → Sem Value} {r r' : R2} (h : OpR X f r) (h' : OpR X f r') : OpR X f (fun x y H Q => r x y H Q ∨ r' x y H Q) := by
  intro pins s σ H x y v u Q I rx ry q
  rcases q with q | q
  · exact h pins s σ H x y v u Q I rx ry q
  · exact h' pins s σ H x y v u Q I rx ry q
def TruV (K : PySem.W.Frag) (x : V) (H : Hp) (k : Bool) : Prop :=
  match x with
  | .non => k = false
  | .bl b => k = b
  | .int i => k = (i != 0)
  | .str y => y.length ≤ sizeLine ∧ k = ((y.length : Int) != 0)
  | .byt y => y.size ≤ sizeLine ∧ k = ((y.size : Int) != 0)
  | .ref p => (∃ xs, SqL K H p xs ∧ k = !xs.isEmpty) ∨ (∃ xs, SqT K H p xs ∧ k = !xs.isEmpty) ∨ ∃ kvs, H p = some (.dK kvs) ∧ k = !kvs.isEmpty
  | _ => False
theorem isEmpty_kv {κ : Type} {kvs : List (κ × V)} {vs : List (κ × Value)} (r : KV kvs vs) : (!vs.isEmpty) = !kvs.isEmpty := by
  cases r <;> rfl
theorem isEmpty_of {xs : List V} {its : List Value} (r : Vals xs its) : (!its.toArray.isEmpty) = !xs.isEmpty := by
  cases r <;> simp
theorem line63 : (sizeLine : Nat) < 2 ^ 63 := by rw [sizeLine_eq]; decide
theorem tru_ok : TruR X (fun x H Q => ∃ k, TruV X.K x H k ∧ Q k H) := by
  intro pins s σ H x v Q I rx h
  obtain ⟨k, e, q⟩ := h
  have hl := line63
  have hs : sizeLine = 16777216 := sizeLine_eq
  cases x with
  | non =>
    cases rx
    have e' : k = false := e
    subst e'
    exact truthy_none ⟨H, I, q⟩
  | bl b =>
    cases rx
    have e' : k = b := e
    subst e'
    exact wpAny_truthy_bool ⟨H, I, q⟩
  | int i =>
    obtain ⟨t, rfl⟩ := rx
    have e' : k = (i != 0) := e
    subst e'
    exact PySem.P.truthy_int ⟨H, I, q⟩
  | str y =>
    obtain ⟨t, rfl⟩ := rx
    obtain ⟨hy, e'⟩ : y.length ≤ sizeLine ∧ k = ((y.length : Int) != 0) := e
    subst e'
    exact PySem.P.truthy_str (by omega) ⟨H, I.tok _, q⟩
  | byt y =>
    obtain ⟨t, rfl⟩ := rx
    obtain ⟨hy, e'⟩ : y.size ≤ sizeLine ∧ k = ((y.size : Int) != 0) := e
    subst e'
    exact PySem.W.truthy_bytes (by omega) ⟨H, I.tok _, q⟩
  | ref p =>
    cases rx
    have e' : (∃ xs, SqL X.K H p xs ∧ k = !xs.isEmpty) ∨ (∃ xs, SqT X.K H p xs ∧ k = !xs.isEmpty) ∨ ∃ kvs, H p = some (.dK kvs) ∧ k = !kvs.isEmpty := e
    rcases e' with ⟨xs, hx, e'⟩ | ⟨xs, hx, e'⟩ | ⟨kvs, hx, e'⟩
    · subst e'
      obtain ⟨its, r, pl, hz⟩ := I.list hx
      have hlen := r.length
      exact wpAny_truthy_list pl.isList (by simp only [List.size_toArray]; omega) ⟨H, I.tok _, by rw [isEmpty_of r]; exact q⟩
    · subst e'
      obtain ⟨its, r, pl, hz⟩ := I.tuple hx
      have hlen := r.length
      exact truthy_tuple pl (by simp only [List.size_toArray]; omega) ⟨H, I.tok _, by rw [isEmpty_of r]; exact q⟩
    · subst e'
      obtain ⟨hz, hS, vs, r, m⟩ : kvs.length ≤ sizeLine ∧ (p == sysModules) = false ∧ ∃ vs, KV kvs vs ∧ s.heap.DictOf (mixKind X.prog X.w) p vs := I.hok p _ hx
      have hlen : kvs.length = vs.length := Paired.length r
      exact wpAny_truthy_dict hS m (by omega) ⟨H, I.tok _, by rw [isEmpty_kv r]; exact q⟩
  | _ => exact (show False from e).elim
theorem vals1 {x : V} {us : List Value} (r : Vals [x] us) : ∃ u, us = [u] ∧ RelV x u := by
  cases r with
  | cons r1 r2 => cases r2; exact ⟨_, rfl, r1⟩
end
end L2
namespace L2
open PySem PySem.Spec PyProof.Rows
structure ObjM (h : Heap) (x dx C : Addr) (mA : Str → Option Value) : Prop where
  obj : h.get? x = some (PySem.W.instObj C dx)
  ns : h.Ns1 dx mA
  ne : dx ≠ x
theorem lookIn_ns {h : Heap} {dx : Addr} {mA : Str → Option Value} (n : h.Ns1 dx mA) : ∃ od, h.get? dx = some od ∧ ∀ name, PySem.W.lookIn name od = some (mA name) := by
  obtain ⟨o, es, ep, ho, hd, hk, _, hm⟩ := n
  refine ⟨o, ho, fun name => ?_⟩
  have e := hm name
  unfold nsFind findBy at e
  rw [← Array.find?_toList] at e
  unfold PySem.W.lookIn
  rw [hd]
  dsimp only
  split
  · rename_i y q
    rw [q] at e
    exact congrArg some e
  · rename_i q
    rw [q] at e
    have a : es.toList.any (·.refKey) = false := by
      rw [List.any_eq_false]
      intro y hy
      obtain ⟨z, t, hkey⟩ := hk y (Array.mem_toList_iff.mp hy)
      simp [DictEntry.refKey, hkey]
    have a' : ¬ es.toList.any (·.refKey) = true := by rw [a]; exact Bool.false_ne_true
    rw [if_neg a']
    exact congrArg some e
theorem ObjM.look {h : Heap} {x dx C : Addr} {mA : Str → Option Value} (I : ObjM h x dx C mA) : ∃ od, PySem.W.InstAt h x (PySem.W.instObj C dx) C (some od) ∧ ∀ name, PySem.W.lookIn name od = some (mA name) :=
  let ⟨od, ho, hl⟩ := lookIn_ns I.ns
  ⟨od, ⟨I.obj, rfl, rfl, ho⟩, hl⟩
section
variable {prog : Program} {w : World} {A : Around} {E : Value → Shared → Prop} {s : Shared} {K : PySem.W.Frag} {x dx C f : Addr} {mA : Str → Option Value} {name : Str} {v : Value}
end
section
variable {P : Program} {w : World} {H H' : Hp} {h h' : Heap} {a C dx : Addr} {fs fs' : List (Str × V)}
end
structure Cls (K : PySem.W.Frag) (C : Addr) : Prop where
  pg : PySem.W.plainGet K C Str.empty = true
  hd : PySem.W.hasDictIn K C = true
  po : PySem.W.plainOver K C = true
  sa : PySem.W.findIn K (.ref C) "__setattr__" = some (some (.builtin "object.__setattr__"))
theorem Cls.get {K : PySem.W.Frag} {C : Addr} (c : Cls K C) (f : Str) : PySem.W.plainGet K C f = true := c.pg
section
variable {X : Cx} {pins : List (Addr × Obj)} {σ : St} {H : Hp} {s : Shared} {a C dx : Addr} {fs : List (Str × V)} {f : Str} {v : V} {A : Around} {E : Value → Shared → Prop}
theorem Inv.made (I : Inv X pins σ H s) : Inv X pins σ (upd (upd H s.heap.objs.size (.own (s.heap.objs.size + 1))) (s.heap.objs.size + 1) (.ins C s.heap.objs.size []))
    { s with heap := (s.heap.push PySem.W.emptyDict).push (PySem.W.instObj C s.heap.objs.size) } := by
  have e1 : (s.heap.push PySem.W.emptyDict).get? s.heap.objs.size = some PySem.W.emptyDict := Heap.get?_push_size s.heap rfl
  have e2 : ((s.heap.push PySem.W.emptyDict).push (PySem.W.instObj C s.heap.objs.size)).get? (s.heap.objs.size + 1) = some (PySem.W.instObj C s.heap.objs.size) := by
    have := Heap.get?_push_size (s.heap.push PySem.W.emptyDict) (o := PySem.W.instObj C s.heap.objs.size) rfl
    rwa [Heap.size_push] at this
  have e3 : (s.heap.push PySem.W.emptyDict).Ns s.heap.objs.size (fun _ => none) := ⟨PySem.W.emptyDict, #[], _, e1, rfl, (fun e he => absurd he (by simp)), fun _ => rfl⟩
  have I1 := I.laid (a := s.heap.objs.size) (o := .own (s.heap.objs.size + 1)) (h' := s.heap.push PySem.W.emptyDict) (t' := s.toks) (fun b u q => Heap.get?_push_of_some _ q) (Nat.le_refl _) ⟨_, e1⟩
  refine I1.laid (a := s.heap.objs.size + 1) (o := .ins C s.heap.objs.size []) (t' := s.toks) (fun b u q => Heap.get?_push_of_some _ q) (Nat.le_of_eq (Heap.size_push _ _)) ?_
  have ne : s.heap.objs.size ≠ s.heap.objs.size + 1 := Nat.ne_of_lt (Nat.lt_succ_self _)
  refine ⟨by rw [upd_ne ne, upd_same], Nat.zero_le _, ne, e2, fun _ => none, (Heap.Ns1.of_empty e3).at fun o q => Heap.get?_push_of_some _ q, fun _ => True.intro, fun y hy => absurd rfl hy⟩
theorem attr_of {prog : Program} {w : World} {env : Env} {e : Expr} {f : Str} {pos : Pos} {s : Shared} {Q : Value → Shared → Prop} (hb : attributeBase e f env (eval e env) = eval e env)
    (h : wpAny (model prog w) A (eval e env) (fun o s₁ => wpAny (model prog w) A (getAttr o f true) Q E s₁) E s) : wpAny (model prog w) A (eval (.Attribute e f pos) env) Q E s :=
  Attribute_any_ h (by rw [arm_eval_Attribute, hb])
end
section
variable {X : Cx} {o e value : Expr} {f : Str} {pos pos' tpos : Pos} {ta tv : TE}
end
section
variable {X : Cx} {pins : List (Addr × Obj)} {σ : St} {H : Hp} {s : Shared} {A : Around} {E : Value → Shared → Prop} {Q : Value → Shared → Prop} {c : Value} {b : Bool}
end
end L2
namespace L2
open PySem PySem.Spec PyProof.Rows
structure Room (k : Nat) (A : Around) : Prop where
  hd : A.handled = none
  dp : A.depth + 3 * k + 5 < recursionLimit
  un : A.units + 16 * k + 200 < cLine
theorem Room.mono {j k : Nat} {A : Around} (r : Room k A) (h : j ≤ k) : Room j A := ⟨r.hd, by have := r.dp; omega, by have := r.un; omega⟩
theorem Room.deeper {k : Nat} {A : Around} (r : Room (k + 1) A) (env : Env) : Room k (A.deeper env) :=
  ⟨r.hd, by have := r.dp; show A.depth + 1 + 3 * k + 5 < _; omega, by have := r.un; show A.units + 3 + 16 * k + 200 < _; omega⟩
theorem Room.in1 {k : Nat} {A : Around} (r : Room (k + 1) A) : Room k A.in1 :=
  ⟨r.hd, by have := r.dp; show A.depth + 3 * k + 5 < _; omega, by have := r.un; show A.units + 1 + 16 * k + 200 < _; omega⟩
theorem make_depth {A : Around} {C : Addr} {us : List Value} {kw : List (Str × Value)} : (A.under (.builtin "type.__call__" ⟨.ref C :: us, kw⟩)).depth = A.depth + 1 := by
  first | rfl | simp [Around.under, Code.weight, Code.isCreation, Code.isGuard, Code.isCaller, Code.frames, Code.isFrame, guardIds]
theorem make_units {A : Around} {C : Addr} {us : List Value} {kw : List (Str × Value)} : (A.under (.builtin "type.__call__" ⟨.ref C :: us, kw⟩)).units = A.units + 1 := by
  first | rfl | simp [Around.under, Code.cUnits, Code.frames, Code.isFrame]
theorem Room.make {k : Nat} {A : Around} (r : Room (k + 1) A) (C : Addr) (us : List Value) (kw : List (Str × Value)) : Room k (A.under (.builtin "type.__call__" ⟨.ref C :: us, kw⟩)) :=
  ⟨r.hd, by have := r.dp; rw [make_depth]; omega, by have := r.un; rw [make_units]; omega⟩
theorem Room.depth {k : Nat} {A : Around} (r : Room k A) : A.depth < recursionLimit := by have := r.dp; omega
theorem Room.units {k : Nat} {A : Around} (r : Room k A) : A.units + 64 < cLine := by have := r.un; omega
def tNil : TA := fun _ H Q => Q [] H
def tCons (ta : TE) (tr : TA) : TA := fun σ H Q => ta σ H fun x H1 => tr σ H1 fun xs H2 => Q (x :: xs) H2
section
variable {X : Cx} {e : Expr} {es : List Expr} {te : TE} {t : TA} {pos : Pos}
theorem pa_nil : PA X [] tNil := fun _ _ _ _ H Q I h => Calls.spliced_nil ⟨[], H, I, .nil, h⟩
theorem pa_cons (ha : PE X e te) (hr : PA X es t) (hs : starEach (e :: es) X.env = (false, eval e X.env) :: starEach es X.env := by rfl) : PA X (e :: es) (tCons te t) := by
  intro pos pins s σ H Q I h
  rw [hs]
  show wpAny _ _ (spliced ((false, eval e X.env) :: backTo pos (starEach es X.env))) _ _ s
  refine Calls.spliced_cons (thn (ha pins s σ H _ I h) fun u s1 ⟨x, H1, I1, r1, q1⟩ => ?_)
  exact thn (hr pos pins s1 σ H1 _ I1 q1) fun us s2 ⟨xs, H2, I2, r2, q2⟩ => ⟨x :: xs, H2, I2, .cons r1 r2, q2⟩
def tTup (t : TA) : TE := fun σ H Q => t σ H fun xs H1 => xs.length ≤ sizeLine ∧ ∀ p, H1 p = none → Q (.ref p) (upd H1 p (.tup xs))
theorem pe_tup {x1} (h : PA X es t) : PE X (.Tuple es x1 pos) (tTup t) := by
  intro pins s σ H Q I hq
  refine wpAny_Tuple_spliced (thn (h pos pins s σ H _ I hq) fun us s1 ⟨xs, H1, I1, r, z, q⟩ => ⟨by rw [← r.length]; exact z, ?_⟩)
  have hf : H1 s1.heap.objs.size = none := I1.hok.fresh (Nat.le_refl _)
  refine ⟨.ref s1.heap.objs.size, upd H1 s1.heap.objs.size (.tup xs), I1.laid (t' := s1.toks) (fun b u e => Heap.get?_push_of_some _ e) (Nat.le_refl _) ?_, rfl, q _ hf⟩
  exact ⟨z, us, r, ⟨_, Heap.get?_push_size _ rfl, rfl, _, rfl⟩⟩
end
abbrev Sp := List V → Hp → VK → XK → Prop
abbrev CXT := List Env → Hp → Shared → XK → Value → Shared → Prop
structure Env0 (P : Program) (w : World) (K : PySem.W.Frag) (mg : Str → Option Value) (base : Heap) (A : Around) (outer : List Env) (s : Shared) (H : Hp) : Prop where
  frames : A.frames = some outer
  mod : Mod K mg base
  bs : ∀ b o, base.get? b = some o → s.heap.get? b = some o ∧ H b = none
  bsz : base.objs.size ≤ s.heap.objs.size
  funs : s.heap.FunFrames base outer
  frf : ∀ b ∈ frs outer, H b = none
  hok : HOk P w H s.heap
  bare : AllBare s.gens
def CE (outer : List Env) (P : Program) (w : World) (H : Hp) (s : Shared) (Q : VK) (u : Value) (s' : Shared) : Prop :=
  ∃ v H', s'.os = s.os ∧ AllBare s'.gens ∧ Un (frs outer) [] H H' s.heap s'.heap ∧ HOk P w H' s'.heap ∧ RelV v u ∧ Q v H'
def CR (CX : CXT) (outer : List Env) (P : Program) (w : World) (H : Hp) (s : Shared) (Q : VK) (E : XK) (r : Result) (s' : Shared) : Prop :=
  match r with
  | .ok (.ret u) => CE outer P w H s Q u s'
  | .ok _ => False
  | .error e => CX outer H s E e s'
structure FnOk (P : Program) (w : World) (K : PySem.W.Frag) (mg : Str → Option Value) (base : Heap) (CX : CXT) (k : Nat) (f : Addr) (fd : FuncData) (ps : List Str) (sp : Sp) : Prop where
  len : ∀ vs H Q E, sp vs H Q E → vs.length = ps.length
  run : ∀ (A : Around) (outer : List Env) (s : Shared) (H : Hp) (args : Args) (us : List Value) (vs : List V) (Q : VK) (E : XK), Room k A → Env0 P w K mg base A outer s H → BindsTo s fd args (ps.zip us) → Vals vs us → sp vs H Q E →
    codeAny (model P w) A (.call (.ref f) args) (CR CX outer P w H s Q E) s
theorem FnOk.mono {P : Program} {w : World} {K : PySem.W.Frag} {mg : Str → Option Value} {base : Heap} {CX : CXT} {j k : Nat} {f : Addr} {fd : FuncData} {ps : List Str} {sp : Sp} (F : FnOk P w K mg base CX j f fd ps sp) (h : j ≤ k) :
    FnOk P w K mg base CX k f fd ps sp := ⟨F.len, fun A outer s H args us vs Q E hr => F.run A outer s H args us vs Q E (hr.mono h)⟩
theorem FnOk.imp {P : Program} {w : World} {K : PySem.W.Frag} {mg : Str → Option Value} {base : Heap} {CX : CXT} {k : Nat} {f : Addr} {fd : FuncData} {ps : List Str} {sp sp' : Sp} (F : FnOk P w K mg base CX k f fd ps sp)
    (h : ∀ vs H Q E, sp' vs H Q E → sp vs H Q E) : FnOk P w K mg base CX k f fd ps sp' :=
  ⟨fun vs H Q E q => F.len vs H Q E (h _ _ _ _ q), fun A outer s H args us vs Q E hr he hb hv hs => F.run A outer s H args us vs Q E hr he hb hv (h _ _ _ _ hs)⟩
theorem Env0.make {P : Program} {w : World} {K : PySem.W.Frag} {mg : Str → Option Value} {base : Heap} {A : Around} {outer : List Env} {s : Shared} {H : Hp} (e : Env0 P w K mg base A outer s H) (C : Addr) (us : List Value) (kw : List (Str × Value)) :
    Env0 P w K mg base (A.under (.builtin "type.__call__" ⟨.ref C :: us, kw⟩)) outer s H := ⟨by first | exact e.frames | (simpa [Around.under, Code.envs, Code.isFrame, pushEnvs] using e.frames), e.mod, e.bs, e.bsz, e.funs, e.frf, e.hok, e.bare⟩
theorem Env0.in1 {P : Program} {w : World} {K : PySem.W.Frag} {mg : Str → Option Value} {base : Heap} {A : Around} {outer : List Env} {s : Shared} {H : Hp} (e : Env0 P w K mg base A outer s H) :
    Env0 P w K mg base A.in1 outer s H := ⟨e.frames, e.mod, e.bs, e.bsz, e.funs, e.frf, e.hok, e.bare⟩
section
variable {X : Cx} {pins : List (Addr × Obj)} {σ : St} {H : Hp} {s s' : Shared}
theorem Inv.env0 (I : Inv X pins σ H s) : Env0 X.prog X.w X.K X.mg X.base X.A X.stack s H :=
  ⟨I.ok.frames, I.ok.mod, I.bs, Nat.le_trans I.ok.bsz I.sz, I.stack, I.stkFree, I.hok, I.bare⟩
theorem Inv.after {Q : VK} {u : Value} (I : Inv X pins σ H s) (h : CE X.stack X.prog X.w H s Q u s') : EP X pins σ Q u s' := by
  obtain ⟨v, H', os, bare, un, hok, r, q⟩ := h
  obtain ⟨hh, g, d, t, os'⟩ := s'
  obtain rfl : os' = s.os := os
  exact ⟨v, H', I.call (h' := hh) (g' := g) (d' := d) (t' := t) (ch := []) un hok bare (fun b z => absurd z (by simp)), r, q⟩
end
def Binds (K : PySem.W.Frag) (fd : FuncData) (ps : List Str) (ds : List Value) : Prop :=
  ∀ (s : Shared) (us : List Value), K.In s.heap → (us ++ ds).length = ps.length → BindsTo s fd ⟨us, []⟩ (ps.zip (us ++ ds))
theorem Binds.all {K : PySem.W.Frag} {fd : FuncData} {ps : List Str} (h : ∀ us : List Value, us.length = ps.length → bindArgs fd ⟨us, []⟩ = pure (ps.zip us)) : Binds K fd ps [] := fun s us _ hl => by
  rw [List.append_nil] at hl ⊢
  exact .of_eq (h us hl)
def Passes (CX : CXT) (X : Cx) (E : XK) : Prop := ∀ (pins : List (Addr × Obj)) (σ : St) (H : Hp) (s : Shared) (e : Value) (s' : Shared), Inv X pins σ H s → CX X.stack H s E e s' → X.xe e s'
section
variable {X : Cx} {CX : CXT} {k : Nat} {f C : Addr} {fd : FuncData} {ps : List Str} {sp : Sp} {dvs : List V} {ds : List Value} {E : XK} {x m : Str} {p pos apos : Pos} {e o : Expr} {es : List Expr} {ta : TE} {t : TA}
theorem run_fn {pins : List (Addr × Obj)} {σ : St} {H : Hp} {s : Shared} {Q : VK} {us : List Value} {vs : List V} (F : FnOk X.prog X.w X.K X.mg X.base CX k f fd ps sp) (hr : Room k X.A) (hb : Binds X.K fd ps ds) (hd : Vals dvs ds) (hx : Passes CX X E)
    (I : Inv X pins σ H s) (r : Vals vs us) (h : sp (vs ++ dvs) H Q E) : wpAny (model X.prog X.w) X.A (call (.ref f) us) (EP X pins σ Q) X.xe s := by
  have r2 : Vals (vs ++ dvs) (us ++ ds) := r.append hd
  have hl : (us ++ ds).length = ps.length := by rw [← r2.length]; exact F.len _ _ _ _ h
  refine wpAny_call (codeAny_mono (F.run X.A X.stack s H ⟨us, []⟩ (us ++ ds) (vs ++ dvs) Q E hr I.env0 (hb s us I.kIn hl) r2 h) fun r s' hq => ?_)
  cases r with
  | error e => exact hx pins σ H s e s' I hq
  | ok fl =>
    cases fl with
    | ret u => exact I.after hq
    | next => exact False.elim hq
    | brk => exact False.elim hq
    | cont => exact False.elim hq
end
section
variable {X : Cx} {CX : CXT} {k : Nat} {f C : Addr} {fd : FuncData} {ps ks : List Str} {sp : Sp} {E : XK} {x m : Str} {p pos apos kpos : Pos} {e o : Expr} {es : List Expr} {kws : List Keyword} {te ta : TE} {t tk : TA} {nm : Option Str}
variable {g : List Value → List Value → List Value} {gV : List V → List V → List V}
end
structure FnScope (N P : List Str) (sc : Scope) : Prop where
  kind : sc.kind = .function
  co : sc.isCoroutine = false
  gen : sc.isGenerator = false
  nd : N.Nodup
  pre : N.take P.length = P
  par : ∀ x ∈ P, sc.names.lookup x = some .local ∨ sc.names.lookup x = some .cell
  nofree : ∀ y ∈ sc.names, y.2 ≠ .free
theorem bindL_out {kindOf : Str → Option NameKind} {x : Str} : ∀ {binds : List (Str × Value)} {m : Str → Option Value}, (∀ v, (x, v) ∉ binds) → bindL kindOf binds m x = m x
  | [], _, _ => rfl
  | (n, v) :: r, m, h => by
    unfold bindL
    rw [bindL_out fun w hw => h w (List.mem_cons_of_mem _ hw)]
    split
    · have : x ≠ n := by rintro rfl; exact h v List.mem_cons_self
      simp [this]
    · rfl
theorem bindC_out {kindOf : Str → Option NameKind} {x : Str} : ∀ {binds : List (Str × Value)} {m : Str → Option Value}, (∀ v, (x, v) ∉ binds) → bindC kindOf binds m x = m x
  | [], _, _ => rfl
  | (n, v) :: r, m, h => by
    unfold bindC
    rw [bindC_out fun w hw => h w (List.mem_cons_of_mem _ hw)]
    split
    · rfl
    · have : x ≠ n := by rintro rfl; exact h v List.mem_cons_self
      simp [this]
theorem bindL_get {kindOf : Str → Option NameKind} {x : Str} {v : Value} : ∀ {P : List Str} {vs : List Value} {i : Nat} {m : Str → Option Value}, P.Nodup → P[i]? = some x → vs[i]? = some v → kindOf x = some .local →
    bindL kindOf (P.zip vs) m x = some v
  | [], _, _, _, _, h, _, _ => by simp at h
  | _ :: _, [], _, _, _, _, h, _ => by simp at h
  | p :: P, w :: vs, 0, m, nd, h1, h2, hk => by
    simp at h1 h2; subst h1; subst h2
    show bindL kindOf ((p, w) :: P.zip vs) m p = _
    unfold bindL
    rw [bindL_out fun v hv => (List.nodup_cons.mp nd).1 (List.of_mem_zip hv).1, if_pos hk]
    simp
  | p :: P, w :: vs, i + 1, m, nd, h1, h2, hk => by
    show bindL kindOf ((p, w) :: P.zip vs) m x = _
    unfold bindL
    exact bindL_get (i := i) (List.nodup_cons.mp nd).2 (by simpa using h1) (by simpa using h2) hk
theorem bindC_get {kindOf : Str → Option NameKind} {x : Str} {v : Value} : ∀ {P : List Str} {vs : List Value} {i : Nat} {m : Str → Option Value}, P.Nodup → P[i]? = some x → vs[i]? = some v → kindOf x ≠ some .local →
    bindC kindOf (P.zip vs) m x = some v
  | [], _, _, _, _, h, _, _ => by simp at h
  | _ :: _, [], _, _, _, _, h, _ => by simp at h
  | p :: P, w :: vs, 0, m, nd, h1, h2, hk => by
    simp at h1 h2; subst h1; subst h2
    show bindC kindOf ((p, w) :: P.zip vs) m p = _
    unfold bindC
    rw [bindC_out fun v hv => (List.nodup_cons.mp nd).1 (List.of_mem_zip hv).1, if_neg hk]
    simp
  | p :: P, w :: vs, i + 1, m, nd, h1, h2, hk => by
    show bindC kindOf ((p, w) :: P.zip vs) m x = _
    unfold bindC
    exact bindC_get (i := i) (List.nodup_cons.mp nd).2 (by simpa using h1) (by simpa using h2) hk
def start (N : List Str) (vs : List V) : St := vs.map some ++ List.replicate (N.length - vs.length) none
def cxOf (CX : CXT) (P : Program) (w : World) (K : PySem.W.Frag) (mg : Str → Option Value) (base : Heap) (N : List Str) (qual : Str) (scope : Scope) (f : Addr) (cd : Value) (A : Around) (outer : List Env) (s : Shared) (H : Hp) (E : XK) : Cx where
  prog := P
  w := w
  K := K
  mg := mg
  base := base
  A := A.deeper (envOfC qual scope s.heap.objs.size f cd)
  N := N
  s₀ := s
  H₀ := H
  env := envOfC qual scope s.heap.objs.size f cd
  outer := outer
  stack := envOfC qual scope s.heap.objs.size f cd :: outer
  ex := []
  calm := true
  fn := fun _ => true
  pn := []
  xe := fun e s' => wpAny (model P w) (A.deeper (envOfC qual scope s.heap.objs.size f cd)) (leaving (envOfC qual scope s.heap.objs.size f cd) e) (fun _ s'' => CX outer H s E e s'') (fun e' s'' => CX outer H s E e' s'') s'
theorem cell_has {sc : Scope} {n : Nat} {x : Str} (h : sc.names.lookup x = some .cell) : ∃ c, (cellsFrom n sc.names []).lookup x = some c := by
  have q := PySem.W.cellsFrom_some sc.names n [] (.inl h)
  exact Option.isSome_iff_exists.mp q
theorem inv_start {CX : CXT} {P : Program} {w : World} {K : PySem.W.Frag} {mg : Str → Option Value} {base : Heap} {N ps : List Str} {qual : Str} {scope : Scope} {f : Addr} {cd : Value} {A : Around} {outer : List Env} {s s1 : Shared} {H : Hp} {E : XK} {us : List Value} {vs : List V}
    (S : FnScope N ps scope) (hd : A.handled = none) (e0 : Env0 P w K mg base A outer s H) (hl : vs.length = ps.length) (r : Vals vs us)
    (x : InCallC s s.heap.objs.size (bindL (envOfC qual scope s.heap.objs.size f cd).kindOf (ps.zip us) fun _ => none) (cellsFrom (s.heap.objs.size + 1) scope.names []) (bindC (envOfC qual scope s.heap.objs.size f cd).kindOf (ps.zip us) fun _ => none) s1) :
    Inv (cxOf CX P w K mg base N qual scope f cd A outer s H E) [] (start N vs) H s1 := by
  have hpl : ps.length ≤ N.length := by have := congrArg List.length S.pre; rw [List.length_take] at this; omega
  obtain ⟨h1, tk, rfl, hk⟩ := x.done
  have noA : ∀ b : Addr, b ∉ (cxOf CX P w K mg base N qual scope f cd A outer s H E).ex := fun b z => absurd (show b ∈ ([] : List Addr) from z) (by simp)
  refine ⟨⟨e0.mod, S.kind, rfl, rfl, Nat.le_refl _, fun y z c h1 h2 => ?_, fun y hy => ?_, fun y c _ h => ?_, fun _ => hd, Around.frames_deeper e0.frames, .inr ⟨rfl, rfl⟩, fun b z => absurd z (noA b), e0.bs, e0.bsz, fun b _ _ => noA b, fun b z => absurd z (noA b), e0.funs, e0.frf⟩,
    rfl, e0.bare, Un.kept hk, ⟨_, x.toInCall.ns, fun i y v h1 h2 h3 => ?_⟩, fun y c h => ⟨_, x.cell y c h⟩, e0.hok.fresh (Nat.le_refl _), fun y c h => ?_, fun p hp => absurd (show p ∈ ([] : List (Addr × Obj)) from hp) (by simp), e0.hok.kept hk, ?_⟩
  · exact name_of_addr x.apart (PySem.mem_of_lookup h1) (PySem.mem_of_lookup h2)
  · have hy : scope.names.lookup y = some .cell ∨ scope.names.lookup y = some .free := hy
    rcases hy with hy | hy
    · exact cell_has hy
    · exact absurd rfl (S.nofree _ (PySem.mem_of_lookup hy))
  · exact Nat.le_of_lt (x.above y c (PySem.mem_of_lookup h))
  · have hi : i < vs.length := by
      unfold start at h2
      by_cases hi : i < vs.length
      · exact hi
      · rw [List.getElem?_append_right (by simpa using hi)] at h2
        rw [List.getElem?_replicate] at h2
        split at h2 <;> cases h2
    have ha : vs[i]? = some v := by
      unfold start at h2
      rw [List.getElem?_append_left (by simpa using hi), List.getElem?_map] at h2
      cases e : vs[i]? with
      | none => rw [e] at h2; cases h2
      | some a => rw [e] at h2; cases h2; rfl
    obtain ⟨u, hu, rv⟩ := r.get ha
    have hp : ps[i]? = some y := by
      rw [← S.pre, List.getElem?_take_of_lt (by omega)]; exact h1
    have ndP : ps.Nodup := by rw [← S.pre]; exact S.nd.sublist (List.take_sublist _ _)
    refine ⟨u, rv, ?_⟩
    rcases S.par y (List.mem_of_getElem? hp) with k | k
    · exact .inl ⟨k, bindL_get ndP hp hu k⟩
    · obtain ⟨c, e⟩ := cell_has (n := s.heap.objs.size + 1) k
      refine .inr ⟨.inl k, c, e, ?_⟩
      have q := x.cell y c e
      rw [bindC_get ndP hp hu (by show scope.names.lookup y ≠ _; rw [k]; decide)] at q
      exact q
  · exact e0.hok.fresh (Nat.le_of_lt (x.above y c (PySem.mem_of_lookup h)))
  · unfold start
    show _ = N.length
    rw [List.length_append, List.length_map, List.length_replicate]
    omega
theorem fn_of {CX : CXT} {P : Program} {w : World} {K : PySem.W.Frag} {mg : Str → Option Value} {base : Heap} {k : Nat} {f : Addr} {name qual : Str} {params : Arguments} {body : List Stmt} {scope : Scope} {dV kV doc pm cdv ct oc : Value} {an od : Option Addr}
    {osl : Array (Option Value)} {N ps : List Str} {sp : Sp} (lk : K.lookup f = some ⟨oc, od, .func (PySem.W.fnOf name qual params body scope dV kV doc pm an cdv ct), osl⟩) (hcd : PySem.W.codeIn K cdv qual = true) (S : FnScope N ps scope)
    (len : ∀ vs H Q E, sp vs H Q E → vs.length = ps.length)
    (hbody : ∀ (A : Around) (outer : List Env) (s : Shared) (H : Hp) (vs : List V) (Q : VK) (E : XK), Room k (A.deeper (envOfC qual scope s.heap.objs.size f cdv)) → sp vs H Q E →
      ∃ t, PSs (cxOf CX P w K mg base N qual scope f cdv A outer s H E) body t ∧ t { nx := fun _ H' => Q .non H', rt := Q } (start N vs) H) :
    FnOk P w K mg base CX (k + 1) f (PySem.W.fnOf name qual params body scope dV kV doc pm an cdv ct) ps sp := by
  refine ⟨len, fun A outer s H args us vs Q E hr e0 hb r hsp => ?_⟩
  have hl := len _ _ _ _ hsp
  have KX : K.In s.heap := e0.mod.kin.keeps fun b o e => (e0.bs b o e).1
  have lim : s.heap.NoLimit := e0.mod.nolimit.keeps fun b o e => (e0.bs b o e).1
  have hkind : ∀ y ∈ ps.zip us, scope.names.lookup y.1 = some .local ∨ (scope.names.lookup y.1 = some .cell ∧ ((cellsFrom (s.heap.objs.size + 1) scope.names []).lookup y.1).isSome = true) := fun ⟨n, v⟩ hy => by
    rcases S.par n (List.of_mem_zip hy).1 with q | q
    · exact .inl q
    · exact .inr ⟨q, PySem.W.cellsFrom_some _ _ _ (.inl q)⟩
  refine codeAny_call_function hr.depth (KX _ _ lk) rfl S.co S.gen rfl (PySem.W.codeRec_of KX hcd) (hb _ _ _ _ ?_)
  refine wpAny_newFunctionEnv_cells S.kind hkind fun env he s1 x => ?_
  subst he
  refine ⟨lim.keeps x.toInCall.keep, codeAny_func ?_⟩
  obtain ⟨t, ht, hq⟩ := hbody A outer s H vs Q E (hr.deeper _) hsp
  have I : Inv (cxOf CX P w K mg base N qual scope f cdv A outer s H E) [] (start N vs) H s1 := inv_start S hr.hd e0 hl r x
  refine wpAny_mono (ht [] s1 (start N vs) H _ I hq) (fun fl s' hs => ?_) fun e s' hs => hs
  have fin : ∀ {σ' : St} {H' : Hp} {v : V} {u : Value}, Inv (cxOf CX P w K mg base N qual scope f cdv A outer s H E) [] σ' H' s' → RelV v u → Q v H' → CE outer P w H s Q u s' :=
    fun {σ' H' v u} J rv q => ⟨v, H', J.os, J.bare, J.base, J.hok, rv, q⟩
  cases fl with
  | ret u =>
    obtain ⟨v, σ', H', J, rv, q⟩ := hs
    exact fin J rv q
  | next =>
    obtain ⟨σ', H', J, q⟩ := hs
    exact fin (v := V.non) (u := Value.none) J rfl q
  | brk =>
    obtain ⟨_, _, _, q⟩ := hs
    exact False.elim q
  | cont =>
    obtain ⟨_, _, _, q⟩ := hs
    exact False.elim q
end L2
namespace L2
open PySem PySem.Spec PyProof.Rows
section
variable {X : Cx} {x : Str} {p pos : Pos} {e : Expr} {es : List Expr} {t : TA} {id T : String} {r : List V → Hp → VK → Prop}
end
end L2
namespace HT
open PySem PyProof.Rows
def lexLt : List Int → List Int → Bool
  | [], [] => false
  | [], _ :: _ => true
  | _ :: _, [] => false
  | x :: xs, y :: ys => if x = y then lexLt xs ys else decide (x < y)
theorem lexLt_cons (x y : Int) (xs ys : List Int) : lexLt (x :: xs) (y :: ys) = if x = y then lexLt xs ys else decide (x < y) := rfl
theorem lexLt_nil_nil : lexLt [] [] = false := rfl
theorem lexLt_nil_cons (y : Int) (ys : List Int) : lexLt [] (y :: ys) = true := rfl
theorem lexLt_cons_nil (x : Int) (xs : List Int) : lexLt (x :: xs) [] = false := rfl
theorem eqAt_int (A : Around) (s : Shared) (a : Int) (t : Tok) (c : Int) (u : Tok) : ∃ e, SeqAt.EqAt A s (.int a t) (.int c u) e ∧ (e = true ↔ a = c) :=
  ⟨(a == c), SeqAt.EqAt.int_int a t c u, by simp⟩
theorem rcLt_int (A : Around) (s : Shared) (a : Int) (t : Tok) (c : Int) (u : Tok) (prog : Program) (w : World) (E : Value → Shared → Prop) (Q : Value → Shared → Prop) (h : Q (.bool (decide (a < c))) s) :
    wpAny (model prog w) A (richCompare .Lt (.int a t) (.int c u)) Q E s :=
  (PyProof.Rows.lt_int h : wpAny (model prog w) A (compareOp .Lt (.int a t) (.int c u)) Q E s)
section
open PySem.SeqAt
open PySem.AutoSeq1 (wpAny_loadPart')
open PySem.MeetsSeq PySem.MeetsSeq2 PySem.MeetsSeq3
theorem tuple_lt_ints (l b : Addr) (items items2 : Array Value) (n n2 : Nat) (dd dd2 : Option Addr) (sl sl2 : Array (Option Value)) (ns ms : List Int) (hi : IntsAre items.toList ns) (hj : IntsAre items2.toList ms) :
    Meets (Builtin.«tuple.__lt__» ⟨[.ref l, .ref b], []⟩)
      (fun _ R s => s.heap.get? l = some { cls := .type "tuple", dict := dd, data := .seq items n, slots := sl } ∧ s.heap.get? b = some { cls := .type "tuple", dict := dd2, data := .seq items2 n2, slots := sl2 } ∧
        R (.ok (.ret (.bool (lexLt ns ms)))) s) :=
  .of_wp fun prog w A R s h => by
    obtain ⟨hp, g, d, tk, os⟩ := s; obtain ⟨hl, hb, h⟩ := h
    have f2 := AutoSeq1.sub_tuple_tuple
    have z1 : items.size = ns.length := by rw [← hi.length]; simp
    have z2 : items2.size = ms.length := by rw [← hj.length]; simp
    wp_walk using wpAny_loadPart' hl, wpAny_loadPart' hb, wpAny_forIn_list _ (fun rest b s' => b.1 = none ∧ s' = ⟨hp, g, d, tk, os⟩ ∧ ∃ (vs ws : List Value) (ns' ms' : List Int), rest = vs.zip ws ∧
      IntsAre vs ns' ∧ IntsAre ws ms' ∧ ns'.length + items2.size = ms'.length + items.size ∧ R (.ok (.ret (.bool (lexLt ns' ms')))) ⟨hp, g, d, tk, os⟩) _
    case turn =>
      rintro ⟨y, x⟩ rest b s' ⟨hb', rfl, vs, ws, ns', ms', hz, hvi, hwi, hlen, hR⟩
      cases hvi with
      | nil => rw [List.zip_nil_left] at hz; cases hz
      | cons a t hvi' =>
        cases hwi with
        | nil => rw [List.zip_nil_right] at hz; cases hz
        | cons c u hwi' =>
          rw [List.zip_cons_cons] at hz
          injection hz with hyx hrest
          injection hyx with hy hx
          subst hy hx
          rw [lexLt_cons] at hR
          simp only [List.length_cons] at hlen
          obtain ⟨e, he, hiff⟩ := eqAt_int A.in1 ⟨hp, g, d, tk, os⟩ a t c u
          refine wpAny_bind (he prog w _ _ ?_)
          cases e with
          | true =>
            rw [if_pos (hiff.mp rfl)] at hR
            wp_walk
            exact ⟨rfl, rfl, _, _, _, _, hrest, hvi', hwi', by omega, hR⟩
          | false =>
            rw [if_neg (fun q => absurd (hiff.mpr q) Bool.false_ne_true)] at hR
            have hri := rcLt_int A.in1 ⟨hp, g, d, tk, os⟩ a t c u prog w
            wp_walk using hri
            exact ⟨_, rfl, by simpa using hR⟩
    case fin =>
      rintro ⟨b1, b2⟩ s' ⟨hb', rfl, vs, ws, ns', ms', hz, hvi, hwi, hlen, hR⟩
      simp only at hb'
      subst hb'
      have hv : lexLt ns' ms' = decide (items.size < items2.size) := by
        cases hvi with
        | nil =>
          cases hwi with
          | nil =>
            simp only [List.length_nil] at hlen
            rw [lexLt_nil_nil]
            exact (decide_eq_false (by omega)).symm
          | cons c u hw =>
            simp only [List.length_nil, List.length_cons] at hlen
            rw [lexLt_nil_cons]
            exact (decide_eq_true (by omega)).symm
        | cons a t hv =>
          cases hwi with
          | nil =>
            simp only [List.length_nil, List.length_cons] at hlen
            rw [lexLt_cons_nil]
            exact (decide_eq_false (by omega)).symm
          | cons c u hw =>
            rw [List.zip_cons_cons] at hz
            cases hz
      rw [hv] at hR
      wp_walk
      exact ⟨_, rfl, by simpa [Builtin.Tuple.tupleCompareSizes] using hR⟩
    case h =>
      exact ⟨rfl, rfl, items.toList, items2.toList, ns, ms, rfl, hi, hj, by omega, h⟩
end
section
variable {prog : Program} {w : World} {A : Around} {E : Value → Shared → Prop} {s : Shared}
theorem lt_tupInts {l b : Addr} {items items2 : Array Value} {ns ms : List Int} {Q : Value → Shared → Prop} (hl : IsTup s.heap l items) (hb : IsTup s.heap b items2) (hi : IntsAre items.toList ns) (hj : IntsAre items2.toList ms)
    (hu : A.units < cLine) (h : Q (.bool (lexLt ns ms)) s) : wpAny (model prog w) A (compareOp .Lt (.ref l) (.ref b)) Q E s := by
  obtain ⟨⟨cls, dd, data, sl⟩, ho, hc, n, hd⟩ := id hl
  obtain ⟨⟨cls2, dd2, data2, sl2⟩, ho2, hc2, n2, hd2⟩ := id hb
  simp only at hc hd hc2 hd2
  subst hc hd hc2 hd2
  exact richCompare_meets_room (op := .Lt) ⟨_, ho, rfl⟩ ⟨_, ho2, rfl⟩ PySem.F.slot_tuple_lt PySem.F.entry_tuple_lt (PySem.F.args_tuple_lt_2 _ _) (tuple_lt_ints l b items items2 n n2 dd dd2 sl sl2 ns ms hi hj)
    ⟨ho, ho2, show Value.bool (lexLt ns ms) ≠ Value.notImplemented ∧ Q (.bool (lexLt ns ms)) s from ⟨(fun x => nomatch x), h⟩⟩ hu
theorem cat_tup {t b : Addr} {vs ws : List Value} {Q : Value → Shared → Prop} (ht : IsTup s.heap t vs.toArray) (hb : IsTup s.heap b ws.toArray) (hv : vs ≠ [])
    (h1 : ws = [] → Q (.ref t) s) (h2 : ws ≠ [] → Q (.ref s.heap.objs.size) { s with heap := s.heap.push { cls := .type "tuple", data := .seq (vs ++ ws).toArray } })
    (hsz : vs.length + ws.length ≤ sizeLine) : wpAny (model prog w) A (binaryOp .Add (.ref t) (.ref b)) Q E s := by
  obtain ⟨⟨cls, dd, data, sl⟩, ho, hc, n, hd⟩ := id ht
  obtain ⟨⟨cls2, dd2, data2, sl2⟩, ho2, hc2, n2, hd2⟩ := id hb
  simp only at hc hd hc2 hd2
  subst hc hd hc2 hd2
  have e : vs.toArray ++ ws.toArray = (vs ++ ws).toArray := by simp
  by_cases hw : ws = []
  · exact concat_meets ⟨_, ho, rfl⟩ ⟨_, ho2, rfl⟩ noFill_tuple_add seq_tuple_add PySem.F.slot_tuple_add PySem.F.entry_tuple_add (PySem.F.args_tuple_add_2 _ _)
      (tuple_addW1 t b vs.toArray ws.toArray n n2 dd dd2 sl sl2 (by simpa using hv) (by simp [hw])) ⟨ho, ho2, h1 hw⟩
  · refine concat_meets ⟨_, ho, rfl⟩ ⟨_, ho2, rfl⟩ noFill_tuple_add seq_tuple_add PySem.F.slot_tuple_add PySem.F.entry_tuple_add (PySem.F.args_tuple_add_2 _ _)
      (tuple_addW2 t b vs.toArray ws.toArray n n2 dd dd2 sl sl2 (by simpa using hv) (by simpa using hw) (by rw [List.size_toArray, List.size_toArray]; exact hsz)) ⟨ho, ho2, ?_⟩
    rw [e]
    exact h2 hw
def sIx (n d : Nat) : Option Int → Nat
  | none => d
  | some v => if v < 0 then (v + (n : Int)).toNat else min v.toNat n
theorem sIx_le (n d : Nat) (hd : d ≤ n) (o : Option Int) : sIx n d o ≤ n := by
  cases o with
  | none => exact hd
  | some v =>
    show (if v < 0 then (v + (n : Int)).toNat else min v.toNat n) ≤ n
    by_cases hv : v < 0
    · rw [if_pos hv]; omega
    · rw [if_neg hv]; exact Nat.min_le_right _ _
theorem clip_eq (v : Int) (n d : Nat) : (if v < 0 then max (v + (n : Int)) 0 else min v (n : Int)) = ((sIx n d (some v) : Nat) : Int) := by
  show (if v < 0 then max (v + (n : Int)) 0 else min v (n : Int)) = (((if v < 0 then (v + (n : Int)).toNat else min v.toNat n) : Nat) : Int)
  by_cases hv : v < 0
  · simp only [if_pos hv]; omega
  · simp only [if_neg hv]; omega
theorem adjust_gen (lo hi : Option Int) (n : Nat) : Builtin.Slice.sliceAdjust lo hi 1 (n : Int) = (((sIx n 0 lo : Nat) : Int), ((sIx n n hi : Nat) : Int)) := by
  have h1 : ¬ ((1 : Int) < 0) := by omega
  unfold Builtin.Slice.sliceAdjust
  simp only [h1, if_false]
  refine Prod.ext ?_ ?_
  · cases lo with
    | none => rfl
    | some v => exact clip_eq v n 0
  · cases hi with
    | none => rfl
    | some v => exact clip_eq v n n
theorem places_gen (i j : Nat) : Builtin.Slice.slicePlaces (i : Int) (j : Int) 1 = j - i := by
  unfold Builtin.Slice.slicePlaces
  have h1 : (1 : Int) > 0 := by omega
  simp only [h1, if_true, Int.ediv_one]
  split <;> omega
theorem slicePart_ {v : Value} {o : Option Int} {Q : Option Int → Shared → Prop} (p : IsPart v o) (h : Q o s) : wpAny (model prog w) A (Builtin.Slice.slicePartIndex v) Q E s := by
  cases p with
  | none => exact slicePart_none h
  | int i t => exact slicePart_int h
theorem sliceApplied_gen {sl : Addr} {vl vu : Value} {lo hi : Option Int} {n : Nat} {Q : Int × Int × Nat → Shared → Prop} (hs : s.heap.IsSliceOf sl vl vu .none) (pl : IsPart vl lo) (pu : IsPart vu hi)
    (h : Q (((sIx n 0 lo : Nat) : Int), 1, sIx n n hi - sIx n 0 lo) s) : wpAny (model prog w) A (Builtin.Slice.sliceApplied (.ref sl) (pure (n : Int))) Q E s := by
  obtain ⟨os, hos, hcs, hds⟩ := id hs
  unfold Builtin.Slice.sliceApplied Builtin.Slice.sliceFields
  refine wpAny_bind (wpAny_bind (wpAny_field hos hds (x := vl) rfl (wpAny_bind (wpAny_field hos hds (x := vu) rfl (wpAny_bind (wpAny_field hos hds (x := .none) rfl (wpAny_pure ?_)))))))
  refine wpAny_bind (slicePart_none ?_)
  show wpAny _ _ (if ((1 : Int) == 0) = true then _ else _) _ _ s
  rw [if_neg (by decide)]
  refine wpAny_bind (slicePart_ pl (wpAny_bind (slicePart_ pu (wpAny_bind (wpAny_pure ?_)))))
  show wpAny _ _ (match Builtin.Slice.sliceAdjust lo hi 1 (n : Int) with | (lo, hi) => pure (lo, (1 : Int), Builtin.Slice.slicePlaces lo hi 1)) _ _ s
  rw [adjust_gen lo hi n]
  show wpAny _ _ (pure (((sIx n 0 lo : Nat) : Int), (1 : Int), Builtin.Slice.slicePlaces ((sIx n 0 lo : Nat) : Int) ((sIx n n hi : Nat) : Int) 1)) _ _ s
  rw [places_gen]
  exact wpAny_pure h
theorem pick_gen (xs : Array Value) (i k : Nat) : ((List.range k).filterMap fun (m : Nat) => xs[((i : Int) + (m : Int) * 1).toNat]?).toArray = ((xs.toList.drop i).take k).toArray := by
  have e : (fun (m : Nat) => xs[((i : Int) + (m : Int) * 1).toNat]?) = fun m => xs[i + m]? := by
    funext m
    have : ((i : Int) + (m : Int) * 1).toNat = i + m := by omega
    rw [this]
  rw [e]
  have := pick_run xs i k
  rw [List.filterMap_map] at this
  have e2 : ((fun x => xs[x]?) ∘ fun x => i + x) = fun m => xs[i + m]? := rfl
  rw [e2] at this
  rw [this]
theorem getItem_tuple_cut {t sl : Addr} {items : Array Value} {vl vu : Value} {lo hi : Option Int} {Q : Value → Shared → Prop} (ht : IsTup s.heap t items) (hs : s.heap.IsSliceOf sl vl vu .none) (pl : IsPart vl lo) (pu : IsPart vu hi)
    (hw : ¬ (sIx items.size 0 lo = 0 ∧ sIx items.size items.size hi = items.size))
    (h : Q (.ref s.heap.objs.size) { s with heap := s.heap.push { cls := .type "tuple", data := .seq ((items.toList.drop (sIx items.size 0 lo)).take (sIx items.size items.size hi - sIx items.size 0 lo)).toArray } })
    (hsz : items.size ≤ sizeLine) : wpAny (model prog w) A (getItem (.ref t) (.ref sl)) Q E s := by
  have htake : sizeOk (.seq ((items.toList.drop (sIx items.size 0 lo)).take (sIx items.size items.size hi - sIx items.size 0 lo)).toArray) := by
    show ((items.toList.drop (sIx items.size 0 lo)).take (sIx items.size items.size hi - sIx items.size 0 lo)).toArray.size ≤ sizeLine
    rw [List.size_toArray, List.length_take, List.length_drop, Array.length_toList]
    omega
  have hj : sIx items.size items.size hi ≤ items.size := sIx_le _ _ (Nat.le_refl _) hi
  obtain ⟨os, hos, hcs, hds⟩ := id hs
  have hTs : s.TypeIs (.ref sl) "slice" := ⟨os, hos, hcs⟩
  unfold getItem
  try with_reducible refine wpAny_holding ?_
  first | refine wpAny_bind (wpAny_pure ?_) | skip
  refine wpAny_bind (wpAny_sequenceKey ht.typeIs (by decide) ?_)
  refine wpAny_bind (wpAny_callSpecial?_slot (name := Str.ofString "__getitem__") ht.typeIs PyProof.Rows.slot_tuple_getitem
    (wpAny_call_entry PyProof.Rows.slot_tuple_getitem ht.typeIs entry_tuple_getitem ?_ (args_tuple_getitem _ _)))
  show wpAny _ _ (Builtin.Tuple.tupleItemsOf (.ref t) >>= _) _ _ s
  refine wpAny_bind (tupleItemsOf_ ht ?_)
  refine wpAny_bind (wpAny_typeOf hTs ?_)
  rw [if_pos (by decide)]
  refine wpAny_bind (sliceApplied_gen hs pl pu ?_)
  have hno : ¬ ((((sIx items.size 0 lo : Nat) : Int) == 0 && (1 : Int) == 1 && (sIx items.size items.size hi - sIx items.size 0 lo) == items.size) = true) := by
    intro q
    rw [Bool.and_eq_true, Bool.and_eq_true] at q
    have q1 : ((sIx items.size 0 lo : Nat) : Int) = 0 := eq_of_beq q.1.1
    have q2 : sIx items.size items.size hi - sIx items.size 0 lo = items.size := eq_of_beq q.2
    exact hw ⟨by omega, by omega⟩
  show wpAny _ _ (if (((sIx items.size 0 lo : Nat) : Int) == 0 && (1 : Int) == 1 && (sIx items.size items.size hi - sIx items.size 0 lo) == items.size) = true then _ else _) _ _ s
  rw [if_neg hno, pick_gen]
  first
    | exact wpAny_bind (m := Builtin.Tuple.tupleExact _) (wpAny_newObj_type (wpAny_pure ⟨_, rfl, wpAny_pure h⟩) htake)
    | exact wpAny_bind (m := Builtin.Tuple.tupleExact _) (wpAny_newObj_type (wpAny_bind (wpAny_pure (wpAny_pure ⟨_, rfl, wpAny_pure h⟩))) htake)
    | exact wpAny_bind (wpAny_bind (m := Builtin.Tuple.tupleExact _) (wpAny_newObj_type (wpAny_pure (wpAny_pure ⟨_, rfl, wpAny_pure h⟩)) htake))
    | exact wpAny_bind (wpAny_bind (m := Builtin.Tuple.tupleExact _) (wpAny_newObj_type (wpAny_pure ⟨_, rfl, wpAny_pure h⟩) htake))
end
end HT
namespace L2
open PySem PySem.Spec PyProof.Rows
abbrev TO := St → Hp → (Option Int → Hp → Prop) → Prop
def PO (X : Cx) (e : Option Expr) (t : TO) : Prop :=
  ∀ (pins : List (Addr × Obj)) (s : Shared) (σ : St) (H : Hp) (Q : Option Int → Hp → Prop), Inv X pins σ H s → t σ H Q →
    wpAny (model X.prog X.w) X.A (evalPart e X.env) (fun u s' => ∃ o H', Inv X pins σ H' s' ∧ IsPart u o ∧ Q o H') X.xe s
def tPart (t : TE) : TO := fun σ H Q => t σ H fun x H1 => ∃ i, x = .int i ∧ Q (some i) H1
theorem intsAre_of {ns : List Int} : ∀ {us : List Value}, Vals (ns.map V.int) us → IntsAre us ns := by
  induction ns with
  | nil => intro us r; rw [List.map_nil] at r; cases r; exact .nil
  | cons n ns ih =>
    intro us r
    rw [List.map_cons] at r
    cases r with
    | cons r1 r2 =>
      obtain ⟨t, e⟩ := r1
      subst e
      exact .cons n t (ih r2)
section
variable {X : Cx} {e : Expr} {te : TE} {lo hi : Option Expr} {tl th : TO} {pos p2 : Pos}
theorem po_some (h : PE X e te) : PO X (some e) (tPart te) := by
  intro pins s σ H Q I hw
  rw [evalPart_some]
  refine thn (h pins s σ H _ I hw) fun u s1 ⟨x, H1, I1, r1, q1⟩ => ?_
  obtain ⟨i, rfl, q⟩ := q1
  obtain ⟨t, rfl⟩ := r1
  exact ⟨some i, H1, I1, .int i t, q⟩
def SlR (X : Cx) (r : V → Option Int → Option Int → Hp → VK → Prop) : Prop :=
  ∀ (pins : List (Addr × Obj)) (s : Shared) (σ : St) (H : Hp) (x : V) (v vl vu : Value) (lo hi : Option Int) (sl : Addr) (Q : VK), Inv X pins σ H s → RelV x v → s.heap.IsSliceOf sl vl vu .none → IsPart vl lo → IsPart vu hi → r x lo hi H Q →
    ∃ T id, typeLookup (.type T) "__getitem__" = pure (some (.builtin id)) ∧ s.TypeIs v T ∧ wpAny (model X.prog X.w) X.A (getItem v (.ref sl)) (EP X pins σ Q) X.xe s
theorem SlR.or {r r' : V → Option Int → Option Int → Hp → VK → Prop} (h : SlR X r) (h' : SlR X r') : SlR X (fun x lo hi H Q => r x lo hi H Q ∨ r' x lo hi H Q) := by
  intro pins s σ H x v vl vu lo hi sl Q I rx hs pl pu q
  rcases q with q | q
  · exact h pins s σ H x v vl vu lo hi sl Q I rx hs pl pu q
  · exact h' pins s σ H x v vl vu lo hi sl Q I rx hs pl pu q
def tSl (r : V → Option Int → Option Int → Hp → VK → Prop) (te : TE) (tl th : TO) : TE := fun σ H Q => te σ H fun x H1 => tl σ H1 fun l H2 => th σ H2 fun u H3 => r x l u H3 Q
theorem pe_slice {r : V → Option Int → Option Int → Hp → VK → Prop} (hr : SlR X r) (he : PE X e te) (hl : PO X lo tl) (hu : PO X hi th) : PE X (.Subscript e (.Slice lo hi none p2) pos) (tSl r te tl th) := by
  intro pins s σ H Q I h
  refine Subscript_ (thn (he pins s σ H _ I h) fun v s1 ⟨x, H1, I1, r1, q1⟩ => ?_)
  refine wpAny_Slice (thn (hl pins s1 σ H1 _ I1 q1) fun vl s2 ⟨l, H2, I2, pl, q2⟩ => thn (hu pins s2 σ H2 _ I2 q2) fun vu s3 ⟨u, H3, I3, pu, q3⟩ => ?_)
  rw [evalPart_none]
  refine wpAny_pure ?_
  have I4 : Inv X pins σ H3 { s3 with heap := s3.heap.push { cls := .type "slice", data := .fields #[vl, vu, .none] } } := I3.kept (t' := s3.toks) fun b ob q => Heap.get?_push_of_some _ q
  obtain ⟨T, id, hT, ht, hg⟩ := hr pins { s3 with heap := s3.heap.push { cls := .type "slice", data := .fields #[vl, vu, .none] } } σ H3 x v vl vu l u s3.heap.objs.size Q I4 r1 (Heap.IsSliceOf.new ..) pl pu q3
  show wpAny (model X.prog X.w) X.A (subscriptTail e (.Slice lo hi none p2) v (.ref s3.heap.objs.size)) (EP X pins σ Q) X.xe { s3 with heap := s3.heap.push { cls := .type "slice", data := .fields #[vl, vu, .none] } }
  exact tail_any (ops := [.ref s3.heap.objs.size, v]) ht hT hg (by with_unfolding_all rfl)
def cutV (xs : List V) (lo hi : Option Int) : List V := (xs.drop (HT.sIx xs.length 0 lo)).take (HT.sIx xs.length xs.length hi - HT.sIx xs.length 0 lo)
theorem cutV_length (xs : List V) (lo hi : Option Int) : (cutV xs lo hi).length ≤ xs.length := by
  unfold cutV
  rw [List.length_take, List.length_drop]
  omega
def rSlT (K : PySem.W.Frag) : V → Option Int → Option Int → Hp → VK → Prop := fun x lo hi H Q => ∃ a xs, x = .ref a ∧ SqT K H a xs ∧
  ¬ (HT.sIx xs.length 0 lo = 0 ∧ HT.sIx xs.length xs.length hi = xs.length) ∧ ∀ p, H p = none → Q (.ref p) (upd H p (.tup (cutV xs lo hi)))
theorem sl_tup : SlR X (rSlT X.K) := by
  intro pins s σ H x v vl vu lo hi sl Q I rx hs pl pu h
  obtain ⟨a, xs, rfl, hx, hw, q⟩ := h
  cases rx
  obtain ⟨its, r, ht, hz⟩ := I.tuple hx
  have hlen : its.toArray.size = xs.length := by rw [List.size_toArray]; exact r.length.symm
  refine ⟨"tuple", _, PyProof.Rows.slot_tuple_getitem.lookup, ht.typeIs, ?_⟩
  refine HT.getItem_tuple_cut ht hs pl pu (by rw [hlen]; exact hw) ?_ (by rw [hlen]; exact hz)
  rw [hlen]
  refine ⟨.ref s.heap.objs.size, _, I.laid (t' := s.toks) (o := .tup (cutV xs lo hi)) (fun b ob q => Heap.get?_push_of_some _ q) (Nat.le_refl _) ?_, rfl, q _ (I.hok.fresh (Nat.le_refl _))⟩
  exact ⟨Nat.le_trans (cutV_length xs lo hi) hz, _, (r.drop (HT.sIx xs.length 0 lo)).take (HT.sIx xs.length xs.length hi - HT.sIx xs.length 0 lo), IsTup.new _ _⟩
def rCatT (K : PySem.W.Frag) : R2 := fun x y H Q => ∃ a b xs ys, x = .ref a ∧ y = .ref b ∧ SqT K H a xs ∧ SqT K H b ys ∧ xs ≠ [] ∧ xs.length + ys.length ≤ sizeLine ∧
  (ys = [] → Q (.ref a) H) ∧ (ys ≠ [] → ∀ p, H p = none → Q (.ref p) (upd H p (.tup (xs ++ ys))))
theorem Vals.nil_iff {xs : List V} {us : List Value} (r : Vals xs us) : us = [] ↔ xs = [] := by
  cases r with
  | nil => simp
  | cons _ _ => simp
theorem op_catT : OpR X (binaryOp .Add) (rCatT X.K) := by
  intro pins s σ H x y v u Q I rx ry h
  obtain ⟨a, b, xs, ys, rfl, rfl, ha, hb, hx, hz, q1, q2⟩ := h
  cases rx
  cases ry
  obtain ⟨its, r1, p1, _⟩ := I.tuple ha
  obtain ⟨its2, r2, p2, _⟩ := I.tuple hb
  refine HT.cat_tup p1 p2 (fun z => hx (r1.nil_iff.mp z)) (fun z => ⟨.ref a, H, I, rfl, q1 (r2.nil_iff.mp z)⟩) (fun z => ?_) (by rw [← r1.length, ← r2.length]; exact hz)
  refine ⟨.ref s.heap.objs.size, _, I.laid (t' := s.toks) (o := .tup (xs ++ ys)) (fun b ob q => Heap.get?_push_of_some _ q) (Nat.le_refl _) ?_, rfl, q2 (fun w => z (r2.nil_iff.mpr w)) _ (I.hok.fresh (Nat.le_refl _))⟩
  exact ⟨by rw [List.length_append]; exact hz, _, r1.append r2, IsTup.new _ _⟩
end
end L2
namespace L2
open PySem PySem.Spec PyProof.Rows
def ixN (n : Nat) (i : Int) : Option Nat := if 0 ≤ i then (if i < n then some i.toNat else none) else if -(n : Int) ≤ i then some (i + n).toNat else none
def atI {α : Type} (xs : List α) (i : Int) : Option α := (ixN xs.length i).bind fun j => xs[j]?
theorem ixN_seq {n : Nat} {i : Int} {j : Nat} (h : ixN n i = some j) : seqIndex? i n = some j ∧ j < n ∧ -(n : Int) ≤ i ∧ i < n := by
  unfold ixN at h
  by_cases h0 : 0 ≤ i
  · rw [if_pos h0] at h
    by_cases h1 : i < n
    · rw [if_pos h1] at h
      have e : i.toNat = j := Option.some.inj h
      exact ⟨by rw [seqIndex_of h0 h1, e], by omega, by omega, h1⟩
    · rw [if_neg h1] at h; cases h
  · rw [if_neg h0] at h
    by_cases h1 : -(n : Int) ≤ i
    · rw [if_pos h1] at h
      have e : (i + n).toNat = j := Option.some.inj h
      exact ⟨by rw [seqIndex_neg (by omega) h1, e], by omega, h1, by omega⟩
    · rw [if_neg h1] at h; cases h
theorem atI_get {α : Type} {xs : List α} {i : Int} {v : α} (h : atI xs i = some v) : ∃ j, seqIndex? i xs.length = some j ∧ xs[j]? = some v ∧ j < xs.length ∧ -(xs.length : Int) ≤ i ∧ i < xs.length := by
  unfold atI at h
  cases e : ixN xs.length i with
  | none => rw [e] at h; cases h
  | some j =>
    rw [e] at h
    obtain ⟨h1, h2, h3, h4⟩ := ixN_seq e
    exact ⟨j, h1, h, h2, h3, h4⟩
def PlainIx (b : Expr) : Prop := ∀ o i, subscripted b false o i = operate [o, i] (getItem o i)
def IxR (X : Cx) (r : R2) : Prop :=
  ∀ (value slice : Expr) (pins : List (Addr × Obj)) (s : Shared) (σ : St) (H : Hp) (x y : V) (v u : Value) (Q : VK), Inv X pins σ H s → RelV x v → RelV y u → r x y H Q →
    subscripted slice false v u = operate [v, u] (getItem v u) → wpAny (model X.prog X.w) X.A (subscriptTail value slice v u) (EP X pins σ Q) X.xe s
def MtR (X : Cx) (id : String) (r : V → List V → Hp → VK → Prop) : Prop :=
  ∀ (pins : List (Addr × Obj)) (s : Shared) (σ : St) (H : Hp) (x : V) (xs : List V) (v : Value) (us : List Value) (Q : VK), Inv X pins σ H s → RelV x v → Vals xs us → r x xs H Q →
    wpAny (model X.prog X.w) X.A (call (.builtin id) (v :: us)) (EP X pins σ Q) X.xe s
section
variable {X : Cx} {a b : Expr} {ta tb : TE} {pos : Pos}
theorem IxR.or {r r' : R2} (h : IxR X r) (h' : IxR X r') : IxR X (fun x y H Q => r x y H Q ∨ r' x y H Q) := by
  intro value slice pins s σ H x y v u Q I rx ry q hs
  rcases q with q | q
  · exact h value slice pins s σ H x y v u Q I rx ry q hs
  · exact h' value slice pins s σ H x y v u Q I rx ry q hs
theorem MtR.or {id : String} {r r' : V → List V → Hp → VK → Prop} (h : MtR X id r) (h' : MtR X id r') : MtR X id (fun x xs H Q => r x xs H Q ∨ r' x xs H Q) := by
  intro pins s σ H x xs v us Q I rx rs q
  rcases q with q | q
  · exact h pins s σ H x xs v us Q I rx rs q
  · exact h' pins s σ H x xs v us Q I rx rs q
def rIxL (K : PySem.W.Frag) : R2 := fun x y H Q => ∃ p xs i v, x = .ref p ∧ y = .int i ∧ SqL K H p xs ∧ atI xs i = some v ∧ Q v H
def rIxT (K : PySem.W.Frag) : R2 := fun x y H Q => ∃ p xs i v, x = .ref p ∧ y = .int i ∧ SqT K H p xs ∧ atI xs i = some v ∧ Q v H
theorem ix_list : IxR X (rIxL X.K) := by
  intro value slice pins s σ H x y v u Q I rx ry h hs
  obtain ⟨p, xs, i, z, rfl, rfl, hq, he, q⟩ := h
  cases rx
  obtain ⟨t, rfl⟩ := ry
  obtain ⟨its, r, pl, hz⟩ := I.list hq
  obtain ⟨j, h1, h2, h3, h4, h5⟩ := atI_get he
  obtain ⟨w, ew, rw'⟩ := r.get h2
  have hl := r.length
  have hn := line63
  have fin : EP X pins σ Q w s := ⟨z, H, I, rw', q⟩
  by_cases h0 : 0 ≤ i
  · have hj : i.toNat = j := by
      rw [seqIndex_of h0 h5] at h1
      exact Option.some.inj h1
    exact item_listR pl.isList h0 (by omega) (by rw [hj]; simpa using ew) fin hs
  · have hj : (i + (its.toArray.size : Int)).toNat = j := by
      rw [seqIndex_neg (by omega) h4] at h1
      rw [List.size_toArray, ← hl]
      exact Option.some.inj h1
    exact subscriptTail_builtinR (x := w) pl.isList.typeIs slot_list_getitem.lookup
      (wpAny_getItem_list_neg (Q := fun r s' => r = w ∧ EP X pins σ Q r s') pl.isList (by omega) (by rw [List.size_toArray] <;> omega) (by omega) (by rw [hj]; simpa using ew) ⟨rfl, fin⟩) hs
theorem ix_tup : IxR X (rIxT X.K) := by
  intro value slice pins s σ H x y v u Q I rx ry h hs
  obtain ⟨p, xs, i, z, rfl, rfl, hq, he, q⟩ := h
  cases rx
  obtain ⟨t, rfl⟩ := ry
  obtain ⟨its, r, pl, hz⟩ := I.tuple hq
  obtain ⟨j, h1, h2, h3, h4, h5⟩ := atI_get he
  obtain ⟨w, ew, rw'⟩ := r.get h2
  have hl := r.length
  have hn := line63
  have fin : EP X pins σ Q w s := ⟨z, H, I, rw', q⟩
  exact subscriptTail_builtinR (x := w) pl.typeIs slot_tuple_getitem.lookup
    (getItem_tuple (j := j) (Q := fun r s' => r = w ∧ EP X pins σ Q r s') pl (by omega) (by omega) (by rw [List.size_toArray, ← hl]; exact h1) (by simpa using ew) ⟨rfl, fin⟩) hs
theorem mapSeq_set (its : List Value) (n j : Nat) (u : Value) : Obj.mapSeq (·.setIfInBounds j u) { cls := .type "list", data := .seq its.toArray n } = { cls := .type "list", data := .seq (its.set j u).toArray n } := by
  simp [Obj.mapSeq]
theorem Inv.lst {pins : List (Addr × Obj)} {σ : St} {H : Hp} {s : Shared} {p : Addr} {xs : List V} (I : Inv X pins σ H s) (h : H p = some (.lst xs)) :
    ∃ (its : List Value) (n : Nat), Vals xs its ∧ s.heap.get? p = some { cls := .type "list", data := .seq its.toArray n } ∧ xs.length ≤ sizeLine := by
  obtain ⟨z, its, n, r, e⟩ := I.hok p _ h
  exact ⟨its, n, r, e, z⟩
theorem Inv.lstUpd {pins : List (Addr × Obj)} {σ : St} {H : Hp} {s : Shared} {p : Addr} {xs ys : List V} {its its' : List Value} {n n' : Nat} {f : Obj → Obj} (I : Inv X pins σ H s) (h : H p = some (.lst xs))
    (ho : s.heap.get? p = some { cls := .type "list", data := .seq its.toArray n }) (hf : f { cls := .type "list", data := .seq its.toArray n } = { cls := .type "list", data := .seq its'.toArray n' }) (r : Vals ys its') (hz : ys.length ≤ sizeLine) (t : Nat) :
    Inv X pins σ (upd H p (.lst ys)) { s with heap := s.heap.update p f, toks := t } := by
  have e : (s.heap.update p f).get? p = some { cls := .type "list", data := .seq its'.toArray n' } := by
    rw [Heap.get?_update_self f ho (by rw [hf] <;> rfl), hf]
  refine I.write (x := p) (e := p) (by rw [h]; trivial) (.inl rfl) (fun b u hb q => (Heap.get?_update_other _ _ (Ne.symm hb)).trans q) ⟨_, e⟩ ?_
  exact ⟨hz, its', n', r, e⟩
def rSetL : V → V → V → Hp → (Hp → Prop) → Prop := fun o i v H Q => ∃ p xs k j, o = .ref p ∧ i = .int k ∧ H p = some (.lst xs) ∧ ixN xs.length k = some j ∧ Q (upd H p (.lst (xs.set j v)))
theorem set_list : PSet X rSetL := by
  intro pins s σ H o i v ov iv u Q I ro ri rv h
  obtain ⟨p, xs, k, j, rfl, rfl, hp, hj, q⟩ := h
  cases ro
  obtain ⟨t, rfl⟩ := ri
  obtain ⟨its, n, r, ho, hz⟩ := I.lst hp
  obtain ⟨h1, h2, h3, h4⟩ := ixN_seq hj
  have hl := r.length
  have hn := line63
  have I' : Inv X pins σ (upd H p (.lst (xs.set j v))) { s with heap := s.heap.update p (Obj.mapSeq (·.setIfInBounds j u)) } :=
    I.lstUpd hp ho (mapSeq_set its n j u) (r.set rv j) (by rw [List.length_set]; exact hz) s.toks
  by_cases h0 : 0 ≤ k
  · have hk : k.toNat = j := by
      rw [seqIndex_of h0 h4] at h1
      exact Option.some.inj h1
    exact PySem.W.ki_setAt ho h0 (by omega) (by rw [List.size_toArray, ← hl]; exact h4) (by rw [hk]; exact ⟨_, I', q⟩)
  · have hk : (k + (its.toArray.size : Int)).toNat = j := by
      rw [seqIndex_neg (by omega) h3] at h1
      rw [List.size_toArray, ← hl]
      exact Option.some.inj h1
    exact PySem.W.ki_setBack ho (by omega) (by rw [List.size_toArray, ← hl]; exact h3) (by omega) (by rw [hk]; exact ⟨_, I', q⟩)
theorem slice_bounds (lo hi : Option Int) (n : Nat) : (sliceBounds lo hi none n).1 = ((HT.sIx n 0 lo : Nat) : Int) ∧ (sliceBounds lo hi none n).2.1 = ((HT.sIx n n hi : Nat) : Int) ∧ (sliceBounds lo hi none n).2.2 = 1 := by
  refine ⟨?_, ?_, rfl⟩
  · cases lo with
    | none => simp [sliceBounds, HT.sIx]
    | some i =>
      simp only [sliceBounds, HT.sIx, Option.getD_none, show (1 : Int) > 0 by decide, if_true]
      by_cases h : i < 0
      · simp only [h, if_true] <;> omega
      · simp only [h, if_false] <;> omega
  · cases hi with
    | none => simp [sliceBounds, HT.sIx]
    | some i =>
      simp only [sliceBounds, HT.sIx, Option.getD_none, show (1 : Int) > 0 by decide, if_true]
      by_cases h : i < 0
      · simp only [h, if_true] <;> omega
      · simp only [h, if_false] <;> omega
theorem slicePick_cut (its : List Value) (lo hi : Option Int) : slicePick its.toArray lo hi none = ((its.drop (HT.sIx its.length 0 lo)).take (HT.sIx its.length its.length hi - HT.sIx its.length 0 lo)).toArray := by
  obtain ⟨h1, h2, h3⟩ := slice_bounds lo hi its.toArray.size
  unfold slicePick
  rw [h1, h2, h3]
  simp only [sliceRange_one, pick_run, List.size_toArray] <;> rfl
def rSlL (K : PySem.W.Frag) : V → Option Int → Option Int → Hp → VK → Prop := fun x lo hi H Q => ∃ a xs, x = .ref a ∧ SqL K H a xs ∧ ∀ p, H p = none → Q (.ref p) (upd H p (.lst (cutV xs lo hi)))
theorem sl_list : SlR X (rSlL X.K) := by
  intro pins s σ H x v vl vu lo hi sl Q I rx hs pl pu h
  obtain ⟨a, xs, rfl, hx, q⟩ := h
  cases rx
  obtain ⟨its, r, ht, hz⟩ := I.list hx
  have hlen := r.length
  refine ⟨"list", _, slot_list_getitem.lookup, ht.isList.typeIs, ?_⟩
  refine wpAny_getItem_list_slice ht.isList hs pl pu .none (by simp) ?_ (by rw [List.size_toArray] <;> omega)
  rw [slicePick_cut, ← hlen]
  refine ⟨.ref s.heap.objs.size, _, I.laid (t' := s.toks) (o := .lst (cutV xs lo hi)) (fun b ob q => Heap.get?_push_of_some _ q) (Nat.le_refl _) ?_, rfl, q _ (I.hok.fresh (Nat.le_refl _))⟩
  exact ⟨Nat.le_trans (cutV_length xs lo hi) hz, _, 0, (r.drop (HT.sIx xs.length 0 lo)).take (HT.sIx xs.length xs.length hi - HT.sIx xs.length 0 lo), Heap.get?_push_size _ rfl⟩
def flatV : V → Bool
  | .non => true
  | .bl _ => true
  | .int _ => true
  | .str _ => true
  | _ => false
theorem call_len_seq : CallR X (.builtin "len") (fun xs H Q => ∃ p ys, xs = [.ref p] ∧ (SqL X.K H p ys ∨ SqT X.K H p ys) ∧ Q (.int ys.length) H) := by
  intro pins s σ H xs us Q I r h
  obtain ⟨p, ys, rfl, hq, q⟩ := h
  obtain ⟨u, rfl, rx⟩ := vals1 r
  cases rx
  have hn := line63
  rcases hq with hq | hq
  · obtain ⟨its, r', pl, hz⟩ := I.list hq
    have hlen := r'.length
    exact Calls.call_len_list pl.isList (by simp only [List.size_toArray] <;> omega) ⟨.int ys.length, H, I.tok _, ⟨s.toks + 1, by rw [List.size_toArray, hlen]⟩, q⟩
  · obtain ⟨its, r', pl, hz⟩ := I.tuple hq
    have hlen := r'.length
    exact len_tuple pl (by simp only [List.size_toArray] <;> omega) ⟨.int ys.length, H, I.tok _, ⟨s.toks + 1, by rw [List.size_toArray, hlen]⟩, q⟩
theorem CallR.or {f : Value} {r r' : List V → Hp → VK → Prop} (h : CallR X f r) (h' : CallR X f r') : CallR X f (fun xs H Q => r xs H Q ∨ r' xs H Q) := by
  intro pins s σ H xs us Q I rs q
  rcases q with q | q
  · exact h pins s σ H xs us Q I rs q
  · exact h' pins s σ H xs us Q I rs q
theorem call_list_of : CallR X (.type "list") (fun xs H Q => ∃ p ys, xs = [.ref p] ∧ (SqL X.K H p ys ∨ SqT X.K H p ys) ∧ ∀ l, H l = none → Q (.ref l) (upd H l (.lst ys))) := by
  intro pins s σ H xs us Q I r h
  obtain ⟨p, ys, rfl, hq, q⟩ := h
  obtain ⟨u, rfl, rx⟩ := vals1 r
  cases rx
  have fin : ∀ (its : List Value), Vals ys its → ys.length ≤ sizeLine → ∀ (h' : Heap) (c' : Nat), (∀ b o', s.heap.get? b = some o' → h'.get? b = some o') →
      h'.get? s.heap.objs.size = some { cls := .type "list", dict := none, data := .seq its.toArray c', slots := #[] } → EP X pins σ Q (.ref s.heap.objs.size) { s with heap := h' } := fun its r' hz h' c' kp e =>
    ⟨.ref s.heap.objs.size, _, I.laid (t' := s.toks) kp (Nat.le_refl _) (show ObjOk X.prog X.w _ h' _ (.lst ys) from ⟨hz, its, c', r', e⟩), rfl, q _ (I.hok.fresh (Nat.le_refl _))⟩
  rcases hq with hq | hq
  · obtain ⟨its, r', pl, hz⟩ := I.list hq
    have hlen := r'.length
    obtain ⟨o, ho, hc, n, hd⟩ := pl.isList
    exact call_list_seq p (.inl rfl) ho hc hd (fun h' c' kp e => fin its r' hz h' c' kp e) (by simp only [List.size_toArray] <;> omega)
  · obtain ⟨its, r', pl, hz⟩ := I.tuple hq
    have hlen := r'.length
    obtain ⟨o, ho, hc, n, hd⟩ := pl
    exact call_list_seq p (.inr rfl) ho hc hd (fun h' c' kp e => fin its r' hz h' c' kp e) (by simp only [List.size_toArray] <;> omega)
def tyV (K : PySem.W.Frag) (T : String) (x : V) (H : Hp) : Prop := match x with
  | .str _ => T = "str"
  | .int _ => T = "int"
  | .ref p => (T = "list" ∧ ∃ xs, SqL K H p xs) ∨ (T = "tuple" ∧ ∃ o, K.lookup p = some o ∧ o.cls = .type "tuple" ∧ o.dict = none) ∨
      (T = "dict" ∧ ((∃ kvs, H p = some (.dK kvs)) ∨ ∃ kvs, H p = some (.dT kvs))) ∨ (T = "set" ∧ ∃ S n, H p = some (.set S n))
  | _ => False
theorem tyV_is {pins : List (Addr × Obj)} {σ : St} {H : Hp} {s : Shared} {T : String} {x : V} {v : Value} (I : Inv X pins σ H s) (r : RelV x v) (ty : tyV X.K T x H) :
    s.TypeIs v T ∧ ∀ a, v = .ref a → ∃ ob, s.heap.get? a = some ob ∧ ob.dict = none := by
  cases x with
  | str z =>
    obtain ⟨t, rfl⟩ := r
    cases (show T = "str" from ty)
    exact ⟨typeIs_str s z t, fun _ e => nomatch e⟩
  | int i =>
    obtain ⟨t, rfl⟩ := r
    cases (show T = "int" from ty)
    exact ⟨typeIs_int s i t, fun _ e => nomatch e⟩
  | ref p =>
    cases r
    rcases ty with ⟨rfl, xs, hq⟩ | ⟨rfl, o, hk, hc, hd⟩ | ⟨rfl, hk⟩ | ⟨rfl, S, n, hk⟩
    · obtain ⟨its, _, pl, _⟩ := I.list hq
      refine ⟨pl.isList.typeIs, fun a e => ?_⟩
      cases e
      obtain ⟨o, n, e, c, hd, _⟩ := pl
      exact ⟨o, e, hd⟩
    · refine ⟨⟨o, I.kIn p o hk, hc⟩, fun a e => ?_⟩
      cases e
      exact ⟨o, I.kIn _ o hk, hd⟩
    · have z : ∃ o, s.heap.get? p = some o ∧ o.ExactDict := by
        rcases hk with ⟨kvs, hk⟩ | ⟨kvs, hk⟩
        · obtain ⟨_, _, _, _, o, _, _, e, ex, _⟩ := I.hok p _ hk
          exact ⟨o, e, ex⟩
        · obtain ⟨_, _, _, _, o, _, _, e, ex, _⟩ := I.hok p _ hk
          exact ⟨o, e, ex⟩
      obtain ⟨o, e, ex⟩ := z
      refine ⟨⟨o, e, ex.1⟩, fun a e2 => ?_⟩
      cases e2
      exact ⟨o, e, ex.2.1⟩
    · obtain ⟨o, _, _, _, e, ex, _⟩ := I.hok p _ hk
      refine ⟨⟨o, e, ex.1⟩, fun a e2 => ?_⟩
      cases e2
      exact ⟨o, e, ex.2.1⟩
  | _ => exact False.elim ty
def tBM (K : PySem.W.Frag) (T : String) (r : V → List V → Hp → VK → Prop) (to : TE) (t : TA) : TE := fun σ H Q => to σ H fun x H1 => tyV K T x H1 ∧ t σ H1 fun xs H2 => r x xs H2 Q
variable {o e : Expr} {es : List Expr} {to : TE} {t : TA} {name : Str} {apos cpos : Pos} {T id : String} {r : V → List V → Hp → VK → Prop}
theorem pe_bm (pa : PlainAttrs T) (slot : Slot T name id) (hty : typeOf (.builtin id) = pure (.type "method_descriptor")) (hm : MtR X id r) (ho : PE X o to) (ha : PA X (e :: es) t)
    (hbase : attributeBase o name X.env (eval o X.env) = eval o X.env := by rfl)
    (hfew : ((backTo cpos (starEach (e :: es) X.env)).all (fun x => !x.1) && (backToKw cpos (keywordEach [] X.env)).all (fun x => x.1.isSome)
      && decide ((e :: es).length + ([] : List Keyword).length + (if ([] : List Keyword).isEmpty then 0 else 1) < 30)) = true := by rfl)
    (hline : (apos.endLine == cpos.line) = true := by rfl) (hs : starEach (e :: es) X.env = (false, eval e X.env) :: starEach es X.env := by rfl) (hplain : (backTo cpos (starEach es X.env)).any (·.1) = false := by rfl) :
    PE X (.Call (.Attribute o name apos) (e :: es) [] cpos) (tBM X.K T r to t) := by
  intro pins s σ H Q I h
  refine wpAny_Call_method_late hbase hfew hline rfl (thn (ho pins s σ H _ I h) fun v s1 ⟨x, H1, I1, r1, ty, q1⟩ => ?_)
  obtain ⟨h1, h2⟩ := tyV_is I1 r1 ty
  refine ⟨T, id, pa, slot, hty, h1, h2, ?_⟩
  have hA := ha cpos pins s1 σ H1 _ I1 q1
  rw [hs] at hA ⊢
  refine Calls.callWith_builtin (by show (false || (backTo cpos (starEach es X.env)).any (·.1)) = false; rw [hplain] <;> rfl) (Calls.evalArgs_plain ?_)
  exact thn hA fun us s2 ⟨vs, H2, I2, r2, q2⟩ => hm pins s2 σ H2 x vs v us Q I2 r1 r2 q2
/- xs.append(e), list.index on a module's tuple .. are MtR facts of 06m -/
end
end L2
namespace L2
open PySem PySem.Spec PyProof.Rows
def MtM (X : Cx) (id : String) (r : V → List V → Hp → VK → Prop) : Prop :=
  ∀ (pins : List (Addr × Obj)) (s : Shared) (σ : St) (H : Hp) (x : V) (xs : List V) (v : Value) (us : List Value) (Q : VK), Inv X pins σ H s → RelV x v → Vals xs us → r x xs H Q →
    wpAny (model X.prog X.w) X.A (call (.builtin id) (v :: us)) (EP X pins σ Q) X.xe s
theorem Vals.one : ∀ {x : V} {us : List Value}, Vals [x] us → ∃ u, us = [u] ∧ RelV x u
  | _, _, .cons r .nil => ⟨_, rfl, r⟩
theorem Vals.two : ∀ {x y : V} {us : List Value}, Vals [x, y] us → ∃ u v, us = [u, v] ∧ RelV x u ∧ RelV y v
  | _, _, _, .cons r (.cons q .nil) => ⟨_, _, rfl, r, q⟩
theorem Vals.zero : ∀ {us : List Value}, Vals [] us → us = []
  | _, .nil => rfl
theorem Vals.reverse {xs : List V} {us : List Value} (h : Vals xs us) : Vals xs.reverse us.reverse := by
  induction h with
  | nil => exact .nil
  | cons r t ih => rw [List.reverse_cons, List.reverse_cons]; exact Vals.append ih (.cons r .nil)
theorem Vals.rep {xs : List V} {us : List Value} (h : Vals xs us) : ∀ k : Nat, Vals (List.replicate k xs).flatten (List.replicate k us).flatten
  | 0 => .nil
  | k + 1 => by
    rw [List.replicate_succ, List.replicate_succ, List.flatten_cons, List.flatten_cons]
    exact Vals.append h (Vals.rep h k)
section
variable {X : Cx} {pins : List (Addr × Obj)} {σ : St} {H : Hp} {s : Shared} {l b : Addr} {xs ys zs : List V}
theorem Inv.lset {its its' : List Value} {n : Nat} {f : Array Value → Array Value} {t' : Nat} (I : Inv X pins σ H s) (hH : H l = some (.lst xs))
    (e : s.heap.get? l = some { cls := .type "list", data := .seq its.toArray n }) (hf : f its.toArray = its'.toArray) (hv : Vals ys its') (hz : ys.length ≤ sizeLine) :
    Inv X pins σ (upd H l (.lst ys)) { s with heap := s.heap.update l (Obj.mapSeq f), toks := t' } := by
  have q := PySem.IsL.update e f
  rw [hf] at q
  refine I.write (x := l) (e := l) (by rw [hH]; exact trivial) (.inl rfl) (fun b' u hb hu => (Heap.get?_update_other s.heap (Obj.mapSeq f) (Ne.symm hb)).trans hu) ⟨_, q⟩ ?_
  exact ⟨hz, its', _, hv, q⟩
theorem Inv.fresh (I : Inv X pins σ H s) : H s.heap.objs.size = none := I.hok.fresh (Nat.le_refl _)
theorem Inv.lstM (I : Inv X pins σ H s) (hH : H l = some (.lst xs)) : xs.length ≤ sizeLine ∧ ∃ (its : List Value) (n : Nat), Vals xs its ∧ xs.length = its.length ∧ s.heap.get? l = some { cls := .type "list", data := .seq its.toArray n } := by
  obtain ⟨z, its, n, r, e⟩ := I.hok l _ hH
  exact ⟨z, its, n, r, r.length, e⟩
end
section
variable {X : Cx}
def rAppend : V → List V → Hp → VK → Prop := fun x vs H Q => ∃ l xs y, x = .ref l ∧ vs = [y] ∧ H l = some (.lst xs) ∧ xs.length < sizeLine ∧ Q .non (upd H l (.lst (xs ++ [y])))
theorem mt_append : MtM X "list.append" rAppend := by
  intro pins s σ H x vs v us Q I rx rv h
  obtain ⟨l, xs, y, rfl, rfl, hH, hz, q⟩ := h
  cases rx
  obtain ⟨u, rfl, ru⟩ := rv.one
  obtain ⟨z, its, n, r, hl, e⟩ := I.lstM hH
  refine call_meets F.slot_list_append ⟨_, e, rfl⟩ F.entry_list_append (F.args_list_append_2 _ _) (PySem.list_append l its.toArray n u (by rw [List.size_toArray]; omega)) ⟨e, ?_⟩
  refine ⟨.non, _, I.lset (its' := its ++ [u]) hH e (by simp) (r.append (.cons ru .nil)) ?_, rfl, q⟩
  rw [List.length_append, List.length_singleton]
  omega
end
section
variable {prog : Program} {w : World} {A : Around} {E : Value → Shared → Prop} {s : Shared}
set_option maxRecDepth 100000 in
end
section
variable {X : Cx}
end
end L2
namespace L2
open PySem PySem.Spec PyProof.Rows
section
variable {κ : Type} [DecidableEq κ]
def valV (kvs : List (κ × V)) (k : κ) : Option V := (kvs.find? fun kv => decide (kv.1 = k)).map (·.2)
def putK (kvs : List (κ × V)) (k : κ) (v : V) : List (κ × V) :=
  if (kvs.any fun kv => decide (kv.1 = k)) = true then kvs.map (fun kv => if kv.1 = k then (kv.1, v) else kv) else kvs ++ [(k, v)]
def dropK (kvs : List (κ × V)) (k : κ) : List (κ × V) := kvs.filter fun kv => decide (kv.1 ≠ k)
theorem valV_pos {p : κ × V} {r : List (κ × V)} {k : κ} (e : p.1 = k) : valV (p :: r) k = some p.2 := by simp [valV, List.find?_cons, e]
theorem valV_neg {p : κ × V} {r : List (κ × V)} {k : κ} (e : ¬ p.1 = k) : valV (p :: r) k = valV r k := by simp [valV, List.find?_cons, e]
theorem valV_any (k : κ) : ∀ kvs : List (κ × V), (kvs.any fun kv => decide (kv.1 = k)) = (valV kvs k).isSome
  | [] => rfl
  | p :: r => by
    rw [List.any_cons]
    by_cases e : p.1 = k
    · simp only [valV_pos e, decide_eq_true e, Bool.true_or, Option.isSome_some]
    · rw [valV_neg e, decide_eq_false e, Bool.false_or]; exact valV_any k r
theorem RelO.isSome_eq {o : Option V} {u : Option Value} (r : RelO o u) : o.isSome = u.isSome := by
  cases o with
  | none => cases u with
    | none => rfl
    | some _ => exact (show False from r).elim
  | some _ => cases u with
    | none => exact (show False from r).elim
    | some _ => rfl
theorem RelO.getD {o : Option V} {u : Option Value} {d : V} {d' : Value} (r : RelO o u) (rd : RelV d d') : RelV (o.getD d) (u.getD d') := by
  cases o with
  | none => cases u with
    | none => exact rd
    | some _ => exact (show False from r).elim
  | some _ => cases u with
    | none => exact (show False from r).elim
    | some _ => exact r
theorem KV.val {kvs : List (κ × V)} {vs : List (κ × Value)} (r : KV kvs vs) (k : κ) : RelO (valV kvs k) (valueAt vs k) := by
  unfold KV at r
  induction r with
  | nil => exact True.intro
  | @cons p q ps qs h t ih =>
    obtain ⟨h1, h2⟩ := h
    by_cases e : p.1 = k
    · have e' : q.1 = k := h1.symm.trans e
      have b : valueAt (q :: qs) k = some q.2 := by simp [valueAt, List.find?_cons, e']
      rw [valV_pos e, b]; exact h2
    · have e' : ¬ q.1 = k := fun z => e (h1.trans z)
      have b : valueAt (q :: qs) k = valueAt qs k := by simp [valueAt, List.find?_cons, e']
      rw [valV_neg e, b]; exact ih
theorem KV.any {kvs : List (κ × V)} {vs : List (κ × Value)} (r : KV kvs vs) (k : κ) : (kvs.any fun kv => decide (kv.1 = k)) = vs.any fun kv => decide (kv.1 = k) := by
  unfold KV at r
  induction r with
  | nil => rfl
  | cons h t ih => rw [List.any_cons, List.any_cons, ih, h.1]
theorem KV.repl {kvs : List (κ × V)} {vs : List (κ × Value)} (r : KV kvs vs) (k : κ) {y : V} {u : Value} (ry : RelV y u) :
    KV (kvs.map fun kv => if kv.1 = k then (kv.1, y) else kv) (vs.map fun kv => if kv.1 = k then (kv.1, u) else kv) := by
  unfold KV at r ⊢
  induction r with
  | nil => exact .nil
  | @cons p q ps qs h t ih =>
    rw [List.map_cons, List.map_cons]
    refine .cons ?_ ih
    obtain ⟨h1, h2⟩ := h
    by_cases e : p.1 = k
    · rw [if_pos e, if_pos (h1.symm.trans e)]; exact ⟨h1, ry⟩
    · rw [if_neg e, if_neg (fun z => e (h1.trans z))]; exact ⟨h1, h2⟩
theorem KV.put {kvs : List (κ × V)} {vs : List (κ × Value)} (r : KV kvs vs) (k : κ) {y : V} {u : Value} (ry : RelV y u) : KV (putK kvs k y) (stored vs k u) := by
  unfold putK stored
  rw [r.any k]
  by_cases e : (vs.any fun kv => decide (kv.1 = k)) = true
  · rw [if_pos e, if_pos e]; exact r.repl k ry
  · rw [if_neg e, if_neg e]; exact Paired.snoc r ⟨rfl, ry⟩
theorem KV.drop {kvs : List (κ × V)} {vs : List (κ × Value)} (r : KV kvs vs) (k : κ) : KV (dropK kvs k) (without vs k) := by
  unfold KV at r ⊢
  unfold dropK without
  induction r with
  | nil => exact .nil
  | @cons p q ps qs h t ih =>
    obtain ⟨h1, h2⟩ := h
    rw [List.filter_cons, List.filter_cons]
    by_cases e : p.1 = k
    · have a : ¬ decide (p.1 ≠ k) = true := by simp [e]
      have b : ¬ decide (q.1 ≠ k) = true := by simp [h1.symm.trans e]
      rw [if_neg a, if_neg b]; exact ih
    · have e' : ¬ q.1 = k := fun z => e (h1.trans z)
      have a : decide (p.1 ≠ k) = true := by simp [e]
      have b : decide (q.1 ≠ k) = true := by simp [e']
      rw [if_pos a, if_pos b]; exact .cons ⟨h1, h2⟩ ih
theorem KV.keys {kvs : List (κ × V)} {vs : List (κ × Value)} (r : KV kvs vs) : kvs.map (·.1) = vs.map (·.1) := by
  unfold KV at r
  induction r with
  | nil => rfl
  | cons h t ih => rw [List.map_cons, List.map_cons, ih, h.1]
theorem KV.length {kvs : List (κ × V)} {vs : List (κ × Value)} (r : KV kvs vs) : kvs.length = vs.length := Paired.length r
end
abbrev KT (H : Hp) : List (List Key × V) → List (List Key × Addr × Value) → Prop := Paired fun p q => p.1 = q.1 ∧ H q.2.1 = some (.tup (p.1.map kV)) ∧ RelV p.2 q.2.2
theorem KT.val {H : Hp} {kvs : List (List Key × V)} {xs : List (List Key × Addr × Value)} (r : KT H kvs xs) (k : List Key) : RelO (valV kvs k) ((atKey xs k).map (·.2)) := by
  induction r with
  | nil => exact True.intro
  | @cons p q ps qs h t ih =>
    obtain ⟨h1, _, h2⟩ := h
    by_cases e : p.1 = k
    · have e' : q.1 = k := h1.symm.trans e
      have b : atKey (q :: qs) k = some q.2 := by simp [atKey, List.find?_cons, e']
      rw [valV_pos e, b]; exact h2
    · have e' : ¬ q.1 = k := fun z => e (h1.trans z)
      have b : atKey (q :: qs) k = atKey qs k := by simp [atKey, List.find?_cons, e']
      rw [valV_neg e, b]; exact ih
theorem KT.repl {H : Hp} {kvs : List (List Key × V)} {xs : List (List Key × Addr × Value)} (r : KT H kvs xs) (k : List Key) {y : V} {u : Value} (ry : RelV y u) :
    KT H (kvs.map fun kv => if kv.1 = k then (kv.1, y) else kv) (xs.map (putAt k u)) := by
  induction r with
  | nil => exact .nil
  | @cons p q ps qs h t ih =>
    rw [List.map_cons, List.map_cons]
    refine .cons ?_ ih
    obtain ⟨h1, h2, h3⟩ := h
    unfold putAt
    by_cases e : p.1 = k
    · rw [if_pos e, if_pos (h1.symm.trans e)]; exact ⟨h1, h2, ry⟩
    · rw [if_neg e, if_neg (fun z => e (h1.trans z))]; exact ⟨h1, h2, h3⟩
theorem KT.put {H : Hp} {kvs : List (List Key × V)} {xs : List (List Key × Addr × Value)} (r : KT H kvs xs) (k : List Key) {b : Addr} {y : V} {u : Value} (hb : H b = some (.tup (k.map kV))) (ry : RelV y u) :
    KT H (putK kvs k y) (storedH xs k b u) := by
  have e : (kvs.any fun kv => decide (kv.1 = k)) = (atKey xs k).isSome := by
    rw [valV_any, (r.val k).isSome_eq, Option.isSome_map]
  unfold putK storedH
  rw [e]
  by_cases q : (atKey xs k).isSome = true
  · rw [if_pos q, if_pos q]; exact r.repl k ry
  · rw [if_neg q, if_neg q]; exact Paired.snoc r ⟨rfl, hb, ry⟩
theorem KT.keeps {H H' : Hp} {kvs : List (List Key × V)} {xs : List (List Key × Addr × Value)} (r : KT H kvs xs) (ht : ∀ b ys, H b = some (.tup ys) → H' b = some (.tup ys)) : KT H' kvs xs :=
  Paired.mapP r fun _ _ z => ⟨z.1, ht _ _ z.2.1, z.2.2⟩
section
variable {P : Program} {w : World} {H : Hp} {h : Heap} {a : Addr}
theorem rd_of {u : HO} (ok : HOk P w H h) (e : Rd H a u) : ObjOk P w H h a u := e.ok ok
theorem dk_rd {kvs : List (Key × V)} (ok : HOk P w H h) (e : Rd H a (.dK kvs)) : kvs.length ≤ sizeLine ∧ (a == sysModules) = false ∧ ∃ vs, KV kvs vs ∧ h.DictOf (mixKind P w) a vs :=
  show ObjOk P w H h a (.dK kvs) from rd_of ok e
end
def DGet (H : Hp) (a : Addr) (y : V) (r : Option V) : Prop :=
  (∃ kvs k, Rd H a (.dK kvs) ∧ y = kV k ∧ r = valV kvs k) ∨ ∃ kvs k b, Rd H a (.dT kvs) ∧ y = .ref b ∧ H b = some (.tup (k.map kV)) ∧ r = valV kvs k
def DPut (H : Hp) (a : Addr) (y v : V) (H' : Hp) : Prop :=
  (∃ kvs k, H a = some (.dK kvs) ∧ y = kV k ∧ kvs.length < sizeLine ∧ H' = upd H a (.dK (putK kvs k v))) ∨
  ∃ kvs k b, H a = some (.dT kvs) ∧ y = .ref b ∧ H b = some (.tup (k.map kV)) ∧ kvs.length < sizeLine ∧ H' = upd H a (.dT (putK kvs k v))
theorem DGet.k {H : Hp} {a : Addr} {kvs : List (Key × V)} {k : Key} (e : H a = some (.dK kvs)) : DGet H a (kV k) (valV kvs k) := .inl ⟨kvs, k, .inl e, rfl, rfl⟩
theorem DGet.t {H : Hp} {a b : Addr} {kvs : List (List Key × V)} {k : List Key} (e : H a = some (.dT kvs)) (eb : H b = some (.tup (k.map kV))) : DGet H a (.ref b) (valV kvs k) := .inr ⟨kvs, k, b, .inl e, rfl, eb, rfl⟩
theorem DPut.k {H : Hp} {a : Addr} {kvs : List (Key × V)} {k : Key} {v : V} (e : H a = some (.dK kvs)) (hl : kvs.length < sizeLine) : DPut H a (kV k) v (upd H a (.dK (putK kvs k v))) := .inl ⟨kvs, k, e, rfl, hl, rfl⟩
theorem DPut.t {H : Hp} {a b : Addr} {kvs : List (List Key × V)} {k : List Key} {v : V} (e : H a = some (.dT kvs)) (eb : H b = some (.tup (k.map kV))) (hl : kvs.length < sizeLine) :
    DPut H a (.ref b) v (upd H a (.dT (putK kvs k v))) := .inr ⟨kvs, k, b, e, rfl, eb, hl, rfl⟩
section
variable {X : Cx} {pins : List (Addr × Obj)} {σ : St} {H : Hp} {s : Shared} {a : Addr} {y v : V} {u r : Value} {o : Option V} {A : Around} {E : Value → Shared → Prop}
theorem Inv.big (I : Inv X pins σ H s) : sysModules < s.heap.objs.size := by
  have h : mainGlobals < s.heap.objs.size := (I.mod.glob.keeps I.bk).lt
  exact Nat.lt_trans (by decide) h
end
section
variable {X : Cx} {pins : List (Addr × Obj)} {σ : St} {H : Hp} {s : Shared} {a : Addr} {kvs : List (Key × V)} {k : Key} {u : Value} {A : Around} {E : Value → Shared → Prop}
end
section
variable {X : Cx} {o i e value : Expr} {pos pos' tpos : Pos} {td ty tv : TE}
end
section
variable {X : Cx} {pos : Pos}
end
section
variable {X : Cx} {pins : List (Addr × Obj)} {σ : St} {H : Hp} {s : Shared} {a : Addr} {y d : V} {u r : Value} {o : Option V} {A : Around} {E : Value → Shared → Prop}
end
section
variable {X : Cx} {o e f : Expr} {apos cpos : Pos} {td ty tx : TE}
end
section
variable {X : Cx} {pins : List (Addr × Obj)} {σ : St} {H : Hp} {s : Shared} {a : Addr} {kvs : List (Key × V)} {A : Around} {E : Value → Shared → Prop}
end
section
variable {X : Cx} {pins : List (Addr × Obj)} {σ : St} {H : Hp} {s : Shared} {a : Addr} {y : V} {u : Value} {A : Around} {E : Value → Shared → Prop}
end
end L2
namespace Att
open PySem PySem.W PySem.Calls PyProof.Rows
theorem ints_of_wellAll {P : Params} {h : Heap} : ∀ (ns : List Int) (vs : List Value), WellAll P h vs (ns.map WData.int) → IntsAre vs ns := by
  intro ns
  induction ns with
  | nil =>
    intro vs w
    rw [List.map_nil] at w
    cases w
    exact .nil
  | cons n ns ih =>
    intro vs w
    rw [List.map_cons] at w
    cases w with
    | cons a b =>
      cases a
      exact .cons _ _ (ih _ b)
theorem script_of {l : OpenLaw} {n : Nat} (hn : l.most = some n) {P : Params} {h : Heap} {args : List WData} {vals : List Value}
    (hpre : l.row.toRowW.claim.pre args = true) (hwl : WellAll P h vals args) :
    ∃ a vs ns, vals = [Value.ref a] ∧ args = [WData.list (ns.map WData.int)] ∧ h.get? a = some { cls := .type "list", data := .seq vs.toArray } ∧ IntsAre vs ns ∧ ns.length ≤ n := by
  have hsh : WShape.hasAll [] args [.list .int] = true := (pre_splitW hpre).1
  have hc : l.pre.holds [] { args := args } = true := (pre_splitW hpre).2
  obtain ⟨d, r, rfl, h1, h2⟩ := hasAllW_cons hsh
  obtain rfl := hasAllW_nil h2
  obtain ⟨xs, rfl, h3⟩ := hasW_list h1
  obtain ⟨ns, rfl⟩ := items_int h3
  have hlen : ns.length ≤ n := by
    unfold OpenLaw.pre at hc
    have h4 : (WTm.not (.lt (.lit (.int (n : Int))) (.len (.arg 0)))).holds [] { args := [.list (ns.map .int)] } = true := by
      have h4 := (holds_andW hc).1
      rw [hn] at h4
      exact h4
    have h5 := condW_of h4 (w_not (w_lt w_lit (w_len_list (w_arg rfl))))
    rw [List.length_map] at h5
    refine Nat.le_of_not_lt fun q => ?_
    have q' : (n : Int) < ((ns.length : Nat) : Int) := by omega
    first
      | (rw [decide_eq_true q'] at h5; exact absurd h5 (by decide))
      | (simp at h5; omega)
  cases hwl with
  | cons w1 w2 =>
    cases w2
    cases w1 with
    | list ho hall => exact ⟨_, _, ns, rfl, rfl, ho, ints_of_wellAll ns _ hall, hlen⟩
theorem post_true (l : OpenLaw) (args : List WData) : l.row.toRowW.claim.post args (.bool true) args = true :=
  postW_of (r := l.row.toRowW) (X := (true == true))
    (show WShape.has [] (.bool true) .bool = true by first | rfl | decide | simp [WShape.has, WShape.arms, WShape.armsAll])
    (show (WTm.eq .res (.lit (.bool true))).value [] { args := args, res := some (.bool true), after := args } = some (.bool (true == true)) from w_eq_bool (w_res rfl) w_lit) rfl
theorem attach_call {l : OpenLaw} {n : Nat} {q : Program} {loose : List Str} {XP : (Str → Option Value) → Heap → Prop} {YP : World → Heap → Prop} {d : DefRec}
    (hn : l.most = some n) (hdf : d.params.defaults = [])
    (call : ∀ (w : World) (s₀ s₁ : Shared) (mg mb : Str → Option Value) (fa : Addr) (o : Obj) (pm cd doc : Value) (a : Addr) (vs : List Value) (ns : List Int),
      Ground q loose [] XP w s₀ mg mb s₁.heap → YP w s₁.heap →
      s₁.heap.get? fa = some o → o.data = .func (docDef d.name d.params d.body d.scope pm cd doc) → s₁.heap.CodeRec cd d.name → mg d.name = some (.ref fa) →
      s₁.heap.get? a = some { cls := .type "list", data := .seq vs.toArray } → IntsAre vs ns → ns.length ≤ n → s₁.gens = #[] →
      codeAny (model l.prog w) callerA (.call (.ref fa) ⟨[.ref a], []⟩) (fun r s' => r = .ok (.ret (.bool true)) ∧ OldK s₁.heap s'.heap ∧ s'.os = s₁.os ∧ AllBare s'.gens) s₁) :
    WalkO q loose XP YP l.row.toRowW d [] (fun f vs => PySem.call f vs) := by
  intro w s₀ s₁ mg mb G Y fa o pm cd doc dV kV ho hd hcd hD hmg hg args vals as hpre hlay hrd hwl hlo
  obtain rfl : dV = .none := Dflts.none hD hdf
  obtain rfl : kV = .none := Dflts.noKw hD
  obtain ⟨a, vs, ns, rfl, rfl, hobj, hints, hlen⟩ := script_of hn hpre hwl
  refine enter_call (codeAny_mono (call w s₀ s₁ mg mb fa o pm cd doc a vs ns G Y ho (fd_plain hd) hcd hmg hobj hints hlen hg) fun r s' hq => ?_)
  obtain ⟨rfl, h2, h3, h4⟩ := hq
  exact ⟨.inl ⟨.bool true, .bool true, [], rfl, fun _ => rfl, .bool true, post_true l _, fun _ => ⟨List.Pairwise.nil, fun _ hm => (nomatch hm)⟩⟩, h2, h3, h4⟩
section
variable {prog : Program} {w : World} {A : Around} {E : Value → Shared → Prop} {s : Shared} {K : Frag}
def ledger (h : Heap) (L d : Addr) : List (Addr × Obj) := (List.range h.objs.size).filterMap fun a => if a = L ∨ a = d then none else (h.get? a).map fun o => (a, o)
end
end Att
namespace L2
open PySem PySem.Spec PyProof.Rows
theorem vals_ints : ∀ {vs : List Value} {ns : List Int}, IntsAre vs ns → Vals (ns.map V.int) vs
  | _, _, .nil => .nil
  | _, _, .cons n t h => .cons ⟨t, rfl⟩ (vals_ints h)
def Only (H : Hp) : Prop := ∀ b, H b = none ∨ ∃ o xs, H b = some (.frz o (.lst xs))
theorem law_call {P : Program} {w : World} {K : PySem.W.Frag} {mg mb : Str → Option Value} {CX : CXT} {k : Nat} {fa a : Addr} {fd : FuncData} {x : Str} {sp : Sp} {s₁ : Shared} {vs : List Value} {ns : List Int}
    (KX : K.In s₁.heap) (hns : s₁.heap.Ns mainGlobals mg) (hb : s₁.heap.Ns builtinsNs mb) (hbb : ∀ x : Str, x ≠ "__name__" → mb x = bootBuiltins x) (hlim : s₁.heap.NoLimit) (hg : s₁.gens = #[])
    (ha : s₁.heap.get? a = some { cls := .type "list", data := .seq vs.toArray }) (hi : IntsAre vs ns) (hl : ns.length ≤ sizeLine) (hr : Room k callerA)
    (F : ∀ base : Heap, K.In base → base.Ns mainGlobals mg → FnOk P w K mg base CX k fa fd [x] sp) (hbind : ∀ (s : Shared) (u : Value), BindsTo s fd ⟨[u], []⟩ [(x, u)])
    (hsp : ∀ H : Hp, Only H → SqL K H a (ns.map V.int) → sp [.ref a] H (fun v _ => v = .bl true) fun _ _ _ => False)
    (hCX : ∀ H e s', CX [] H s₁ (fun _ _ _ => False) e s' → False) :
    codeAny (model P w) callerA (.call (.ref fa) ⟨[.ref a], []⟩) (fun r s' => r = .ok (.ret (.bool true)) ∧ OldK s₁.heap s'.heap ∧ s'.os = s₁.os ∧ AllBare s'.gens) s₁ := by
  have rv := vals_ints hi
  have lenV := hi.length
  -- from an abstract heap in which nothing but the script may be tracked
  have core : ∀ H : Hp, Only H → SqL K H a (ns.map V.int) → HOk P w H s₁.heap → (∀ b, H b ≠ none → b = a) → (H a ≠ none → K.lookup a = none) →
      codeAny (model P w) callerA (.call (.ref fa) ⟨[.ref a], []⟩) (fun r s' => r = .ok (.ret (.bool true)) ∧ OldK s₁.heap s'.heap ∧ s'.os = s₁.os ∧ AllBare s'.gens) s₁ := by
    intro H hO hS hok hA hK
    have base_of : ∀ {b : Addr} {o : Obj}, s₁.heap.get? b = some o → H b = none → (hidT s₁.heap H).get? b = some o := fun e n => hidT_get e n
    have noA : ∀ {b : Addr} {o : Obj} {es : Array DictEntry} {ep : Nat}, s₁.heap.get? b = some o → o.data = .dict es ep → H b = none := fun {b o es ep} e d => by
      cases q : H b with
      | none => rfl
      | some u =>
        have e' : b = a := hA b (by rw [q]; simp)
        subst e'
        rw [ha] at e; cases e
        have d' : Data.seq vs.toArray _ = Data.dict es ep := d
        cases d'
    have nsK : ∀ {b : Addr} {m : Str → Option Value}, s₁.heap.Ns b m → (hidT s₁.heap H).Ns b m := fun {b m} ⟨o, es, ep, e, d, r⟩ => ⟨o, es, ep, base_of e (noA e d), d, r⟩
    have hKb : K.In (hidT s₁.heap H) := fun b o e => base_of (KX b o e) (by
      cases q : H b with
      | none => rfl
      | some u =>
        have e' : b = a := hA b (by rw [q]; simp)
        subst e'
        rw [hK (by rw [q]; simp)] at e; cases e)
    have hM : Mod K mg (hidT s₁.heap H) := ⟨hKb, nsK hns, ⟨mb, nsK hb, hbb⟩, let ⟨mc, h1, h2⟩ := hlim; ⟨mc, nsK h1, h2⟩⟩
    have e0 : Env0 P w K mg (hidT s₁.heap H) callerA [] s₁ H := ⟨rfl, hM, fun b o e => of_hidT e, Nat.le_of_eq (hidT_size _ _), trivial, fun b hb => absurd (show b ∈ ([] : List Addr) from hb) (by simp), hok, .of_eq hg⟩
    refine codeAny_mono ((F _ hKb (nsK hns)).run callerA [] s₁ H ⟨[.ref a], []⟩ [.ref a] [.ref a] _ _ hr e0 (hbind s₁ (.ref a)) (.cons rfl .nil) (hsp H hO hS)) fun r s' h => ?_
    cases r with
    | error e => exact (hCX H e s' h).elim
    | ok fl =>
      cases fl with
      | next => exact False.elim h
      | brk => exact False.elim h
      | cont => exact False.elim h
      | ret u =>
        obtain ⟨v, H', os, bare, un, hok', r', q⟩ := h
        have q' : v = .bl true := q
        subst q'
        obtain rfl : u = Value.bool true := r'
        refine ⟨rfl, OldK.of_keep fun b o e => ?_, os, bare⟩
        cases q : H b with
        | none => exact un.keep b o e q (by intro z; exact absurd (show b ∈ ([] : List Addr) from z) (by simp)) (by simp)
        | some u =>
          rcases hO b with z | ⟨ob, xs, z⟩
          · rw [q] at z; cases z
          · have z2 := un.frzs b ob _ z
            obtain ⟨e1, _⟩ := hok b _ z
            obtain ⟨e2, _⟩ := hok' b _ z2
            rw [e] at e1; cases e1
            exact e2
  cases hk : K.lookup a with
  | some o =>
    -- the script is one of the module's own objects
    have e := KX a o hk
    rw [ha] at e
    cases e
    refine core (fun _ => none) (fun _ => .inl rfl) (.inr ⟨_, vs.toArray, _, hk, rfl, rfl, rfl, by rw [List.size_toArray, lenV]; exact hl, by simpa using rv⟩) (fun b u z => by have z' : (none : Option HO) = some u := z; cases z') (fun b z => absurd rfl z) fun z => absurd rfl z
  | none =>
    refine core (fun b => if b = a then some (.frz { cls := .type "list", data := .seq vs.toArray } (.lst (ns.map V.int))) else none) (fun b => ?_) (.inl (.inr ⟨{ cls := .type "list", data := .seq vs.toArray }, if_pos rfl⟩)) (fun b u z => ?_) (fun b z => ?_) fun _ => hk
    · by_cases hb : b = a
      · exact .inr ⟨_, _, if_pos hb⟩
      · exact .inl (if_neg hb)
    · by_cases hb : b = a
      · have z' := (if_pos hb).symm.trans z
        cases z'
        subst hb
        exact ⟨ha, by rw [List.length_map]; exact hl, vs, _, rv, ha⟩
      · have z' := (if_neg hb).symm.trans z
        cases z'
    · by_cases hb : b = a
      · exact hb
      · exact absurd (if_neg hb) z
end L2
namespace L2
open PySem PySem.Spec PyProof.Rows
abbrev KOf {K : PySem.W.Frag} {h : Heap} (_ : K.In h) : PySem.W.Frag := K
theorem walk_of {l : PySem.W.OpenLaw} {n k : Nat} {q : Program} {loose : List Str} {XP : (Str → Option Value) → Heap → Prop} {YP : World → Heap → Prop} {d : DefRec} {K : Params → PySem.W.Frag} {CX : World → CXT} {sp : World → Sp} {x : Str}
    (hn : l.most = some n) (hn2 : n ≤ sizeLine) (hdf : d.params.defaults = []) (hr : Room k callerA)
    (hY : ∀ (w : World) (h : Heap), YP w h → (K w.params).In h)
    (F : ∀ (w : World) (mg : Str → Option Value) (fa : Addr) (h : Heap), (K w.params).In h → h.Ns mainGlobals mg → mg d.name = some (.ref fa) →
      ∃ fd : FuncData, (∀ (s : Shared) (u : Value), BindsTo s fd ⟨[u], []⟩ [(x, u)]) ∧
        ∀ base : Heap, (K w.params).In base → base.Ns mainGlobals mg → FnOk l.prog w (K w.params) mg base (CX w) k fa fd [x] (sp w))
    (hsp : ∀ (w : World) (H : Hp) (a : Addr) (ns : List Int), ns.length ≤ n → Only H → SqL (K w.params) H a (ns.map V.int) → sp w [.ref a] H (fun v _ => v = .bl true) fun _ _ _ => False)
    (hCX : ∀ (w : World) (H : Hp) (s : Shared) (e : Value) (s' : Shared), CX w [] H s (fun _ _ _ => False) e s' → False) :
    PySem.W.WalkO q loose XP YP l.row.toRowW d [] (fun f vs => PySem.call f vs) := by
  refine Att.attach_call hn hdf fun w s₀ s₁ mg mb fa o pm cd doc a vs ns G Y ho hd hcd hmg hobj hints hlen hg => ?_
  have KX := hY w _ Y
  obtain ⟨fd, hb, hF⟩ := F w mg fa _ KX G.T.g hmg
  exact law_call KX G.T.g G.T.b G.T.builtins G.T.nolimit hg hobj hints (Nat.le_trans hlen hn2) hr hF hb (fun H hO hS => hsp w H a ns hlen hO hS) fun H e s' => hCX w H s₁ e s'
end L2
/- THE LAST THEOREM (shape; LID, My.* are yours):
   My.Adr: a structure of the addresses that your layer names (classes, functions); My.Txt K t: a structure (Prop) of the equations over K;
   My.txt_mk : {K} {implicit addresses ..} (e1 : nsIn K mainGlobals "law" = some (some (.ref f))) (e2 : K.lookup f = some ⟨oc, od, .func (fnOf "law" "law" params body scope dV kV doc pm an cdv ct), sl⟩) (e3 : codeIn K cdv "law" = true) .. : ∃ t, My.Txt K t
set_option maxRecDepth 100000 in
set_option maxHeartbeats 0 in
theorem PySem.Challenge.cw_LID_holds : PySem.Challenge.rw_LID.Holds := by
  w_on; o_law; k_head; (case hw => w_witness2)
  k_fill
  refine L2.walk_of (l := PySem.Challenge.rw_LID) (n := 63) (k := 40) (x := "script") (CX := fun w => ..) (sp := fun _ => My.sp_law) rfl (by decide) rfl ⟨rfl, by decide, by decide⟩ (fun w h Y => PySem.W.kIn_of Y) ?F ?S ?C
  case F =>
    intro w mg fa h KX G hmg
    have T : ∃ t, My.Txt (L2.KOf KX) t := by
      dsimp only [L2.KOf]                          -- K must stand as «<heap const> w.params» for k_is
      refine' My.txt_mk ?e1 ?e2 ?e3 ..
      (case e1 => PySem.W.k_is)                    -- in the order: a name -> its address -> its object -> its parts
      (case e2 => PySem.W.k_is)
      ..
    obtain ⟨t, T⟩ := T
    have e0 := hmg.symm.trans (PySem.W.mg_of KX G T.law)
    cases e0                                       -- fa is the law's own address
    exact ⟨_, fun s u => .of_eq rfl, fun base kb nb => My.law_fn T kb nb⟩     -- if «.of_eq rfl» comes too early: refine' ⟨_, ?b, fun base kb nb => My.law_fn T kb nb⟩; exact fun s u => .of_eq rfl
  case S => exact fun w H a ns hl hO hS => ..
  case C => exact ..
(the tactic k_is has no namespace: write k_is) -/
namespace L2
open PySem PySem.Spec PyProof.Rows
def defArgs (s : Stmt) : Arguments := match s with
  | .FunctionDef _ a _ _ _ _ _ _ _ _ => a
  | _ => { posonlyargs := [], args := [], vararg := none, kwonlyargs := [], kw_defaults := [], kwarg := none, defaults := [] }
def defBody (s : Stmt) : List Stmt := match s with
  | .FunctionDef _ _ b _ _ _ _ _ _ _ => b
  | _ => []
def defScope (s : Stmt) : Scope := match s with
  | .FunctionDef _ _ _ _ _ _ sc _ _ _ => sc
  | _ => { kind := .function, names := [], isGenerator := false, isCoroutine := false }
abbrev CX0 : CXT := fun _ _ _ _ _ _ => False
abbrev E0 : XK := fun _ _ _ => False
theorem pass0 {X : Cx} : Passes CX0 X E0 := fun _ _ _ _ _ _ _ h => h.elim
structure Fun (K : PySem.W.Frag) (x qual : Str) (st : Stmt) (f : Addr) (fd : FuncData) : Prop where
  ex : ∃ (oc : Value) (od : Option Addr) (kV doc pm : Value) (an : Option Addr) (cdv ct : Value) (osl : Array (Option Value)),
    fd = PySem.W.fnOf x qual (defArgs st) (defBody st) (defScope st) .none kV doc pm an cdv ct ∧ K.lookup f = some ⟨oc, od, .func fd, osl⟩ ∧ PySem.W.codeIn K cdv qual = true
  kp : PySem.W.keepIn K (.ref f) = true
section
variable {P : Program} {w : World} {K : PySem.W.Frag} {mg : Str → Option Value} {base : Heap}
theorem Fun.ok {x qual : Str} {st : Stmt} {f : Addr} {fd : FuncData} {N ps : List Str} {k : Nat} {sp : Sp} (F : Fun K x qual st f fd) (S : FnScope N ps (defScope st)) (len : ∀ vs H Q E, sp vs H Q E → vs.length = ps.length)
    (hbody : ∀ (cdv : Value) (A : Around) (outer : List Env) (s : Shared) (H : Hp) (vs : List V) (Q : VK) (E : XK), Room k (A.deeper (envOfC qual (defScope st) s.heap.objs.size f cdv)) → sp vs H Q E →
      ∃ t, PSs (cxOf CX0 P w K mg base N qual (defScope st) f cdv A outer s H E).nox (defBody st) t ∧ t { nx := fun _ H' => Q .non H', rt := Q } (start N vs) H) : FnOk P w K mg base CX0 (k + 1) f fd ps sp := by
  obtain ⟨oc, od, kV, doc, pm, an, cdv, ct, osl, rfl, lk, hcd⟩ := F.ex
  refine fn_of lk hcd S len fun A outer s H vs Q E hr hsp => ?_
  obtain ⟨t, h, q⟩ := hbody cdv A outer s H vs Q E hr hsp
  exact ⟨t, h.nox, q⟩
theorem Fun.binds {x qual : Str} {st : Stmt} {f : Addr} {fd : FuncData} {ps : List Str} (F : Fun K x qual st f fd)
    (h : ∀ (kV doc pm : Value) (an : Option Addr) (cdv ct : Value) (us : List Value), us.length = ps.length → bindArgs (PySem.W.fnOf x qual (defArgs st) (defBody st) (defScope st) .none kV doc pm an cdv ct) ⟨us, []⟩ = pure (ps.zip us)) : Binds K fd ps [] := by
  obtain ⟨oc, od, kV, doc, pm, an, cdv, ct, osl, rfl, lk, hcd⟩ := F.ex
  exact .all (h kV doc pm an cdv ct)
theorem fun_mk {x qual : Str} {st : Stmt} {f : Addr} {oc : Value} {od an : Option Addr} {osl : Array (Option Value)} {kV doc pm cdv ct : Value} (l : K.lookup f = some ⟨oc, od, .func (PySem.W.fnOf x qual (defArgs st) (defBody st) (defScope st) .none kV doc pm an cdv ct), osl⟩)
    (c : PySem.W.codeIn K cdv qual = true) (k : PySem.W.keepIn K (.ref f) = true) : Fun K x qual st f (PySem.W.fnOf x qual (defArgs st) (defBody st) (defScope st) .none kV doc pm an cdv ct) := ⟨⟨oc, od, kV, doc, pm, an, cdv, ct, osl, rfl, l, c⟩, k⟩
end
section
variable {X : Cx}
end
def Same (H H' : Hp) : Prop := ∀ b o, H b = some o → H' b = some o
theorem Same.refl (H : Hp) : Same H H := fun _ _ h => h
theorem Same.trans {H H1 H2 : Hp} (a : Same H H1) (b : Same H1 H2) : Same H H2 := fun c o h => b c o (a c o h)
theorem Same.free {H H' : Hp} (e : Same H H') {l : Addr} (h : H' l = Option.none) : H l = Option.none := by
  cases q : H l with
  | none => rfl
  | some o =>
    rw [e l o q] at h
    cases h
theorem Same.seq {K : PySem.W.Frag} {H H' : Hp} {a : Addr} {xs : List V} (e : Same H H') (h : SqL K H a xs) : SqL K H' a xs := by
  rcases h with (h | ⟨o, h⟩) | h
  · exact .inl (.inl (e _ _ h))
  · exact .inl (.inr ⟨o, e _ _ h⟩)
  · exact .inr h
section
variable {κ : Type} [DecidableEq κ]
end
end L2
set_option Elab.async false
set_option linter.all false
set_option maxRecDepth 100000
set_option maxHeartbeats 4000000
namespace L3
open PySem
inductive D where
  | non | bl (b : Bool) | int (i : Int) | str (x : Str) | tup (xs : List D) | lst (xs : List D)
  | dK (kvs : List (Sum Int Str × D)) | dT (kvs : List (List (Sum Int Str) × D)) | xc (cls : Str) (fs : List (Str × D))
  deriving Inhabited
inductive En where
  | fz (d : D) | ow (d : D) | br (d : D) | lk (d : D) | od (d : D)
  deriving Inhabited
@[reducible] def En.d : En → D
  | .fz d => d | .ow d => d | .br d => d | .lk d => d | .od _ => .xc "" []
structure Xc where
  cls : Str
  fs : List (Str × D)
inductive R (α : Type) where
  | ok (a : α) | exc (x : Xc) | stuck
@[reducible] def R.bind {α β : Type} (r : R α) (f : α → R β) : R β := match r with
  | .ok a => f a | .exc x => .exc x | .stuck => .stuck
@[simp] theorem R.bind_ok {α β : Type} (a : α) (f : α → R β) : (R.ok a).bind f = f a := rfl
@[simp] theorem R.bind_exc {α β : Type} (x : Xc) (f : α → R β) : (R.exc x : R α).bind f = .exc x := rfl
@[simp] theorem R.bind_stuck {α β : Type} (f : α → R β) : (R.stuck : R α).bind f = .stuck := rfl
abbrev Rho := List (Option En)
abbrev EF := Rho → R En
abbrev TF := Rho → R Bool
inductive Out where
  | nx (ρ : Rho) | rt (w : En) | bk (ρ : Rho) | ct (ρ : Rho) | exc (x : Xc) | stuck
abbrev SF := Rho → Out
abbrev Den := List En → R En
@[reducible] def En.st : En → R D
  | .fz d => .ok d | .ow d => .ok d | _ => .stuck
@[reducible] def En.arg : En → R En
  | .fz d => .ok (.fz d) | .ow d => .ok (.fz d) | .br d => .ok (.br d) | .lk _ => .stuck | .od (.dK kds) => .ok (.fz (.lst (kds.map Prod.snd))) | .od _ => .stuck
@[reducible] def En.nm : En → R En
  | .fz d => .ok (.fz d) | .ow d => .ok (.ow d) | _ => .stuck
def stAll : List En → R (List D)
  | [] => .ok []
  | x :: r => x.st.bind fun d => (stAll r).bind fun ds => .ok (d :: ds)
def argAll : List En → R (List En)
  | [] => .ok []
  | x :: r => x.arg.bind fun d => (argAll r).bind fun ds => .ok (d :: ds)
def eVar (i : Nat) : EF := fun ρ => match ρ[i]? with
  | some (some (.fz d)) => .ok (.fz d)
  | some (some (.ow d)) => .ok (.br d)
  | some (some (.br d)) => .ok (.br d)
  | some (some (.lk d)) => .ok (.fz d)
  | _ => .stuck
def eC (d : D) : EF := fun _ => .ok (.fz d)
def eOp (g : D → D → R En) (a b : EF) : EF := fun ρ => (a ρ).bind fun x => (b ρ).bind fun y => g x.d y.d
def eUn (g : D → R En) (a : EF) : EF := fun ρ => (a ρ).bind fun x => g x.d
def evs : List EF → Rho → R (List En)
  | [], _ => .ok []
  | a :: r, ρ => (a ρ).bind fun x => (evs r ρ).bind fun xs => .ok (x :: xs)
def sz : Nat := 16777216
def eLst (a : List EF) : EF := fun ρ => (evs a ρ).bind fun xs => (stAll xs).bind fun ds => if ds.length ≤ sz then .ok (.ow (.lst ds)) else .stuck
def eTup (a : List EF) : EF := fun ρ => (evs a ρ).bind fun xs => (stAll xs).bind fun ds => if ds.length ≤ sz then .ok (.fz (.tup ds)) else .stuck
def eCall (den : Den) (a : List EF) : EF := fun ρ => (evs a ρ).bind fun xs => (argAll xs).bind fun ys => den ys
def eB (g : List D → R En) (a : List EF) : EF := fun ρ => (evs a ρ).bind fun xs => g (xs.map En.d)
@[reducible] def okI (i : Int) : R En := .ok (.fz (.int i))
@[reducible] def okB (b : Bool) : R En := .ok (.fz (.bl b))
def dSub : D → D → R En
  | .int i, .int j => okI (i - j)
  | _, _ => .stuck
def fits (b : Nat) : Int → Bool
  | .ofNat n => Nat.ble n b
  | .negSucc n => Nat.ble n b
theorem fits_iff {b : Nat} {i : Int} : fits b i = true ↔ -((b : Int) + 1) ≤ i ∧ i ≤ b := by
  cases i with
  | ofNat n =>
    show Nat.ble n b = true ↔ _
    rw [Nat.ble_eq]
    simp only [Int.ofNat_eq_natCast]
    omega
  | negSucc n =>
    show Nat.ble n b = true ↔ _
    rw [Nat.ble_eq]
    omega
abbrev b64 : Nat := 18446744073709551614
abbrev b62 : Nat := 4611686018427387903
theorem b64e : ((b64 : Nat) : Int) = 18446744073709551614 := rfl
theorem b62e : ((b62 : Nat) : Int) = 4611686018427387903 := rfl
def dMul : D → D → R En
  | .int i, .int j => if (fits b64 i || fits b64 j) = true then okI (i * j) else .stuck
  | _, _ => .stuck
def dMod : D → D → R En
  | .int i, .int j => if 0 < j then okI (i % j) else .stuck
  | _, _ => .stuck
def dLt : D → D → R En
  | .int i, .int j => okB (decide (i < j))
  | _, _ => .stuck
def dLe : D → D → R En
  | .int i, .int j => okB (decide (i ≤ j))
  | _, _ => .stuck
def dGt : D → D → R En
  | .int i, .int j => okB (decide (j < i))
  | _, _ => .stuck
def dGe : D → D → R En
  | .int i, .int j => okB (decide (j ≤ i))
  | _, _ => .stuck
def b2i (b : Bool) : Int := if b then 1 else 0
mutual
def deq : D → D → Bool
  | .non, .non => true
  | .bl a, .bl b => a == b
  | .bl a, .int b => b2i a == b
  | .int a, .bl b => a == b2i b
  | .int a, .int b => a == b
  | .str a, .str b => a == b
  | .tup a, .tup b => deqs a b
  | .lst a, .lst b => deqs a b
  | _, _ => false
def deqs : List D → List D → Bool
  | [], [] => true
  | x :: xs, y :: ys => deq x y && deqs xs ys
  | _, _ => false
end
def eqokN : Nat → D → Bool
  | _, .non => true | _, .bl _ => true | _, .int _ => true | _, .str x => PyData.strOk x
  | n + 1, .tup a => a.all (eqokN n)
  | n + 1, .lst a => a.all (eqokN n)
  | _, _ => false
def eqok (d : D) : Bool := eqokN 8 d
def dEq (a b : D) : R En := if eqok a && eqok b then okB (deq a b) else .stuck
def dNe (a b : D) : R En := if eqok a && eqok b then okB (!deq a b) else .stuck
def ixn (n : Nat) (i : Int) : Option Nat := if 0 ≤ i then (if i < n then some i.toNat else none) else if -(n : Int) ≤ i then some (i + n).toNat else none
def ati {α : Type} (xs : List α) (i : Int) : Option α := (ixn xs.length i).bind fun j => xs[j]?
def look {κ : Type} [DecidableEq κ] (k : κ) : List (κ × D) → Option D
  | [] => none
  | (x, d) :: r => if x = k then some d else look k r
def okD (o : Option D) : R En := match o with
  | some d => .ok (.fz d)
  | none => .stuck
def dList : List D → R En
  | [.lst xs] => .ok (.ow (.lst xs))
  | [.tup xs] => .ok (.ow (.lst xs))
  | _ => .stuck
def dTuple : List D → R En
  | [.lst xs] => .ok (.fz (.tup xs))
  | [.tup xs] => .ok (.fz (.tup xs))
  | _ => .stuck
def dMin2 : List D → R En
  | [.int i, .int j] => okI (if j < i then j else i)
  | _ => .stuck
inductive Ty | int | bool | str | list | tuple | dict
def tyIs : D → Ty → Bool
  | .int _, .int => true | .bl _, .int => true | .bl _, .bool => true | .str _, .str => true
  | .lst _, .list => true | .tup _, .tuple => true | .dK _, .dict => true | .dT _, .dict => true
  | _, _ => false
def dIs (t : Ty) : D → R En
  | .xc _ _ => .stuck
  | d => okB (tyIs d t)
def truth : D → R Bool
  | .non => .ok false | .bl b => .ok b | .int i => .ok (i != 0) | .str x => if x.length ≤ sz then .ok ((x.length : Int) != 0) else .stuck
  | .lst xs => .ok (!xs.isEmpty) | .tup xs => .ok (!xs.isEmpty) | _ => .stuck
def tE (e : EF) : TF := fun ρ => (e ρ).bind fun x => truth x.d
def tNot (t : TF) : TF := fun ρ => (t ρ).bind fun b => .ok (!b)
def tAnd (t u : TF) : TF := fun ρ => (t ρ).bind fun b => if b = true then u ρ else .ok false
def tOr (t u : TF) : TF := fun ρ => (t ρ).bind fun b => if b = true then .ok true else u ρ
def isB : D → R Bool
  | .bl b => .ok b
  | _ => .stuck
def eNot (e : EF) : EF := fun ρ => (e ρ).bind fun x => (isB x.d).bind fun b => okB (!b)
def eAnd (a b : EF) : EF := fun ρ => (a ρ).bind fun x => (isB x.d).bind fun c => if c = true then b ρ else okB false
def eOr (a b : EF) : EF := fun ρ => (a ρ).bind fun x => (isB x.d).bind fun c => if c = true then okB true else b ρ
def eIf (t : TF) (a b : EF) : EF := fun ρ => (t ρ).bind fun c => if c = true then a ρ else b ρ
def sNext : SF := fun ρ => .nx ρ
def sSeq (a b : SF) : SF := fun ρ => match a ρ with
  | .nx ρ' => b ρ'
  | o => o
def sOf {α : Type} (r : R α) (k : α → Out) : Out := match r with
  | .ok a => k a | .exc _ => .stuck | .stuck => .stuck
def sSet (i : Nat) (e : EF) : SF := fun ρ => sOf ((e ρ).bind En.nm) fun w => .nx (ρ.set i (some w))
def sRet (e : EF) : SF := fun ρ => sOf ((e ρ).bind En.nm) .rt
def sRetV (i : Nat) : SF := fun ρ => match ρ[i]? with
  | some (some (.fz d)) => .rt (.fz d)
  | some (some (.ow d)) => .rt (.ow d)
  | _ => .stuck
def sRetN : SF := fun _ => .rt (.fz .non)
def sIf (t : TF) (a b : SF) : SF := fun ρ => sOf (t ρ) fun c => if c = true then a ρ else b ρ
def sBreak : SF := fun ρ => .bk ρ
def sCont : SF := fun ρ => .ct ρ
def sExpr (e : EF) : SF := fun ρ => sOf (e ρ) fun _ => .nx ρ
def sAug (i : Nat) (g : D → D → R En) (e : EF) : SF := fun ρ => match ρ[i]? with
  | some (some (.fz x)) => sOf ((e ρ).bind fun y => (g x y.d).bind En.nm) fun w => .nx (ρ.set i (some w))
  | _ => .stuck
def sApp (i : Nat) (e : EF) : SF := fun ρ => match ρ[i]? with
  | some (some (.ow (.lst xs))) => sOf ((e ρ).bind En.st) fun d => if xs.length < sz then .nx (ρ.set i (some (.ow (.lst (xs ++ [d]))))) else .stuck
  | _ => .stuck
def frz (i : Nat) (ρ : Rho) : Rho := match ρ[i]? with
  | some (some (.ow d)) => ρ.set i (some (.fz d))
  | _ => ρ
def sFrz (i : Nat) (s : SF) : SF := fun ρ => s (frz i ρ)
abbrev GF := D → Rho → R Rho
def gV (i : Nat) : GF := fun d ρ => .ok (ρ.set i (some (.fz d)))
def gVs : List Nat → List D → Rho → R Rho
  | [], [], ρ => .ok ρ
  | i :: is, d :: ds, ρ => gVs is ds (ρ.set i (some (.fz d)))
  | _, _, _ => .stuck
def gT (is : List Nat) : GF := fun d ρ => match d with
  | .tup ds => gVs is ds ρ
  | _ => .stuck
def forD (g : GF) (b : SF) : List D → Rho → Out
  | [], ρ => .nx ρ
  | x :: xs, ρ => match g x ρ with
    | .ok ρ1 => (match b ρ1 with
      | .nx ρ2 => forD g b xs ρ2
      | .ct ρ2 => forD g b xs ρ2
      | .bk ρ2 => .nx ρ2
      | o => o)
    | .exc _ => .stuck
    | .stuck => .stuck
def items : D → R (List D)
  | .lst xs => .ok xs
  | .tup xs => .ok xs
  | .dK kvs => .ok (kvs.map fun p => match p.1 with | .inl i => .int i | .inr x => .str x)
  | _ => .stuck
abbrev IF := Rho → R (List D)
def seqOf : D → R (List D)
  | .lst xs => .ok xs
  | .tup xs => .ok xs
  | _ => .stuck
def iSeq (e : EF) : IF := fun ρ => (e ρ).bind fun w => w.st.bind seqOf
def rngD (lo : Int) : Nat → List D
  | 0 => []
  | n + 1 => .int lo :: rngD (lo + 1) n
def iR1 (a : EF) : IF := fun ρ => (a ρ).bind fun x => match x.d with
  | .int j => if fits b62 j = true then .ok (rngD 0 j.toNat) else .stuck
  | _ => .stuck
def iR2 (a b : EF) : IF := fun ρ => (a ρ).bind fun x => (b ρ).bind fun y => match x.d, y.d with
  | .int i, .int j => if (fits b62 i && fits b62 j) = true then .ok (rngD i (j - i).toNat) else .stuck
  | _, _ => .stuck
def sFor (it : IF) (g : GF) (b : SF) : SF := fun ρ => sOf (it ρ) fun xs => forD g b xs ρ
def whileD (t : TF) (b : SF) : Nat → Rho → Out
  | 0, _ => .stuck
  | n + 1, ρ => sOf (t ρ) fun c => if c = true then (match b ρ with
      | .nx ρ2 => whileD t b n ρ2
      | .ct ρ2 => whileD t b n ρ2
      | .bk ρ2 => .nx ρ2
      | o => o) else .nx ρ
def sWhile (n : Nat) (t : TF) (b : SF) : SF := whileD t b n
def fin : Out → R En
  | .nx _ => .ok (.fz .non)
  | .rt w => .ok w
  | .exc x => .exc x
  | _ => .stuck
def den (n : Nat) (b : SF) : Den := fun as => fin (b (as.map some ++ List.replicate (n - as.length) none))
end L3
set_option Elab.async false
set_option linter.all false
set_option maxRecDepth 100000
set_option maxHeartbeats 4000000
namespace L3
open PySem PySem.Spec PyProof.Rows L2
abbrev St := L2.St
structure Kx where
  P : Program
  w : World
  K : PySem.W.Frag
abbrev kx (X : Cx) : Kx := ⟨X.prog, X.w, X.K⟩
def SqK (κ : Kx) (F : Hp) (a : Addr) (kvs : List (Key × V)) : Prop :=
  Rd F a (.dK kvs) ∨ (a == sysModules) = false ∧ ∃ (o : Obj) (es : Array DictEntry) (ep : Nat) (vs : List (Key × Value)), κ.K.lookup a = some o ∧ o.ExactDict ∧ o.data = .dict es ep ∧
    PySem.KeysOf (mixKind κ.P κ.w) es ∧ PySem.Pairs (mixKind κ.P κ.w) es.toList vs ∧ (vs.map (·.1)).Nodup ∧ KV kvs vs
mutual
def Rep (κ : Kx) (F : Hp) : V → D → Prop
  | v, .non => v = .non
  | v, .bl b => v = .bl b
  | v, .int i => v = .int i
  | v, .str x => v = .str x
  | v, .tup ds => ∃ a vs, v = .ref a ∧ SqT κ.K F a vs ∧ Reps κ F vs ds
  | v, .lst ds => ∃ a vs, v = .ref a ∧ SqL κ.K F a vs ∧ Reps κ F vs ds
  | v, .dK kds => ∃ a kvs, v = .ref a ∧ SqK κ F a kvs ∧ RepK κ F kvs kds
  | v, .dT kds => ∃ a kvs, v = .ref a ∧ Rd F a (.dT kvs) ∧ RepT κ F kvs kds
  | _, .xc _ _ => True
def Reps (κ : Kx) (F : Hp) : List V → List D → Prop
  | vs, [] => vs = []
  | vs, d :: ds => ∃ v r, vs = v :: r ∧ Rep κ F v d ∧ Reps κ F r ds
def RepK (κ : Kx) (F : Hp) : List (Key × V) → List (Sum Int Str × D) → Prop
  | kvs, [] => kvs = []
  | kvs, (k, d) :: r => ∃ v kr, kvs = (k, v) :: kr ∧ Rep κ F v d ∧ RepK κ F kr r
def RepT (κ : Kx) (F : Hp) : List (List Key × V) → List (List (Sum Int Str) × D) → Prop
  | kvs, [] => kvs = []
  | kvs, (k, d) :: r => ∃ v kr, kvs = (k, v) :: kr ∧ Rep κ F v d ∧ RepT κ F kr r
end
abbrev Le (F H : Hp) : Prop := ∀ a o, F a = some o → H a = some o
theorem Rd.le {F F' : Hp} (l : Le F F') {a : Addr} {u : HO} (h : Rd F a u) : Rd F' a u := by
  rcases h with h | ⟨o, h⟩
  · exact .inl (l _ _ h)
  · exact .inr ⟨o, l _ _ h⟩
theorem SqL.le {K : PySem.W.Frag} {F F' : Hp} (l : Le F F') {a : Addr} {vs : List V} (h : SqL K F a vs) : SqL K F' a vs := by
  rcases h with h | h
  · exact .inl (Rd.le l h)
  · exact .inr h
theorem SqT.le {K : PySem.W.Frag} {F F' : Hp} (l : Le F F') {a : Addr} {vs : List V} (h : SqT K F a vs) : SqT K F' a vs := by
  rcases h with h | h
  · exact .inl (Rd.le l h)
  · exact .inr h
theorem SqK.le {κ : Kx} {F F' : Hp} (l : Le F F') {a : Addr} {vs : List (Key × V)} (h : SqK κ F a vs) : SqK κ F' a vs := by
  rcases h with h | h
  · exact .inl (Rd.le l h)
  · exact .inr h
mutual
theorem Rep.le {κ : Kx} {F F' : Hp} (l : Le F F') : ∀ (d : D) {v : V}, Rep κ F v d → Rep κ F' v d
  | .non, _, h => h
  | .bl _, _, h => h
  | .int _, _, h => h
  | .str _, _, h => h
  | .tup ds, _, h => by
    obtain ⟨a, vs, e, q, r⟩ := h
    exact ⟨a, vs, e, SqT.le l q, Reps.le l ds r⟩
  | .lst ds, _, h => by
    obtain ⟨a, vs, e, q, r⟩ := h
    exact ⟨a, vs, e, SqL.le l q, Reps.le l ds r⟩
  | .dK ds, _, h => by
    obtain ⟨a, vs, e, q, r⟩ := h
    exact ⟨a, vs, e, SqK.le l q, RepK.le l ds r⟩
  | .dT ds, _, h => by
    obtain ⟨a, vs, e, q, r⟩ := h
    exact ⟨a, vs, e, Rd.le l q, RepT.le l ds r⟩
  | .xc _ _, _, h => h
theorem Reps.le {κ : Kx} {F F' : Hp} (l : Le F F') : ∀ (ds : List D) {vs : List V}, Reps κ F vs ds → Reps κ F' vs ds
  | [], _, h => h
  | d :: ds, _, h => by
    obtain ⟨v, r, e, h1, h2⟩ := h
    exact ⟨v, r, e, Rep.le l d h1, Reps.le l ds h2⟩
theorem RepK.le {κ : Kx} {F F' : Hp} (l : Le F F') : ∀ (ds : List (Sum Int Str × D)) {vs : List (Key × V)}, RepK κ F vs ds → RepK κ F' vs ds
  | [], _, h => h
  | (k, d) :: ds, _, h => by
    obtain ⟨v, r, e, h1, h2⟩ := h
    exact ⟨v, r, e, Rep.le l d h1, RepK.le l ds h2⟩
theorem RepT.le {κ : Kx} {F F' : Hp} (l : Le F F') : ∀ (ds : List (List (Sum Int Str) × D)) {vs : List (List Key × V)}, RepT κ F vs ds → RepT κ F' vs ds
  | [], _, h => h
  | (k, d) :: ds, _, h => by
    obtain ⟨v, r, e, h1, h2⟩ := h
    exact ⟨v, r, e, Rep.le l d h1, RepT.le l ds h2⟩
end
section
variable {κ : Kx} {F : Hp}
theorem Reps.length : ∀ {ds : List D} {vs : List V}, Reps κ F vs ds → vs.length = ds.length
  | [], _, h => by cases (show _ = _ from h); rfl
  | d :: ds, _, h => by
    obtain ⟨v, r, rfl, h1, h2⟩ := h
    simp [Reps.length h2]
theorem Reps.get : ∀ {ds : List D} {vs : List V} {i : Nat} {d : D}, Reps κ F vs ds → ds[i]? = some d → ∃ v, vs[i]? = some v ∧ Rep κ F v d
  | [], _, _, _, _, e => by simp at e
  | d :: ds, _, 0, _, h, e => by
    obtain ⟨v, r, rfl, h1, h2⟩ := h
    simp at e
    subst e
    exact ⟨v, rfl, h1⟩
  | d :: ds, _, i + 1, d', h, e => by
    obtain ⟨v, r, rfl, h1, h2⟩ := h
    obtain ⟨u, e1, e2⟩ := Reps.get (i := i) (d := d') h2 (by simpa using e)
    exact ⟨u, by simpa using e1, e2⟩
theorem Reps.append : ∀ {ds es : List D} {vs us : List V}, Reps κ F vs ds → Reps κ F us es → Reps κ F (vs ++ us) (ds ++ es)
  | [], _, _, _, h, k => by cases (show _ = _ from h); exact k
  | d :: ds, _, _, _, h, k => by
    obtain ⟨v, r, rfl, h1, h2⟩ := h
    exact ⟨v, r ++ _, rfl, h1, Reps.append h2 k⟩
theorem Reps.one {v : V} {d : D} (h : Rep κ F v d) : Reps κ F [v] [d] := ⟨v, [], rfl, h, rfl⟩
end
structure Gr (F H F' H' : Hp) : Prop where
  f : Le F F'
  h : Le H H'
  s : Le F' H'
  n : ∀ a, F' a ≠ none → F a ≠ none ∨ H a = none ∨ ∃ xs, H a = some (.tup xs)
theorem Le.refl {F : Hp} : Le F F := fun _ _ h => h
theorem Le.trans {F G H : Hp} (a : Le F G) (b : Le G H) : Le F H := fun x o h => b x o (a x o h)
theorem Gr.refl {F H : Hp} (s : Le F H) : Gr F H F H := ⟨Le.refl, Le.refl, s, fun _ h => .inl h⟩
theorem Le.none {F H : Hp} (l : Le F H) {a : Addr} (h : H a = none) : F a = none := by
  cases e : F a with
  | none => rfl
  | some o => rw [l a o e] at h; cases h
theorem Gr.trans {F H F1 H1 F2 H2 : Hp} (a : Gr F H F1 H1) (b : Gr F1 H1 F2 H2) : Gr F H F2 H2 :=
  ⟨Le.trans a.f b.f, Le.trans a.h b.h, b.s, fun x h => by
    rcases b.n x h with q | q | ⟨xs, q⟩
    · exact a.n x q
    · exact .inr (.inl (Le.none a.h q))
    · cases e : H x with
      | none => exact .inr (.inl rfl)
      | some o =>
        have := a.h x o e
        rw [q] at this
        cases this
        exact .inr (.inr ⟨xs, rfl⟩)⟩
theorem Gr.new {F H : Hp} (s : Le F H) {p : Addr} {o : HO} (hp : H p = none) : Gr F H F (upd H p o) :=
  ⟨Le.refl, fun a u h => by rw [upd_ne (ne_of_none h hp)]; exact h, fun a u h => by rw [upd_ne (ne_of_none (s a u h) hp)]; exact s a u h, fun _ h => .inl h⟩
theorem Gr.newF {F H : Hp} (s : Le F H) {p : Addr} {o : HO} (hp : H p = none) : Gr F H (upd F p o) (upd H p o) := by
  have hf : F p = none := Le.none s hp
  refine ⟨fun a u h => by rw [upd_ne (ne_of_none h hf)]; exact h, fun a u h => by rw [upd_ne (ne_of_none h hp)]; exact h, fun a u h => ?_, fun a h => ?_⟩
  · by_cases e : a = p
    · subst e; rw [upd_same] at h ⊢; exact h
    · rw [upd_ne e] at h ⊢; exact s a u h
  · by_cases e : a = p
    · subst e; exact .inr (.inl hp)
    · rw [upd_ne e] at h; exact .inl h
def fzAll (H F' H' : Hp) : Hp := fun b => match H b with
  | none => H' b
  | some _ => F' b
theorem fzAll_gr {F H F' H' : Hp} (s : Le F H) (g : Gr F H F' H') : Gr F H (fzAll H F' H') H' ∧ Le F' (fzAll H F' H') := by
  refine ⟨⟨fun a u h => ?_, g.h, fun a u h => ?_, fun a h => ?_⟩, fun a u h => ?_⟩
  · unfold fzAll; rw [s a u h]; exact g.f a u h
  · unfold fzAll at h
    cases e : H a with
    | none => rw [e] at h; exact h
    | some o => rw [e] at h; exact g.s a u h
  · cases e : H a with
    | none => exact .inr (.inl rfl)
    | some o =>
      unfold fzAll at h; rw [e] at h
      rcases g.n a h with q | q | q
      · exact .inl q
      · rw [e] at q; cases q
      · rw [e] at q; exact .inr (.inr q)
  · unfold fzAll
    cases e : H a with
    | none => exact g.s a u h
    | some o => exact h
def OwnO (κ : Kx) (F : Hp) : HO → D → Prop
  | .lst vs, .lst ds => Reps κ F vs ds
  | .dK kvs, .dK kds => RepK κ F kvs kds
  | .dT kvs, .dT kds => RepT κ F kvs kds
  | _, _ => False
theorem OwnO.le {κ : Kx} {F F' : Hp} (l : Le F F') {o : HO} {d : D} (h : OwnO κ F o d) : OwnO κ F' o d := by
  cases o <;> cases d <;> first
    | exact h
    | exact Reps.le l _ h
    | exact RepK.le l _ h
    | exact RepT.le l _ h
def RdV (κ : Kx) (F H : Hp) (v : V) (d : D) : Prop := Rep κ F v d ∨ ∃ a o, v = .ref a ∧ H a = some o ∧ OwnO κ F o d
def Inn (κ : Kx) (H0 F H : Hp) : List Addr → List D → Prop
  | [], [] => True
  | b :: bs, e :: es => (∃ us xs, e = .lst xs ∧ H0 b = none ∧ F b = none ∧ H b = some (.lst us) ∧ Reps κ F us xs) ∧ Inn κ H0 F H bs es
  | _, _ => False
def In2 (κ : Kx) (H0 F H : Hp) : List Addr → List (List Addr) → List D → Prop
  | [], [], [] => True
  | b :: bs, cs :: css, e :: es => (∃ xs, e = .lst xs ∧ H0 b = none ∧ F b = none ∧ H b = some (.lst (cs.map V.ref)) ∧ Inn κ H0 F H cs xs) ∧ In2 κ H0 F H bs css es
  | _, _, _ => False
def DV2 (κ : Kx) (H F H' : Hp) (v : V) (ds : List D) : Prop := ∃ a bs, v = .ref a ∧ H a = none ∧ F a = none ∧ (a :: bs).Nodup ∧ H' a = some (.lst (bs.map V.ref)) ∧ Inn κ H F H' bs ds
def DV3 (κ : Kx) (H F H' : Hp) (v : V) (ds : List D) : Prop := ∃ a bs css, v = .ref a ∧ H a = none ∧ F a = none ∧ (a :: (bs ++ css.flatten)).Nodup ∧ H' a = some (.lst (bs.map V.ref)) ∧ In2 κ H F H' bs css ds
def DVp (κ : Kx) (H F H' : Hp) (v : V) (ds : List D) (g : D) : Prop := ∃ t b us vg, v = .ref t ∧ H t = none ∧ H' t = some (.tup [.ref b, vg]) ∧ H b = none ∧ F b = none ∧ H' b = some (.lst us) ∧ Reps κ F us ds ∧ Rep κ F vg g
def DV (κ : Kx) (H F H' : Hp) (v : V) (d : D) : Prop :=
  (∃ ds, d = .lst ds ∧ DV2 κ H F H' v ds) ∨ (∃ kds : List (Sum Int Str × D), d = .dK kds ∧ DV3 κ H F H' v (kds.map Prod.snd)) ∨ ∃ ds g, d = .tup [.lst ds, g] ∧ DVp κ H F H' v ds g
def Vok (κ : Kx) (H F' H' : Hp) (v : V) : En → Prop
  | .fz d => Rep κ F' v d
  | .ow d => ∃ a o, v = .ref a ∧ H a = none ∧ F' a = none ∧ H' a = some o ∧ OwnO κ F' o d
  | .br d => ∃ a o, v = .ref a ∧ H' a = some o ∧ OwnO κ F' o d
  | .lk _ => False
  | .od d => DV κ H F' H' v d
section
variable {κ : Kx} {H F F' H' F1 H1 F2 H2 : Hp} {v : V} {w : En} {d : D}
theorem Vok.rd (h : Vok κ H F' H' v w) : RdV κ F' H' v w.d := by
  cases w with
  | fz d => exact .inl h
  | ow d => obtain ⟨a, o, e, _, _, e2, r⟩ := h; exact .inr ⟨a, o, e, e2, r⟩
  | br d => obtain ⟨a, o, e, e2, r⟩ := h; exact .inr ⟨a, o, e, e2, r⟩
  | lk d => exact h.elim
  | od d => exact .inl trivial
theorem OwnO.noTup {o : HO} (h : OwnO κ F o d) : ∀ xs, o ≠ .tup xs := fun xs z => by
  subst z
  cases d <;> exact h.elim
theorem Gr.no (g : Gr F H F' H') {a : Addr} {o : HO} (e3 : F a = none) (e2 : H a = some o) (nt : ∀ xs, o ≠ .tup xs := by intro _ z; cases z) : F' a = none := by
  cases q : F' a with
  | none => rfl
  | some u =>
    rcases g.n a (by rw [q]; exact Option.some_ne_none _) with z | z | ⟨xs, z⟩
    · exact absurd e3 z
    · rw [e2] at z; cases z
    · rw [e2] at z; cases z; exact absurd rfl (nt xs)
theorem Inn.gr {H0 : Hp} (g : Gr F H F' H') : ∀ {bs : List Addr} {ds : List D}, Inn κ H0 F H bs ds → Inn κ H0 F' H' bs ds
  | [], [], h => h
  | [], _ :: _, h => h
  | _ :: _, [], h => h
  | b :: bs, e :: es, ⟨⟨us, xs, e1, h0, hf, hh, r⟩, h⟩ => ⟨⟨us, xs, e1, h0, g.no hf hh, g.h _ _ hh, Reps.le g.f _ r⟩, Inn.gr g h⟩
theorem In2.gr {H0 : Hp} (g : Gr F H F' H') : ∀ {bs : List Addr} {css : List (List Addr)} {ds : List D}, In2 κ H0 F H bs css ds → In2 κ H0 F' H' bs css ds
  | [], [], [], h => h
  | [], _ :: _, _, h => by cases h
  | [], [], _ :: _, h => by cases h
  | _ :: _, [], _, h => by cases h
  | _ :: _, _ :: _, [], h => by cases h
  | b :: bs, cs :: css, e :: es, ⟨⟨xs, e1, h0, hf, hh, r⟩, h⟩ => ⟨⟨xs, e1, h0, g.no hf hh, g.h _ _ hh, Inn.gr g r⟩, In2.gr g h⟩
theorem Inn.older {G : Hp} (l : ∀ a, H a = none → G a = none) : ∀ {bs : List Addr} {ds : List D}, Inn κ H F' H' bs ds → Inn κ G F' H' bs ds
  | [], [], h => h
  | [], _ :: _, h => h
  | _ :: _, [], h => h
  | b :: bs, e :: es, ⟨⟨us, xs, e1, h0, r⟩, h⟩ => ⟨⟨us, xs, e1, l _ h0, r⟩, Inn.older l h⟩
theorem In2.older {G : Hp} (l : ∀ a, H a = none → G a = none) : ∀ {bs : List Addr} {css : List (List Addr)} {ds : List D}, In2 κ H F' H' bs css ds → In2 κ G F' H' bs css ds
  | [], [], [], h => h
  | [], _ :: _, _, h => by cases h
  | [], [], _ :: _, h => by cases h
  | _ :: _, [], _, h => by cases h
  | _ :: _, _ :: _, [], h => by cases h
  | b :: bs, cs :: css, e :: es, ⟨⟨xs, e1, h0, hf, hh, r⟩, h⟩ => ⟨⟨xs, e1, l _ h0, hf, hh, Inn.older l r⟩, In2.older l h⟩
theorem Inn.reps {H0 G : Hp} : ∀ {bs : List Addr} {ds : List D}, Inn κ H0 F H bs ds → (∀ b ∈ bs, G b = H b) → Le F G → Reps κ G (bs.map V.ref) ds
  | [], [], _, _, _ => rfl
  | [], _ :: _, h, _, _ => h.elim
  | _ :: _, [], h, _, _ => h.elim
  | b :: bs, e :: es, ⟨⟨us, xs, e1, _, _, hh, r⟩, h⟩, k, l => by
    subst e1
    exact ⟨.ref b, bs.map V.ref, rfl, ⟨b, us, rfl, SqL.of ((k b (by simp)).trans hh), Reps.le l _ r⟩, Inn.reps h (fun c m => k c (List.mem_cons_of_mem _ m)) l⟩
theorem In2.reps {H0 G : Hp} : ∀ {bs : List Addr} {css : List (List Addr)} {ds : List D}, In2 κ H0 F H bs css ds → (∀ b ∈ bs ++ css.flatten, G b = H b) → Le F G → Reps κ G (bs.map V.ref) ds
  | [], [], [], _, _, _ => rfl
  | [], _ :: _, _, h, _, _ => by cases h
  | [], [], _ :: _, h, _, _ => by cases h
  | _ :: _, [], _, h, _, _ => by cases h
  | _ :: _, _ :: _, [], h, _, _ => by cases h
  | b :: bs, cs :: css, e :: es, ⟨⟨xs, e1, _, _, hh, r⟩, h⟩, k, l => by
    subst e1
    have sub : ∀ c ∈ bs ++ css.flatten, c ∈ (b :: bs) ++ (cs :: css).flatten := fun c m => by
      rw [List.flatten_cons]
      rcases List.mem_append.mp m with m | m
      · exact List.mem_append_left _ (List.mem_cons_of_mem _ m)
      · exact List.mem_append_right _ (List.mem_append_right _ m)
    have subc : ∀ c ∈ cs, c ∈ (b :: bs) ++ (cs :: css).flatten := fun c m => by
      rw [List.flatten_cons]
      exact List.mem_append_right _ (List.mem_append_left _ m)
    exact ⟨.ref b, bs.map V.ref, rfl, ⟨b, cs.map V.ref, rfl, SqL.of ((k b (by simp)).trans hh), Inn.reps r (fun c m => k c (subc c m)) l⟩, In2.reps h (fun c m => k c (sub c m)) l⟩
theorem DV.gr (g : Gr F1 H1 F2 H2) (h : DV κ H F1 H1 v d) : DV κ H F2 H2 v d := by
  rcases h with ⟨ds, e, a, bs, e1, h0, hf, nd, hh, i⟩ | ⟨ds, e, a, bs, css, e1, h0, hf, nd, hh, i⟩ | ⟨ds, y, e, t, b, us, vg, e1, t0, th, b0, bf, bh, rs, r⟩
  · exact .inl ⟨ds, e, a, bs, e1, h0, g.no hf hh, nd, g.h _ _ hh, Inn.gr g i⟩
  · exact .inr (.inl ⟨ds, e, a, bs, css, e1, h0, g.no hf hh, nd, g.h _ _ hh, In2.gr g i⟩)
  · exact .inr (.inr ⟨ds, y, e, t, b, us, vg, e1, t0, g.h _ _ th, b0, g.no bf bh, g.h _ _ bh, Reps.le g.f _ rs, Rep.le g.f _ r⟩)
theorem DV.older {G : Hp} (l : ∀ a, H a = none → G a = none) (h : DV κ H F' H' v d) : DV κ G F' H' v d := by
  rcases h with ⟨ds, e, a, bs, e1, h0, hf, nd, hh, i⟩ | ⟨ds, e, a, bs, css, e1, h0, hf, nd, hh, i⟩ | ⟨ds, y, e, t, b, us, vg, e1, t0, th, b0, bf, bh, rs, r⟩
  · exact .inl ⟨ds, e, a, bs, e1, l _ h0, hf, nd, hh, Inn.older l i⟩
  · exact .inr (.inl ⟨ds, e, a, bs, css, e1, l _ h0, hf, nd, hh, In2.older l i⟩)
  · exact .inr (.inr ⟨ds, y, e, t, b, us, vg, e1, l _ t0, th, l _ b0, bf, bh, rs, r⟩)
theorem Vok.gr (g : Gr F1 H1 F2 H2) (h : Vok κ H F1 H1 v w) : Vok κ H F2 H2 v w := by
  cases w with
  | fz d => exact Rep.le g.f d h
  | ow d =>
    obtain ⟨a, o, e, e1, e3, e2, r⟩ := h
    exact ⟨a, o, e, e1, g.no e3 e2 (OwnO.noTup r), g.h _ _ e2, OwnO.le g.f r⟩
  | br d => obtain ⟨a, o, e, e2, r⟩ := h; exact ⟨a, o, e, g.h _ _ e2, OwnO.le g.f r⟩
  | lk d => exact h
  | od d => exact DV.gr g h
theorem RdV.gr (g : Gr F1 H1 F2 H2) (h : RdV κ F1 H1 v d) : RdV κ F2 H2 v d := by
  rcases h with h | ⟨a, o, e, e2, r⟩
  · exact .inl (Rep.le g.f d h)
  · exact .inr ⟨a, o, e, g.h _ _ e2, OwnO.le g.f r⟩
theorem own_none {o : HO} (h : OwnO κ F o d) : (∃ ds, d = .lst ds) ∨ (∃ ds, d = .dK ds) ∨ ∃ ds, d = .dT ds := by
  cases o <;> cases d <;> first
    | exact h.elim
    | exact .inl ⟨_, rfl⟩
    | exact .inr (.inl ⟨_, rfl⟩)
    | exact .inr (.inr ⟨_, rfl⟩)
theorem RdV.flat (h : RdV κ F H v d) (n1 : ∀ ds, d ≠ .lst ds) (n2 : ∀ ds, d ≠ .dK ds) (n3 : ∀ ds, d ≠ .dT ds) : Rep κ F v d := by
  rcases h with h | ⟨a, o, e, e2, r⟩
  · exact h
  · rcases own_none r with ⟨ds, z⟩ | ⟨ds, z⟩ | ⟨ds, z⟩
    · exact absurd z (n1 ds)
    · exact absurd z (n2 ds)
    · exact absurd z (n3 ds)
theorem RdV.int {i : Int} (h : RdV κ F H v (.int i)) : v = .int i := RdV.flat h (fun _ e => nomatch e) (fun _ e => nomatch e) fun _ e => nomatch e
theorem RdV.bl {b : Bool} (h : RdV κ F H v (.bl b)) : v = .bl b := RdV.flat h (fun _ e => nomatch e) (fun _ e => nomatch e) fun _ e => nomatch e
theorem RdV.str {x : Str} (h : RdV κ F H v (.str x)) : v = .str x := RdV.flat h (fun _ e => nomatch e) (fun _ e => nomatch e) fun _ e => nomatch e
theorem RdV.non (h : RdV κ F H v .non) : v = .non := RdV.flat h (fun _ e => nomatch e) (fun _ e => nomatch e) fun _ e => nomatch e
theorem RdV.tup {ds : List D} (s : Le F H) (h : RdV κ F H v (.tup ds)) : ∃ a vs, v = .ref a ∧ SqT κ.K H a vs ∧ SqT κ.K F a vs ∧ Reps κ F vs ds := by
  obtain ⟨a, vs, e, q, r⟩ := RdV.flat h (fun _ e => nomatch e) (fun _ e => nomatch e) fun _ e => nomatch e
  exact ⟨a, vs, e, SqT.le s q, q, r⟩
theorem RdV.lst {ds : List D} (s : Le F H) (h : RdV κ F H v (.lst ds)) : ∃ a vs, v = .ref a ∧ SqL κ.K H a vs ∧ Reps κ F vs ds := by
  rcases h with ⟨a, vs, e, q, r⟩ | ⟨a, o, e, e2, r⟩
  · exact ⟨a, vs, e, SqL.le s q, r⟩
  · cases o with
    | lst vs => exact ⟨a, vs, e, SqL.of e2, r⟩
    | _ => exact r.elim
theorem RdV.dK {ds : List (Sum Int Str × D)} (s : Le F H) (h : RdV κ F H v (.dK ds)) : ∃ a kvs, v = .ref a ∧ SqK κ H a kvs ∧ RepK κ F kvs ds := by
  rcases h with ⟨a, vs, e, q, r⟩ | ⟨a, o, e, e2, r⟩
  · exact ⟨a, vs, e, SqK.le s q, r⟩
  · cases o with
    | dK vs => exact ⟨a, vs, e, .inl (.inl e2), r⟩
    | _ => exact r.elim
theorem Vok.st (s : Le F H) (g : Gr F H F' H') (h : Vok κ H F' H' v w) (e : w.st = .ok d) : Rep κ (fzAll H F' H') v d := by
  obtain ⟨_, l⟩ := fzAll_gr s g
  cases w with
  | fz d' => cases e; exact Rep.le l d h
  | ow d' =>
    cases e
    obtain ⟨a, o, ea, e1, e3, e2, r⟩ := h
    have q : fzAll H F' H' a = some o := by unfold fzAll; rw [e1]; exact e2
    have r := OwnO.le l r
    cases o <;> cases d <;> first
      | exact r.elim
      | exact ⟨a, _, ea, .inl (.inl q), r⟩
      | exact ⟨a, _, ea, .inl q, r⟩
  | br d' => cases e
  | lk d' => cases e
  | od d' => cases e
end
def Voks (κ : Kx) (H F' H' : Hp) : List V → List En → Prop
  | vs, [] => vs = []
  | vs, w :: ws => ∃ v r, vs = v :: r ∧ Vok κ H F' H' v w ∧ Voks κ H F' H' r ws
section
variable {κ : Kx} {H F F' H' F1 H1 F2 H2 : Hp}
theorem Vok.older {G : Hp} (l : ∀ a, H a = none → G a = none) {v : V} {w : En} (h : Vok κ H F' H' v w) : Vok κ G F' H' v w := by
  cases w with
  | fz d => exact h
  | ow d => obtain ⟨a, o, e, e1, r⟩ := h; exact ⟨a, o, e, l a e1, r⟩
  | br d => exact h
  | lk d => exact h
  | od d => exact DV.older l h
theorem Voks.older {G : Hp} (l : ∀ a, H a = none → G a = none) : ∀ {ws : List En} {vs : List V}, Voks κ H F' H' vs ws → Voks κ G F' H' vs ws
  | [], _, h => h
  | w :: ws, _, h => by
    obtain ⟨v, r, e, h1, h2⟩ := h
    exact ⟨v, r, e, Vok.older l h1, Voks.older l h2⟩
theorem Voks.stAll (s : Le F H) (g : Gr F H F' H') : ∀ {ws : List En} {vs : List V} {ds : List D}, Voks κ H F' H' vs ws → stAll ws = .ok ds → Reps κ (fzAll H F' H') vs ds
  | [], _, _, h, e => by cases e; exact h
  | w :: ws, _, ds, h, e => by
    obtain ⟨v, r, rfl, h1, h2⟩ := h
    unfold L3.stAll at e
    cases e1 : w.st with
    | ok d =>
      cases e2 : L3.stAll ws with
      | ok ds' =>
        rw [e1, e2] at e
        cases e
        exact ⟨v, r, rfl, Vok.st s g h1 e1, Voks.stAll s g h2 e2⟩
      | exc x => rw [e1, e2] at e; cases e
      | stuck => rw [e1, e2] at e; cases e
    | exc x => rw [e1] at e; cases e
    | stuck => rw [e1] at e; cases e
theorem Voks.rd : ∀ {ws : List En} {vs : List V}, Voks κ H F' H' vs ws → Paired (RdV κ F' H') vs (ws.map En.d)
  | [], _, h => by cases (show _ = _ from h); exact .nil
  | w :: ws, _, h => by
    obtain ⟨v, r, rfl, h1, h2⟩ := h
    exact .cons (Vok.rd h1) (Voks.rd h2)
end
def Deep (κ : Kx) (H0 F H : Hp) (a : Addr) (bs : List Addr) : D → Prop
  | .lst ds => H a = some (.lst (bs.map V.ref)) ∧ Inn κ H0 F H bs ds
  | .dT kds => H a = some (.dT ((kds.map Prod.fst).zip (bs.map V.ref))) ∧ Inn κ H0 F H bs (kds.map Prod.snd)
  | .dK kds => ∃ b1 css, bs = b1 ++ List.flatten css ∧ H a = some (.lst (b1.map V.ref)) ∧ In2 κ H0 F H b1 css (kds.map Prod.snd)
  | _ => False
def RawT (F : Hp) (v : V) : Prop := ∃ a ob kvs, v = .ref a ∧ F a = some (.frz ob (.dT kvs))
theorem RawT.le {F F' : Hp} (l : Le F F') {v : V} (h : RawT F v) : RawT F' v := let ⟨a, ob, kvs, e, q⟩ := h; ⟨a, ob, kvs, e, l _ _ q⟩
def Eok (κ : Kx) (H0 F H : Hp) (v : V) : En → Prop
  | .fz d => Rep κ F v d
  | .ow d => ∃ a o, v = .ref a ∧ H0 a = none ∧ F a = none ∧ H a = some o ∧ OwnO κ F o d
  | .lk d => Rep κ F v d ∧ RawT F v
  | .br d => ∃ a o, v = .ref a ∧ H0 a = some o ∧ OwnO κ F o d
  | .od _ => ∃ a o, v = .ref a ∧ H0 a = none ∧ F a = none ∧ H a = some o ∧ ∀ xs, o ≠ .tup xs
def En.own : En → Bool
  | .ow _ => true | .od _ => true | _ => false
def shal (i : Nat) (ρ : Rho) : Prop := ∀ (j : Nat) (d : D), j ≠ i → ρ[j]? ≠ some (some (.od d))
structure StOk (κ : Kx) (F0 H0 F H : Hp) (ρ : Rho) (σ : St) : Prop where
  gr : Gr F0 H0 F H
  len : ρ.length = σ.length
  val : ∀ (i : Nat) (w : En), ρ[i]? = some (some w) → ∃ v, σ[i]? = some (some v) ∧ Eok κ H0 F H v w
  sep : ∀ (i j : Nat) (w w' : En) (a : Addr), i ≠ j → ρ[i]? = some (some w) → ρ[j]? = some (some w') → w.own = true → w'.own = true → σ[i]? = some (some (.ref a)) → σ[j]? = some (some (.ref a)) → False
  dp : ∀ (i : Nat) (d : D), ρ[i]? = some (some (.od d)) → shal i ρ ∧ ∃ a bs, σ[i]? = some (some (.ref a)) ∧ H0 a = none ∧ F a = none ∧ (a :: bs).Nodup ∧ Deep κ H0 F H a bs d ∧
    ∀ (j : Nat) (w : En) (b : Addr), j ≠ i → ρ[j]? = some (some w) → w.own = true → b ∈ a :: bs → σ[j]? ≠ some (some (.ref b))
section
variable {κ : Kx} {F0 H0 F H F' H' : Hp} {ρ : Rho} {σ : St}
theorem Deep.gr (g : Gr F H F' H') {a : Addr} {bs : List Addr} {d : D} (h : Deep κ H0 F H a bs d) : Deep κ H0 F' H' a bs d := by
  cases d <;> first | exact h.elim | exact ⟨g.h _ _ h.1, Inn.gr g h.2⟩ | skip
  obtain ⟨b1, css, e, h1, h2⟩ := h
  exact ⟨b1, css, e, g.h _ _ h1, In2.gr g h2⟩
theorem Inn.at : ∀ {bs : List Addr} {ds : List D} {b : Addr}, Inn κ H0 F H bs ds → b ∈ bs → ∃ us, H0 b = none ∧ F b = none ∧ H b = some (.lst us)
  | [], _, _, _, m => by cases m
  | _ :: _, [], _, h, _ => h.elim
  | c :: bs, e :: es, b, ⟨⟨us, xs, e1, h0, hf, hh, r⟩, h⟩, m => by
    rcases List.mem_cons.mp m with rfl | m
    · exact ⟨us, h0, hf, hh⟩
    · exact Inn.at h m
theorem In2.at : ∀ {bs : List Addr} {css : List (List Addr)} {ds : List D} {b : Addr}, In2 κ H0 F H bs css ds → b ∈ bs ++ css.flatten → ∃ us, H0 b = none ∧ F b = none ∧ H b = some (.lst us)
  | [], [], [], _, _, m => by simp at m
  | [], _ :: _, _, _, h, _ => by cases h
  | [], [], _ :: _, _, h, _ => by cases h
  | _ :: _, [], _, _, h, _ => by cases h
  | _ :: _, _ :: _, [], _, h, _ => by cases h
  | c :: bs, cs :: css, e :: es, b, ⟨⟨xs, e1, h0, hf, hh, r⟩, h⟩, m => by
    rw [List.flatten_cons, List.cons_append] at m
    rcases List.mem_cons.mp m with rfl | m
    · exact ⟨_, h0, hf, hh⟩
    · rcases List.mem_append.mp m with m | m
      · exact In2.at h (List.mem_append_left _ m)
      · rcases List.mem_append.mp m with m | m
        · exact Inn.at r m
        · exact In2.at h (List.mem_append_right _ m)
theorem Deep.top {a : Addr} {bs : List Addr} {d : D} (h : Deep κ H0 F H a bs d) : ∃ o, H a = some o ∧ ∀ xs, o ≠ .tup xs := by
  cases d <;> first | exact h.elim | exact ⟨_, h.1, fun _ z => nomatch z⟩ | skip
  obtain ⟨b1, css, e, h1, h2⟩ := h
  exact ⟨_, h1, fun _ z => nomatch z⟩
theorem Deep.inn {a b : Addr} {bs : List Addr} {d : D} (h : Deep κ H0 F H a bs d) (m : b ∈ bs) : ∃ us, H0 b = none ∧ F b = none ∧ H b = some (.lst us) := by
  cases d <;> first | exact h.elim | exact Inn.at h.2 m | skip
  obtain ⟨b1, css, e, h1, h2⟩ := h
  subst e
  exact In2.at h2 m
theorem Inn.same {G G' : Hp} : ∀ {bs : List Addr} {ds : List D}, (∀ b ∈ bs, H b = H' b) → (∀ b ∈ bs, F b = none → F' b = none) → Le F F' → Inn κ H0 F H bs ds → Inn κ H0 F' H' bs ds
  | [], [], _, _, _, h => h
  | [], _ :: _, _, _, _, h => h
  | _ :: _, [], _, _, _, h => h
  | b :: bs, e :: es, k, n, l, ⟨⟨us, xs, e1, h0, hf, hh, r⟩, h⟩ =>
    ⟨⟨us, xs, e1, h0, n b (by simp) hf, (k b (by simp)).symm.trans hh, Reps.le l _ r⟩, Inn.same (G := G) (G' := G') (fun c m => k c (List.mem_cons_of_mem _ m)) (fun c m => n c (List.mem_cons_of_mem _ m)) l h⟩
theorem In2.same : ∀ {bs : List Addr} {css : List (List Addr)} {ds : List D}, (∀ b ∈ bs ++ css.flatten, H b = H' b) → (∀ b ∈ bs ++ css.flatten, F b = none → F' b = none) → Le F F' → In2 κ H0 F H bs css ds → In2 κ H0 F' H' bs css ds
  | [], [], [], _, _, _, h => h
  | [], _ :: _, _, _, _, _, h => by cases h
  | [], [], _ :: _, _, _, _, h => by cases h
  | _ :: _, [], _, _, _, _, h => by cases h
  | _ :: _, _ :: _, [], _, _, _, h => by cases h
  | b :: bs, cs :: css, e :: es, k, n, l, ⟨⟨xs, e1, h0, hf, hh, r⟩, h⟩ => by
    have sub : ∀ c ∈ bs ++ css.flatten, c ∈ (b :: bs) ++ (cs :: css).flatten := fun c m => by
      rw [List.flatten_cons]
      rcases List.mem_append.mp m with m | m
      · exact List.mem_append_left _ (List.mem_cons_of_mem _ m)
      · exact List.mem_append_right _ (List.mem_append_right _ m)
    have subc : ∀ c ∈ cs, c ∈ (b :: bs) ++ (cs :: css).flatten := fun c m => by
      rw [List.flatten_cons]
      exact List.mem_append_right _ (List.mem_append_left _ m)
    exact ⟨⟨xs, e1, h0, n b (by simp) hf, (k b (by simp)).symm.trans hh, Inn.same (G := H) (G' := H) (fun c m => k c (subc c m)) (fun c m => n c (subc c m)) l r⟩, In2.same (fun c m => k c (sub c m)) (fun c m => n c (sub c m)) l h⟩
theorem Deep.same {a : Addr} {bs : List Addr} {d : D} (k : ∀ b ∈ a :: bs, H b = H' b) (n : ∀ b ∈ bs, F b = none → F' b = none) (l : Le F F') (h : Deep κ H0 F H a bs d) : Deep κ H0 F' H' a bs d := by
  cases d <;> first | exact h.elim | exact ⟨(k a (by simp)).symm.trans h.1, Inn.same (G := H) (G' := H) (fun c m => k c (List.mem_cons_of_mem _ m)) n l h.2⟩ | skip
  obtain ⟨b1, css, e, h1, h2⟩ := h
  subst e
  exact ⟨b1, css, rfl, (k a (by simp)).symm.trans h1, In2.same (fun c m => k c (List.mem_cons_of_mem _ m)) n l h2⟩
theorem Eok.gr (g : Gr F H F' H') {v : V} {w : En} (h : Eok κ H0 F H v w) : Eok κ H0 F' H' v w := by
  cases w with
  | fz d => exact Rep.le g.f d h
  | ow d => obtain ⟨a, o, e, e1, e3, e2, r⟩ := h; exact ⟨a, o, e, e1, g.no e3 e2 (OwnO.noTup r), g.h _ _ e2, OwnO.le g.f r⟩
  | lk d => exact ⟨Rep.le g.f d h.1, RawT.le g.f h.2⟩
  | br d => obtain ⟨a, o, e, e2, r⟩ := h; exact ⟨a, o, e, e2, OwnO.le g.f r⟩
  | od d => obtain ⟨a, o, e, e1, e3, e2, nt⟩ := h; exact ⟨a, o, e, e1, g.no e3 e2 nt, g.h _ _ e2, nt⟩
theorem StOk.grow (S : StOk κ F0 H0 F H ρ σ) (g : Gr F H F' H') : StOk κ F0 H0 F' H' ρ σ :=
  ⟨S.gr.trans g, S.len, fun i w e => let ⟨v, e1, q⟩ := S.val i w e; ⟨v, e1, Eok.gr g q⟩, S.sep, fun i d e => by
    obtain ⟨s1, a, bs, e1, h0, hf, nd, dp, sp⟩ := S.dp i d e
    obtain ⟨o, ho, nt⟩ := Deep.top dp
    exact ⟨s1, a, bs, e1, h0, g.no hf ho nt, nd, Deep.gr g dp, sp⟩⟩
theorem StOk.s (S : StOk κ F0 H0 F H ρ σ) : Le F H := S.gr.s
theorem set_get {α : Type} {l : List α} {i j : Nat} {x y : α} (h : (l.set i x)[j]? = some y) : (j = i ∧ y = x) ∨ (j ≠ i ∧ l[j]? = some y) := by
  by_cases e : j = i
  · subst e
    by_cases hl : j < l.length
    · rw [List.getElem?_set_self hl] at h; cases h; exact .inl ⟨rfl, rfl⟩
    · rw [List.getElem?_eq_none (by rw [List.length_set]; omega)] at h; cases h
  · rw [List.getElem?_set_ne (Ne.symm e)] at h; exact .inr ⟨e, h⟩
theorem StOk.setF (S : StOk κ F0 H0 F H ρ σ) {i : Nat} {v : V} {d : D} (r : Rep κ F v d) : StOk κ F0 H0 F H (ρ.set i (some (.fz d))) (σ.set i (some v)) := by
  refine ⟨S.gr, by simp [S.len], fun j w e => ?_, fun j k w w' a hjk ej ek oj ok sj sk => ?_, fun j y e => ?_⟩
  · rcases set_get e with ⟨rfl, z⟩ | ⟨ne, z⟩
    · cases z
      have hl : j < σ.length := by
        rw [← S.len]
        have := (List.getElem?_eq_some_iff.mp e).1
        simpa using this
      exact ⟨v, List.getElem?_set_self hl, r⟩
    · obtain ⟨u, e1, q⟩ := S.val j w z
      exact ⟨u, by rw [List.getElem?_set_ne (Ne.symm ne)]; exact e1, q⟩
  · rcases set_get ej with ⟨_, z⟩ | ⟨nj, ej⟩
    · cases z; cases oj
    rcases set_get ek with ⟨_, z⟩ | ⟨nk, ek⟩
    · cases z; cases ok
    rw [List.getElem?_set_ne (Ne.symm nj)] at sj
    rw [List.getElem?_set_ne (Ne.symm nk)] at sk
    exact S.sep j k w w' a hjk ej ek oj ok sj sk
  · rcases set_get e with ⟨_, z⟩ | ⟨nj, ej⟩
    · cases z
    obtain ⟨s1, a, bs, e1, h0, hf, nd, dp, sp⟩ := S.dp j y ej
    refine ⟨fun k z hk ek => ?_, a, bs, by rw [List.getElem?_set_ne (Ne.symm nj)]; exact e1, h0, hf, nd, dp, fun k w b hk ek ok m sk => ?_⟩
    · rcases set_get ek with ⟨_, q⟩ | ⟨_, q⟩
      · cases q
      · exact s1 k z hk q
    · rcases set_get ek with ⟨_, q⟩ | ⟨nk, q⟩
      · cases q; cases ok
      · rw [List.getElem?_set_ne (Ne.symm nk)] at sk
        exact sp k w b hk q ok m sk
theorem StOk.setO (S : StOk κ F0 H0 F H ρ σ) {i : Nat} {a : Addr} {o : HO} {d : D} (h0 : H0 a = none) (hf : F a = none) (ha : H a = some o) (r : OwnO κ F o d)
    (nw : ∀ (j : Nat) (w : En), j ≠ i → ρ[j]? = some (some w) → w.own = true → σ[j]? ≠ some (some (.ref a)))
    (nw2 : ∀ (j : Nat) (y : D), j ≠ i → ρ[j]? = some (some (.od y)) → shal j ρ ∧ ∃ c bs, σ[j]? = some (some (.ref c)) ∧ H0 c = none ∧ F c = none ∧ (c :: bs).Nodup ∧ Deep κ H0 F H c bs y ∧
      (∀ (k : Nat) (w : En) (b : Addr), k ≠ j → ρ[k]? = some (some w) → w.own = true → b ∈ c :: bs → σ[k]? ≠ some (some (.ref b))) ∧ a ∉ c :: bs) : StOk κ F0 H0 F H (ρ.set i (some (.ow d))) (σ.set i (some (.ref a))) := by
  refine ⟨S.gr, by simp [S.len], fun j w e => ?_, fun j k w w' b hjk ej ek oj ok sj sk => ?_, fun j y e => ?_⟩
  · rcases set_get e with ⟨rfl, z⟩ | ⟨ne, z⟩
    · cases z
      have hl : j < σ.length := by
        rw [← S.len]
        have := (List.getElem?_eq_some_iff.mp e).1
        simpa using this
      exact ⟨.ref a, List.getElem?_set_self hl, a, o, rfl, h0, hf, ha, r⟩
    · obtain ⟨u, e1, q⟩ := S.val j w z
      exact ⟨u, by rw [List.getElem?_set_ne (Ne.symm ne)]; exact e1, q⟩
  · have at_ : ∀ {m : Nat}, m ≠ i → (σ.set i (some (.ref a)))[m]? = some (some (.ref b)) → σ[m]? = some (some (.ref b)) := fun {m} hm h => by
      rw [List.getElem?_set_ne (Ne.symm hm)] at h; exact h
    rcases set_get ej with ⟨e1, z⟩ | ⟨nj, ej'⟩
    · rcases set_get ek with ⟨e2, _⟩ | ⟨nk, ek'⟩
      · exact hjk (e1.trans e2.symm)
      · subst e1
        have hl : j < σ.length := by have := (List.getElem?_eq_some_iff.mp sj).1; simpa using this
        rw [List.getElem?_set_self hl] at sj
        cases sj
        exact nw k w' nk ek' ok (at_ nk sk)
    · rcases set_get ek with ⟨e2, z⟩ | ⟨nk, ek'⟩
      · subst e2
        have hl : k < σ.length := by have := (List.getElem?_eq_some_iff.mp sk).1; simpa using this
        rw [List.getElem?_set_self hl] at sk
        cases sk
        exact nw j w nj ej' oj (at_ nj sj)
      · exact S.sep j k w w' b hjk ej' ek' oj ok (at_ nj sj) (at_ nk sk)
  · rcases set_get e with ⟨_, z⟩ | ⟨nj, ej⟩
    · cases z
    obtain ⟨s1, c, bs, e1, c0, cf, nd, dp, sp, nc⟩ := nw2 j y nj ej
    refine ⟨fun k z hk ek => ?_, c, bs, by rw [List.getElem?_set_ne (Ne.symm nj)]; exact e1, c0, cf, nd, dp, fun k w b hk ek ok m sk => ?_⟩
    · rcases set_get ek with ⟨_, q⟩ | ⟨_, q⟩
      · cases q
      · exact s1 k z hk q
    · rcases set_get ek with ⟨rfl, _⟩ | ⟨nk, q⟩
      · have hl : k < σ.length := by have := (List.getElem?_eq_some_iff.mp sk).1; simpa using this
        rw [List.getElem?_set_self hl] at sk
        cases sk
        exact nc m
      · rw [List.getElem?_set_ne (Ne.symm nk)] at sk
        exact sp k w b hk q ok m sk
theorem StOk.ownAt (S : StOk κ F0 H0 F H ρ σ) {j : Nat} {w : En} {a : Addr} (e : ρ[j]? = some (some w)) (o : w.own = true) (s : σ[j]? = some (some (.ref a))) : ∃ u, H a = some u := by
  obtain ⟨v, e1, q⟩ := S.val j w e
  rw [s] at e1
  cases e1
  cases w with
  | ow d => obtain ⟨b, u, eb, _, _, e2, _⟩ := q; cases eb; exact ⟨u, e2⟩
  | lk d => cases o
  | od d => obtain ⟨b, u, eb, _, _, e2, _⟩ := q; cases eb; exact ⟨u, e2⟩
  | fz d => cases o
  | br d => cases o
theorem StOk.setW (S : StOk κ F0 H0 F H ρ σ) (g : Gr F H F' H') {i : Nat} {v : V} {w w' : En} (q : Vok κ H F' H' v w) (e : w.nm = .ok w') : StOk κ F0 H0 F' H' (ρ.set i (some w')) (σ.set i (some v)) := by
  have S' := S.grow g
  cases w with
  | fz d => cases e; exact S'.setF q
  | ow d =>
    cases e
    obtain ⟨a, o, rfl, e1, e3, e2, r⟩ := q
    refine S'.setO (Le.none S.gr.h e1) e3 e2 r (fun j w hj ej oj sj => ?_) fun j y hj ej => ?_
    · obtain ⟨u, z⟩ := S.ownAt ej oj sj
      rw [e1] at z; cases z
    · obtain ⟨s1, c, bs, sj, h0, hf, nd, dp, sp⟩ := S.dp j y ej
      obtain ⟨o', ho', nt'⟩ := Deep.top dp
      refine ⟨s1, c, bs, sj, h0, g.no hf ho' nt', nd, Deep.gr g dp, sp, fun m => ?_⟩
      rcases List.mem_cons.mp m with rfl | m
      · rw [e1] at ho'; cases ho'
      · obtain ⟨us, _, _, z⟩ := Deep.inn dp m
        rw [e1] at z; cases z
  | br d => cases e
  | lk d => cases e
  | od d => cases e
end
set_option Elab.async false
set_option linter.all false
set_option maxRecDepth 100000
set_option maxHeartbeats 4000000
def Way (H : Hp) (n : Nat) (h : Heap) (e : Addr) (cl : Value) (dd : Option Addr) (q : Option Value) : Prop :=
  ∃ oe vs, h.get? e = some oe ∧ oe.cls = cl ∧ oe.dict = dd ∧ oe.data = .fields vs ∧ 1 < vs.size ∧ n ≤ e ∧ H e = none ∧
    ((vs[1]? = some .none ∧ q = none) ∨
      ∃ T oT ts fl, vs[1]? = some (.ref T) ∧ T ≠ e ∧ n ≤ T ∧ H T = none ∧ h.get? T = some oT ∧ oT.data = .fields ts ∧ ts[3]? = some fl ∧ q = some fl)
structure Chg (H : Hp) (n : Nat) (fs : List Addr) (h h' : Heap) : Prop where
  ex : ∃ ch : List Addr, (∀ b ∈ ch, n ≤ b ∧ H b = none ∧ ∀ o, h.get? b = some o → ∃ vs, o.data = .fields vs) ∧ (∀ b o, h.get? b = some o → b ∉ fs → b ∉ ch → h'.get? b = some o) ∧
    (∀ b o, h.get? b = some o → b ∉ ch → ∃ sl, h'.get? b = some { o with slots := sl }) ∧ (∀ b o, h.get? b = some o → ∃ o', h'.get? b = some o')
  sz : h.objs.size ≤ h'.objs.size
section
variable {H : Hp} {n : Nat} {fs : List Addr} {h h' h'' : Heap} {e : Addr} {cl : Value} {dd : Option Addr} {q : Option Value}
theorem Chg.trans (a : Chg H n fs h h') (b : Chg H n fs h' h'') : Chg H n fs h h'' := by
  obtain ⟨c1, a1, a2, a3, a4⟩ := a.ex
  obtain ⟨c2, b1, b2, b3, b4⟩ := b.ex
  refine ⟨⟨c1 ++ c2, fun x hx => ?_, fun x o hx nf nc => ?_, fun x o hx nc => ?_, fun x o hx => ?_⟩, Nat.le_trans a.sz b.sz⟩
  · by_cases m1 : x ∈ c1
    · exact a1 x m1
    · have m2 : x ∈ c2 := (List.mem_append.mp hx).resolve_left m1
      refine ⟨(b1 x m2).1, (b1 x m2).2.1, fun o ho => ?_⟩
      obtain ⟨sl, z⟩ := a3 x o ho m1
      have w := (b1 x m2).2.2 _ z
      exact w
  · exact b2 x o (a2 x o hx nf fun z => nc (List.mem_append_left _ z)) nf fun z => nc (List.mem_append_right _ z)
  · obtain ⟨sl, z⟩ := a3 x o hx fun z => nc (List.mem_append_left _ z)
    obtain ⟨sl', z'⟩ := b3 x _ z fun z => nc (List.mem_append_right _ z)
    exact ⟨sl', z'⟩
  · obtain ⟨o', z⟩ := a4 x o hx
    exact b4 x o' z
theorem Chg.field {a : Addr} {o : Obj} {vs : Array Value} {i : Nat} {v : Value} (ho : h.get? a = some o) (hd : o.data = .fields vs) (hn : n ≤ a) (hH : H a = none) :
    Chg H n fs h (h.update a (Obj.mapFields (·.setIfInBounds i v))) := by
  have ne : ∀ b, b ≠ a → (h.update a (Obj.mapFields (·.setIfInBounds i v))).get? b = h.get? b := fun b hb => Heap.get?_update_other _ _ (Ne.symm hb)
  have self := Heap.get?_update_self (Obj.mapFields (·.setIfInBounds i v)) ho (Obj.isFreed_of_fields (Obj.data_mapFields hd _))
  refine ⟨⟨[a], fun b hb => ?_, fun b u hb _ nc => ?_, fun b u hb nc => ⟨u.slots, ?_⟩, fun b u hb => ?_⟩, by first | exact Nat.le_of_eq (Heap.size_update _ _ _).symm | simp⟩
  · obtain rfl : b = a := by simpa using hb
    exact ⟨hn, hH, fun u hu => by rw [ho] at hu; cases hu; exact ⟨vs, hd⟩⟩
  · exact (ne b fun z => nc (by simp [z])).trans hb
  · exact (ne b fun z => nc (by simp [z])).trans hb
  · by_cases z : b = a
    · subst z; exact ⟨_, self⟩
    · exact ⟨u, (ne b z).trans hb⟩
theorem Chg.push (o : Obj) : Chg H n fs h (h.push o) :=
  ⟨⟨[], (fun _ z => nomatch z), fun b u hb _ _ => Heap.get?_push_of_some _ hb, fun b u hb _ => ⟨u.slots, Heap.get?_push_of_some _ hb⟩, fun b u hb => ⟨u, Heap.get?_push_of_some _ hb⟩⟩, by simp⟩
theorem Chg.slots (s : Heap.SlotsOnly fs h h') : Chg H n fs h h' :=
  ⟨⟨[], (fun _ z => nomatch z), fun b u hb nf _ => (s.2.1 b nf).trans hb, fun b u hb _ => s.2.2 b u hb, fun b u hb => (s.2.2 b u hb).elim fun _ z => ⟨_, z⟩⟩, Nat.le_of_eq s.1.symm⟩
end
section
variable {M : Model} {A : Around} {E : Value → Shared → Prop} {s : Shared} {H : Hp} {n : Nat} {base : Heap} {env : Env} {outer : List Env} {L e : Addr} {cl : Value} {dd : Option Addr}
theorem way_entry {head : Value} {b : Bool} {oe : Obj} {vs : Array Value} {Q : Unit → Shared → Prop} (hfr : A.frames = some (env :: outer)) (hl : s.heap.FunFrames base (env :: outer)) (hf : env.frame = some L)
    (he : s.heap.get? e = some oe) (hd : oe.data = .fields vs) (hz : 1 < vs.size) (hn : n ≤ e) (hH : H e = none) (fr : ∀ b, s.heap.objs.size ≤ b → H b = none) (hs : n ≤ s.heap.objs.size)
    (k : ∀ h', Chg H n (frs (env :: outer)) s.heap h' → Way H n h' e oe.cls oe.dict (some (rawInt L)) → Q () { s with heap := h' }) :
    wpAny M A (do let a ← frameOf env; let pl ← entryPlaceOf L b; let t ← EntryCells.newEntry head a .none (rawInt L) .none pl; setField (.ref e) 1 t) Q E s := by
  have nfr : e ∉ frs (env :: outer) := fun z => by
    obtain ⟨_, o, ho, w⟩ := hl.mem z
    rw [he] at ho
    cases ho
    exact w vs hd
  refine wpAny_bind (wpAny_frameOf_fun hfr hl hf fun h1 s1 => wpAny_bind (wpAny_entryPlaceOf fun pl hp => ?_))
  unfold EntryCells.newEntry; unfold newFields
  refine wpAny_bind (wpAny_newObj_type ?_ (hp.sizeOk5 _ _ _ _ _))
  generalize hc : ([head, .ref L, .none, rawInt L, .none] ++ (if pl.isEmpty then List.replicate 6 Value.none else pl)) = cs
  have c3 : cs.toArray[3]? = some (rawInt L) := by rw [← hc]; simp
  have e1 : h1.get? e = some oe := (s1.2.1 e nfr).trans he
  have e2 := Heap.get?_push_of_some (h := h1) (({ cls := .type "traceback", dict := none, data := .fields cs.toArray } : Obj)) e1
  have z1 : h1.objs.size = s.heap.objs.size := s1.1
  have neT : h1.objs.size ≠ e := Nat.ne_of_gt (Heap.lt_size e1)
  refine wpAny_setField e2 hd hz (k _ (((Chg.slots s1).trans (Chg.push _)).trans (Chg.field e2 hd hn hH)) ?_)
  have d3 := Obj.data_mapFields hd (·.setIfInBounds 1 (Value.ref h1.objs.size))
  refine ⟨_, _, Heap.get?_update_self _ e2 (Obj.isFreed_of_fields d3), Obj.cls_mapFields _ _, ?_, d3, by simpa using hz, hn, hH, .inr ⟨h1.objs.size, { cls := .type "traceback", dict := none, data := .fields cs.toArray }, cs.toArray, rawInt L, ?_, neT, by omega, fr _ (by omega), ?_, rfl, c3, rfl⟩⟩
  · obtain ⟨c, d, dt, sl⟩ := oe; cases hd; rfl
  · rw [Array.getElem?_setIfInBounds_self_of_lt hz]
  · exact (Heap.get?_update_other _ _ (Ne.symm neT)).trans (Heap.get?_push_size h1 rfl)
theorem way_note {q : Option Value} {Q : Unit → Shared → Prop} (hfr : A.frames = some (env :: outer)) (hl : s.heap.FunFrames base (env :: outer)) (hf : env.frame = some L)
    (W : Way H n s.heap e cl dd q) (hq : q = none ∨ q = some .none) (fr : ∀ b, s.heap.objs.size ≤ b → H b = none) (hs : n ≤ s.heap.objs.size)
    (k : ∀ h', Chg H n (frs (env :: outer)) s.heap h' → Way H n h' e cl dd (some (rawInt L)) → Q () { s with heap := h' }) : wpAny M A (noteFrame (.ref e) env) Q E s := by
  obtain ⟨oe, vs, he, rfl, rfl, hd, hz, hn, hH, w⟩ := W
  unfold noteFrame
  simp only [hf]
  rcases w with ⟨h1, rfl⟩ | ⟨T, oT, ts, fl, h1, hT, nT, HT, gT, dT, t3, eq⟩
  · refine wpAny_bind (wpAny_field (x := _) he hd h1 ?_)
    rw [if_neg (by decide)]
    exact way_entry hfr hl hf he hd hz hn hH fr hs k
  · obtain rfl : fl = .none := by
      rcases hq with z | z
      · rw [z] at eq; cases eq
      · rw [z] at eq; cases eq; rfl
    refine wpAny_bind (wpAny_field (x := _) he hd h1 ?_)
    rw [if_pos (show (Value.ref T != Value.none) = true by simp)]
    refine wpAny_bind (wpAny_field gT dT t3 ?_)
    rw [if_neg (show ¬ ((Value.none == rawInt L) = true) by simp [rawInt])]
    refine wpAny_bind (wpAny_setField gT dT (Array.getElem?_eq_some_iff.mp t3).1 ?_)
    have c1 : Chg H n (frs (env :: outer)) s.heap (s.heap.update T (Obj.mapFields (·.setIfInBounds 3 Value.none))) := Chg.field gT dT nT HT
    have e1 : (s.heap.update T (Obj.mapFields (·.setIfInBounds 3 Value.none))).get? e = some oe := (Heap.get?_update_other _ _ hT).trans he
    refine way_entry (base := base) (s := { s with heap := s.heap.update T (Obj.mapFields (·.setIfInBounds 3 Value.none)) }) hfr ?_ hf e1 hd hz hn hH (fun b hb => fr b (Nat.le_trans c1.sz hb)) (Nat.le_trans hs c1.sz) fun h' c2 w2 => k h' (c1.trans c2) w2
    refine hl.of_keeps fun b o hb nf => ⟨o, ?_, rfl⟩
    refine (Heap.get?_update_other _ _ fun z => ?_).trans hb
    subst z
    rw [gT] at hb
    cases hb
    exact nf ts dT
theorem way_flight {fl : Value} {fr : Option Addr} {fs : List Addr} {Q : Unit → Shared → Prop} (W : Way H n s.heap e cl dd (some fl))
    (k : ∀ h', Chg H n fs s.heap h' → Way H n h' e cl dd (some (fr.elim .none fun f => rawInt f)) → Q () { s with heap := h' }) : wpAny M A (setFlight (.ref e) fr) Q E s := by
  obtain ⟨oe, vs, he, rfl, rfl, hd, hz, hn, hH, w⟩ := W
  rcases w with ⟨_, z⟩ | ⟨T, oT, ts, fl', h1, hT, nT, HT, gT, dT, t3, eq⟩
  · cases z
  have l3 := (Array.getElem?_eq_some_iff.mp t3).1
  unfold setFlight
  refine wpAny_bind (wpAny_field (x := _) he hd h1 ?_)
  rw [if_pos (show (Value.ref T != Value.none) = true by simp)]
  refine wpAny_setField gT dT l3 (k _ (Chg.field gT dT nT HT) ?_)
  refine ⟨oe, vs, (Heap.get?_update_other _ _ hT).trans he, rfl, rfl, hd, hz, hn, hH, .inr ⟨T, _, _, _, h1, hT, nT, HT, Heap.get?_update_self _ gT (Obj.isFreed_of_fields (Obj.data_mapFields dT _)), Obj.data_mapFields dT _, ?_, rfl⟩⟩
  rw [Array.getElem?_setIfInBounds_self_of_lt l3]
end
theorem Inv.chg {X : Cx} {pins : List (Addr × Obj)} {σ σ1 : St} {H H1 : Hp} {s s1 : Shared} {h' : Heap} {t' : Nat} (I1 : Inv X pins σ1 H1 s1) (I : Inv X pins σ H s) (c : Chg H s1.heap.objs.size (frs X.stack) s.heap h') :
    Inv X pins σ H { s with heap := h', toks := t' } := by
  obtain ⟨ch, a1, a2, a3, a4⟩ := c.ex
  have lt : ∀ b ∈ ch, ∀ o, s1.heap.get? b ≠ some o := fun b hb o ho => absurd (Nat.lt_of_lt_of_le (Heap.lt_size ho) (a1 b hb).1) (Nat.lt_irrefl _)
  have hok : HOk X.prog X.w H h' := fun b u e => by
    refine (I.hok b u e).stay (fun d v hd q => ?_) (fun _ z => z) fun _ _ z => z
    have hH : H d ≠ none := by
      rcases hd with rfl | z
      · rw [e]; exact Option.some_ne_none _
      · rw [z]; exact Option.some_ne_none _
    exact a2 d v q (fun z => hH (I.stkFree d z)) fun z => hH (a1 d z).2.1
  refine I.call (ch := ch) (g' := s.gens) (d' := s.drawn) ⟨fun b o e _ nf nc => a2 b o e nf nc, fun b o e _ _ nc => a3 b o e nc, fun b o _ z _ => z, fun b o e _ => a4 b o e, fun _ _ z => z, fun _ _ _ z => z, fun b ps z => ⟨#[], by rw [z]; simp⟩⟩ hok I.bare fun b hb => ⟨.inr (Nat.le_trans I1.sz (a1 b hb).1), fun z => ?_, fun x d hd z => ?_, fun p hp z => ?_⟩
  · obtain ⟨m, ⟨o, _, _, ho, _⟩, _⟩ := I1.loc
    exact lt b hb o (z ▸ ho)
  · obtain ⟨v, o, ho, _⟩ := I1.cell x d hd
    exact lt b hb o (z ▸ ho)
  · exact lt b hb p.2 (z ▸ (I1.pin p hp).1)
def flatV : D → Value → Prop
  | .non, u => u = .none
  | .int i, u => ∃ t, u = .int i t
  | _, _ => False
def AtIs (H : Hp) (n : Nat) (h : Heap) (dd : Option Addr) : List (Str × D) → Prop
  | [] => True
  | (nm, d) :: _ => ∃ dx mA u, dd = some dx ∧ n ≤ dx ∧ H dx = none ∧ h.Ns1 dx mA ∧ mA nm = some u ∧ flatV d u
inductive XOk : Xc → Prop
  | nof (c : Str) : XOk (Xc.mk c [])
  | nonf (c : Str) : XOk (Xc.mk c [("at", D.non)])
  | intf (c : Str) (n : Nat) : XOk (Xc.mk c [("at", D.int n)])
def atc (x : Xc) : Option Addr := match x.fs with
  | [] => none
  | [(_, .int i)] => some (i.toNat + 1)
  | _ => some 0
theorem XOk.inj {x y : Xc} (a : XOk x) (b : XOk y) (hc : x.cls = y.cls) (h : atc x = atc y) : x = y := by
  cases a <;> cases b <;> simp_all [atc]
structure Fl (P : Program) (w : World) (mg : Str → Option Value) (outer : List Env) (H : Hp) (s : Shared) (H' : Hp) (s' : Shared) (e : Addr) (x : Xc) (q : Option Value) : Prop where
  os : s'.os = s.os
  bare : AllBare s'.gens
  un : Un (frs outer) [] H H' s.heap s'.heap
  hok : HOk P w H' s'.heap
  sz : s.heap.objs.size ≤ s'.heap.objs.size
  ok : XOk x
  way : ∃ C dd, mg x.cls = some (.ref C) ∧ Way H' s.heap.objs.size s'.heap e (.ref C) dd q ∧ AtIs H' s.heap.objs.size s'.heap dd x.fs
theorem Way.mono {H : Hp} {n m : Nat} {h : Heap} {e : Addr} {cl : Value} {dd : Option Addr} {q : Option Value} (W : Way H n h e cl dd q) (l : m ≤ n) : Way H m h e cl dd q := by
  obtain ⟨oe, vs, he, rfl, rfl, hd, hz, hn, hH, w⟩ := W
  refine ⟨oe, vs, he, rfl, rfl, hd, hz, Nat.le_trans l hn, hH, ?_⟩
  rcases w with w | ⟨T, oT, ts, fl, h1, hT, nT, r⟩
  · exact .inl w
  · exact .inr ⟨T, oT, ts, fl, h1, hT, Nat.le_trans l nT, r⟩
theorem AtIs.mono {H : Hp} {n m : Nat} {h : Heap} {dd : Option Addr} {fs : List (Str × D)} (W : AtIs H n h dd fs) (l : m ≤ n) : AtIs H m h dd fs := by
  cases fs with
  | nil => trivial
  | cons p r => obtain ⟨dx, mA, u, e1, e2, r⟩ := W; exact ⟨dx, mA, u, e1, Nat.le_trans l e2, r⟩
theorem AtIs.chg {H : Hp} {n : Nat} {fr : List Addr} {h h' : Heap} {dd : Option Addr} {fs : List (Str × D)} (W : AtIs H n h dd fs) (c : Chg H n fr h h') (hf : ∀ b ∈ fr, b < n) : AtIs H n h' dd fs := by
  cases fs with
  | nil => trivial
  | cons p r =>
    obtain ⟨dx, mA, u, e1, e2, hH, N, r⟩ := W
    obtain ⟨ch, a1, a2, _⟩ := c.ex
    refine ⟨dx, mA, u, e1, e2, hH, ?_, r⟩
    obtain ⟨o, es, ep, ho, hd, z⟩ := N
    refine ⟨o, es, ep, a2 dx o ho (fun z => absurd (Nat.lt_of_lt_of_le (hf dx z) e2) (Nat.lt_irrefl _)) (fun z => ?_), hd, z⟩
    obtain ⟨vs, q⟩ := (a1 dx z).2.2 o ho
    rw [hd] at q
    cases q
def KE {α : Type} (x : Xc → Prop) (r : R α) (k : α → Prop) : Prop := match r with
  | .ok a => k a
  | .exc e => x e
  | .stuck => False
theorem KE.bind {α β : Type} {x : Xc → Prop} {r : R α} {f : α → R β} {k : β → Prop} (h : KE x (r.bind f) k) : KE x r fun a => KE x (f a) k := by
  cases r <;> exact h
theorem KE.imp {α : Type} {x : Xc → Prop} {r : R α} {k k' : α → Prop} (h : KE x r k) (i : ∀ a, k a → k' a) : KE x r k' := by
  cases r with
  | ok a => exact i a h
  | exc e => exact h
  | stuck => exact h
theorem KE.impX {α : Type} {x x' : Xc → Prop} {r : R α} {k k' : α → Prop} (h : KE x r k) (i : ∀ a, k a → k' a) (j : ∀ e, x e → x' e) : KE x' r k' := by
  cases r with
  | ok a => exact i a h
  | exc e => exact j e h
  | stuck => exact h
theorem KE_ok {α : Type} {x : Xc → Prop} {a : α} {k : α → Prop} : KE x (R.ok a) k = k a := rfl
def XP (X : Cx) (F0 H0 : Hp) (x : Xc) : Prop := False
def XPS (X : Cx) (F0 H0 : Hp) (x : Xc) : Prop := ∀ (pins : List (Addr × Obj)) (σ : St) (H : Hp) (s : Shared) (F' H' : Hp) (s' : Shared) (e : Addr) (q : Option Value), (q = none ∨ q = some .none) → Gr F0 H0 F' H' → Inv X pins σ H s →
  Fl X.prog X.w X.mg X.stack H s H' s' e x q → X.xe (.ref e) s'
def SE (X : Cx) (F0 H0 : Hp) (e : Expr) (f : EF) : Prop :=
  ∀ (pins : List (Addr × Obj)) (s : Shared) (σ : St) (F H : Hp) (ρ : Rho) (Q : Value → Shared → Prop), StOk (kx X) F0 H0 F H ρ σ → Inv X pins σ H s →
    KE (XP X F0 H0) (f ρ) (fun w => ∀ v u F' H' s', Gr F H F' H' → Vok (kx X) H F' H' v w → RelV v u → Inv X pins σ H' s' → Q u s') →
    wpAny (model X.prog X.w) X.A (eval e X.env) Q X.xe s
def ST (X : Cx) (F0 H0 : Hp) (e : Expr) (f : TF) : Prop :=
  ∀ (pins : List (Addr × Obj)) (s : Shared) (σ : St) (F H : Hp) (ρ : Rho) (Q : Bool → Shared → Prop), StOk (kx X) F0 H0 F H ρ σ → Inv X pins σ H s →
    KE (XP X F0 H0) (f ρ) (fun b => ∀ F' H' s', Gr F H F' H' → Inv X pins σ H' s' → Q b s') →
    wpAny (model X.prog X.w) X.A (isTrue e X.env (eval e X.env)) Q X.xe s
def SW (X : Cx) (F0 H0 : Hp) (e : Expr) (f : TF) : Prop :=
  ∀ (whole : Sem Value) (pins : List (Addr × Obj)) (s : Shared) (σ : St) (F H : Hp) (ρ : Rho) (Q : Bool → Shared → Prop), StOk (kx X) F0 H0 F H ρ σ → Inv X pins σ H s →
    KE (XP X F0 H0) (f ρ) (fun b => ∀ F' H' s', Gr F H F' H' → Inv X pins σ H' s' → Q b s') →
    wpAny (model X.prog X.w) X.A (isTrue e X.env whole) Q X.xe s
def SA (X : Cx) (F0 H0 : Hp) (es : List Expr) (f : List EF) : Prop :=
  ∀ (pos : Pos) (pins : List (Addr × Obj)) (s : Shared) (σ : St) (F H : Hp) (ρ : Rho) (Q : List Value → Shared → Prop), StOk (kx X) F0 H0 F H ρ σ → Inv X pins σ H s →
    KE (XP X F0 H0) (evs f ρ) (fun ws => ∀ vs us F' H' s', Gr F H F' H' → Voks (kx X) H F' H' vs ws → Vals vs us → Inv X pins σ H' s' → Q us s') →
    wpAny (model X.prog X.w) X.A (spliced (backTo pos (starEach es X.env))) Q X.xe s
def PostS (X : Cx) (F0 H0 F : Hp) (D : Ends) : Out → Prop
  | .nx ρ' => ∀ σ' F' H', Le F F' → StOk (kx X) F0 H0 F' H' ρ' σ' → D.nx σ' H'
  | .bk ρ' => ∀ σ' F' H', Le F F' → StOk (kx X) F0 H0 F' H' ρ' σ' → D.bk σ' H'
  | .ct ρ' => ∀ σ' F' H', Le F F' → StOk (kx X) F0 H0 F' H' ρ' σ' → D.ct σ' H'
  | .rt w => ∀ v F' H', Gr F0 H0 F' H' → Vok (kx X) H0 F' H' v w → D.rt v H'
  | .exc x => XPS X F0 H0 x
  | .stuck => False
def SS (X : Cx) (F0 H0 : Hp) (st : Stmt) (f : SF) : Prop :=
  ∀ (pins : List (Addr × Obj)) (s : Shared) (σ : St) (F H : Hp) (ρ : Rho) (D : Ends), StOk (kx X) F0 H0 F H ρ σ → Inv X pins σ H s → PostS X F0 H0 F D (f ρ) →
    wpAny (model X.prog X.w) X.A (exec st X.env) (SP X pins D) X.xe s
def SSs (X : Cx) (F0 H0 : Hp) (sts : List Stmt) (f : SF) : Prop :=
  ∀ (pins : List (Addr × Obj)) (s : Shared) (σ : St) (F H : Hp) (ρ : Rho) (D : Ends), StOk (kx X) F0 H0 F H ρ σ → Inv X pins σ H s → PostS X F0 H0 F D (f ρ) →
    wpAny (model X.prog X.w) X.A (execs sts X.env) (SP X pins D) X.xe s
theorem PostS.le {X : Cx} {F0 H0 F F' : Hp} {D : Ends} (l : Le F F') {o : Out} (h : PostS X F0 H0 F D o) : PostS X F0 H0 F' D o := by
  cases o with
  | nx ρ => exact fun σ' F2 H2 l2 S => h σ' F2 H2 (Le.trans l l2) S
  | bk ρ => exact fun σ' F2 H2 l2 S => h σ' F2 H2 (Le.trans l l2) S
  | ct ρ => exact fun σ' F2 H2 l2 S => h σ' F2 H2 (Le.trans l l2) S
  | rt w => exact h
  | exc x => exact h
  | stuck => exact h
theorem PostS.of {α : Type} {X : Cx} {F0 H0 F : Hp} {D : Ends} {r : R α} {k : α → Out} (h : PostS X F0 H0 F D (sOf r k)) : KE (XP X F0 H0) r fun a => PostS X F0 H0 F D (k a) := by
  cases r <;> exact h
def tSem (X : Cx) (e : Expr) : TE := fun σ H Q => ∀ (pins : List (Addr × Obj)) (s : Shared), Inv X pins σ H s → wpAny (model X.prog X.w) X.A (eval e X.env) (EP X pins σ Q) X.xe s
theorem pe_sem {X : Cx} {e : Expr} : PE X e (tSem X e) := fun pins s σ H Q I h => h pins s I
theorem SE.sem {X : Cx} {F0 H0 : Hp} {e : Expr} {f : EF} (h : SE X F0 H0 e f) {σ : St} {F H : Hp} {ρ : Rho} {Q : VK} (S : StOk (kx X) F0 H0 F H ρ σ)
    (k : KE (XP X F0 H0) (f ρ) fun w => ∀ v F' H', Gr F H F' H' → Vok (kx X) H F' H' v w → Q v H') : tSem X e σ H Q :=
  fun pins s I => h pins s σ F H ρ _ S I (k.imp fun w q v u F' H' s' g vo r I' => ⟨v, H', I', r, q v F' H' g vo⟩)
def tSemT (X : Cx) (e : Expr) : TT := fun σ H Q => ∀ (pins : List (Addr × Obj)) (s : Shared), Inv X pins σ H s → wpAny (model X.prog X.w) X.A (isTrue e X.env (eval e X.env)) (TP X pins σ Q) X.xe s
theorem pt_sem {X : Cx} {e : Expr} : PT X e (tSemT X e) := fun pins s σ H Q I h => h pins s I
def tSemS (X : Cx) (st : List Stmt) : TS := fun D σ H => ∀ (pins : List (Addr × Obj)) (s : Shared), Inv X pins σ H s → wpAny (model X.prog X.w) X.A (execs st X.env) (SP X pins D) X.xe s
theorem pss_sem {X : Cx} {st : List Stmt} : PSs X st (tSemS X st) := fun pins s σ H D I h => h pins s I
section
variable {X : Cx} {F0 H0 : Hp}
theorem se_var (i : Nat) {x : Str} {pos : Pos} (hN : X.N[i]? = some x := by rfl) (hv : Vis X.env.scope x := by first | exact Or.inl rfl | exact Or.inr (Or.inl rfl) | exact Or.inr (Or.inr rfl)) (hd : (x == ("__debug__" : Str)) = false := by decide)
    (hcd : (x == ("__classdict__" : Str)) = false := by decide) : SE X F0 H0 (.Name x pos) (eVar i) := by
  intro pins s σ F H ρ Q S I h
  have go : ∀ w w' : En, ρ[i]? = some (some w) → (∀ v, Eok (kx X) H0 F H v w → Vok (kx X) H F H v w') →
      (∀ v u F' H' s', Gr F H F' H' → Vok (kx X) H F' H' v w' → RelV v u → Inv X pins σ H' s' → Q u s') → wpAny (model X.prog X.w) X.A (eval (.Name x pos) X.env) Q X.xe s := fun w w' e t k => by
    obtain ⟨v, e1, q⟩ := S.val i w e
    refine thn (pe_var hN hv hd hcd pins s σ H (fun v' H' => v' = v ∧ H' = H) I ⟨v, e1, rfl, rfl⟩) fun u s' ⟨v', H', I', r, ev, eh⟩ => ?_
    subst ev eh
    exact k v' u F H' s' (Gr.refl S.s) (t v' q) r I'
  cases e : ρ[i]? with
  | none => unfold eVar at h; rw [e] at h; exact h.elim
  | some w =>
    cases w with
    | none => unfold eVar at h; rw [e] at h; exact h.elim
    | some w =>
      unfold eVar at h
      rw [e] at h
      cases w with
      | fz d => exact go _ (.fz d) e (fun v q => q) h
      | ow d => exact go _ (.br d) e (fun v ⟨a, o, e1, _, _, e2, r⟩ => ⟨a, o, e1, e2, r⟩) h
      | lk d => exact go _ (.fz d) e (fun v q => q.1) h
      | od d => exact h.elim
      | br d => exact go _ (.br d) e (fun v ⟨a, o, e1, e2, r⟩ => ⟨a, o, e1, S.gr.h _ _ e2, r⟩) h
theorem se_of {e : Expr} {v : V} {d : D} (h : PE X e (tC v)) (r : ∀ F, Rep (kx X) F v d) : SE X F0 H0 e (eC d) := by
  intro pins s σ F H ρ Q S I k
  refine thn (h pins s σ H (fun v' H' => v' = v ∧ H' = H) I ⟨rfl, rfl⟩) fun u s' ⟨v', H', I', rv, ev, eh⟩ => ?_
  subst ev eh
  exact k v' u F H' s' (Gr.refl S.s) (r F) rv I'
theorem se_int {i : Int} {j pos} : SE X F0 H0 (.Constant (.int i) j pos) (eC (.int i)) := se_of pe_int fun _ => rfl
theorem se_bl {b : Bool} {j pos} : SE X F0 H0 (.Constant (.bool b) j pos) (eC (.bl b)) := se_of pe_bl fun _ => rfl
theorem se_non {j pos} : SE X F0 H0 (.Constant .none j pos) (eC .non) := se_of pe_non fun _ => rfl
theorem se_str {x : Str} {j pos} : SE X F0 H0 (.Constant (.str x) j pos) (eC (.str x)) := se_of pe_str fun _ => rfl
abbrev Wish (X : Cx) (F H : Hp) (r : R En) (Q : VK) : Prop := KE (fun _ => False) r fun w => ∀ v F' H', Gr F H F' H' → Vok (kx X) H F' H' v w → Q v H'
def OpD (X : Cx) (f : Value → Value → Sem Value) (g : D → D → R En) : Prop :=
  ∀ (pins : List (Addr × Obj)) (s : Shared) (σ : St) (F H : Hp) (x y : V) (v u : Value) (dx dy : D) (Q : VK), Inv X pins σ H s → Le F H → RelV x v → RelV y u → RdV (kx X) F H x dx → RdV (kx X) F H y dy → Wish X F H (g dx dy) Q →
    wpAny (model X.prog X.w) X.A (f v u) (EP X pins σ Q) X.xe s
def CallD (X : Cx) (f : Value) (g : List D → R En) : Prop :=
  ∀ (pins : List (Addr × Obj)) (s : Shared) (σ : St) (F H : Hp) (xs : List V) (us : List Value) (ds : List D) (Q : VK), Inv X pins σ H s → Le F H → Vals xs us → Paired (RdV (kx X) F H) xs ds → Wish X F H (g ds) Q →
    wpAny (model X.prog X.w) X.A (call f us) (EP X pins σ Q) X.xe s
variable {a b : Expr} {fa fb : EF} {pos : Pos} {g : D → D → R En}
theorem wish_end {F H F2 H2 : Hp} {r : R En} {Q : Value → Shared → Prop} {pins : List (Addr × Obj)} {σ : St} (g2 : Gr F H F2 H2)
    (h : KE (XP X F0 H0) r fun w => ∀ v u F' H' s', Gr F H F' H' → Vok (kx X) H F' H' v w → RelV v u → Inv X pins σ H' s' → Q u s') :
    Wish X F2 H2 r fun v H' => ∀ u s', RelV v u → Inv X pins σ H' s' → Q u s' := by
  refine KE.impX h (fun w k v F' H' g' q u s' r I => ?_) fun _ z => z.elim
  exact k v u F' H' s' (g2.trans g') (Vok.older (fun a e => Le.none g2.h e) q) r I
theorem ep_end {Q : Value → Shared → Prop} {pins : List (Addr × Obj)} {σ : St} {t : Sem Value} {s : Shared}
    (h : wpAny (model X.prog X.w) X.A t (EP X pins σ fun v H' => ∀ u s', RelV v u → Inv X pins σ H' s' → Q u s') X.xe s) : wpAny (model X.prog X.w) X.A t Q X.xe s :=
  thn h fun u s' ⟨v, H', I', r, q⟩ => q u s' r I'
theorem two {f : Value → Value → Sem Value} (ha : SE X F0 H0 a fa) (hb : SE X F0 H0 b fb) {pins : List (Addr × Obj)} {s : Shared} {σ : St} {F H : Hp} {ρ : Rho} {Q : Value → Shared → Prop} (S : StOk (kx X) F0 H0 F H ρ σ) (I : Inv X pins σ H s)
    (h : KE (XP X F0 H0) (eOp g fa fb ρ) fun w => ∀ v u F' H' s', Gr F H F' H' → Vok (kx X) H F' H' v w → RelV v u → Inv X pins σ H' s' → Q u s')
    (ho : ∀ (s : Shared) (F H : Hp) (x y : V) (v u : Value) (dx dy : D) (Q : VK), Inv X pins σ H s → Le F H → RelV x v → RelV y u → RdV (kx X) F H x dx → RdV (kx X) F H y dy → Wish X F H (g dx dy) Q →
      wpAny (model X.prog X.w) X.A (f v u) (EP X pins σ Q) X.xe s) :
    wpAny (model X.prog X.w) X.A (eval a X.env) (fun v s₁ => wpAny (model X.prog X.w) X.A (eval b X.env) (fun u s₂ => wpAny (model X.prog X.w) X.A (f v u) Q X.xe s₂) X.xe s₁) X.xe s := by
  refine ha pins s σ F H ρ _ S I ((KE.bind h).imp fun wx h1 v u F1 H1 s1 g1 q1 r1 I1 => ?_)
  refine hb pins s1 σ F1 H1 ρ _ (S.grow g1) I1 ((KE.bind h1).imp fun wy h2 v2 u2 F2 H2 s2 g2 q2 r2 I2 => ?_)
  exact ep_end (ho s2 F2 H2 v v2 u u2 wx.d wy.d _ I2 g2.s r1 r2 (RdV.gr g2 (Vok.rd q1)) (Vok.rd q2) (wish_end (g1.trans g2) h2))
theorem se_op {op : Operator} (ho : OpD X (binaryOp op) g) (ha : SE X F0 H0 a fa) (hb : SE X F0 H0 b fb) : SE X F0 H0 (.BinOp a op b pos) (eOp g fa fb) :=
  fun pins s σ F H ρ Q S I h => wpAny_BinOp (two ha hb S I h fun s F H x y v u dx dy Q => ho pins s σ F H x y v u dx dy Q)
theorem se_cmp {op : CmpOp} (ho : OpD X (compareOp op) g) (ha : SE X F0 H0 a fa) (hb : SE X F0 H0 b fb) (hm : behindInMarks op b = false := by first | exact nobehind _ (by decide) (by decide) | rfl) :
    SE X F0 H0 (.Compare a [op] [b] pos) (eOp g fa fb) :=
  fun pins s σ F H ρ Q S I h => wpAny_Compare1 (two ha hb S I h fun s F H x y v u dx dy Q => ho pins s σ F H x y v u dx dy Q) hm
theorem wish_fz {F H : Hp} {v : V} {d : D} {Q : VK} (s : Le F H) (h : Wish X F H (.ok (.fz d)) Q) (r : Rep (kx X) F v d) : Q v H := h v F H (Gr.refl s) r
theorem opd_of {f : Value → Value → Sem Value} {r : R2} (ho : OpR X f r)
    (h : ∀ F H x y dx dy Q, Le F H → RdV (kx X) F H x dx → RdV (kx X) F H y dy → Wish X F H (g dx dy) Q → r x y H Q) : OpD X f g :=
  fun pins s σ F H x y v u dx dy Q I l rx ry qx qy w => ho pins s σ H x y v u Q I rx ry (h F H x y dx dy Q l qx qy w)
theorem od_sub : OpD X (binaryOp .Sub) dSub := opd_of op_sub fun F H x y dx dy Q l qx qy w => by
  cases dx <;> first | exact w.elim | skip
  cases dy <;> first | exact w.elim | skip
  exact ⟨_, _, RdV.int qx, RdV.int qy, wish_fz l (v := .int _) w rfl⟩
theorem od_mul : OpD X (binaryOp .Mult) dMul := opd_of op_mul fun F H x y dx dy Q l qx qy w => by
  cases dx <;> first | exact w.elim | skip
  cases dy <;> first | exact w.elim | skip
  rename_i i j
  unfold dMul at w
  dsimp only at w
  by_cases c : (fits b64 i || fits b64 j) = true
  · rw [if_pos c] at w
    have p64 : (2 : Int) ^ 64 = 18446744073709551616 := by simp
    have c : (-(2 ^ 64) < i ∧ i < 2 ^ 64) ∨ (-(2 ^ 64) < j ∧ j < 2 ^ 64) := by
      rw [Bool.or_eq_true, fits_iff, fits_iff, b64e] at c
      rw [p64]
      omega
    exact ⟨_, _, RdV.int qx, RdV.int qy, c, wish_fz l (v := .int _) w rfl⟩
  · rw [if_neg c] at w; exact w.elim
theorem od_mod : OpD X (binaryOp .Mod) dMod := opd_of op_mod fun F H x y dx dy Q l qx qy w => by
  cases dx <;> first | exact w.elim | skip
  cases dy <;> first | exact w.elim | skip
  rename_i i j
  unfold dMod at w
  dsimp only at w
  by_cases c : 0 < j
  · rw [if_pos c] at w
    exact ⟨_, _, RdV.int qx, RdV.int qy, c, wish_fz l (v := .int _) w rfl⟩
  · rw [if_neg c] at w; exact w.elim
theorem od_lt : OpD X (compareOp .Lt) dLt := opd_of op_lt fun F H x y dx dy Q l qx qy w => by
  cases dx <;> first | exact w.elim | skip
  cases dy <;> first | exact w.elim | skip
  exact ⟨_, _, RdV.int qx, RdV.int qy, wish_fz l (v := .bl _) w rfl⟩
theorem od_gt : OpD X (compareOp .Gt) dGt := opd_of op_gt fun F H x y dx dy Q l qx qy w => by
  cases dx <;> first | exact w.elim | skip
  cases dy <;> first | exact w.elim | skip
  exact ⟨_, _, RdV.int qx, RdV.int qy, wish_fz l (v := .bl _) w rfl⟩
end
end L3
namespace L3
open PySem PySem.Spec PyProof.Rows L2
mutual
def toPy : D → PyData
  | .non => .none | .bl b => .bool b | .int i => .int i | .str x => .str x
  | .tup xs => .tuple (toPys xs) | .lst xs => .list (toPys xs)
  | _ => .none
def toPys : List D → List PyData
  | [] => []
  | x :: xs => toPy x :: toPys xs
end
mutual
theorem deq_py : ∀ (n m : Nat) (a b : D), eqokN n a = true → eqokN m b = true → PyData.eqv (toPy a) (toPy b) = deq a b
  | n, m, a, b, ha, hb => by
    cases a <;> cases b <;> first
      | rfl
      | (simp [eqokN] at ha; done)
      | (simp [eqokN] at hb; done)
      | skip
    · rename_i xs ys
      cases n with
      | zero => simp [eqokN] at ha
      | succ n =>
        cases m with
        | zero => simp [eqokN] at hb
        | succ m => exact deqs_py n m xs ys ha hb
    · rename_i xs ys
      cases n with
      | zero => simp [eqokN] at ha
      | succ n =>
        cases m with
        | zero => simp [eqokN] at hb
        | succ m => exact deqs_py n m xs ys ha hb
theorem deqs_py : ∀ (n m : Nat) (a b : List D), a.all (eqokN n) = true → b.all (eqokN m) = true → PyData.eqvAll (toPys a) (toPys b) = deqs a b
  | _, _, [], [], _, _ => rfl
  | _, _, [], _ :: _, _, _ => rfl
  | _, _, _ :: _, [], _, _ => rfl
  | n, m, x :: xs, y :: ys, ha, hb => by
    rw [List.all_cons, Bool.and_eq_true] at ha hb
    show (PyData.eqv (toPy x) (toPy y) && PyData.eqvAll (toPys xs) (toPys ys)) = (deq x y && deqs xs ys)
    rw [deq_py n m x y ha.1 hb.1, deqs_py n m xs ys ha.2 hb.2]
end
theorem lay_py : ∀ (n : Nat) (d : D), eqokN n d = true → (toPy d).canLay0 = true ∧ (toPy d).depth ≤ n
  | n, .non, _ => ⟨rfl, Nat.zero_le _⟩
  | n, .bl _, _ => ⟨rfl, Nat.zero_le _⟩
  | n, .int _, _ => ⟨rfl, Nat.zero_le _⟩
  | n, .str x, h => ⟨by cases n <;> exact h, Nat.zero_le _⟩
  | 0, .tup _, h => by simp [eqokN] at h
  | 0, .lst _, h => by simp [eqokN] at h
  | n + 1, .tup xs, h => by
    have k : ∀ ys : List D, ys.all (eqokN n) = true → PyData.canLayAll0 (toPys ys) = true ∧ PyData.depthAll (toPys ys) ≤ n := by
      intro ys
      induction ys with
      | nil => intro _; exact ⟨rfl, Nat.zero_le _⟩
      | cons y ys ih =>
        intro hy
        rw [List.all_cons, Bool.and_eq_true] at hy
        obtain ⟨a1, a2⟩ := lay_py n y hy.1
        obtain ⟨b1, b2⟩ := ih hy.2
        refine ⟨?_, ?_⟩
        · show ((toPy y).canLay0 && PyData.canLayAll0 (toPys ys)) = true
          rw [a1, b1]; rfl
        · show max (toPy y).depth (PyData.depthAll (toPys ys)) ≤ n
          omega
    obtain ⟨k1, k2⟩ := k xs h
    exact ⟨k1, Nat.succ_le_succ k2⟩
  | n + 1, .lst xs, h => by
    have k : ∀ ys : List D, ys.all (eqokN n) = true → PyData.canLayAll0 (toPys ys) = true ∧ PyData.depthAll (toPys ys) ≤ n := by
      intro ys
      induction ys with
      | nil => intro _; exact ⟨rfl, Nat.zero_le _⟩
      | cons y ys ih =>
        intro hy
        rw [List.all_cons, Bool.and_eq_true] at hy
        obtain ⟨a1, a2⟩ := lay_py n y hy.1
        obtain ⟨b1, b2⟩ := ih hy.2
        refine ⟨?_, ?_⟩
        · show ((toPy y).canLay0 && PyData.canLayAll0 (toPys ys)) = true
          rw [a1, b1]; rfl
        · show max (toPy y).depth (PyData.depthAll (toPys ys)) ≤ n
          omega
    obtain ⟨k1, k2⟩ := k xs h
    exact ⟨k1, Nat.succ_le_succ k2⟩
  | n, .dK _, h => by cases n <;> simp [eqokN] at h
  | n, .dT _, h => by cases n <;> simp [eqokN] at h
  | n, .xc _ _, h => by cases n <;> simp [eqokN] at h
section
variable {X : Cx} {pins : List (Addr × Obj)} {σ : St} {F H : Hp} {s : Shared}
mutual
theorem rep_reads (I : Inv X pins σ H s) (l : Le F H) : ∀ (n : Nat) (d : D) {v : V} {u : Value}, eqokN n d = true → Rep (kx X) F v d → RelV v u → ∃ as, Reads s.heap u (toPy d) as
  | _, .non, v, u, _, r, q => by cases (show v = .non from r); cases (show u = Value.none from q); exact ⟨_, .none⟩
  | _, .bl b, v, u, _, r, q => by cases (show v = .bl b from r); cases (show u = Value.bool b from q); exact ⟨_, .bool b⟩
  | _, .int i, v, u, _, r, q => by cases (show v = .int i from r); obtain ⟨t, rfl⟩ := (show ∃ t, u = Value.int i t from q); exact ⟨_, .int i t⟩
  | _, .str x, v, u, _, r, q => by cases (show v = .str x from r); obtain ⟨t, rfl⟩ := (show ∃ t, u = Value.str x t from q); exact ⟨_, .str x t⟩
  | 0, .tup _, _, _, h, _, _ => by simp [eqokN] at h
  | 0, .lst _, _, _, h, _, _ => by simp [eqokN] at h
  | n + 1, .tup ds, v, u, h, r, q => by
    obtain ⟨a, vs, rfl, hq, rs⟩ := r
    cases (show u = Value.ref a from q)
    obtain ⟨its, rv, ⟨o, e1, e2, m, e3⟩, hz⟩ := I.tuple (SqT.le l hq)
    obtain ⟨as, hr⟩ := reps_reads I l n ds h rs rv
    exact ⟨_, .tuple e1 e2 e3 (by simpa using hr)⟩
  | n + 1, .lst ds, v, u, h, r, q => by
    obtain ⟨a, vs, rfl, hq, rs⟩ := r
    cases (show u = Value.ref a from q)
    obtain ⟨its, rv, ⟨o, m, e1, e2, _, e3⟩, hz⟩ := I.list (SqL.le l hq)
    obtain ⟨as, hr⟩ := reps_reads I l n ds h rs rv
    exact ⟨_, .list e1 e2 e3 (by simpa using hr)⟩
  | n, .dK _, _, _, h, _, _ => by cases n <;> simp [eqokN] at h
  | n, .dT _, _, _, h, _, _ => by cases n <;> simp [eqokN] at h
  | n, .xc _ _, _, _, h, _, _ => by cases n <;> simp [eqokN] at h
theorem reps_reads (I : Inv X pins σ H s) (l : Le F H) : ∀ (n : Nat) (ds : List D) {vs : List V} {us : List Value}, ds.all (eqokN n) = true → Reps (kx X) F vs ds → Vals vs us → ∃ as, ReadsAll s.heap us (toPys ds) as
  | n, [], vs, us, _, r, q => by
    cases (show vs = [] from r)
    cases q
    exact ⟨_, .nil⟩
  | n, d :: ds, vs, us, h, r, q => by
    obtain ⟨v, r', rfl, r1, r2⟩ := r
    rw [List.all_cons, Bool.and_eq_true] at h
    cases q with
    | cons q1 q2 =>
      obtain ⟨as, h1⟩ := rep_reads I l n d h.1 r1 q1
      obtain ⟨bs, h2⟩ := reps_reads I l n ds h.2 r2 q2
      exact ⟨_, .cons h1 h2⟩
end
theorem rd_reads (I : Inv X pins σ H s) (l : Le F H) {n : Nat} {d : D} {v : V} {u : Value} (h : eqokN n d = true) (r : RdV (kx X) F H v d) (q : RelV v u) : ∃ as, Reads s.heap u (toPy d) as := by
  rcases r with r | ⟨a, o, rfl, e2, r⟩
  · exact rep_reads I l n d h r q
  · cases d with
    | lst ds =>
      cases n with
      | zero => simp [eqokN] at h
      | succ n =>
        cases o with
        | lst vs =>
          cases (show u = Value.ref a from q)
          obtain ⟨its, rv, ⟨o, m, e1, e2, _, e3⟩, hz⟩ := I.list (SqL.of e2)
          obtain ⟨as, hr⟩ := reps_reads I l n ds h r rv
          exact ⟨_, .list e1 e2 e3 (by simpa using hr)⟩
        | _ => exact r.elim
    | _ => exact rep_reads I l n _ h (RdV.flat (.inr ⟨a, o, rfl, e2, r⟩ : RdV (kx X) F H _ _) (fun _ e => nomatch e) (fun _ e => by cases e <;> (cases n <;> simp [eqokN] at h)) (fun _ e => by cases e <;> (cases n <;> simp [eqokN] at h))) q
end
section
variable {X : Cx} {F0 H0 : Hp}
theorem od_eq (hu : X.A.units + 10 < cLine) : OpD X (compareOp .Eq) dEq := by
  intro pins s σ F H x y v u dx dy Q I l rx ry qx qy w
  unfold dEq at w
  by_cases c : (eqok dx && eqok dy) = true
  · rw [if_pos c] at w
    rw [Bool.and_eq_true] at c
    obtain ⟨as, h1⟩ := rd_reads I l c.1 qx rx
    obtain ⟨bs, h2⟩ := rd_reads I l c.2 qy ry
    obtain ⟨a1, a2⟩ := lay_py 8 dx c.1
    obtain ⟨b1, b2⟩ := lay_py 8 dy c.2
    refine SeqAt.compareEq_reads h1 h2 a1 b1 (by omega) ?_
    rw [deq_py 8 8 dx dy c.1 c.2]
    exact ⟨.bl _, H, I, rfl, wish_fz (X := X) l (v := .bl _) w rfl⟩
  · rw [if_neg c] at w; exact w.elim
theorem od_ne (hu : X.A.units + 10 < cLine) : OpD X (compareOp .NotEq) dNe := by
  intro pins s σ F H x y v u dx dy Q I l rx ry qx qy w
  unfold dNe at w
  by_cases c : (eqok dx && eqok dy) = true
  · rw [if_pos c] at w
    rw [Bool.and_eq_true] at c
    obtain ⟨as, h1⟩ := rd_reads I l c.1 qx rx
    obtain ⟨bs, h2⟩ := rd_reads I l c.2 qy ry
    obtain ⟨a1, a2⟩ := lay_py 8 dx c.1
    obtain ⟨b1, b2⟩ := lay_py 8 dy c.2
    refine SeqAt.compareNe_reads h1 h2 a1 b1 (by omega) ?_
    rw [deq_py 8 8 dx dy c.1 c.2]
    exact ⟨.bl _, H, I, rfl, wish_fz (X := X) l (v := .bl _) w rfl⟩
  · rw [if_neg c] at w; exact w.elim
theorem RepK.look {κ : Kx} {F : Hp} : ∀ {kds : List (Sum Int Str × D)} {kvs : List (Key × V)} (k : Key), RepK κ F kvs kds → (∃ v d, valV kvs k = some v ∧ look k kds = some d ∧ Rep κ F v d) ∨ (valV kvs k = none ∧ look k kds = none)
  | [], _, k, h => by cases (show _ = _ from h); exact .inr ⟨rfl, rfl⟩
  | (q, d) :: r, _, k, h => by
    obtain ⟨v, kr, rfl, h1, h2⟩ := h
    by_cases e : q = k
    · refine .inl ⟨v, d, ?_, ?_, h1⟩
      · simp [valV, e]
      · simp [L3.look, e]
    · rcases RepK.look k h2 with ⟨v', d', a, b, c⟩ | ⟨a, b⟩
      · refine .inl ⟨v', d', ?_, ?_, c⟩
        · simpa [valV, e] using a
        · simpa [L3.look, e] using b
      · refine .inr ⟨?_, ?_⟩
        · simpa [valV, e] using a
        · simpa [L3.look, e] using b
theorem RepK.length {κ : Kx} {F : Hp} : ∀ {kds : List (Sum Int Str × D)} {kvs : List (Key × V)}, RepK κ F kvs kds → kvs.length = kds.length
  | [], _, h => by cases (show _ = _ from h); rfl
  | (q, d) :: r, _, h => by
    obtain ⟨v, kr, rfl, h1, h2⟩ := h
    simp [RepK.length h2]
theorem Inv.dictK {pins : List (Addr × Obj)} {σ : St} {H : Hp} {s : Shared} {a : Addr} {kvs : List (Key × V)} (I : Inv X pins σ H s) (h : SqK (kx X) H a kvs) :
    (a == sysModules) = false ∧ ∃ vs, KV kvs vs ∧ s.heap.DictOf (mixKind X.prog X.w) a vs := by
  rcases h with h | ⟨hs, o, es, ep, vs, hk, h1, h2, h3, h4, h5, h6⟩
  · obtain ⟨_, hd, vs, rel, dd⟩ := dk_rd I.hok h
    exact ⟨hd, vs, rel, dd⟩
  · exact ⟨hs, vs, h6, o, es, ep, I.kIn a o hk, h1, h2, h3, h4, h5⟩
def IxD (X : Cx) (g : D → D → R En) : Prop :=
  ∀ (value slice : Expr) (pins : List (Addr × Obj)) (s : Shared) (σ : St) (F H : Hp) (x y : V) (v u : Value) (dx dy : D) (Q : VK), Inv X pins σ H s → Le F H → RelV x v → RelV y u → RdV (kx X) F H x dx → RdV (kx X) F H y dy → Wish X F H (g dx dy) Q →
    subscripted slice false v u = operate [v, u] (getItem v u) → wpAny (model X.prog X.w) X.A (subscriptTail value slice v u) (EP X pins σ Q) X.xe s
variable {a b : Expr} {fa fb : EF} {pos : Pos} {g : D → D → R En}
theorem se_ixr (ho : IxD X g) (ha : SE X F0 H0 a fa) (hb : SE X F0 H0 b fb) (hs : PlainIx b := by exact fun _ _ => rfl) : SE X F0 H0 (.Subscript a b pos) (eOp g fa fb) :=
  fun pins s σ F H ρ Q S I h => Subscript_ (two (f := fun v u => subscriptTail a b v u) ha hb S I h fun s F H x y v u dx dy Q I l rx ry qx qy w => ho a b pins s σ F H x y v u dx dy Q I l rx ry qx qy w (hs _ _))
theorem ati_len {α β : Type} {xs : List α} {ys : List β} (h : xs.length = ys.length) {i : Int} {x : α} (e : ati xs i = some x) : ∃ j : Nat, xs[j]? = some x ∧ ∀ y, ys[j]? = some y → atI ys i = some y := by
  unfold ati at e
  cases q : ixn xs.length i with
  | none => rw [q] at e; cases e
  | some j =>
    rw [q] at e
    refine ⟨j, e, fun y hy => ?_⟩
    unfold atI
    have : ixN ys.length i = some j := by rw [← h]; exact q
    rw [this]; exact hy
def dIxS : D → D → R En
  | .lst xs, .int i => okD (ati xs i)
  | .tup xs, .int i => okD (ati xs i)
  | _, _ => .stuck
theorem ixd_seq : IxD X dIxS := by
  intro value slice pins s σ F H x y v u dx dy Q I l rx ry qx qy w hs
  cases dx <;> first | exact w.elim | skip
  · rename_i ds
    cases dy <;> first | exact w.elim | skip
    rename_i i
    unfold dIxS at w
    dsimp only at w
    cases e : ati ds i with
    | none => rw [e] at w; exact w.elim
    | some d =>
      rw [e] at w
      obtain ⟨p, vs, rfl, hq, _, rs⟩ := RdV.tup l qx
      obtain ⟨j, ej, k⟩ := ati_len (Reps.length rs).symm e
      obtain ⟨z, ez, rz⟩ := Reps.get rs ej
      exact ix_tup value slice pins s σ H _ _ v u Q I rx ry ⟨p, vs, i, z, rfl, RdV.int qy, hq, k z ez, wish_fz (X := X) l w rz⟩ hs
  · rename_i ds
    cases dy <;> first | exact w.elim | skip
    rename_i i
    unfold dIxS at w
    dsimp only at w
    cases e : ati ds i with
    | none => rw [e] at w; exact w.elim
    | some d =>
      rw [e] at w
      obtain ⟨p, vs, rfl, hq, rs⟩ := RdV.lst l qx
      obtain ⟨j, ej, k⟩ := ati_len (Reps.length rs).symm e
      obtain ⟨z, ez, rz⟩ := Reps.get rs ej
      exact ix_list value slice pins s σ H _ _ v u Q I rx ry ⟨p, vs, i, z, rfl, RdV.int qy, hq, k z ez, wish_fz (X := X) l w rz⟩ hs
theorem se_ix (ha : SE X F0 H0 a fa) (hb : SE X F0 H0 b fb) (hs : PlainIx b := by exact fun _ _ => rfl) : SE X F0 H0 (.Subscript a b pos) (eOp dIxS fa fb) := se_ixr ixd_seq ha hb hs
theorem sa_nil : SA X F0 H0 [] [] := fun pos pins s σ F H ρ Q S I h => Calls.spliced_nil (h [] [] F H s (Gr.refl S.s) rfl .nil I)
theorem sa_cons {e : Expr} {es : List Expr} {f : EF} {r : List EF} (he : SE X F0 H0 e f) (hr : SA X F0 H0 es r) (hs : starEach (e :: es) X.env = (false, eval e X.env) :: starEach es X.env := by rfl) : SA X F0 H0 (e :: es) (f :: r) := by
  intro pos pins s σ F H ρ Q S I h
  rw [hs]
  refine Calls.spliced_cons (he pins s σ F H ρ _ S I ((KE.bind h).imp fun w h1 v u F1 H1 s1 g1 q1 r1 I1 => ?_))
  refine hr pos pins s1 σ F1 H1 ρ _ (S.grow g1) I1 ((KE.bind h1).imp fun ws h2 vs us F2 H2 s2 g2 q2 r2 I2 => ?_)
  exact h2 (v :: vs) (u :: us) F2 H2 s2 (g1.trans g2) ⟨v, vs, rfl, Vok.gr g2 q1, Voks.older (fun a e => Le.none g1.h e) q2⟩ (.cons r1 r2) I2
theorem sz_eq : sz = sizeLine := sizeLine_eq.symm
theorem new_lst {F H F1 H1 : Hp} {p : Addr} {vs : List V} {ds : List D} (s : Le F H) (g : Gr F H F1 H1) (hp : H1 p = none) (r : Reps (kx X) (fzAll H F1 H1) vs ds) :
    Gr F H (fzAll H F1 H1) (upd H1 p (.lst vs)) ∧ Vok (kx X) H (fzAll H F1 H1) (upd H1 p (.lst vs)) (.ref p) (.ow (.lst ds)) := by
  obtain ⟨g2, _⟩ := fzAll_gr s g
  have g3 := g2.trans (Gr.new (o := .lst vs) g2.s hp)
  exact ⟨g3, p, _, rfl, Le.none g.h hp, Le.none g2.s hp, upd_same, r⟩
theorem new_tup {F H F1 H1 : Hp} {p : Addr} {vs : List V} {ds : List D} (s : Le F H) (g : Gr F H F1 H1) (hp : H1 p = none) (r : Reps (kx X) (fzAll H F1 H1) vs ds) :
    Gr F H (upd (fzAll H F1 H1) p (.tup vs)) (upd H1 p (.tup vs)) ∧ Vok (kx X) H (upd (fzAll H F1 H1) p (.tup vs)) (upd H1 p (.tup vs)) (.ref p) (.fz (.tup ds)) := by
  obtain ⟨g2, _⟩ := fzAll_gr s g
  have g3 := Gr.newF (o := .tup vs) g2.s hp
  exact ⟨g2.trans g3, p, vs, rfl, SqT.of upd_same, Reps.le g3.f _ r⟩
theorem se_lst {es : List Expr} {f : List EF} (h : SA X F0 H0 es f) : SE X F0 H0 (.List es pos) (eLst f) := by
  intro pins s σ F H ρ Q S I k
  refine wpAny_List_spliced (h pos pins s σ F H ρ _ S I ((KE.bind k).imp fun ws k1 vs us F1 H1 s1 g1 q1 r1 I1 => ?_))
  cases e : stAll ws with
  | exc x => rw [e] at k1; exact k1.elim
  | stuck => rw [e] at k1; exact k1.elim
  | ok ds =>
    rw [e] at k1
    have rs := Voks.stAll S.s g1 q1 e
    by_cases c : ds.length ≤ sz
    · have k2 : KE (XP X F0 H0) (R.ok (En.ow (.lst ds))) fun w => ∀ v u F' H' s', Gr F H F' H' → Vok (kx X) H F' H' v w → RelV v u → Inv X pins σ H' s' → Q u s' := by
        simpa [R.bind, if_pos c] using k1
      have hz : vs.length ≤ sizeLine := by rw [Reps.length rs, ← sz_eq]; exact c
      refine ⟨by rw [← r1.length]; exact hz, ?_⟩
      have hf : H1 s1.heap.objs.size = none := I1.hok.fresh (Nat.le_refl _)
      obtain ⟨g3, q3⟩ := new_lst (X := X) S.s g1 hf rs
      exact k2 _ _ _ _ _ g3 q3 rfl (I1.laid (t' := s1.toks) (fun b u e => Heap.get?_push_of_some _ e) (Nat.le_refl _) ⟨hz, us, 0, r1, Heap.get?_push_size _ rfl⟩)
    · have : False := by simpa [R.bind, if_neg c, KE] using k1
      exact this.elim
theorem se_tup {es : List Expr} {f : List EF} {x1 : Nat} (h : SA X F0 H0 es f) : SE X F0 H0 (.Tuple es x1 pos) (eTup f) := by
  intro pins s σ F H ρ Q S I k
  refine wpAny_Tuple_spliced (h pos pins s σ F H ρ _ S I ((KE.bind k).imp fun ws k1 vs us F1 H1 s1 g1 q1 r1 I1 => ?_))
  cases e : stAll ws with
  | exc x => rw [e] at k1; exact k1.elim
  | stuck => rw [e] at k1; exact k1.elim
  | ok ds =>
    rw [e] at k1
    have rs := Voks.stAll S.s g1 q1 e
    by_cases c : ds.length ≤ sz
    · have k2 : KE (XP X F0 H0) (R.ok (En.fz (.tup ds))) fun w => ∀ v u F' H' s', Gr F H F' H' → Vok (kx X) H F' H' v w → RelV v u → Inv X pins σ H' s' → Q u s' := by
        simpa [R.bind, if_pos c] using k1
      have hz : vs.length ≤ sizeLine := by rw [Reps.length rs, ← sz_eq]; exact c
      refine ⟨by rw [← r1.length]; exact hz, ?_⟩
      have hf : H1 s1.heap.objs.size = none := I1.hok.fresh (Nat.le_refl _)
      obtain ⟨g3, q3⟩ := new_tup (X := X) S.s g1 hf rs
      exact k2 _ _ _ _ _ g3 q3 rfl (I1.laid (t' := s1.toks) (fun b u e => Heap.get?_push_of_some _ e) (Nat.le_refl _) ⟨hz, us, r1, ⟨_, Heap.get?_push_size _ rfl, rfl, _, rfl⟩⟩)
    · have : False := by simpa [R.bind, if_neg c, KE] using k1
      exact this.elim
variable {x : Str} {e : Expr} {es : List Expr} {p : Pos} {id T : String} {gc : List D → R En} {f : List EF}
theorem se_callB (hc : CallD X (.builtin id) gc) (hm : X.mg x = none) (hv : bootBuiltins x = some (.builtin id)) (ha : SA X F0 H0 (e :: es) f) (hg : Gl X x := by rfl) (hn : x ≠ "__name__" := by decide) (hdb : (x == ("__debug__" : Str)) = false := by decide)
    (he : starEach (e :: es) X.env = (false, eval e X.env) :: starEach es X.env := by rfl) (hpl : (backTo pos (starEach es X.env)).any (·.1) = false := by rfl) : SE X F0 H0 (.Call (.Name x p) (e :: es) [] pos) (eB gc f) := by
  intro pins s σ F H ρ Q S I h
  refine wpAny_Call_Name_kw (ld_blt I hg hm hv ?_ hn hdb)
  refine PyProof.Rows.callWith_builtin1 (ha pos pins s σ F H ρ _ S I ((KE.bind h).imp fun ws h1 vs us F1 H1 s1 g1 q1 r1 I1 => ?_)) he hpl
  exact ep_end (hc pins s1 σ F1 H1 vs us _ _ I1 g1.s r1 (Voks.rd q1) (wish_end g1 h1))
theorem se_callTy (hc : CallD X (.type T) gc) (hm : X.mg x = none) (hv : bootBuiltins x = some (.type T)) (ha : SA X F0 H0 (e :: es) f) (hg : Gl X x := by rfl) (hn : x ≠ "__name__" := by decide) (hdb : (x == ("__debug__" : Str)) = false := by decide)
    (he : starEach (e :: es) X.env = (false, eval e X.env) :: starEach es X.env := by rfl) (hpl : (backTo pos (starEach es X.env)).any (·.1) = false := by rfl) : SE X F0 H0 (.Call (.Name x p) (e :: es) [] pos) (eB gc f) := by
  intro pins s σ F H ρ Q S I h
  refine wpAny_Call_Name_kw (ld_blt I hg hm hv ?_ hn hdb)
  refine PyProof.Rows.callWith_type1 (ha pos pins s σ F H ρ _ S I ((KE.bind h).imp fun ws h1 vs us F1 H1 s1 g1 q1 r1 I1 => ?_)) he hpl
  exact ep_end (hc pins s1 σ F1 H1 vs us _ _ I1 g1.s r1 (Voks.rd q1) (wish_end g1 h1))
theorem calld_of {fv : Value} {r : List V → Hp → VK → Prop} (hc : CallR X fv r) (h : ∀ F H xs ds Q, Le F H → Paired (RdV (kx X) F H) xs ds → Wish X F H (gc ds) Q → r xs H Q) : CallD X fv gc :=
  fun pins s σ F H xs us ds Q I l rx qx w => hc pins s σ H xs us Q I rx (h F H xs ds Q l qx w)
def dLenS : List D → R En
  | [.lst xs] => okI xs.length
  | [.tup xs] => okI xs.length
  | _ => .stuck
theorem cd_len : CallD X (.builtin "len") dLenS := calld_of call_len_seq fun F H xs ds Q l qx w => by
  cases qx with
  | nil => exact w.elim
  | @cons x d xs ds q1 q2 =>
    cases q2 with
    | cons _ _ => cases d <;> exact w.elim
    | nil =>
      cases d <;> first | exact w.elim | skip
      · obtain ⟨p, vs, rfl, hq, _, rs⟩ := RdV.tup l q1
        refine ⟨p, vs, rfl, .inr hq, ?_⟩
        rw [Reps.length rs]
        exact wish_fz (X := X) l (v := .int _) w rfl
      · obtain ⟨p, vs, rfl, hq, rs⟩ := RdV.lst l q1
        refine ⟨p, vs, rfl, .inl hq, ?_⟩
        rw [Reps.length rs]
        exact wish_fz (X := X) l (v := .int _) w rfl
theorem cd_list : CallD X (.type "list") dList := calld_of call_list_of fun F H xs ds Q l qx w => by
  cases qx with
  | nil => exact w.elim
  | @cons x d xs ds q1 q2 =>
    cases q2 with
    | cons _ _ => cases d <;> exact w.elim
    | nil =>
      cases d <;> first | exact w.elim | skip
      · obtain ⟨p, vs, rfl, hq, _, rs⟩ := RdV.tup l q1
        refine ⟨p, vs, rfl, .inr hq, fun q hn => ?_⟩
        exact w _ _ _ (Gr.new l hn) ⟨q, _, rfl, hn, Le.none l hn, upd_same, rs⟩
      · obtain ⟨p, vs, rfl, hq, rs⟩ := RdV.lst l q1
        refine ⟨p, vs, rfl, .inl hq, fun q hn => ?_⟩
        exact w _ _ _ (Gr.new l hn) ⟨q, _, rfl, hn, Le.none l hn, upd_same, rs⟩
end
end L3
namespace L3
open PySem PySem.Spec PyProof.Rows L2
section
variable {X : Cx} {F0 H0 : Hp} {a b e : Expr} {fa fb f : EF} {pos : Pos} {g : D → D → R En} {t u : TF}
theorem truth_ok {pins : List (Addr × Obj)} {s : Shared} {σ : St} {F H : Hp} {x : V} {v : Value} {d : D} {Q : Bool → Shared → Prop} (I : Inv X pins σ H s) (l : Le F H) (rx : RelV x v) (q : RdV (kx X) F H x d)
    (h : KE (XP X F0 H0) (truth d) fun b => ∀ s', Inv X pins σ H s' → Q b s') : wpAny (model X.prog X.w) X.A (truthy v) Q X.xe s := by
  have go : ∀ b, TruV X.K x H b → (∀ s', Inv X pins σ H s' → Q b s') → wpAny (model X.prog X.w) X.A (truthy v) Q X.xe s := fun b tv k =>
    thn (tru_ok pins s σ H x v (fun b' H' => b' = b ∧ H' = H) I rx ⟨b, tv, rfl, rfl⟩) fun b' s' ⟨H', I', eb, eh⟩ => by
      subst eb eh
      exact k s' I'
  cases d with
  | non => cases RdV.non q; exact go false rfl h
  | bl b => cases RdV.bl q; exact go b rfl h
  | int i => cases RdV.int q; exact go (i != 0) rfl h
  | str y =>
    cases RdV.str q
    unfold truth at h
    dsimp only at h
    by_cases c : y.length ≤ sz
    · rw [if_pos c] at h
      exact go _ ⟨by rw [← sz_eq]; exact c, rfl⟩ h
    · rw [if_neg c] at h; exact h.elim
  | tup ds =>
    obtain ⟨p, vs, rfl, hq, _, rs⟩ := RdV.tup l q
    refine go (!ds.isEmpty) (.inr (.inl ⟨vs, hq, ?_⟩)) h
    have := Reps.length rs
    cases vs <;> cases ds <;> simp_all
  | lst ds =>
    obtain ⟨p, vs, rfl, hq, rs⟩ := RdV.lst l q
    refine go (!ds.isEmpty) (.inl ⟨vs, hq, ?_⟩) h
    have := Reps.length rs
    cases vs <;> cases ds <;> simp_all
  | dK _ => exact h.elim
  | dT _ => exact h.elim
  | xc _ _ => exact h.elim
theorem st_cmp {op : CmpOp} (ho : OpD X (compareOp op) g) (ha : SE X F0 H0 a fa) (hb : SE X F0 H0 b fb) (hm : behindInMarks op b = false := by first | exact nobehind _ (by decide) (by decide) | rfl) :
    ST X F0 H0 (.Compare a [op] [b] pos) (tE (eOp g fa fb)) := by
  intro pins s σ F H ρ Q S I h
  refine wpAny_isTrue_Compare1 (two (Q := fun v s' => wpAny (model X.prog X.w) X.A (truthy v) Q X.xe s') ha hb S I ((KE.bind h).imp fun w h1 v u F' H' s' g' q r I' => ?_) fun s F H x y v u dx dy Q => ho pins s σ F H x y v u dx dy Q) hm
  exact truth_ok I' g'.s r (Vok.rd q) (h1.imp fun b k s2 I2 => k F' H' s2 g' I2)
theorem st_val (he : SE X F0 H0 e f) (hp : ∀ whole, isTrue e X.env whole = (do let v ← whole; standAt e.pos; holding [v] (truthy v)) := by intro _; rfl) : ST X F0 H0 e (tE f) := by
  intro pins s σ F H ρ Q S I h
  refine isTrue_plain (he pins s σ F H ρ _ S I ((KE.bind h).imp fun w h1 v u F' H' s' g' q r I' => ?_)) (hp _)
  exact truth_ok I' g'.s r (Vok.rd q) (h1.imp fun b k s2 I2 => k F' H' s2 g' I2)
theorem st_not (ha : ST X F0 H0 a t) : ST X F0 H0 (.UnaryOp .Not a pos) (tNot t) := by
  intro pins s σ F H ρ Q S I h
  exact isTrue_not (ha pins s σ F H ρ _ S I ((KE.bind h).imp fun b k F' H' s' g' I' => k F' H' s' g' I'))
variable {rest : List Expr}
theorem sw_or1 (ha : ST X F0 H0 a t) : SW X F0 H0 (.BoolOp .Or [a] pos) t := by
  intro wh pins s σ F H ρ Q S I h
  refine isTrue_or (ha pins s σ F H ρ _ S I (h.imp fun c k F' H' s' g' I' => ?_))
  cases c with
  | false => exact isTrue_or_nil (k F' H' s' g' I')
  | true => exact k F' H' s' g' I'
theorem ke_gr {F H F' H' : Hp} {pins : List (Addr × Obj)} {σ : St} {Q : Bool → Shared → Prop} (g' : Gr F H F' H') {r : R Bool} (h : KE (XP X F0 H0) r fun b => ∀ F2 H2 s2, Gr F H F2 H2 → Inv X pins σ H2 s2 → Q b s2) :
    KE (XP X F0 H0) r fun b => ∀ F2 H2 s2, Gr F' H' F2 H2 → Inv X pins σ H2 s2 → Q b s2 := h.imp fun b k F2 H2 s2 g2 I2 => k F2 H2 s2 (g'.trans g2) I2
theorem sw_or (ha : ST X F0 H0 a t) (hb : SW X F0 H0 (.BoolOp .Or (b :: rest) pos) u) : SW X F0 H0 (.BoolOp .Or (a :: b :: rest) pos) (tOr t u) := by
  intro wh pins s σ F H ρ Q S I h
  refine isTrue_or (ha pins s σ F H ρ _ S I ((KE.bind h).imp fun c k F' H' s' g' I' => ?_))
  cases c with
  | false => exact hb wh pins s' σ F' H' ρ Q (S.grow g') I' (ke_gr g' k)
  | true => exact k F' H' s' g' I'
theorem st_w (h : SW X F0 H0 e t) : ST X F0 H0 e t := h _
theorem ke_grE {F H F' H' : Hp} {pins : List (Addr × Obj)} {σ : St} {Q : Value → Shared → Prop} (g' : Gr F H F' H') {r : R En}
    (h : KE (XP X F0 H0) r fun w => ∀ v u F2 H2 s2, Gr F H F2 H2 → Vok (kx X) H F2 H2 v w → RelV v u → Inv X pins σ H2 s2 → Q u s2) :
    KE (XP X F0 H0) r fun w => ∀ v u F2 H2 s2, Gr F' H' F2 H2 → Vok (kx X) H' F2 H2 v w → RelV v u → Inv X pins σ H2 s2 → Q u s2 :=
  h.imp fun w k v u F2 H2 s2 g2 q r I2 => k v u F2 H2 s2 (g'.trans g2) (Vok.older (fun a e => Le.none g'.h e) q) r I2
theorem isB_ok {F H : Hp} {x : V} {v : Value} {d : D} {P : Bool → Prop} (q : RdV (kx X) F H x d) (r : RelV x v) (h : KE (XP X F0 H0) (isB d) P) : ∃ b, v = .bool b ∧ P b := by
  cases d <;> first | exact h.elim | skip
  cases RdV.bl q
  cases r
  exact ⟨_, rfl, h⟩
theorem se_one {op} (h : SE X F0 H0 a fa) : SE X F0 H0 (.BoolOp op [a] pos) fa := fun pins s σ F H ρ Q S I k => BoolOp_one (h pins s σ F H ρ Q S I k)
theorem se_and (ha : SE X F0 H0 a fa) (hb : SE X F0 H0 (.BoolOp .And (b :: rest) pos) fb) : SE X F0 H0 (.BoolOp .And (a :: b :: rest) pos) (eAnd fa fb) := by
  intro pins s σ F H ρ Q S I h
  refine BoolOp_and (ha pins s σ F H ρ _ S I ((KE.bind h).imp fun w h1 v u F' H' s' g' q r I' => ?_))
  obtain ⟨c, rfl, h2⟩ := isB_ok (Vok.rd q) r (KE.bind h1)
  refine wpAny_truthy_bool ?_
  cases c with
  | true => exact hb pins s' σ F' H' ρ Q (S.grow g') I' (ke_grE g' h2)
  | false => exact h2 (.bl false) _ F' H' s' g' rfl rfl I'
theorem se_not (ha : SE X F0 H0 a fa) : SE X F0 H0 (.UnaryOp .Not a pos) (eNot fa) := by
  intro pins s σ F H ρ Q S I h
  refine UnaryOp_ (ha pins s σ F H ρ _ S I ((KE.bind h).imp fun w h1 v u F' H' s' g' q r I' => ?_))
  obtain ⟨c, rfl, h2⟩ := isB_ok (Vok.rd q) r (KE.bind h1)
  exact not_of (wpAny_truthy_bool (h2 (.bl (!c)) _ F' H' s' g' rfl rfl I'))
theorem se_ifExp {c : Expr} (hc : ST X F0 H0 c t) (ha : SE X F0 H0 a fa) (hb : SE X F0 H0 b fb) : SE X F0 H0 (.IfExp c a b pos) (eIf t fa fb) := by
  intro pins s σ F H ρ Q S I h
  refine wpAny_IfExp (hc pins s σ F H ρ _ S I ((KE.bind h).imp fun d k F' H' s' g' I' => ?_))
  cases d with
  | true => exact ha pins s' σ F' H' ρ Q (S.grow g') I' (ke_grE g' k)
  | false => exact hb pins s' σ F' H' ρ Q (S.grow g') I' (ke_grE g' k)
end
section
variable {X : Cx} {F0 H0 : Hp} {e : Expr} {f : EF} {pos pos' : Pos} {st : Stmt} {rest : List Stmt} {p q : SF} {t : TF}
theorem sss_nil : SSs X F0 H0 [] sNext := fun pins s σ F H ρ D S I h => wpAny_execs_nil ⟨σ, H, I, h σ F H Le.refl S⟩
theorem sss_cons (h1 : SS X F0 H0 st p) (h2 : SSs X F0 H0 rest q) : SSs X F0 H0 (st :: rest) (sSeq p q) := by
  intro pins s σ F H ρ D S I h
  have go : ∀ D' : Ends, D'.rt = D.rt → D'.bk = D.bk → D'.ct = D.ct → PostS X F0 H0 F D' (p ρ) → (∀ σ' H' s', D'.nx σ' H' → Inv X pins σ' H' s' → wpAny (model X.prog X.w) X.A (execs rest X.env) (SP X pins D) X.xe s') →
      wpAny (model X.prog X.w) X.A (execs (st :: rest) X.env) (SP X pins D) X.xe s := fun D' er eb ec hp hn => by
    refine wpAny_execs_cons (thn (h1 pins s σ F H ρ D' S I hp) fun fl s1 r => ?_)
    cases fl with
    | next => obtain ⟨σ', H', I', r⟩ := r; exact hn σ' H' s1 r I'
    | ret v => obtain ⟨x, σ', H', I', rv, r⟩ := r; exact ⟨x, σ', H', I', rv, by rw [← er]; exact r⟩
    | brk => obtain ⟨σ', H', I', r⟩ := r; exact ⟨σ', H', I', by rw [← eb]; exact r⟩
    | cont => obtain ⟨σ', H', I', r⟩ := r; exact ⟨σ', H', I', by rw [← ec]; exact r⟩
  unfold sSeq at h
  cases ep : p ρ with
  | nx ρ' =>
    rw [ep] at h
    refine go { D with nx := fun σ' H' => ∃ F', Le F F' ∧ StOk (kx X) F0 H0 F' H' ρ' σ' } rfl rfl rfl (by rw [ep]; exact fun σ' F' H' l S' => ⟨F', l, S'⟩) fun σ' H' s' ⟨F', l, S'⟩ I' => ?_
    exact h2 pins s' σ' F' H' ρ' D S' I' (PostS.le l h)
  | rt w => rw [ep] at h; exact go { D with nx := fun _ _ => False } rfl rfl rfl (by rw [ep]; exact h) fun _ _ _ z => z.elim
  | bk ρ' => rw [ep] at h; exact go { D with nx := fun _ _ => False } rfl rfl rfl (by rw [ep]; exact h) fun _ _ _ z => z.elim
  | ct ρ' => rw [ep] at h; exact go { D with nx := fun _ _ => False } rfl rfl rfl (by rw [ep]; exact h) fun _ _ _ z => z.elim
  | exc x => rw [ep] at h; exact go { D with nx := fun _ _ => False } rfl rfl rfl (by rw [ep]; exact h) fun _ _ _ z => z.elim
  | stuck => rw [ep] at h; exact h.elim
theorem sss_one (h1 : SS X F0 H0 st p) : SSs X F0 H0 [st] p := by
  intro pins s σ F H ρ D S I h
  refine wpAny_execs_cons (thn (h1 pins s σ F H ρ D S I h) fun fl s1 r => ?_)
  cases fl with
  | next => exact wpAny_execs_nil r
  | ret v => exact r
  | brk => exact r
  | cont => exact r
theorem ss_break : SS X F0 H0 (.Break pos) sBreak := fun pins s σ F H ρ D S I h => wpAny_Break ⟨σ, H, I, h σ F H Le.refl S⟩
theorem nm_ok {w : En} {P : En → Prop} (h : KE (XP X F0 H0) w.nm P) : ∃ w', w.nm = .ok w' ∧ P w' ∧ w' = w := by
  cases w with
  | fz d => exact ⟨_, rfl, h, rfl⟩
  | ow d => exact ⟨_, rfl, h, rfl⟩
  | br d => exact h.elim
  | lk d => exact h.elim
  | od d => exact h.elim
theorem ss_set (i : Nat) {x : Str} (hN : X.N.Nodup) (he : SE X F0 H0 e f) (hi : X.N[i]? = some x := by rfl) (hx : Loc X.env.scope x := by first | exact Or.inl rfl | exact Or.inr rfl)
    (hs : swapsWith e (some (.Name x pos')) pos.line X.env = pure false := by rfl) (hf : X.fn x = true ∨ X.env.scope.names.lookup x = some .local := by first | exact .inl rfl | exact .inr rfl | assumption) :
    SS X F0 H0 (.Assign [.Name x pos'] e pos) (sSet i f) := by
  intro pins s σ F H ρ D S I h
  refine wpAny_Assign_Name (he pins s σ F H ρ _ S I ((KE.bind (PostS.of h)).imp fun w k v u F' H' s' g q r I' => ?_)) hs
  obtain ⟨w', e1, k2, rfl⟩ := nm_ok k
  exact store_ok I' hN hi hx r (fun s2 I2 => ⟨_, H', I2, k2 _ F' H' g.f (S.setW g q e1)⟩) hf
theorem ss_ret (he : SE X F0 H0 e f) : SS X F0 H0 (.Return (some e) pos) (sRet f) := by
  intro pins s σ F H ρ D S I h
  refine wpAny_Return_some (he pins s σ F H ρ _ S I ((KE.bind (PostS.of h)).imp fun w k v u F' H' s' g q r I' => ?_))
  obtain ⟨w', e1, k2, rfl⟩ := nm_ok k
  exact ⟨v, σ, H', I', r, k2 v F' H' (S.gr.trans g) (Vok.older (fun a e => Le.none S.gr.h e) q)⟩
theorem ss_retV (i : Nat) {x : Str} {pos' : Pos} (hN : X.N[i]? = some x := by rfl) (hv : Vis X.env.scope x := by first | exact Or.inl rfl | exact Or.inr (Or.inl rfl) | exact Or.inr (Or.inr rfl)) (hd : (x == ("__debug__" : Str)) = false := by decide)
    (hcd : (x == ("__classdict__" : Str)) = false := by decide) : SS X F0 H0 (.Return (some (.Name x pos')) pos) (sRetV i) := by
  intro pins s σ F H ρ D S I h
  have go : ∀ w : En, ρ[i]? = some (some w) → (∀ v, Eok (kx X) H0 F H v w → Vok (kx X) H0 F H v w) → (∀ v F' H', Gr F0 H0 F' H' → Vok (kx X) H0 F' H' v w → D.rt v H') →
      wpAny (model X.prog X.w) X.A (exec (.Return (some (.Name x pos')) pos) X.env) (SP X pins D) X.xe s := fun w ew t k => by
    obtain ⟨v, e1, q⟩ := S.val i w ew
    refine wpAny_Return_some (thn (pe_var hN hv hd hcd pins s σ H (fun v' H' => v' = v ∧ H' = H) I ⟨v, e1, rfl, rfl⟩) fun u s' ⟨v', H', I', r, ev, eh⟩ => ?_)
    subst ev eh
    exact ⟨v', σ, H', I', r, k v' F H' S.gr (t v' q)⟩
  unfold sRetV at h
  cases ew : ρ[i]? with
  | none => rw [ew] at h; exact h.elim
  | some w =>
    rw [ew] at h
    cases w with
    | none => exact h.elim
    | some w =>
      cases w with
      | fz d => exact go _ ew (fun v q => q) h
      | ow d => exact go _ ew (fun v q => q) h
      | br d => exact h.elim
      | lk d => exact h.elim
      | od d => exact h.elim
theorem ss_if {c : Expr} {as bs : List Stmt} (hc : ST X F0 H0 c t) (ha : SSs X F0 H0 as p) (hb : SSs X F0 H0 bs q) : SS X F0 H0 (.If c as bs pos) (sIf t p q) := by
  intro pins s σ F H ρ D S I h
  refine wpAny_If (hc pins s σ F H ρ _ S I ((PostS.of h).imp fun d k F' H' s' g I' => ?_))
  cases d with
  | true => exact ha pins s' σ F' H' ρ D (S.grow g) I' (PostS.le g.f k)
  | false => exact hb pins s' σ F' H' ρ D (S.grow g) I' (PostS.le g.f k)
theorem ss_aug (i : Nat) {x : Str} {op : Operator} {g : D → D → R En} (hN : X.N.Nodup) (ho : OpD X (inplaceOp op) g) (he : SE X F0 H0 e f) (hi : X.N[i]? = some x := by rfl) (hx : Loc X.env.scope x := by first | exact Or.inl rfl | exact Or.inr rfl)
    (hf : X.fn x = true ∨ X.env.scope.names.lookup x = some .local := by first | exact .inl rfl | exact .inr rfl | assumption) : SS X F0 H0 (.AugAssign (.Name x pos') op e pos) (sAug i g f) := by
  intro pins s σ F H ρ D S I h
  unfold sAug at h
  cases ew : ρ[i]? with
  | none => rw [ew] at h; exact h.elim
  | some w =>
    rw [ew] at h
    cases w with
    | none => exact h.elim
    | some w =>
      cases w with
      | ow d => exact h.elim
      | br d => exact h.elim
      | lk d => exact h.elim
      | od d => exact h.elim
      | fz d =>
        obtain ⟨v, e1, q⟩ := S.val i _ ew
        have h := KE.bind (PostS.of h)
        have ip : PIp X op (fun x y H' Q' => ∃ F' dx dy, Le F' H' ∧ RdV (kx X) F' H' x dx ∧ RdV (kx X) F' H' y dy ∧ Wish X F' H' (g dx dy) Q') := fun pins s σ H x y v u Q I rx ry ⟨F', dx, dy, l, qx, qy, w⟩ => ho pins s σ F' H x y v u dx dy Q I l rx ry qx qy w
        refine ps_aug hN hi hx (pe_sem (e := e)) ip hf pins s σ H D I ⟨v, e1, he.sem S (h.imp fun wy k y F1 H1 g1 q1 => ⟨F1, d, wy.d, g1.s, Rep.le g1.f d q |> Or.inl, Vok.rd q1, ?_⟩)⟩
        refine KE.impX (KE.bind k) (fun w k2 z F2 H2 g2 q2 => ?_) fun _ z => z.elim
        obtain ⟨w', e2, k3, rfl⟩ := nm_ok k2
        exact k3 _ F2 H2 (Le.trans g1.f g2.f) ((S.grow g1).setW g2 q2 e2)
theorem StOk.mut {κ : Kx} {F0 H0 F H : Hp} {ρ : Rho} {σ : St} {i : Nat} {d d' : D} {a : Addr} {o : HO} (S : StOk κ F0 H0 F H ρ σ) (ei : ρ[i]? = some (some (.ow d))) (si : σ[i]? = some (some (.ref a))) (r : OwnO κ F o d') :
    StOk κ F0 H0 F (upd H a o) (ρ.set i (some (.ow d'))) σ := by
  obtain ⟨v, e1, q⟩ := S.val i _ ei
  rw [si] at e1
  cases e1
  obtain ⟨b, ob, eb, h0, hf, hh, _⟩ := q
  cases eb
  refine ⟨⟨S.gr.f, fun c u h => ?_, fun c u h => ?_, S.gr.n⟩, by simpa using S.len, fun j w e => ?_, fun j k w w' c hjk ej ek oj ok sj sk => ?_, fun j y e => ?_⟩
  · rw [upd_ne (ne_of_none h h0)]; exact S.gr.h c u h
  · rw [upd_ne (ne_of_none h hf)]; exact S.gr.s c u h
  · rcases set_get e with ⟨rfl, z⟩ | ⟨ne, z⟩
    · cases z
      exact ⟨_, si, a, o, rfl, h0, hf, upd_same, r⟩
    · obtain ⟨v, e1, q⟩ := S.val j w z
      refine ⟨v, e1, ?_⟩
      have nb : ∀ {c}, v = .ref c → w.own = true → c ≠ a := fun {c} ev ow ec => by
        subst ev ec
        exact S.sep j i w _ c ne z ei ow rfl e1 si
      cases w with
      | fz d => exact q
      | br d => exact q
      | ow d =>
        obtain ⟨c, oc, ec, c0, cf, ch, cr⟩ := q
        exact ⟨c, oc, ec, c0, cf, by rw [upd_ne (nb ec rfl)]; exact ch, cr⟩
      | lk d => exact q
      | od d =>
        obtain ⟨c, oc, ec, c0, cf, ch⟩ := q
        exact ⟨c, oc, ec, c0, cf, by rw [upd_ne (nb ec rfl)]; exact ch⟩
  · have at_ : ∀ {m : Nat} {y : En}, (ρ.set i (some (.ow d')))[m]? = some (some y) → y.own = true → ∃ y', ρ[m]? = some (some y') ∧ y'.own = true := fun {m y} h oy => by
      rcases set_get h with ⟨rfl, _⟩ | ⟨_, z⟩
      · exact ⟨_, ei, rfl⟩
      · exact ⟨y, z, oy⟩
    obtain ⟨y, ej', oj'⟩ := at_ ej oj
    obtain ⟨y', ek', ok'⟩ := at_ ek ok
    exact S.sep j k y y' c hjk ej' ek' oj' ok' sj sk
  · rcases set_get e with ⟨_, z⟩ | ⟨nj, ej⟩
    · cases z
    obtain ⟨s1, c, bs, e1, c0, cf, nd, dp, sp⟩ := S.dp j y ej
    refine ⟨fun k z hk ek => ?_, c, bs, e1, c0, cf, nd, Deep.same (fun b m => ?_) (fun _ _ z => z) Le.refl dp, fun k w b hk ek ok m => ?_⟩
    · rcases set_get ek with ⟨_, q⟩ | ⟨_, q⟩
      · cases q
      · exact s1 k z hk q
    · refine (upd_ne fun z => ?_).symm
      subst z
      exact sp i _ _ (Ne.symm nj) ei rfl m si
    · rcases set_get ek with ⟨rfl, _⟩ | ⟨_, q⟩
      · exact sp k _ b hk ei rfl m
      · exact sp k w b hk q ok m
theorem ss_app (i : Nat) {x : Str} {apos cpos np : Pos} (he : SE X F0 H0 e f) (hN : X.N[i]? = some x := by rfl) (hv : Vis X.env.scope x := by first | exact Or.inl rfl | exact Or.inr (Or.inl rfl) | exact Or.inr (Or.inr rfl)) (hd : (x == ("__debug__" : Str)) = false := by decide)
    (hcd : (x == ("__classdict__" : Str)) = false := by decide) (hbase : attributeBase (.Name x np) "append" X.env (eval (.Name x np) X.env) = eval (.Name x np) X.env := by rfl)
    (hfew : ((backTo cpos (starEach [e] X.env)).all (fun x => !x.1) && (backToKw cpos (keywordEach [] X.env)).all (fun x => x.1.isSome)
      && decide ([e].length + ([] : List Keyword).length + (if ([] : List Keyword).isEmpty then 0 else 1) < 30)) = true := by rfl)
    (hline : (apos.endLine == cpos.line) = true := by rfl) (hst : starEach [e] X.env = (false, eval e X.env) :: starEach [] X.env := by rfl) (hplain : (backTo cpos (starEach [] X.env)).any (·.1) = false := by rfl)
    (hs : swapsWith (.Call (.Attribute (.Name x np) "append" apos) [e] [] cpos) none pos.line X.env = pure false := by rfl) :
    SS X F0 H0 (.Expr (.Call (.Attribute (.Name x np) "append" apos) [e] [] cpos) pos) (sApp i f) := by
  intro pins s σ F H ρ D S I h
  unfold sApp at h
  cases ew : ρ[i]? with
  | none => rw [ew] at h; exact h.elim
  | some w =>
    rw [ew] at h
    cases w with
    | none => exact h.elim
    | some w =>
      cases w with
      | fz d => exact h.elim
      | br d => exact h.elim
      | lk d => exact h.elim
      | od d => exact h.elim
      | ow d =>
        cases d <;> first | exact h.elim | skip
        rename_i ds
        have h := KE.bind (PostS.of h)
        obtain ⟨v, e1, a, o, rfl, h0, hf, hh, ro⟩ := S.val i _ ew
        cases o <;> first | exact ro.elim | skip
        rename_i vs
        have P := ps_expr (pos := pos) (pe_bm (X := X) PySem.F.plainAttrs_list PySem.F.slot_list_append PySem.F.type_list_append mt_append (pe_var (pos := np) hN hv hd hcd) (pa_cons (pe_sem (e := e)) pa_nil hst) hbase hfew hline hst hplain) hs
        refine P pins s σ H D I ⟨_, e1, .inl ⟨rfl, vs, SqL.of hh⟩, he.sem S (h.imp fun w k y F1 H1 g1 q1 => ?_)⟩
        cases es : w.st with
        | exc x => rw [es] at k; exact k.elim
        | stuck => rw [es] at k; exact k.elim
        | ok d =>
          rw [es] at k
          have ry := Vok.st S.s g1 q1 es
          obtain ⟨g2, _⟩ := fzAll_gr S.s g1
          have lv : vs.length = ds.length := Reps.length ro
          by_cases c : ds.length < sz
          · have k2 : PostS X F0 H0 F D (.nx (ρ.set i (some (.ow (.lst (ds ++ [d])))))) := by simpa [if_pos c, KE] using k
            refine ⟨a, vs, y, rfl, rfl, g1.h _ _ hh, by rw [lv, ← sz_eq]; exact c, ?_⟩
            exact k2 σ _ _ g2.f ((S.grow g2).mut ew e1 (o := .lst (vs ++ [y])) (Reps.append (Reps.le g2.f _ ro) (Reps.one ry)))
          · have : False := by simpa [if_neg c, PostS, KE] using k
            exact this.elim
end
end L3
namespace L3
open PySem PySem.Spec PyProof.Rows L2
section
variable {X : Cx} {F0 H0 : Hp} {pos : Pos} {t : TF} {p : SF}
theorem ss_while (n : Nat) {c : Expr} {body : List Stmt} (hp : PassesOwn (model X.prog X.w) X.A X.env X.xe) (hc : ST X F0 H0 c t) (hb : SSs X F0 H0 body p) : SS X F0 H0 (.While c body [] pos) (sWhile n t p) := by
  intro pins s σ F H ρ D S I h
  refine ps_while hp (pt_sem (e := c)) (pss_sem (st := body)) pins s σ H D I
    ⟨fun m σ H => ∃ F' ρ, Le F F' ∧ StOk (kx X) F0 H0 F' H ρ σ ∧ PostS X F0 H0 F' D (whileD t p m ρ), ⟨n, F, ρ, Le.refl, S, h⟩, ?_⟩
  rintro m σ1 H1 ⟨F1, ρ1, l1, S1, h1⟩
  cases m with
  | zero => exact h1.elim
  | succ m =>
    intro pins' s' I'
    refine hc pins' s' σ1 F1 H1 ρ1 _ S1 I' ((PostS.of h1).imp fun b k F2 H2 s2 g2 I2 => ⟨H2, I2, ?_⟩)
    cases b with
    | false => exact k σ1 F2 H2 g2.f (S1.grow g2)
    | true =>
      show ∃ N : St → Hp → Prop, _
      refine ⟨fun σ' H' => ∃ F' ρ, Le F F' ∧ StOk (kx X) F0 H0 F' H' ρ σ' ∧ PostS X F0 H0 F' D (whileD t p m ρ), fun σ' H' q => ⟨m, Nat.lt_succ_self m, q⟩, fun pins3 s3 I3 => ?_⟩
      refine hb pins3 s3 σ1 F2 H2 ρ1 _ (S1.grow g2) I3 ?_
      have k : PostS X F0 H0 F1 D (match p ρ1 with | .nx ρ2 => whileD t p m ρ2 | .ct ρ2 => whileD t p m ρ2 | .bk ρ2 => .nx ρ2 | o => o) := k
      cases ep : p ρ1 with
      | nx ρ2 => rw [ep] at k; exact fun σ' F' H' l S' => ⟨F', ρ2, Le.trans l1 (Le.trans g2.f l), S', PostS.le (Le.trans g2.f l) k⟩
      | ct ρ2 => rw [ep] at k; exact fun σ' F' H' l S' => ⟨F', ρ2, Le.trans l1 (Le.trans g2.f l), S', PostS.le (Le.trans g2.f l) k⟩
      | bk ρ2 => rw [ep] at k; exact fun σ' F' H' l S' => k σ' F' H' (Le.trans g2.f l) S'
      | rt w => rw [ep] at k; exact k
      | exc x => rw [ep] at k; exact k
      | stuck => rw [ep] at k; exact k
end
structure Walk (κ : Kx) (J : It) (F1 G : Hp) (ds : List D) : Prop where
  go : ∀ (i : Nat) (d : D) (F H : Hp), ds[i]? = some d → Le F1 F → Le F H → Le G H → J.go i H ∧ ∀ x H', J.yld i H x H' → ∃ F', Gr F H F' H' ∧ Rep κ F' x d
  stop : ∀ (i : Nat) (F H : Hp), ds.length ≤ i → Le F1 F → Le F H → Le G H → J.stop i H
theorem Walk.more {κ : Kx} {J : It} {F1 G G' : Hp} {ds : List D} (W : Walk κ J F1 G ds) (l : Le G G') : Walk κ J F1 G' ds :=
  ⟨fun i d F H e l1 l2 l3 => W.go i d F H e l1 l2 (Le.trans l l3), fun i F H e l1 l2 l3 => W.stop i F H e l1 l2 (Le.trans l l3)⟩
def SI (X : Cx) (F0 H0 : Hp) (tg iter : Expr) (fi : IF) : Prop :=
  ∃ wi, PI X tg iter wi ∧ ∀ (σ : St) (F H : Hp) (ρ : Rho) (R : It → Hp → Prop), StOk (kx X) F0 H0 F H ρ σ →
    KE (XP X F0 H0) (fi ρ) (fun ds => ∀ F1 H1 J, Gr F H F1 H1 → Walk (kx X) J F1 H0 ds → R J H1) → wi σ H R
def SIc (X : Cx) (F0 H0 : Hp) (tg iter : Expr) (fi : IF) : Prop :=
  ∃ wi, PI X tg iter wi ∧ ∀ (σ : St) (F H : Hp) (ρ : Rho) (R : It → Hp → Prop), StOk (kx X) F0 H0 F H ρ σ →
    KE (XP X F0 H0) (fi ρ) (fun ds => ∀ F1 H1 J, Gr F H F1 H1 → Walk (kx X) J F1 H1 ds → R J H1) → wi σ H R
theorem SI.c {X : Cx} {F0 H0 : Hp} {tg iter : Expr} {fi : IF} (h : SI X F0 H0 tg iter fi) : SIc X F0 H0 tg iter fi := by
  obtain ⟨wi, P, k⟩ := h
  exact ⟨wi, P, fun σ F H ρ R S q => k σ F H ρ R S (q.imp fun ds z F1 H1 J g W => z F1 H1 J g (W.more (Le.trans S.gr.h g.h)))⟩
def SG (X : Cx) (F0 H0 : Hp) (tg : Expr) (gf : GF) : Prop :=
  ∃ tgv, PG X tg tgv ∧ ∀ (σ : St) (F H : Hp) (ρ : Rho) (v : V) (d : D) (Q : St → Hp → Prop), StOk (kx X) F0 H0 F H ρ σ → Rep (kx X) F v d →
    KE (fun _ => False) (gf d ρ) (fun ρ1 => ∀ σ1, StOk (kx X) F0 H0 F H ρ1 σ1 → Q σ1 H) → tgv v σ H Q
section
variable {X : Cx} {F0 H0 : Hp} {pos : Pos} {tg iter : Expr} {fi : IF} {gf : GF} {p : SF} {f : EF}
theorem sg_name (i : Nat) {x : Str} (hN : X.N.Nodup) (hi : X.N[i]? = some x := by rfl) (hx : Loc X.env.scope x := by first | exact Or.inl rfl | exact Or.inr rfl)
    (hf : X.fn x = true ∨ X.env.scope.names.lookup x = some .local := by first | exact .inl rfl | exact .inr rfl | assumption) : SG X F0 H0 (.Name x pos) (gV i) :=
  ⟨_, pg_name hN hi hx hf, fun σ F H ρ v d Q S r h => h _ (S.setF r)⟩
theorem gVs_ok {F H : Hp} {Q : St → Hp → Prop} : ∀ (is : List Nat) (ds : List D) (vs : List V) (ρ : Rho) (σ : St), StOk (kx X) F0 H0 F H ρ σ → Reps (kx X) F vs ds →
    KE (fun _ => False) (gVs is ds ρ) (fun ρ1 => ∀ σ1, StOk (kx X) F0 H0 F H ρ1 σ1 → Q σ1 H) → Q (List.foldl (fun s (iv : Nat × V) => s.set iv.1 (some iv.2)) σ (is.zip vs)) H ∧ is.length = vs.length
  | [], [], vs, ρ, σ, S, r, h => by cases (show vs = [] from r); exact ⟨h σ S, rfl⟩
  | [], _ :: _, _, _, _, _, _, h => h.elim
  | _ :: _, [], _, _, _, _, _, h => h.elim
  | i :: is, d :: ds, _, ρ, σ, S, r, h => by
    obtain ⟨v, vr, rfl, r1, r2⟩ := r
    obtain ⟨q1, q2⟩ := gVs_ok is ds vr _ _ (S.setF (i := i) r1) r2 h
    exact ⟨q1, by simp [q2]⟩
def SGs (X : Cx) (es : List Expr) (is : List Nat) : Prop := PGs X es (fun vs σ H Q => is.length = vs.length ∧ Q (List.foldl (fun s (iv : Nat × V) => s.set iv.1 (some iv.2)) σ (is.zip vs)) H)
theorem sgs_nil : SGs X [] [] := by
  intro pins s σ H vs us Q I r h
  obtain ⟨e, q⟩ := h
  cases r with
  | nil => exact pgs_nil pins s σ H [] [] Q I .nil ⟨rfl, q⟩
  | cons _ _ => cases e
theorem sgs_cons (i : Nat) {x : Str} {xp : Pos} {es : List Expr} {is : List Nat} (hN : X.N.Nodup) (h : SGs X es is) (hi : X.N[i]? = some x := by rfl) (hx : Loc X.env.scope x := by first | exact Or.inl rfl | exact Or.inr rfl)
    (hf : X.fn x = true ∨ X.env.scope.names.lookup x = some .local := by first | exact .inl rfl | exact .inr rfl | assumption)
    (hs : (assignEach (.Name x xp :: es) X.env).map (·.2) = assign (.Name x xp) X.env :: (assignEach es X.env).map (·.2) := by rfl) : SGs X (.Name x xp :: es) (i :: is) := by
  intro pins s σ H vs us Q I r k
  obtain ⟨e, q⟩ := k
  cases r with
  | nil => cases e
  | cons r1 r2 => exact pgs_cons (pg_name hN hi hx hf) h hs pins s σ H _ _ Q I (.cons r1 r2) ⟨_, _, rfl, by simpa using e, q⟩
theorem sg_tup {es : List Expr} {k : Nat} {is : List Nat} (hc : X.calm = true) (h : SGs X es is) (hn : (assignEach es X.env).length = is.length := by rfl) (hst : (assignEach es X.env).findIdx? (·.1) = none := by rfl) : SG X F0 H0 (.Tuple es k pos) (gT is) := by
  refine ⟨_, pg_tup hc h hn hst, fun σ F H ρ v d Q S r w => ?_⟩
  cases d <;> first | exact w.elim | skip
  rename_i ds
  obtain ⟨a, vs, rfl, hq, rs⟩ := r
  obtain ⟨q1, q2⟩ := gVs_ok is ds vs ρ σ S rs w
  exact ⟨a, vs, rfl, SqT.le S.s hq, q2.symm, q2, q1⟩
def sAsg (gf : GF) (f : EF) : SF := fun ρ => sOf ((f ρ).bind fun w => w.st.bind fun d => gf d ρ) .nx
theorem ss_asg {tg e : Expr} {gf : GF} (he : SE X F0 H0 e f) (hg : SG X F0 H0 tg gf) (hs : swapsWithSole [tg] e pos.line X.env = pure false := by rfl) (hw : swappedStores [tg] e X.env = pure none := by rfl)
    (h1 : (assignEach [tg] X.env).map (·.2) = [assign tg X.env] := by rfl) : SS X F0 H0 (.Assign [tg] e pos) (sAsg gf f) := by
  intro pins s σ F H ρ D S I h
  obtain ⟨tgv, PGv, hv⟩ := hg
  refine ps_asg (pe_sem (e := e)) PGv hs hw h1 pins s σ H D I (he.sem S ((KE.bind (PostS.of h)).imp fun w k v F1 H1 g1 q1 => ?_))
  cases es : w.st with
  | exc x => rw [es] at k; exact k.elim
  | stuck => rw [es] at k; exact k.elim
  | ok d =>
    rw [es] at k
    obtain ⟨g2, _⟩ := fzAll_gr S.s g1
    refine hv σ _ H1 ρ v d _ (S.grow g2) (Vok.st S.s g1 q1 es) (KE.impX k (fun ρ1 k2 σ1 S1 => k2 σ1 _ _ g2.f S1) fun _ z => z.elim)
theorem ss_for {body : List Stmt} (hp : PassesOwn (model X.prog X.w) X.A X.env X.xe) (hc : X.calm = true) (hi : SI X F0 H0 tg iter fi) (hg : SG X F0 H0 tg gf) (hb : SSs X F0 H0 body p)
    (hs : ∀ x, foldedSetIterable iter X.env x = pure x := by intro _; rfl) : SS X F0 H0 (.For tg iter body [] pos) (sFor fi gf p) := by
  intro pins s σ F H ρ D S I h
  obtain ⟨wi, PIv, hwi⟩ := hi
  obtain ⟨tgv, PGv, hgv⟩ := hg
  refine ps_for hp hc PIv PGv (pss_sem (st := body)) hs pins s σ H D I (hwi σ F H ρ _ S ((PostS.of h).imp fun ds k F1 H1 J g1 W => ?_))
  refine ⟨fun i m σ H => m = ds.length - i ∧ i ≤ ds.length ∧ ∃ F' ρ, Le F F' ∧ Le F1 F' ∧ StOk (kx X) F0 H0 F' H ρ σ ∧ PostS X F0 H0 F' D (forD gf p (ds.drop i) ρ),
    ⟨ds.length, by simp, Nat.zero_le _, F1, ρ, g1.f, Le.refl, S.grow g1, PostS.le g1.f (by simpa using k)⟩, ?_⟩
  rintro i m σ2 H2 ⟨rfl, hi, F2, ρ2, lF, l1, S2, h2⟩
  by_cases hlt : i < ds.length
  · have ed : ds[i]? = some ds[i] := by simp [hlt]
    have edr : ds.drop i = ds[i] :: ds.drop (i + 1) := List.drop_eq_getElem_cons hlt
    obtain ⟨go, yl⟩ := W.go i ds[i] F2 H2 ed l1 S2.s S2.gr.h
    refine .inr ⟨go, fun σ' H' => ∃ F' ρ, Le F F' ∧ Le F1 F' ∧ StOk (kx X) F0 H0 F' H' ρ σ' ∧ PostS X F0 H0 F' D (forD gf p (ds.drop (i + 1)) ρ), fun σ' H' q => ⟨ds.length - (i + 1), by omega, rfl, hlt, q⟩, fun x H' y => ?_⟩
    obtain ⟨F3, g3, rx⟩ := yl x H' y
    rw [edr] at h2
    have S3 := S2.grow g3
    refine hgv σ2 F3 H' ρ2 x ds[i] _ S3 rx ?_
    cases eg : gf ds[i] ρ2 with
    | exc e => unfold forD at h2; rw [eg] at h2; exact h2.elim
    | stuck => unfold forD at h2; rw [eg] at h2; exact h2.elim
    | ok ρ3 =>
      have h3 : PostS X F0 H0 F2 D (match p ρ3 with | .nx ρ4 => forD gf p (ds.drop (i + 1)) ρ4 | .ct ρ4 => forD gf p (ds.drop (i + 1)) ρ4 | .bk ρ4 => .nx ρ4 | o => o) := by
        unfold forD at h2; rw [eg] at h2; exact h2
      refine fun σ3 S4 pins3 s3 I3 => hb pins3 s3 σ3 F3 H' ρ3 _ S4 I3 ?_
      cases ep : p ρ3 with
      | nx ρ4 => rw [ep] at h3; exact fun σ' F' H' l S' => ⟨F', ρ4, Le.trans lF (Le.trans g3.f l), Le.trans l1 (Le.trans g3.f l), S', PostS.le (Le.trans g3.f l) h3⟩
      | ct ρ4 => rw [ep] at h3; exact fun σ' F' H' l S' => ⟨F', ρ4, Le.trans lF (Le.trans g3.f l), Le.trans l1 (Le.trans g3.f l), S', PostS.le (Le.trans g3.f l) h3⟩
      | bk ρ4 => rw [ep] at h3; exact fun σ' F' H' l S' => h3 σ' F' H' (Le.trans g3.f l) S'
      | rt w => rw [ep] at h3; exact h3
      | exc x => rw [ep] at h3; exact h3
      | stuck => rw [ep] at h3; exact h3
  · have e : i = ds.length := by omega
    subst e
    rw [List.drop_length] at h2
    exact .inl ⟨W.stop _ F2 H2 (Nat.le_refl _) l1 S2.s S2.gr.h, h2 σ2 F2 H2 Le.refl S2⟩
theorem walk_lst {κ : Kx} {F1 G : Hp} {a : Addr} {vs : List V} {ds : List D} (hq : SqL κ.K F1 a vs) (rs : Reps κ F1 vs ds) : Walk κ (Itl κ.K a) F1 G ds where
  go := fun i d F H ed l1 l _ => by
    obtain ⟨v, ev, rv⟩ := Reps.get rs ed
    have q := SqL.le l (SqL.le l1 hq)
    refine ⟨⟨vs, v, q, ev⟩, fun x H' y => ?_⟩
    obtain ⟨e, y⟩ := y
    subst e
    have := y vs q
    rw [ev] at this
    cases this
    exact ⟨F, Gr.refl l, Rep.le l1 d rv⟩
  stop := fun i F H hi l1 l _ => ⟨vs, SqL.le l (SqL.le l1 hq), by rw [Reps.length rs]; exact hi⟩
theorem walk_tup {κ : Kx} {F1 G : Hp} {a : Addr} {vs : List V} {ds : List D} (hq : SqT κ.K F1 a vs) (rs : Reps κ F1 vs ds) : Walk κ (Itt κ.K a) F1 G ds where
  go := fun i d F H ed l1 l _ => by
    obtain ⟨v, ev, rv⟩ := Reps.get rs ed
    have q := SqT.le l (SqT.le l1 hq)
    refine ⟨⟨vs, v, q, ev⟩, fun x H' y => ?_⟩
    obtain ⟨e, y⟩ := y
    subst e
    have := y vs q
    rw [ev] at this
    cases this
    exact ⟨F, Gr.refl l, Rep.le l1 d rv⟩
  stop := fun i F H hi l1 l _ => ⟨vs, SqT.le l (SqT.le l1 hq), by rw [Reps.length rs]; exact hi⟩
theorem PI.or {iter : Expr} {w1 w2 : TI} (h1 : PI X tg iter w1) (h2 : PI X tg iter w2) : PI X tg iter (fun σ H R => w1 σ H R ∨ w2 σ H R) := fun pins s σ H R I h => by
  rcases h with h | h
  · exact h1 pins s σ H R I h
  · exact h2 pins s σ H R I h
theorem si_seq {iter : Expr} (he : SE X F0 H0 iter f) : SI X F0 H0 tg iter (iSeq f) := by
  refine ⟨_, PI.or (pi_list (pe_sem (e := iter))) (pi_tup (pe_sem (e := iter))), fun σ F H ρ R S h => ?_⟩
  have h := KE.bind h
  cases ew : f ρ with
  | exc x => rw [ew] at h; exact h.elim
  | stuck => rw [ew] at h; exact h.elim
  | ok w =>
    rw [ew] at h
    cases es : w.st with
    | exc x => rw [KE_ok, es] at h; exact h.elim
    | stuck => rw [KE_ok, es] at h; exact h.elim
    | ok d =>
      rw [KE_ok, es] at h
      cases d <;> first | exact h.elim | skip
      · rename_i ds
        refine .inr (he.sem S ?_)
        rw [ew, KE_ok]
        intro v F1 H1 g1 q1
        obtain ⟨g2, _⟩ := fzAll_gr S.s g1
        obtain ⟨a, vs, rfl, hq, rs⟩ := Vok.st S.s g1 q1 es
        exact ⟨a, rfl, ⟨vs, SqT.le g2.s hq⟩, h _ H1 _ g2 (walk_tup (κ := kx X) hq rs)⟩
      · rename_i ds
        refine .inl (he.sem S ?_)
        rw [ew, KE_ok]
        intro v F1 H1 g1 q1
        obtain ⟨g2, _⟩ := fzAll_gr S.s g1
        obtain ⟨a, vs, rfl, hq, rs⟩ := Vok.st S.s g1 q1 es
        exact ⟨a, rfl, ⟨vs, SqL.le g2.s hq⟩, h _ H1 _ g2 (walk_lst (κ := kx X) hq rs)⟩
theorem rngD_get : ∀ (n : Nat) (lo : Int) (i : Nat), (rngD lo n)[i]? = if i < n then some (.int (lo + i)) else none
  | 0, lo, i => by simp [rngD]
  | n + 1, lo, 0 => by simp [rngD]
  | n + 1, lo, i + 1 => by
    have := rngD_get n (lo + 1) i
    simp only [rngD, List.getElem?_cons_succ, this]
    by_cases h : i < n
    · rw [if_pos h, if_pos (by omega)]
      congr 2
      omega
    · rw [if_neg h, if_neg (by omega)]
theorem rngD_len : ∀ (n : Nat) (lo : Int), (rngD lo n).length = n
  | 0, _ => rfl
  | n + 1, lo => by simp [rngD, rngD_len n]
theorem walk_rng {κ : Kx} {F1 G : Hp} (lo : Int) (n : Nat) : Walk κ (Itr lo n) F1 G (rngD lo n) where
  go := fun i d F H ed l1 l _ => by
    rw [rngD_get] at ed
    by_cases h : i < n
    · rw [if_pos h] at ed
      cases ed
      refine ⟨h, fun x H' y => ?_⟩
      obtain ⟨e, y⟩ := y
      subst e y
      exact ⟨F, Gr.refl l, rfl⟩
    · rw [if_neg h] at ed; cases ed
  stop := fun i F H hi l1 l _ => by rw [rngD_len] at hi; exact hi
theorem si_range1 {a : Expr} {fa : EF} {np cp : Pos} (ha : SE X F0 H0 a fa) (hm : X.mg "range" = none) (hg : Gl X "range" := by rfl) (hs : starEach [a] X.env = [(false, eval a X.env)] := by rfl) : SI X F0 H0 tg (.Call (.Name "range" np) [a] [] cp) (iR1 fa) := by
  refine ⟨_, pi_range1 hg hm (pa_cons (pe_sem (e := a)) pa_nil hs) hs, fun σ F H ρ R S h => ha.sem S ((KE.bind h).imp fun w k v F1 H1 g1 q1 => ?_)⟩
  have r := Vok.rd q1
  revert k
  generalize w.d = d at r
  intro k
  cases d <;> first | exact k.elim | skip
  rename_i j
  dsimp only at k
  by_cases c : fits b62 j = true
  · rw [if_pos c] at k
    have p62 : (2 : Int) ^ 62 = 4611686018427387904 := by simp
    have c : -(2 ^ 62) ≤ j ∧ j < 2 ^ 62 := by
      rw [fits_iff, b62e] at c
      rw [p62]
      omega
    cases RdV.int r
    exact ⟨j, rfl, c.1, c.2, k F1 H1 _ g1 (walk_rng 0 j.toNat)⟩
  · rw [if_neg c] at k; exact k.elim
end
def Args (κ : Kx) (F H : Hp) : List V → List En → Prop
  | vs, [] => vs = []
  | vs, .fz d :: ws => ∃ v r, vs = v :: r ∧ Rep κ F v d ∧ Args κ F H r ws
  | vs, .br d :: ws => ∃ v r, vs = v :: r ∧ (∃ a o, v = .ref a ∧ H a = some o ∧ OwnO κ F o d) ∧ Args κ F H r ws
  | _, _ => False
def spD (κ : Kx) (dn : Den) (n : Nat) : Sp := fun vs H Q _ => vs.length = n ∧ ∃ F ws, Le F H ∧ Args κ F H vs ws ∧
  KE (fun _ => False) (dn ws) fun w => ∀ v F' H', Gr F H F' H' → Vok κ H F' H' v w → Q v H'
section
variable {P : Program} {w : World} {K : PySem.W.Frag} {mg : Str → Option Value} {base : Heap}
theorem args_st {κ : Kx} {F H : Hp} : ∀ {vs : List V} {ws : List En}, Args κ F H vs ws → ∀ (i : Nat) (w : En), (ws.map some)[i]? = some (some w) → ∃ v, (vs.map some)[i]? = some (some v) ∧ Eok κ H F H v w ∧ w.own = false
  | _, [], _, i, w, e => by simp at e
  | _, .fz d :: ws, h, 0, w, e => by
    obtain ⟨v, r, rfl, h1, h2⟩ := h
    simp at e; subst e
    exact ⟨v, rfl, h1, rfl⟩
  | _, .br d :: ws, h, 0, w, e => by
    obtain ⟨v, r, rfl, h1, h2⟩ := h
    simp at e; subst e
    exact ⟨v, rfl, h1, rfl⟩
  | _, .fz d :: ws, h, i + 1, w, e => by
    obtain ⟨v, r, rfl, h1, h2⟩ := h
    simpa using args_st h2 i w (by simpa using e)
  | _, .br d :: ws, h, i + 1, w, e => by
    obtain ⟨v, r, rfl, h1, h2⟩ := h
    simpa using args_st h2 i w (by simpa using e)
theorem args_len {κ : Kx} {F H : Hp} : ∀ {vs : List V} {ws : List En}, Args κ F H vs ws → vs.length = ws.length
  | _, [], h => by cases (show _ = _ from h); rfl
  | _, .fz d :: ws, h => by obtain ⟨v, r, rfl, h1, h2⟩ := h; simp [args_len h2]
  | _, .br d :: ws, h => by obtain ⟨v, r, rfl, h1, h2⟩ := h; simp [args_len h2]
theorem start_st {κ : Kx} {F H : Hp} {N : List Str} {vs : List V} {ws : List En} (l : Le F H) (h : Args κ F H vs ws) : StOk κ F H F H (ws.map some ++ List.replicate (N.length - ws.length) none) (L2.start N vs) := by
  have hl := args_len h
  have at_ : ∀ (i : Nat) (w : En), (ws.map some ++ List.replicate (N.length - ws.length) none)[i]? = some (some w) → (ws.map some)[i]? = some (some w) := fun i w e => by
    by_cases hi : i < ws.length
    · rwa [List.getElem?_append_left (by simpa using hi)] at e
    · rw [List.getElem?_append_right (by simpa using hi), List.getElem?_replicate] at e
      split at e <;> cases e
  refine ⟨Gr.refl l, by simp [L2.start, hl], fun i w e => ?_, fun i j w w' a hij ei ej oi oj si sj => ?_, fun i y e => by obtain ⟨v, e1, q, z⟩ := args_st h i _ (at_ i _ e); cases z⟩
  · obtain ⟨v, e1, q, _⟩ := args_st h i w (at_ i w e)
    refine ⟨v, ?_, q⟩
    unfold L2.start
    have hi : i < vs.length := by have := (List.getElem?_eq_some_iff.mp e1).1; simpa using this
    rw [List.getElem?_append_left (by simpa using hi)]
    exact e1
  · obtain ⟨v, _, _, z⟩ := args_st h i w (at_ i w ei)
    rw [oi] at z; cases z
theorem fnD {x qual : Str} {st : Stmt} {f : Addr} {fd : FuncData} {N ps : List Str} {k : Nat} {body : SF} (F : Fun K x qual st f fd) (S : FnScope N ps (defScope st))
    (h : ∀ (cdv : Value) (A : Around) (outer : List Env) (s : Shared) (H F0 : Hp), Room k (A.deeper (envOfC qual (defScope st) s.heap.objs.size f cdv)) →
      SSs (cxOf CX0 P w K mg base N qual (defScope st) f cdv A outer s H E0).nox F0 H (defBody st) body) : FnOk P w K mg base CX0 (k + 1) f fd ps (spD ⟨P, w, K⟩ (den N.length body) ps.length) := by
  refine F.ok S (fun vs H Q E q => q.1) (fun cdv A outer s H vs Q E hr q => ?_)
  obtain ⟨hl, F0, ws, l, ha, q⟩ := q
  refine ⟨tSemS _ _, pss_sem, fun pins s' I => ?_⟩
  have B := h cdv A outer s H F0 hr
  have B' : SSs (cxOf CX0 P w K mg base N qual (defScope st) f cdv A outer s H E).nox F0 H (defBody st) body := B
  refine B' pins s' (L2.start N vs) F0 H _ _ (start_st (N := N) l ha) I ?_
  have e : KE (fun _ => False) (den N.length body ws) fun w' => ∀ v F' H', Gr F0 H F' H' → Vok ⟨P, w, K⟩ H F' H' v w' → Q v H' := q
  unfold den fin at e
  cases eb : body (ws.map some ++ List.replicate (N.length - ws.length) none) with
  | nx ρ => rw [eb] at e; exact fun σ' F' H' l' S' => e .non F' H' S'.gr rfl
  | rt w' => rw [eb] at e; exact e
  | bk ρ => rw [eb] at e; exact e.elim
  | ct ρ => rw [eb] at e; exact e.elim
  | exc x => rw [eb] at e; exact e.elim
  | stuck => rw [eb] at e; exact e.elim
end
section
variable {X : Cx} {F0 H0 : Hp} {pos p : Pos} {e : Expr} {es : List Expr} {fa : List EF} {x : Str} {k n : Nat} {f : Addr} {fd : FuncData} {ps : List Str} {dn : Den}
theorem argAll_ok {κ : Kx} {H F' H' : Hp} (s : Le F' H') : ∀ {vs : List V} {ws ys : List En}, Voks κ H F' H' vs ws → argAll ws = .ok ys → ∀ G, Le F' G → (∀ a o, H a = none → H' a = some o → G a = some o) → Args κ G H' vs ys
  | _, [], ys, h, e, G, l, lk => by cases e; exact h
  | _, w :: ws, ys, h, e, G, l, lk => by
    obtain ⟨v, r, rfl, h1, h2⟩ := h
    unfold argAll at e
    cases e1 : w.arg with
    | exc x => rw [e1] at e; cases e
    | stuck => rw [e1] at e; cases e
    | ok y =>
      cases e2 : argAll ws with
      | exc x => rw [e1, e2] at e; cases e
      | stuck => rw [e1, e2] at e; cases e
      | ok ys' =>
        rw [e1, e2] at e
        cases e
        have rest := argAll_ok s h2 e2 G l lk
        cases w with
        | fz d => cases e1; exact ⟨v, r, rfl, Rep.le l d h1, rest⟩
        | br d =>
          cases e1
          obtain ⟨a, o, ea, e2', ro⟩ := h1
          exact ⟨v, r, rfl, ⟨a, o, ea, e2', OwnO.le l ro⟩, rest⟩
        | lk d => cases e1
        | od d =>
          cases d <;> first | (cases e1; done) | skip
          cases e1
          rename_i kds
          have h1 : DV κ H F' H' v (.dK kds) := h1
          rcases h1 with ⟨_, z, _⟩ | ⟨ds, z, a, bs, css, rfl, h0, hf, nd, hh, i⟩ | ⟨_, _, z, _⟩
          · cases z
          · cases z
            have at_ : ∀ b ∈ bs ++ css.flatten, G b = H' b := fun b m => by
              obtain ⟨us, z0, z1, z2⟩ := In2.at i m
              rw [z2]; exact lk b _ z0 z2
            exact ⟨.ref a, r, rfl, ⟨a, bs.map V.ref, rfl, SqL.of (lk a _ h0 hh), In2.reps i at_ l⟩, rest⟩
          · cases z
        | ow d =>
          cases e1
          obtain ⟨a, o, ea, e0, ef, e2', ro⟩ := h1
          have q := lk a o e0 e2'
          have ro := OwnO.le l ro
          refine ⟨v, r, rfl, ?_, rest⟩
          cases o <;> cases d <;> first
            | exact ro.elim
            | exact ⟨a, _, ea, .inl (.inl q), ro⟩
            | exact ⟨a, _, ea, .inl q, ro⟩
theorem evs_len : ∀ (fs : List EF) (ρ : Rho) (ws : List En), evs fs ρ = .ok ws → ws.length = fs.length
  | [], _, _, h => by cases h; rfl
  | a :: r, ρ, ws, h => by
    unfold evs at h
    cases ea : a ρ with
    | exc x => rw [ea] at h; cases h
    | stuck => rw [ea] at h; cases h
    | ok x =>
      cases er : evs r ρ with
      | exc x => rw [ea, er] at h; cases h
      | stuck => rw [ea, er] at h; cases h
      | ok xs => rw [ea, er] at h; cases h; simp [evs_len r ρ xs er]
theorem se_call (G : FnOk X.prog X.w X.K X.mg X.base CX0 k f fd ps (spD (kx X) dn n)) (hr : Room k X.A) (hm : X.mg x = some (.ref f)) (hk : PySem.W.keepIn X.K (.ref f) = true) (hb : Binds X.K fd ps []) (ha : SA X F0 H0 (e :: es) fa)
    (hn : fa.length = n := by rfl)
    (hg : Gl X x := by rfl) (hdb : (x == ("__debug__" : Str)) = false := by decide) (he : starEach (e :: es) X.env = (false, eval e X.env) :: starEach es X.env := by rfl) (hpl : (backTo pos (starEach es X.env)).any (·.1) = false := by rfl) :
    SE X F0 H0 (.Call (.Name x p) (e :: es) [] pos) (eCall dn fa) := by
  intro pins s σ F H ρ Q S I h
  refine wpAny_Call_Name_kw (ld_glob I hg hm ?_ hdb)
  refine PySem.W.callWith_K (h₀ := X.base) I.ok.mod.kin hk (ha pos pins s σ F H ρ _ S I ?_) he hpl
  cases ef : evs fa ρ with
  | exc x => have h := KE.bind h; rw [ef] at h; exact h
  | stuck => have h := KE.bind h; rw [ef] at h; exact h
  | ok ws =>
    have h := KE.bind h
    rw [ef] at h
    intro vs us F1 H1 s1 g1 q1 r1 I1
    refine ⟨I1.kIn, ?_⟩
    have h : KE (XP X F0 H0) ((argAll ws).bind fun ys => dn ys) _ := h
    cases ea : argAll ws with
    | exc x => rw [ea] at h; exact h.elim
    | stuck => rw [ea] at h; exact h.elim
    | ok ys =>
      rw [ea] at h
      obtain ⟨g2, l2⟩ := fzAll_gr S.s g1
      have A := argAll_ok (κ := kx X) g1.s q1 ea (fzAll H F1 H1) l2 (fun a o e0 e2 => by unfold fzAll; rw [e0]; exact e2)
      have hl : vs.length = n := by
        rw [← hn, ← evs_len fa ρ ws ef]
        clear A ea h r1
        revert vs
        have : ∀ (ws : List En) (vs : List V), Voks (kx X) H F1 H1 vs ws → vs.length = ws.length := by
          intro ws
          induction ws with
          | nil => intro vs h; cases (show vs = [] from h); rfl
          | cons w ws ih =>
            intro vs h
            obtain ⟨v, r, rfl, _, h2⟩ := h
            simp [ih r h2]
        intro vs h
        exact this ws vs h
      refine ep_end (run_fn G hr hb (dvs := []) .nil pass0 I1 r1 ?_)
      rw [List.append_nil]
      refine ⟨hl, fzAll H F1 H1, ys, g2.s, A, KE.impX h (fun w k v F' H' g' q' u s' r' I' => ?_) fun _ z => z.elim⟩
      exact k v u F' H' s' (g2.trans g') (Vok.older (fun a e => Le.none g1.h e) q') r' I'
end
end L3
namespace L3
open PySem PySem.Spec PyProof.Rows L2
theorem hu10 {k : Nat} {A : Around} (hr : Room k A) : A.units + 10 < cLine := by have := hr.un; omega
section
variable {X : Cx} {F0 H0 : Hp} {pos p : Pos} {x : Str} {k : Nat} {f : Addr} {fd : FuncData} {dn : Den}
def Ty.nm : Ty → String
  | .int => "int" | .bool => "bool" | .str => "str" | .list => "list" | .tuple => "tuple" | .dict => "dict"
def dTy : D → String
  | .non => "NoneType" | .bl _ => "bool" | .int _ => "int" | .str _ => "str" | .tup _ => "tuple" | .lst _ => "list" | .dK _ => "dict" | .dT _ => "dict" | .xc _ _ => "?"
theorem kit_ty (K : PySem.W.Frag) (d : D) (t : Ty) (h : ∀ c fs, d ≠ .xc c fs) : PySem.W.kitOne K (.type (dTy d)) (.type t.nm) = some (tyIs d t) := by
  cases d <;> first
    | exact absurd rfl (h _ _)
    | (cases t <;> first | rfl | kernel_rfl)
theorem isi_ok {pins : List (Addr × Obj)} {s : Shared} {σ : St} {F H : Hp} {v : V} {u : Value} {d : D} {t : Ty} {Q : Value → Shared → Prop} (I : Inv X pins σ H s) (l : Le F H) (r : RelV v u) (q : RdV (kx X) F H v d) (hx : ∀ c fs, d ≠ .xc c fs)
    (h : ∀ tk, Q (.bool (tyIs d t)) { s with toks := tk }) : wpAny (model X.prog X.w) X.A (call (.builtin "isinstance") [u, .type t.nm]) Q X.xe s := by
  have e := kit_ty X.K d t hx
  cases d with
  | non => cases RdV.non q; cases (show u = Value.none from r); exact PySem.W.kia_one PySem.W.kitx_none I.kIn True.intro e (fun z => nomatch z) h
  | bl b => cases RdV.bl q; cases (show u = Value.bool b from r); exact PySem.W.kia_one PySem.W.kitx_bool I.kIn True.intro e (fun z => nomatch z) h
  | int i => cases RdV.int q; obtain ⟨tk, rfl⟩ := (show ∃ tk, u = Value.int i tk from r); exact PySem.W.kia_one PySem.W.kitx_int I.kIn True.intro e (fun z => nomatch z) h
  | str y => cases RdV.str q; obtain ⟨tk, rfl⟩ := (show ∃ tk, u = Value.str y tk from r); exact PySem.W.kia_one PySem.W.kitx_str I.kIn True.intro e (fun z => nomatch z) h
  | tup ds =>
    obtain ⟨a, vs, rfl, hq, _, _⟩ := RdV.tup l q
    cases (show u = Value.ref a from r)
    obtain ⟨its, _, ⟨o, e1, e2, _⟩, _⟩ := I.tuple hq
    exact PySem.W.kia_one PySem.W.kitx_tuple I.kIn ⟨o, e1, e2⟩ e (fun z => nomatch z) h
  | lst ds =>
    obtain ⟨a, vs, rfl, hq, _⟩ := RdV.lst l q
    cases (show u = Value.ref a from r)
    obtain ⟨its, _, ⟨o, n, e1, e2, _⟩, _⟩ := I.list hq
    exact PySem.W.kia_one PySem.W.kitx_list I.kIn ⟨o, e1, e2⟩ e (fun z => nomatch z) h
  | dK ds =>
    obtain ⟨a, vs, rfl, hq, _⟩ := RdV.dK l q
    cases (show u = Value.ref a from r)
    obtain ⟨_, vs, _, o, es, ep, e1, e2, _⟩ := Inv.dictK I hq
    exact PySem.W.kia_one PySem.W.kitx_dict I.kIn ⟨o, e1, e2.1⟩ e (fun z => nomatch z) h
  | dT ds =>
    have hq : ∃ a kvs, v = .ref a ∧ Rd H a (.dT kvs) := by
      rcases q with ⟨a, vs, e, q, _⟩ | ⟨a, o, e, e2, r⟩
      · exact ⟨a, vs, e, Rd.le l q⟩
      · cases o <;> first | exact r.elim | exact ⟨a, _, e, .inl e2⟩
    obtain ⟨a, kvs, rfl, hq⟩ := hq
    cases (show u = Value.ref a from r)
    obtain ⟨_, _, xs, _, o, es, ep, e1, e2, _⟩ := hq.ok I.hok
    exact PySem.W.kia_one PySem.W.kitx_dict I.kIn ⟨o, e1, e2.1⟩ e (fun z => nomatch z) h
  | xc c fs => exact absurd rfl (hx c fs)
theorem boot_ty (t : Ty) : bootBuiltins t.nm = some (.type t.nm) := by cases t <;> decide +kernel
theorem se_isi (t : Ty) {e : Expr} {fe : EF} {p2 : Pos} (he : SE X F0 H0 e fe) (hm : X.mg "isinstance" = none) (hmt : X.mg t.nm = none) (hg : Gl X "isinstance" := by rfl) (hgt : Gl X t.nm := by rfl)
    (hnt : (Str.ofString t.nm) ≠ "__name__" := by decide) (hdt : ((Str.ofString t.nm) == ("__debug__" : Str)) = false := by decide)
    (hs1 : starEach [e, .Name t.nm p2] X.env = (false, eval e X.env) :: starEach [.Name t.nm p2] X.env := by rfl) (hs2 : starEach [.Name t.nm p2] X.env = [(false, eval (.Name t.nm p2) X.env)] := by rfl)
    (hpl : (backTo pos (starEach [.Name t.nm p2] X.env)).any (·.1) = false := by rfl) : SE X F0 H0 (.Call (.Name "isinstance" p) [e, .Name t.nm p2] [] pos) (eUn (dIs t) fe) := by
  intro pins s σ F H ρ Q S I h
  refine wpAny_Call_Name_kw (ld_blt I hg hm boot_isinstance ?_)
  refine PyProof.Rows.callWith_builtin1 ?_ hs1 hpl
  rw [hs1]
  refine Calls.spliced_cons (he pins s σ F H ρ _ S I ((KE.bind h).imp fun w k v u F' H' s' g q r I' => ?_))
  rw [hs2]
  refine Calls.spliced_cons (ld_blt I' hgt hmt (boot_ty t) (Calls.spliced_nil ?_) hnt hdt)
  have k2 : ∀ c fs, w.d ≠ .xc c fs := fun c fs e => by rw [e] at k; exact k.elim
  have k3 : KE (XP X F0 H0) (okB (tyIs w.d t)) fun w => ∀ v u F' H' s', Gr F H F' H' → Vok (kx X) H F' H' v w → RelV v u → Inv X pins σ H' s' → Q u s' := by
    revert k
    generalize w.d = d at *
    intro k
    cases d <;> first | exact k | exact absurd rfl (k2 _ _)
  exact isi_ok I' g.s r (Vok.rd q) k2 fun tk => k3 (.bl _) _ F' H' _ g rfl rfl (I'.tok tk)
def dNeg : D → R En
  | .int i => okI (-i)
  | _ => .stuck
theorem se_neg {e : Expr} {fe : EF} (he : SE X F0 H0 e fe) : SE X F0 H0 (.UnaryOp .USub e pos) (eUn dNeg fe) := by
  intro pins s σ F H ρ Q S I h
  refine UnaryOp_ (he pins s σ F H ρ _ S I ((KE.bind h).imp fun w k v u F' H' s' g q r I' => ?_))
  have q := Vok.rd q
  revert k
  generalize w.d = d at q
  intro k
  cases d <;> first | exact k.elim | skip
  cases RdV.int q
  obtain ⟨t, rfl⟩ := r
  exact PyProof.Rows.neg_int (k (.int _) _ F' H' _ g rfl ⟨_, rfl⟩ (I'.tok _))
def dAddI : D → D → R En
  | .int i, .int j => okI (i + j)
  | _, _ => .stuck
theorem od_addI : OpD X (binaryOp .Add) dAddI := opd_of op_add fun F H x y dx dy Q l qx qy w => by
  cases dx <;> first | exact w.elim | skip
  cases dy <;> first | exact w.elim | skip
  exact ⟨_, _, RdV.int qx, RdV.int qy, wish_fz l (v := .int _) w rfl⟩
end
theorem reps_ints {κ : Kx} {F : Hp} : ∀ ns : List Int, Reps κ F (ns.map V.int) (ns.map D.int)
  | [] => rfl
  | n :: ns => ⟨.int n, ns.map V.int, rfl, rfl, reps_ints ns⟩
theorem law_end {κ : Kx} {H : Hp} {a : Addr} {E : XK} (dn : Den) (ns : List Int) (hS : SqL κ.K H a (ns.map V.int)) (h : dn [.fz (.lst (ns.map D.int))] = .ok (.fz (.bl true))) : spD κ dn 1 [.ref a] H (fun v _ => v = .bl true) E :=
  ⟨rfl, H, [.fz (.lst (ns.map D.int))], Le.refl, ⟨.ref a, [], rfl, ⟨a, _, rfl, hS, reps_ints ns⟩, rfl⟩, by rw [h]; exact fun v F' H' g q => q⟩
end L3
namespace L3
open PySem PySem.Spec PyProof.Rows L2
section
variable {X : Cx}
theorem oi_sub : OpD X (inplaceOp .Sub) dSub := opd_of iop_sub fun F H x y dx dy Q l qx qy w => by
  cases dx <;> first | exact w.elim | skip
  cases dy <;> first | exact w.elim | skip
  exact ⟨_, _, RdV.int qx, RdV.int qy, wish_fz l (v := .int _) w rfl⟩
end
end L3
namespace L3
open PySem PySem.Spec PyProof.Rows L2
def ro : Option En → Option En
  | some (.ow d) => some (.br d)
  | some (.od _) => none
  | o => o
def compD (gf : GF) (t : TF) (e : EF) : List D → Rho → R (List D)
  | [], _ => .ok []
  | d :: r, ρ => (gf d ρ).bind fun ρ1 => (t ρ1).bind fun b => if b = true then (e ρ1).bind fun w => w.st.bind fun y => (compD gf t e r ρ1).bind fun ys => .ok (y :: ys) else compD gf t e r ρ1
def cRho (n : Nat) (ρ : Rho) : Rho := ρ.map ro ++ List.replicate n none
def eComp (n : Nat) (it : IF) (gf : GF) (t : TF) (e : EF) : EF := fun ρ => (it ρ).bind fun ds => if ds.length ≤ sz then (compD gf t e ds (cRho n ρ)).bind fun ys => .ok (.ow (.lst ys)) else .stuck
def tTrue : TF := fun _ => .ok true
theorem compLoop {prog : Program} {w : World} {A : Around} {R : Result → Shared → Prop} {s : Shared} {elt target iter : Expr} {ifs : List Expr} {scope : Scope} {pos : Pos} {it acc : Value} {env : Env} (I : Nat → Shared → Prop)
    (turn : ∀ n s, I n s → wpAny (model prog w) A (pyNext it) (fun r s₁ => match r with
      | none => R (.ok .next) s₁
      | some v => wpAny (model prog w) A (letOwnedTupleGo target it v) (fun _ s₀ => wpAny (model prog w) A (assign target env v) (fun _ s₂ =>
          wpAny (model prog w) A (forIn ifs true fun c r => if r = true then do let ok ← isTrue c env (eval c env); pure (ForInStep.yield ok) else pure (ForInStep.yield r)) (fun ok s₃ =>
            if ok = true then wpAny (model prog w) A (eval elt env) (fun x s₄ =>
              wpAny (model prog w) A (call (.builtin "list.append") [acc, x]) (fun _ s₅ => ∃ m, m < n ∧ I m s₅) (fun _ _ => False) s₄) (fun _ _ => False) s₃
            else ∃ m, m < n ∧ I m s₃) (fun _ _ => False) s₂) (fun _ _ => False) s₀) (fun _ _ => False) s₁) (fun _ _ => False) s)
    (n : Nat) (h : I n s) : codeAny (model prog w) A (.compLoop (.ListComp elt [⟨target, iter, ifs, 0⟩] scope pos) 0 it acc env) R s := by
  refine codeAny_loop rfl I (fun n s hI => ?_) n h
  show wpAny _ A ((compTurn (.ListComp elt [⟨target, iter, ifs, 0⟩] scope pos) 0 it acc env).onRaise (fun x => do noteFrame x env; theTreesLotGoes x)) _ _ s
  refine wpAny_noted ?_
  rw [compTurn_list]
  refine wpAny_bind (wpAny_standAt (wpAny_bind (wpAny_mono (turn n s hI) (fun r s₁ h₁ => ?_) fun _ _ h' => h'.elim)))
  cases r with
  | none => exact wpAny_pure h₁
  | some v =>
    refine wpAny_bind (wpAny_mono h₁ (fun _ s₀ h₀ => wpAny_bind (wpAny_mono h₀ (fun _ s₂ h₂ => wpAny_bind (wpAny_mono h₂ (fun ok s₃ h₃ => ?_) fun _ _ h' => h'.elim)) fun _ _ h' => h'.elim)) fun _ _ h' => h'.elim)
    cases ok with
    | false => exact wpAny_pure ⟨rfl, h₃⟩
    | true => exact wpAny_bind (wpAny_bind (wpAny_mono h₃ (fun x s₄ h₄ => wpAny_bind (wpAny_mono h₄ (fun _ s₅ h₅ => wpAny_pure (wpAny_pure ⟨rfl, h₅⟩)) fun _ _ h' => h'.elim)) fun _ _ h' => h'.elim))
def Cap (env : Env) (cl : List (Str × Addr)) : List (Str × NameKind) → Prop
  | [] => True
  | (n, k) :: r => (k ≠ .cell ∧ (k = .free → env.kindOf n = some .cell ∧ cl.lookup n = env.cells.lookup n)) ∧ Cap env cl r
def ClIn (env : Env) : List (Str × Addr) → Prop
  | [] => True
  | (n, c) :: r => env.cells.lookup n = some c ∧ ClIn env r
theorem ClIn.look {env : Env} : ∀ {cl : List (Str × Addr)}, ClIn env cl → ∀ {x c}, cl.lookup x = some c → env.cells.lookup x = some c
  | [], _, x, c, h => by simp at h
  | (n, a) :: r, q, x, c, h => by
    obtain ⟨q1, q2⟩ := q
    by_cases e : x = n
    · subst e
      simp [List.lookup] at h
      subst h
      exact q1
    · have : (x == n) = false := by simpa using e
      simp [List.lookup, this] at h
      exact ClIn.look q2 h
theorem Cap.mem {env : Env} {cl : List (Str × Addr)} : ∀ {names : List (Str × NameKind)}, Cap env cl names → ∀ y ∈ names, y.2 ≠ .cell ∧ (y.2 = .free → env.kindOf y.1 = some .cell ∧ cl.lookup y.1 = env.cells.lookup y.1)
  | [], _, y, hy => by cases hy
  | (n, k) :: r, h, y, hy => by
    rcases List.mem_cons.mp hy with rfl | hy
    · exact h.1
    · exact Cap.mem h.2 y hy
theorem relabel_free {env : Env} : ∀ {names : List (Str × NameKind)} {x : Str}, (∀ y ∈ names, y.2 ≠ .cell) →
    ((names.map fun (n, k) => if (k == NameKind.free && env.scope.kind == .function && env.kindOf n == some .cell) then (n, NameKind.cell) else (n, k)).lookup x = some .cell ∨
     (names.map fun (n, k) => if (k == NameKind.free && env.scope.kind == .function && env.kindOf n == some .cell) then (n, NameKind.cell) else (n, k)).lookup x = some .free) → (x, NameKind.free) ∈ names
  | [], _, _, h => by rcases h with h | h <;> simp at h
  | (n, k) :: r, x, hc, h => by
    have ih := @relabel_free env r x (fun y hy => hc y (List.mem_cons_of_mem _ hy))
    have hk := hc (n, k) List.mem_cons_self
    rw [List.map_cons] at h
    by_cases hx : x = n
    · subst hx
      by_cases q : (k == NameKind.free && env.scope.kind == .function && env.kindOf x == some .cell) = true
      · have : k = .free := by
          simp only [Bool.and_eq_true] at q
          simpa using q.1.1
        subst this
        exact List.mem_cons_self
      · dsimp only at h
        rw [if_neg q] at h
        simp only [List.lookup, beq_self_eq_true] at h
        rcases h with h | h
        · cases h; exact absurd rfl hk
        · cases h; exact List.mem_cons_self
    · have hb : (x == n) = false := by simpa using hx
      refine List.mem_cons_of_mem _ (ih ?_)
      dsimp only at h
      by_cases q : (k == NameKind.free && env.scope.kind == .function && env.kindOf n == some .cell) = true
      · rw [if_pos q] at h
        simpa only [List.lookup_cons, hb] using h
      · rw [if_neg q] at h
        simpa only [List.lookup_cons, hb] using h
def cxC (X : Cx) (s₂ : Shared) (H₂ : Hp) (scope : Scope) (cl : List (Str × Addr)) (C : Addr) (fp : List Addr) (N : List Str) : Cx where
  prog := X.prog
  w := X.w
  K := X.K
  mg := X.mg
  base := X.base
  A := X.A
  N := N
  s₀ := s₂
  H₀ := H₂
  env := compEnvC scope cl C X.env
  outer := X.stack
  stack := X.stack
  ex := fp
  fn := fun _ => false
  calm := X.calm
  pn := []
  xe := fun _ _ => False
def slotsB (sc : List (Str × NameKind)) : List Str → List Str → Bool
  | a :: as, b :: bs => (match sc.lookup b with | some .local => false | some .free => false | some .cell => a == b | _ => true) && slotsB sc as bs
  | [], _ => true
  | _ :: _, [] => true
def SlotsOk (sc : Scope) (M N : List Str) : Prop := ∀ (i : Nat) (x : Str), i < M.length → N[i]? = some x → Vis sc x → M[i]? = some x ∧ sc.names.lookup x = some .cell
theorem slots_ok {sc : Scope} : ∀ {M N : List Str}, slotsB sc.names M N = true → SlotsOk sc M N
  | [], _, _, i, x, hi, _, _ => by simp at hi
  | _ :: _, [], _, i, x, _, e, _ => by simp at e
  | a :: as, b :: bs, h, 0, x, _, e, v => by
    unfold slotsB at h
    rw [Bool.and_eq_true] at h
    simp at e
    subst e
    cases q : sc.names.lookup b with
    | none => rcases v with v | v | v <;> rw [q] at v <;> cases v
    | some k =>
      rw [q] at h
      rcases v with v | v | v
      · rw [q] at v; cases v; exact absurd h.1 Bool.false_ne_true
      · rw [q] at v; cases v
        have : a = b := by simpa using h.1
        subst this
        exact ⟨rfl, rfl⟩
      · rw [q] at v; cases v; exact absurd h.1 Bool.false_ne_true
  | a :: as, b :: bs, h, i + 1, x, hi, e, v => by
    unfold slotsB at h
    rw [Bool.and_eq_true] at h
    have := slots_ok h.2 i x (by simpa using hi) (by simpa using e) v
    exact ⟨by simpa using this.1, this.2⟩
theorem ro_st {κ : Kx} {F0 H0 F H : Hp} {ρ : Rho} {σ : St} (n : Nat) (S : StOk κ F0 H0 F H ρ σ) : StOk κ F H F H (cRho n ρ) (σ ++ List.replicate n none) := by
  have at_ : ∀ (i : Nat) (w : En), (cRho n ρ)[i]? = some (some w) → ∃ w', ρ[i]? = some (some w') ∧ ro (some w') = some w := fun i w e => by
    unfold cRho at e
    by_cases hi : i < ρ.length
    · rw [List.getElem?_append_left (by simpa using hi), List.getElem?_map] at e
      cases q : ρ[i]? with
      | none => rw [q] at e; cases e
      | some y =>
        rw [q] at e
        cases y with
        | none => cases e
        | some w' => exact ⟨w', rfl, by simpa using e⟩
    · rw [List.getElem?_append_right (by simpa using hi), List.getElem?_replicate] at e
      split at e <;> cases e
  refine ⟨Gr.refl S.s, by simp [cRho, S.len], fun i w e => ?_, fun i j w w' a hij ei ej oi oj si sj => ?_, fun i y e => ?_⟩
  · obtain ⟨w', e1, e2⟩ := at_ i w e
    obtain ⟨v, ev, q⟩ := S.val i w' e1
    have hi : i < σ.length := (List.getElem?_eq_some_iff.mp ev).1
    refine ⟨v, by rw [List.getElem?_append_left hi]; exact ev, ?_⟩
    cases w' with
    | fz d => cases e2; exact q
    | ow d => cases e2; obtain ⟨a, o, e, _, _, eh, r⟩ := q; exact ⟨a, o, e, eh, r⟩
    | lk d => cases e2; exact q
    | od d => cases e2
    | br d => cases e2; obtain ⟨a, o, e, eh, r⟩ := q; exact ⟨a, o, e, S.gr.h _ _ eh, r⟩
  · obtain ⟨w1, e1, e2⟩ := at_ i w ei
    cases w1 <;> cases e2 <;> cases oi
  · obtain ⟨w', e1, e2⟩ := at_ i _ e
    cases w' <;> cases e2
theorem StOk.side {κ : Kx} {F0 H0 F H : Hp} {ρ : Rho} {σ : St} {p : Addr} {o : HO} (S : StOk κ F0 H0 F H ρ σ) (h0 : H0 p = none) (hf : F p = none) (no : ∀ (i : Nat) (w : En), ρ[i]? = some (some w) → w.own = false) : StOk κ F0 H0 F (upd H p o) ρ σ := by
  refine ⟨⟨S.gr.f, fun a u h => ?_, fun a u h => ?_, S.gr.n⟩, S.len, fun i w e => ?_, S.sep, fun i d e => by cases no i _ e⟩
  · rw [upd_ne (ne_of_none h h0)]; exact S.gr.h a u h
  · rw [upd_ne (ne_of_none h hf)]; exact S.gr.s a u h
  · obtain ⟨v, e1, q⟩ := S.val i w e
    refine ⟨v, e1, ?_⟩
    have := no i w e
    cases w with
    | fz d => exact q
    | br d => exact q
    | ow d => cases this
    | lk d => exact q
    | od d => cases this
end L3
namespace L3
open PySem PySem.Spec PyProof.Rows L2
section
variable {X : Cx} {pins : List (Addr × Obj)} {σ : St} {H₂ : Hp} {s₂ : Shared} {fp : List Addr} {it : Addr} {tn : Nat → Heap → Prop} {J : It} {tg : Expr} {scope : Scope} {cl : List (Str × Addr)} {N : List Str} {n : Nat}
theorem block_ok (I2 : Inv X pins σ H₂ s₂) (T : Turn X.prog X.w X.K tg J fp it tn) (st : tn 0 s₂.heap) (f2 : ∀ b ∈ fp, FpOk X pins H₂ b) (hkind : scope.kind = .function) (hcap : Cap X.env cl scope.names) (hcl : ClIn X.env cl)
    {C : Addr} (hC : s₂.heap.objs.size ≤ C) : (cxC X s₂ H₂ scope cl C fp N).Ok := by
  have hfree : ∀ x, ((cxC X s₂ H₂ scope cl C fp N).env.kindOf x = some .cell ∨ (cxC X s₂ H₂ scope cl C fp N).env.kindOf x = some .free) → (x, NameKind.free) ∈ scope.names := fun x h =>
    relabel_free (env := X.env) (fun y hy => (Cap.mem hcap y hy).1) h
  refine ⟨I2.ok.mod, hkind, I2.ok.glob, I2.ok.blt, hC, fun x y c h1 h2 => I2.ok.inj x y c (ClIn.look hcl h1) (ClIn.look hcl h2), fun x hx => ?_, fun x c h => (by cases h), I2.ok.hd, I2.ok.frames, .inl rfl, fun b hb => ?_, I2.bs, Nat.le_trans I2.ok.bsz I2.sz, fun b o e hb => ?_, fun b hb z => ?_, I2.stack, I2.stkFree⟩
  · obtain ⟨q1, q2⟩ := (Cap.mem hcap _ (hfree x hx)).2 rfl
    obtain ⟨c, hc⟩ := I2.ok.has x (.inl q1)
    exact ⟨c, q2.trans hc⟩
  · obtain ⟨f0, f1, f3, f4, f5, f6⟩ := f2 b hb
    obtain ⟨o, ho, _⟩ := T.obj 0 _ st b hb
    exact ⟨Nat.ne_of_lt (Nat.lt_of_lt_of_le (Heap.lt_size ho) hC), fun x c e => f5 x c (ClIn.look hcl e)⟩
  · obtain ⟨f0, f1, f3, f4, f5, f6⟩ := f2 b hb
    rcases f4 with f4 | f4
    · exact I2.ok.noex b o e f4
    · exact absurd (Nat.lt_of_lt_of_le (Heap.lt_size (I2.ok.bs b o e).1) f4) (Nat.lt_irrefl _)
  · obtain ⟨f0, f1, f3, f4, f5, f6⟩ := f2 b hb
    rcases List.mem_cons.mp (I2.stkSub b z) with q | q
    · exact f1 q
    · exact f3 q
theorem block_start (I2 : Inv X pins σ H₂ s₂) (T : Turn X.prog X.w X.K tg J fp it tn) (st : tn 0 s₂.heap) (f2 : ∀ b ∈ fp, FpOk X pins H₂ b) (hkind : scope.kind = .function) (hcap : Cap X.env cl scope.names) (hcl : ClIn X.env cl)
    (hsl : SlotsOk (relabel scope X.env) X.N N) (hlen : N.length = X.N.length + n) {C tk : Nat} {h₁ : Heap} {m : Str → Option Value} (hC : s₂.heap.objs.size < C) (hns : h₁.Ns C m) (old : ∀ b o, s₂.heap.get? b = some o → h₁.get? b = some o)
    (hacc : h₁.get? s₂.heap.objs.size = some { cls := .type "list", data := .seq #[] 0 }) :
    Inv (cxC X s₂ H₂ scope cl C fp N) [] (σ ++ List.replicate n none) (upd H₂ s₂.heap.objs.size (.lst [])) { s₂ with heap := h₁, toks := tk } := by
  have hf : H₂ s₂.heap.objs.size = none := I2.hok.fresh (Nat.le_refl _)
  have hfC : H₂ C = none := I2.hok.fresh (Nat.le_of_lt hC)
  have cellOld : ∀ x c, X.env.cells.lookup x = some c → ∀ v, s₂.heap.IsCell c v → h₁.IsCell c v := fun x c _ v ⟨o, ho, hd⟩ => ⟨o, old _ _ ho, hd⟩
  have cne : ∀ x c, X.env.cells.lookup x = some c → c < s₂.heap.objs.size := fun x c e => by
    obtain ⟨v, o, ho, _⟩ := I2.cell x c e
    exact Heap.lt_size ho
  refine ⟨block_ok I2 T st f2 hkind hcap hcl (Nat.le_of_lt hC), rfl, I2.bare, Un.laid old (Nat.le_refl _) hf, ⟨m, hns, fun i x v e1 e2 e3 => ?_⟩, fun x c e => ?_, ?_, fun x c e => ?_, fun p hp => absurd (show p ∈ ([] : List (Addr × Obj)) from hp) (by simp), ?_, ?_⟩
  · have hi : i < σ.length := by
      by_cases hi : i < σ.length
      · exact hi
      · rw [List.getElem?_append_right (by omega), List.getElem?_replicate] at e2
        split at e2 <;> cases e2
    rw [List.getElem?_append_left hi] at e2
    obtain ⟨q1, q2⟩ := hsl i x (by rw [← I2.len]; exact hi) e1 e3
    have q3 : (x, NameKind.free) ∈ scope.names := relabel_free (env := X.env) (fun y hy => (Cap.mem hcap y hy).1) (.inl q2)
    obtain ⟨k1, k2⟩ := (Cap.mem hcap _ q3).2 rfl
    obtain ⟨m2, hn2, hl⟩ := I2.loc
    obtain ⟨u, ru, lk⟩ := hl i x v q1 e2 (.inr (.inl k1))
    refine ⟨u, ru, ?_⟩
    rcases lk with ⟨z, _⟩ | ⟨_, c, hc, hcell⟩
    · rw [show X.env.kindOf x = some .cell from k1] at z; cases z
    · exact .inr ⟨.inl q2, c, by show cl.lookup x = some c; exact k2.trans hc, cellOld x c hc _ hcell⟩
  · obtain ⟨v, q⟩ := I2.cell x c (ClIn.look hcl e)
    exact ⟨v, cellOld x c (ClIn.look hcl e) v q⟩
  · show upd H₂ s₂.heap.objs.size (.lst []) C = none
    rw [upd_ne (Nat.ne_of_gt hC)]; exact hfC
  · have := cne x c (ClIn.look hcl e)
    show upd H₂ s₂.heap.objs.size (.lst []) c = none
    rw [upd_ne (Nat.ne_of_lt this)]
    exact I2.freeC x c (ClIn.look hcl e)
  · exact I2.hok.laid old (Nat.le_refl _) ⟨Nat.zero_le _, [], 0, .nil, hacc⟩
  · simp [I2.len, hlen, cxC]
def NoOwn (ρ : Rho) : Prop := ∀ (i : Nat) (w : En), ρ[i]? = some (some w) → w.own = false
def KeepsNo (gf : GF) : Prop := ∀ d ρ ρ1, NoOwn ρ → gf d ρ = .ok ρ1 → NoOwn ρ1
theorem noOwn_set {ρ : Rho} (h : NoOwn ρ) (i : Nat) (d : D) : NoOwn (ρ.set i (some (.fz d))) := fun j w e => by
  rcases set_get e with ⟨_, z⟩ | ⟨_, z⟩
  · cases z; rfl
  · exact h j w z
theorem no_gV (i : Nat) : KeepsNo (gV i) := fun d ρ ρ1 h e => by cases e; exact noOwn_set h i d
theorem noOwn_ro (n : Nat) (ρ : Rho) : NoOwn (cRho n ρ) := fun i w e => by
  unfold cRho at e
  by_cases hi : i < ρ.length
  · rw [List.getElem?_append_left (by simpa using hi), List.getElem?_map] at e
    cases q : ρ[i]? with
    | none => rw [q] at e; cases e
    | some y =>
      rw [q] at e
      cases y with
      | none => cases e
      | some w' => cases w' <;> first | (simp [ro] at e; done) | (simp [ro] at e; subst e; rfl)
  · rw [List.getElem?_append_right (by simpa using hi), List.getElem?_replicate] at e
    split at e <;> cases e
inductive Tests (X : Cx) (F0 H0 : Hp) : List Expr → TF → Prop
  | nil : Tests X F0 H0 [] tTrue
  | one {c : Expr} {t : TF} : ST X F0 H0 c t → Tests X F0 H0 [c] t
theorem tests_ok {X : Cx} {F0 H0 : Hp} {ifs : List Expr} {t : TF} (h : Tests X F0 H0 ifs t) {pins : List (Addr × Obj)} {s : Shared} {σ : St} {F H : Hp} {ρ : Rho} {Q : Bool → Shared → Prop} (S : StOk (kx X) F0 H0 F H ρ σ) (I : Inv X pins σ H s)
    (k : KE (XP X F0 H0) (t ρ) fun b => ∀ F' H' s', Gr F H F' H' → Inv X pins σ H' s' → Q b s') :
    wpAny (model X.prog X.w) X.A (forIn ifs true fun c r => if r = true then do let ok ← isTrue c X.env (eval c X.env); pure (ForInStep.yield ok) else pure (ForInStep.yield r)) Q X.xe s := by
  cases h with
  | nil => exact wpAny_tests_nil (k F H s (Gr.refl S.s) I)
  | one h => exact wpAny_tests_one (h pins s σ F H ρ Q S I k)
theorem block_run {X : Cx} {pins : List (Addr × Obj)} {σ : St} {F₂ H₂ : Hp} {s₂ s₄ : Shared} {fp : List Addr} {it : Addr} {tn : Nat → Heap → Prop} {J : It} {tg elt iter : Expr} {ifs : List Expr} {scope : Scope} {cl : List (Str × Addr)} {N : List Str} {C p : Addr}
    {σ' : St} {ρ' : Rho} {ds : List D} {pos : Pos} {gf : GF} {t : TF} {e : EF} {RR : Result → Shared → Prop} (l₂ : Le F₂ H₂) (T : Turn X.prog X.w X.K tg J fp it tn) (hc : X.calm = true) (st : tn 0 s₄.heap) (Wk : Walk (kx X) J F₂ H₂ ds)
    (hfp : ∀ b ∈ fp, FpOk (cxC X s₂ H₂ scope cl C fp N) [] (upd H₂ p (.lst [])) b) (hp : H₂ p = none) (I4 : Inv (cxC X s₂ H₂ scope cl C fp N) [] σ' (upd H₂ p (.lst [])) s₄) (S4 : StOk (kx X) F₂ H₂ F₂ H₂ ρ' σ') (no : NoOwn ρ') (hno : KeepsNo gf)
    (hg : SG (cxC X s₂ H₂ scope cl C fp N) F₂ H₂ tg gf) (ht : Tests (cxC X s₂ H₂ scope cl C fp N) F₂ H₂ ifs t) (he : SE (cxC X s₂ H₂ scope cl C fp N) F₂ H₂ elt e) (hsz : ds.length ≤ sz)
    (k : KE (fun _ => False) (compD gf t e ds ρ') fun ys => ∀ σ1 F1 H1 vs s1, Gr F₂ H₂ F1 H1 → F1 p = none → H1 p = some (.lst vs) → Reps (kx X) F1 vs ys → Inv (cxC X s₂ H₂ scope cl C fp N) [] σ1 H1 s1 → RR (.ok .next) s1) :
    codeAny (model X.prog X.w) X.A (.compLoop (.ListComp elt [⟨tg, iter, ifs, 0⟩] scope pos) 0 (.ref it) (.ref p) (compEnvC scope cl C X.env)) RR s₄ := by
  have stat : ∀ {H' : Hp}, (∀ b ∈ fp, H' b = none) → ∀ b ∈ fp, FpOk (cxC X s₂ H₂ scope cl C fp N) [] H' b := fun hn b hb => ⟨hn b hb, (hfp b hb).2⟩
  obtain ⟨tgv, PGv, hgv⟩ := hg
  refine compLoop (fun m s => ∃ i σ1 F1 H1 ρ1 vs, ∃ as : List D, m = ds.length - i ∧ i ≤ ds.length ∧ Inv (cxC X s₂ H₂ scope cl C fp N) [] σ1 H1 s ∧ tn i s.heap ∧ (∀ b ∈ fp, H1 b = none) ∧ StOk (kx X) F₂ H₂ F1 H1 ρ1 σ1 ∧ NoOwn ρ1 ∧
    F1 p = none ∧ H1 p = some (.lst vs) ∧ Reps (kx X) F1 vs as ∧ as.length ≤ i ∧
    KE (fun _ => False) (compD gf t e (ds.drop i) ρ1) (fun ys => ∀ σ1 F1 H1 vs s1, Gr F₂ H₂ F1 H1 → F1 p = none → H1 p = some (.lst vs) → Reps (kx X) F1 vs (as ++ ys) → Inv (cxC X s₂ H₂ scope cl C fp N) [] σ1 H1 s1 → RR (.ok .next) s1)) ?_ ds.length
    ⟨0, σ', F₂, upd H₂ p (.lst []), ρ', [], [], by simp, Nat.zero_le _, I4, st, fun b hb => (hfp b hb).1, S4.side hp (Le.none l₂ hp) no, no, Le.none l₂ hp, upd_same, rfl, Nat.le_refl _, by simpa using k⟩
  rintro m s ⟨i, σ1, F1, H1, ρ1, vs, as, rfl, hi, I1, st1, fr1, S1, no1, fp1, hp1, rs1, la, k1⟩
  by_cases hlt : i < ds.length
  · have ed : ds[i]? = some ds[i] := by simp [hlt]
    have edr : ds.drop i = ds[i] :: ds.drop (i + 1) := List.drop_eq_getElem_cons hlt
    obtain ⟨go, yl⟩ := Wk.go i ds[i] F1 H1 ed S1.gr.f S1.s S1.gr.h
    rw [edr] at k1
    refine thn (T.item (cxC X s₂ H₂ scope cl C fp N) rfl rfl rfl hc i [] s σ1 H1 _ I1 (stat fr1) st1 go) fun r s1' ⟨u, hr, h4⟩ => ?_
    subst hr
    refine thn h4 fun _ s5 ⟨x, H5, I5, r5, y5, st5, fr5⟩ => ?_
    obtain ⟨F5, g5, rx⟩ := yl x H5 y5
    have I5' := I5.pinned (stat fr5) (T.obj _ _ st5)
    have S5 := S1.grow g5
    have k1 := KE.bind k1
    cases eg : gf ds[i] ρ1 with
    | exc z => rw [eg] at k1; exact k1.elim
    | stuck => rw [eg] at k1; exact k1.elim
    | ok ρ2 =>
      rw [eg] at k1
      have no2 := hno _ _ _ no1 eg
      have k1 : KE (fun _ => False) (t ρ2) _ := KE.bind k1
      refine thn (PGv _ s5 σ1 H5 x u (fun σ6 H6 => H6 = H5 ∧ StOk (kx X) F₂ H₂ F5 H5 ρ2 σ6) I5' r5 (hgv σ1 F5 H5 ρ1 x ds[i] _ S5 rx (by rw [eg]; exact fun σ1 S => ⟨rfl, S⟩))) fun _ s6 ⟨σ6, H6, I6, e6, S6⟩ => ?_
      subst e6
      have again : ∀ {σ7 : St} {F7 H7 : Hp} {s7 : Shared} {vs7 : List V} {as7 : List D}, Inv (cxC X s₂ H₂ scope cl C fp N) ([] ++ pinsAt fp s5.heap) σ7 H7 s7 → StOk (kx X) F₂ H₂ F7 H7 ρ2 σ7 → F7 p = none → H7 p = some (.lst vs7) → Reps (kx X) F7 vs7 as7 → as7.length ≤ i + 1 →
          KE (fun _ => False) (compD gf t e (ds.drop (i + 1)) ρ2) (fun ys => ∀ σ1 F1 H1 vs s1, Gr F₂ H₂ F1 H1 → F1 p = none → H1 p = some (.lst vs) → Reps (kx X) F1 vs (as7 ++ ys) → Inv (cxC X s₂ H₂ scope cl C fp N) [] σ1 H1 s1 → RR (.ok .next) s1) →
          ∃ m, m < ds.length - i ∧ ∃ i σ1 F1 H1 ρ1 vs, ∃ (as : List D), m = ds.length - i ∧ i ≤ ds.length ∧ Inv (cxC X s₂ H₂ scope cl C fp N) [] σ1 H1 s7 ∧ tn i s7.heap ∧ (∀ b ∈ fp, H1 b = none) ∧ StOk (kx X) F₂ H₂ F1 H1 ρ1 σ1 ∧ NoOwn ρ1 ∧
            F1 p = none ∧ H1 p = some (.lst vs) ∧ Reps (kx X) F1 vs as ∧ as.length ≤ i ∧
            KE (fun _ => False) (compD gf t e (ds.drop i) ρ1) (fun ys => ∀ σ1 F1 H1 vs s1, Gr F₂ H₂ F1 H1 → F1 p = none → H1 p = some (.lst vs) → Reps (kx X) F1 vs (as ++ ys) → Inv (cxC X s₂ H₂ scope cl C fp N) [] σ1 H1 s1 → RR (.ok .next) s1) := by
        intro σ7 F7 H7 s7 vs7 as7 I7 S7 f7 h7 r7 l7 k7
        refine ⟨ds.length - (i + 1), by omega, i + 1, σ7, F7, H7, ρ2, vs7, as7, rfl, hlt, I7.unpinned, T.keep _ _ _ st5 fun b hb o e => (I7.pin (b, o) (List.mem_append_right _ (List.mem_append_right _ (mem_pinsAt hb e)))).1, fun b hb => ?_, S7, no2, f7, h7, r7, l7, k7⟩
        obtain ⟨o, e, d⟩ := T.obj _ _ st5 b hb
        exact (I7.pin (b, o) (List.mem_append_right _ (List.mem_append_right _ (mem_pinsAt hb e)))).2.1
      have nf5 : F5 p = none := g5.no fp1 (hp1)
      refine tests_ok ht S6 I6 (KE.impX k1 (fun b kb F7 H7 s7 g7 I7 => ?_) fun _ z => z)
      have nf7 : F7 p = none := g7.no nf5 (g5.h _ _ hp1)
      have hp7 : H7 p = some (.lst vs) := g7.h _ _ (g5.h _ _ hp1)
      have l17 : Le F1 F7 := Le.trans g5.f g7.f
      cases b with
      | false =>
        rw [if_neg Bool.false_ne_true]
        exact again I7 (S6.grow g7) nf7 hp7 (Reps.le l17 _ rs1) (by omega) kb
      | true =>
        rw [if_pos rfl]
        have kb : KE (fun _ => False) ((e ρ2).bind fun w => w.st.bind fun y => (compD gf t e (ds.drop (i + 1)) ρ2).bind fun ys => .ok (y :: ys)) _ := kb
        refine he _ s7 σ6 F7 H7 ρ2 _ (S6.grow g7) I7 (KE.impX (KE.bind kb) (fun wv kw v u F8 H8 s8 g8 q8 r8 I8 => ?_) fun _ z => z)
        cases es : wv.st with
        | exc z => rw [es] at kw; exact kw.elim
        | stuck => rw [es] at kw; exact kw.elim
        | ok y =>
          rw [es] at kw
          have kw : KE (fun _ => False) ((compD gf t e (ds.drop (i + 1)) ρ2).bind fun ys => .ok (y :: ys)) _ := kw
          have kw := KE.bind kw
          have ry := Vok.st g7.s g8 q8 es
          obtain ⟨g9, _⟩ := fzAll_gr g7.s g8
          have S9 := (S6.grow g7).grow g9
          have nf9 : fzAll H7 F8 H8 p = none := g9.no nf7 hp7
          have lv : vs.length = as.length := Reps.length rs1
          refine thn (mt_append (X := cxC X s₂ H₂ scope cl C fp N) _ s8 σ6 H8 (.ref p) [v] (.ref p) [u] (fun _ H9 => H9 = upd H8 p (.lst (vs ++ [v]))) I8 rfl (.cons r8 .nil) ⟨p, vs, v, rfl, rfl, g8.h _ _ hp7, by rw [lv, ← sz_eq]; omega, rfl⟩) fun _ s9 ⟨_, H9, I9, _, e9⟩ => ?_
          subst e9
          refine again I9 (S9.side hp nf9 no2) nf9 upd_same (Reps.append (Reps.le (Le.trans l17 g9.f) _ rs1) (Reps.one ry)) (by simp; omega) ?_
          exact kw.imp fun ys q σ1 F1 H1 vs s1 => by
            have : (as ++ [y]) ++ ys = as ++ (y :: ys) := by simp
            rw [this]
            exact q σ1 F1 H1 vs s1
  · have ei : i = ds.length := by omega
    subst ei
    rw [List.drop_length] at k1
    refine thn (T.done (cxC X s₂ H₂ scope cl C fp N) rfl rfl rfl hc _ [] s σ1 H1 _ I1 (stat fr1) st1 (Wk.stop _ F1 H1 (Nat.le_refl _) S1.gr.f S1.s S1.gr.h)) fun r s4' ⟨hr, I4'⟩ => ?_
    subst hr
    exact k1 σ1 F1 H1 vs s4' S1.gr fp1 hp1 (by simpa using rs1) I4'
end
end L3
namespace L3
open PySem PySem.Spec PyProof.Rows L2
def clOf (env : Env) : List (Str × NameKind) → List (Str × Addr) → List (Str × Addr)
  | [], cs => cs
  | (n, k) :: r, cs => if k == .free then clOf env r ((n, (env.cells.lookup n).getD 0) :: cs) else clOf env r cs
def capB (env : Env) (names : List (Str × NameKind)) : Bool := names.all fun y => y.2 != .cell && (y.2 != .free || env.kindOf y.1 == some .cell)
theorem closure_ok {scope : Scope} {env : Env} (hb : capB env scope.names = true) (has : ∀ n, env.kindOf n = some .cell → ∃ c, env.cells.lookup n = some c) : closureFor scope env = pure (clOf env scope.names []) := by
  unfold closureFor
  have go : ∀ (names : List (Str × NameKind)) (cs : List (Str × Addr)), capB env names = true →
      (forIn names cs fun (x : Str × NameKind) (r : List (Str × Addr)) => match x with | (name, kind) => if (kind == NameKind.free) = true then do let y ← cellOf env name; pure (ForInStep.yield ((name, y) :: r)) else pure (ForInStep.yield r) : Sem (List (Str × Addr))) = pure (clOf env names cs) := by
    intro names
    induction names with
    | nil => intro cs _; rfl
    | cons y r ih =>
      intro cs hb
      obtain ⟨n, k⟩ := y
      unfold capB at hb
      rw [List.all_cons, Bool.and_eq_true, Bool.and_eq_true] at hb
      rw [List.forIn_cons]
      by_cases hk : (k == NameKind.free) = true
      · have hk' : k = .free := by simpa using hk
        have : env.kindOf n = some .cell := by
          have := hb.1.2
          simp [hk'] at this
          simpa using this
        obtain ⟨c, hc⟩ := has n this
        have e : cellOf env n = pure c := by simp [cellOf, hc]
        simp only [hk, if_true, e, clOf, hc]
        exact ih _ hb.2
      · simp only [hk, clOf, Bool.false_eq_true, if_false]
        exact ih _ hb.2
  exact congrArg (fun (m : Sem (List (Str × Addr))) => m >>= fun s => pure s) (go scope.names [] hb)
theorem clOf_in {env : Env} : ∀ (names : List (Str × NameKind)) (cs : List (Str × Addr)), capB env names = true → (∀ n, env.kindOf n = some .cell → ∃ c, env.cells.lookup n = some c) → ClIn env cs → ClIn env (clOf env names cs)
  | [], cs, _, _, h => h
  | (n, k) :: r, cs, hb, has, h => by
    unfold capB at hb
    rw [List.all_cons, Bool.and_eq_true, Bool.and_eq_true] at hb
    unfold clOf
    by_cases hk : (k == NameKind.free) = true
    · rw [if_pos hk]
      have hk' : k = .free := by simpa using hk
      have : env.kindOf n = some .cell := by
        have := hb.1.2
        simp [hk'] at this
        simpa using this
      obtain ⟨c, hc⟩ := has n this
      exact clOf_in r _ hb.2 has ⟨by rw [hc]; rfl, h⟩
    · rw [if_neg hk]
      exact clOf_in r _ hb.2 has h
theorem clOf_look {env : Env} : ∀ (names : List (Str × NameKind)) (cs : List (Str × Addr)), capB env names = true → (∀ n, env.kindOf n = some .cell → ∃ c, env.cells.lookup n = some c) → ClIn env cs →
    ∀ n, ((n, NameKind.free) ∈ names ∨ (∃ c, cs.lookup n = some c)) → ∃ c, (clOf env names cs).lookup n = some c
  | [], cs, _, _, _, n, h => by
    rcases h with h | h
    · cases h
    · exact h
  | (m, k) :: r, cs, hb, has, hcs, n, h => by
    have hb0 := hb
    unfold capB at hb
    rw [List.all_cons, Bool.and_eq_true, Bool.and_eq_true] at hb
    unfold clOf
    by_cases hk : (k == NameKind.free) = true
    · rw [if_pos hk]
      have hk' : k = .free := by simpa using hk
      have hc : env.kindOf m = some .cell := by
        have := hb.1.2
        simp [hk'] at this
        simpa using this
      obtain ⟨c, hc⟩ := has m hc
      refine clOf_look r ((m, (env.cells.lookup m).getD 0) :: cs) hb.2 has (And.intro (by rw [hc]; rfl) hcs) n ?_
      by_cases e : n = m
      · subst e
        exact .inr ⟨(env.cells.lookup n).getD 0, by simp [List.lookup]⟩
      · rcases h with h | ⟨c', h⟩
        · rcases List.mem_cons.mp h with z | z
          · exact absurd (congrArg Prod.fst z) e
          · exact .inl z
        · have : (n == m) = false := by simpa using e
          exact .inr ⟨c', by simp [List.lookup, this, h]⟩
    · rw [if_neg hk]
      refine clOf_look r _ hb.2 has hcs n ?_
      rcases h with h | h
      · rcases List.mem_cons.mp h with z | z
        · have : k = .free := (congrArg Prod.snd z).symm
          rw [this] at hk
          exact absurd rfl hk
        · exact .inl z
      · exact .inr h
theorem cap_ok {scope : Scope} {env : Env} (hb : capB env scope.names = true) (has : ∀ n, env.kindOf n = some .cell → ∃ c, env.cells.lookup n = some c) : Cap env (clOf env scope.names []) scope.names := by
  have hin := clOf_in scope.names [] hb has trivial
  have all : ∀ (names : List (Str × NameKind)), (∀ y ∈ names, y ∈ scope.names) → Cap env (clOf env scope.names []) names := by
    intro names
    induction names with
    | nil => intro _; trivial
    | cons y r ih =>
      intro h
      obtain ⟨n, k⟩ := y
      have hy := h (n, k) List.mem_cons_self
      have q := List.all_eq_true.mp hb (n, k) hy
      simp only [Bool.and_eq_true] at q
      refine ⟨⟨by simpa using q.1, fun hk => ?_⟩, ih fun z hz => h z (List.mem_cons_of_mem _ hz)⟩
      subst hk
      have q2 : env.kindOf n = some .cell := by
        have := q.2
        simp at this
        simpa using this
      obtain ⟨c, hc⟩ := clOf_look scope.names [] hb has trivial n (.inl hy)
      exact ⟨q2, hc.trans (ClIn.look hin hc).symm⟩
  exact all scope.names fun y hy => hy
section
variable {X : Cx} {F0 H0 : Hp} {pos : Pos} {tg elt iter : Expr} {ifs : List Expr} {scope : Scope} {fi : IF} {gf : GF} {t : TF} {e : EF}
abbrev cxD (X : Cx) (scope : Scope) (N : List Str) (s₂ : Shared) (H₂ : Hp) (C : Addr) (fp : List Addr) : Cx := cxC X s₂ H₂ scope (clOf X.env scope.names []) C fp N
theorem comp_core {n : Nat} (N : List Str) {use : Option (Value → Sem Unit)} (hi : SIc X F0 H0 tg iter fi) (hno : KeepsNo gf)
    (hg : ∀ s₂ F₂ H₂ C fp, SG (cxD X scope N s₂ H₂ C fp) F₂ H₂ tg gf) (ht : ∀ s₂ F₂ H₂ C fp, Tests (cxD X scope N s₂ H₂ C fp) F₂ H₂ ifs t) (he : ∀ s₂ F₂ H₂ C fp, SE (cxD X scope N s₂ H₂ C fp) F₂ H₂ elt e)
    (hc : X.calm = true) (hkind : scope.kind = .function) (hcap : capB X.env scope.names = true) (hslots : slotsB (relabel scope X.env).names X.N N = true) (hlen : N.length = X.N.length + n)
    (hnames : ∀ x ∈ scope.names, x.2 = .local → scope.names.lookup x.1 = some .local) (hs : ∀ x, foldedSetIterable iter X.env x = pure x)
    {pins : List (Addr × Obj)} {s : Shared} {σ : St} {F H : Hp} {ρ : Rho} {Q : Value → Shared → Prop} {ipos : Pos} (S : StOk (kx X) F0 H0 F H ρ σ) (I : Inv X pins σ H s)
    (h : KE (XP X F0 H0) (eComp n fi gf t e ρ) fun w => ∀ (p C : Addr) F1 H1 s1 m, Gr F H F1 H1 → Vok (kx X) H F1 H1 (.ref p) w → Inv X pins σ H1 s1 → s1.heap.Ns C m →
      (∀ (s2 : Shared) H2 h' (σ' : St), Inv X pins σ' H2 s2 → H2 C = none → (∀ b o, b ≠ C → s2.heap.get? b = some o → h'.get? b = some o) → Inv X pins σ' H2 { s2 with heap := h' }) → H1 C = none → C ≠ X.env.locals → (∀ x c, X.env.cells.lookup x = some c → c ≠ C) →
      compPost (model X.prog X.w) X.A X.xe use Q (.ref p) C (.ok .next) s1) :
    wpAny (model X.prog X.w) X.A (comprehension (.ListComp elt [⟨tg, iter, ifs, 0⟩] scope pos) scope X.env ipos (newList []) false (eval iter X.env) use) Q X.xe s := by
  have has : ∀ n, X.env.kindOf n = some .cell → ∃ c, X.env.cells.lookup n = some c := fun n hn => I.ok.has n (.inl hn)
  have hCl := clOf_in scope.names [] hcap has trivial
  have hCp := cap_ok hcap has
  refine wpAny_comprehension_free rfl hs (closure_ok hcap has) hkind hnames ?_
  obtain ⟨wi, PIv, hwi⟩ := hi
  cases ed : fi ρ with
  | exc x => have h := KE.bind h; rw [ed] at h; exact h.elim
  | stuck => have h := KE.bind h; rw [ed] at h; exact h.elim
  | ok ds =>
    have h := KE.bind h
    rw [ed] at h
    refine thn (PIv pins s σ H (fun J H1 => ∃ F1, Gr F H F1 H1 ∧ Walk (kx X) J F1 H1 ds) I (hwi σ F H ρ _ S (by rw [ed]; exact fun F1 H1 J g W => ⟨F1, g, W⟩))) fun v s1 h1 => thn h1 fun itv s₂ h2 => ?_
    obtain ⟨it, fp, tn, J, H₂, rfl, I2, T, st2, f2, F₂, g2, Wk⟩ := h2
    refine wpAny_newObj_type (wpAny_newFunctionEnv (fun x hx => (Cap.mem hCp x hx).1) (by intro y hy; simp at hy) (fun h₁ hns₁ hsb₁ => ?_) hkind)
    dsimp only at hns₁ hsb₁ ⊢
    generalize hH2 : s₂.heap.push { cls := .type "list", dict := none, data := .seq ([] : List Value).toArray } = HP at hns₁ hsb₁ ⊢
    have hC : HP.objs.size = s₂.heap.objs.size + 1 := by rw [← hH2, Heap.size_push]
    have hDC : s₂.heap.objs.size ≠ HP.objs.size := by rw [hC]; exact Nat.ne_of_lt (Nat.lt_succ_self _)
    have old : ∀ b o, s₂.heap.get? b = some o → h₁.get? b = some o := fun b o e =>
      hsb₁.extBut b o (Nat.ne_of_lt (by rw [hC]; exact Nat.lt_succ_of_lt (Heap.lt_size e))) (Heap.get?_push_of_some _ (hH2 ▸ Heap.get?_push_of_some _ e))
    have hacc : h₁.get? s₂.heap.objs.size = some { cls := .type "list", data := .seq #[] 0 } := hsb₁.extBut _ _ hDC (Heap.get?_push_of_some _ (hH2 ▸ Heap.get?_push_size _ rfl))
    have hp : H₂ s₂.heap.objs.size = none := I2.hok.fresh (Nat.le_refl _)
    have hCl2 : s₂.heap.objs.size < HP.objs.size := by rw [hC]; exact Nat.lt_succ_self _
    have hfC : H₂ HP.objs.size = none := I2.hok.fresh (Nat.le_of_lt hCl2)
    have I4 := block_start (N := N) (n := n) (tk := s₂.toks + ([] : List (Str × Value)).length) I2 T st2 f2 hkind hCp hCl (slots_ok hslots) hlen hCl2 hns₁ old hacc
    have st4 : tn 0 h₁ := T.keep _ _ _ st2 fun b hb o e => old b o e
    have S4 : StOk (kx X) F₂ H₂ F₂ H₂ (cRho n ρ) (σ ++ List.replicate n none) := ro_st n (S.grow g2)
    have hfp4 : ∀ b ∈ fp, FpOk (cxD X scope N s₂ H₂ HP.objs.size fp) [] (upd H₂ s₂.heap.objs.size (.lst [])) b := fun b hb => by
      obtain ⟨f0, f1, f3, f4, f5, f6⟩ := f2 b hb
      obtain ⟨o, ho, _⟩ := T.obj 0 _ st2 b hb
      have lb := Heap.lt_size ho
      refine ⟨by rw [upd_ne (Nat.ne_of_lt lb)]; exact f0, (show b ≠ HP.objs.size from Nat.ne_of_lt (Nat.lt_trans lb hCl2)), fun z => ?_, .inl hb, fun x c e => f5 x c (ClIn.look hCl e), fun q hq => absurd (show q ∈ ([] : List (Addr × Obj)) from hq) (by simp)⟩
      rcases List.mem_cons.mp (I2.stkSub b z) with q | q
      · exact f1 q
      · exact f3 q
    rw [KE_ok] at h
    by_cases csz : ds.length ≤ sz
    · rw [if_pos csz] at h
      have run : ∀ s₄ : Shared, s₄ = { s₂ with heap := h₁, toks := s₂.toks + ([] : List (Str × Value)).length } →
          codeAny (model X.prog X.w) X.A (.compLoop (.ListComp elt [⟨tg, iter, ifs, 0⟩] scope pos) 0 (.ref it) (.ref s₂.heap.objs.size) (compEnvC scope (clOf X.env scope.names []) HP.objs.size X.env))
            (compPost (model X.prog X.w) X.A X.xe use Q (.ref s₂.heap.objs.size) HP.objs.size) s₄ := by
        rintro s₄ rfl
        refine block_run (pins := pins) (σ := σ) (N := N) (s₂ := s₂) (F₂ := F₂) g2.s T hc st4 Wk hfp4 hp I4 S4 (noOwn_ro n ρ) hno (hg _ _ _ _ _) (ht _ _ _ _ _) (he _ _ _ _ _) csz (KE.impX (KE.bind h) (fun ys k σ1 F1 H1 vs s1 g1 nf hv rs I1 => ?_) fun _ z => z)
        have J1 : Inv X pins σ H1 s1 := I2.call' (ch := fp) I1.os I1.base I1.hok I1.bare fun b hb => by
          obtain ⟨f0, f1, f3, f4, f5, f6⟩ := f2 b hb
          exact ⟨f4, f1, f5, f6⟩
        obtain ⟨m1, hn1, _⟩ := I1.loc
        have cl2 : ∀ x c, X.env.cells.lookup x = some c → c ≠ HP.objs.size := fun x c e z => by
          obtain ⟨v, o, ho, _⟩ := I2.cell x c e
          exact Nat.lt_irrefl _ (Nat.lt_trans (Heap.lt_size ho) (z ▸ hCl2))
        have lne : HP.objs.size ≠ X.env.locals := Ne.symm (Nat.ne_of_lt (Nat.lt_trans I2.lt hCl2))
        refine k s₂.heap.objs.size HP.objs.size F1 H1 s1 m1 (g2.trans g1) ⟨_, _, rfl, Le.none g2.h hp, nf, hv, rs⟩ J1 hn1 (fun s2 H2 h' σ' J2 hn kk => ?_) I1.free lne cl2
        refine J2.turned (t' := s2.toks) kk hn lne (.inr (Nat.le_trans I2.sz (Nat.le_of_lt hCl2))) cl2 fun q hq z => ?_
        exact Nat.lt_irrefl _ (Nat.lt_trans (Heap.lt_size (I2.pin q hq).1) (z ▸ hCl2))
      exact codeAny_compStart_list (run _ rfl) (T.self _ 0 _ _ _ st4 (run _ rfl))
    · rw [if_neg csz] at h; exact h.elim
theorem se_comp {n : Nat} (N : List Str) (hi : SIc X F0 H0 tg iter fi) (hno : KeepsNo gf)
    (hg : ∀ s₂ F₂ H₂ C fp, SG (cxD X scope N s₂ H₂ C fp) F₂ H₂ tg gf) (ht : ∀ s₂ F₂ H₂ C fp, Tests (cxD X scope N s₂ H₂ C fp) F₂ H₂ ifs t) (he : ∀ s₂ F₂ H₂ C fp, SE (cxD X scope N s₂ H₂ C fp) F₂ H₂ elt e)
    (hc : X.calm = true := by rfl) (hkind : scope.kind = .function := by rfl) (hcap : capB X.env scope.names = true := by rfl) (hslots : slotsB (relabel scope X.env).names X.N N = true := by rfl) (hlen : N.length = X.N.length + n := by rfl)
    (hnames : ∀ x ∈ scope.names, x.2 = .local → scope.names.lookup x.1 = some .local := by decide +kernel) (hs : ∀ x, foldedSetIterable iter X.env x = pure x := by intro _; rfl) :
    SE X F0 H0 (.ListComp elt [⟨tg, iter, ifs, 0⟩] scope pos) (eComp n fi gf t e) := by
  intro pins s σ F H ρ Q S I h
  rw [eval_ListComp]
  refine comp_core N hi hno hg ht he hc hkind hcap hslots hlen hnames hs S I (h.imp fun w k p C F1 H1 s1 m g q I1 hn turn hC _ _ => ⟨m, hn, fun h' sb => ?_⟩)
  exact k (.ref p) (.ref p) F1 H1 _ g q rfl (turn s1 H1 h' σ I1 hC fun b o hb e => (sb.2 b hb).trans e)
end
end L3
namespace L3
open PySem PySem.Spec PyProof.Rows L2
def intsOf : List D → Option (List Int)
  | [] => some []
  | .int i :: r => (match intsOf r with | some l => some (i :: l) | none => none)
  | _ :: _ => none
def maxL : Int → List Int → Int
  | m, [] => m
  | m, x :: r => maxL (if x > m then x else m) r
theorem intsOf_reps {κ : Kx} {F : Hp} : ∀ {ds : List D} {vs : List V} {ns : List Int}, intsOf ds = some ns → Reps κ F vs ds → vs = ns.map V.int
  | [], vs, ns, h, r => by cases h; exact r
  | d :: ds, vs, ns, h, r => by
    obtain ⟨v, vr, rfl, r1, r2⟩ := r
    cases d <;> first | (cases h; done) | skip
    rename_i i
    unfold intsOf at h
    cases e : intsOf ds with
    | none => rw [e] at h; cases h
    | some l =>
      rw [e] at h
      cases h
      cases (show v = .int i from r1)
      rw [intsOf_reps e r2]
      rfl
section
variable {X : Cx} {F0 H0 : Hp}
end
end L3
namespace L3
open PySem PySem.Spec PyProof.Rows L2
theorem StOk.frz {κ : Kx} {F0 H0 F H : Hp} {ρ : Rho} {σ : St} {i : Nat} {d : D} {a : Addr} (S : StOk κ F0 H0 F H ρ σ) (ei : ρ[i]? = some (some (.ow d))) : ∃ F', Le F F' ∧ StOk κ F0 H0 F' H (ρ.set i (some (.fz d))) σ := by
  obtain ⟨v, si, b, o, rfl, h0, hf, hh, ro⟩ := S.val i _ ei
  have l : Le F (upd F b o) := fun c u h => by rw [upd_ne (ne_of_none h hf)]; exact h
  refine ⟨upd F b o, l, ⟨⟨Le.trans S.gr.f l, S.gr.h, fun c u h => ?_, fun c h => ?_⟩, by simpa using S.len, fun j w e => ?_, fun j k w w' c hjk ej ek oj ok sj sk => ?_, fun j y e => ?_⟩⟩
  · by_cases e : c = b
    · subst e; rw [upd_same] at h; cases h; exact hh
    · rw [upd_ne e] at h; exact S.gr.s c u h
  · by_cases e : c = b
    · subst e; exact .inr (.inl h0)
    · rw [upd_ne e] at h; exact S.gr.n c h
  · rcases set_get e with ⟨rfl, z⟩ | ⟨ne, z⟩
    · cases z
      refine ⟨_, si, ?_⟩
      have r := OwnO.le l ro
      cases o <;> cases d <;> first
        | exact r.elim
        | exact ⟨b, _, rfl, .inl (.inl upd_same), r⟩
        | exact ⟨b, _, rfl, .inl upd_same, r⟩
    · obtain ⟨v, e1, q⟩ := S.val j w z
      refine ⟨v, e1, ?_⟩
      have nb : ∀ {c}, v = .ref c → w.own = true → c ≠ b := fun {c} ev ow ec => by
        subst ev ec
        exact S.sep j i w _ c ne z ei ow rfl e1 si
      cases w with
      | fz d => exact Rep.le l d q
      | br d => obtain ⟨c, oc, ec, eh, cr⟩ := q; exact ⟨c, oc, ec, eh, OwnO.le l cr⟩
      | ow d => obtain ⟨c, oc, ec, c0, cf, ch, cr⟩ := q; exact ⟨c, oc, ec, c0, by rw [upd_ne (nb ec rfl)]; exact cf, ch, OwnO.le l cr⟩
      | lk d => exact ⟨Rep.le l d q.1, RawT.le l q.2⟩
      | od d => obtain ⟨c, oc, ec, c0, cf, ch⟩ := q; exact ⟨c, oc, ec, c0, by rw [upd_ne (nb ec rfl)]; exact cf, ch⟩
  · rcases set_get ej with ⟨_, z⟩ | ⟨nj, ej⟩
    · cases z; cases oj
    rcases set_get ek with ⟨_, z⟩ | ⟨nk, ek⟩
    · cases z; cases ok
    exact S.sep j k w w' c hjk ej ek oj ok sj sk
  · rcases set_get e with ⟨_, z⟩ | ⟨nj, ej⟩
    · cases z
    obtain ⟨s1, c, bs, e1, c0, cf, nd, dp, sp⟩ := S.dp j y ej
    have nb : ∀ x ∈ c :: bs, x ≠ b := fun x m z => by subst z; exact sp i _ _ (Ne.symm nj) ei rfl m si
    refine ⟨fun k z hk ek => ?_, c, bs, e1, c0, by rw [upd_ne (nb c (by simp))]; exact cf, nd, Deep.same (fun _ _ => rfl) (fun x m z => by rw [upd_ne (nb x (List.mem_cons_of_mem _ m))]; exact z) l dp, fun k w x hk ek ok m => ?_⟩
    · rcases set_get ek with ⟨_, q⟩ | ⟨_, q⟩
      · cases q
      · exact s1 k z hk q
    · rcases set_get ek with ⟨_, q⟩ | ⟨_, q⟩
      · cases q; cases ok
      · exact sp k w x hk q ok m
end L3
namespace L3
open PySem PySem.Spec PyProof.Rows L2
def eDK : EF := fun _ => .ok (.ow (.dK []))
def eDT : EF := fun _ => .ok (.ow (.dT []))
section
variable {X : Cx} {F0 H0 : Hp} {pos pos' : Pos}
def dMax2 : List D → R En
  | [.int i, .int j] => okI (if j > i then j else i)
  | _ => .stuck
def eChain (g g' : D → D → R En) (a b c : EF) : EF := fun ρ => (a ρ).bind fun x => (b ρ).bind fun y => (g x.d y.d).bind fun r => (isB r.d).bind fun t => if t = true then (c ρ).bind fun z => g' y.d z.d else okB false
section
variable {a b c : Expr} {fa fb fc : EF} {g g' : D → D → R En} {op op' : CmpOp}
end
def sStuck : SF := fun _ => .stuck
end
end L3
namespace L3
open PySem
theorem comp_gV (i : Nat) {t : TF} {e : EF} (p : D → Bool) (f : D → D) : ∀ (ds : List D) (ρ : Rho),
    (∀ d ∈ ds, t (ρ.set i (some (.fz d))) = .ok (p d) ∧ (p d = true → ∃ w, e (ρ.set i (some (.fz d))) = .ok w ∧ w.st = .ok (f d))) → compD (gV i) t e ds ρ = .ok ((ds.filter p).map f)
  | [], _, _ => rfl
  | d :: ds, ρ, h => by
    obtain ⟨h1, h2⟩ := h d List.mem_cons_self
    have rec_ := comp_gV i (t := t) (e := e) p f ds (ρ.set i (some (.fz d))) fun x hx => by
      rw [List.set_set]
      exact h x (List.mem_cons_of_mem _ hx)
    show (R.bind (t (ρ.set i (some (.fz d)))) fun b => if b = true then (e (ρ.set i (some (.fz d)))).bind fun w => w.st.bind fun y => (compD (gV i) t e ds (ρ.set i (some (.fz d)))).bind fun ys => .ok (y :: ys) else compD (gV i) t e ds (ρ.set i (some (.fz d)))) = _
    rw [h1, R.bind_ok]
    by_cases c : p d = true
    · obtain ⟨w, e1, e2⟩ := h2 c
      rw [if_pos c, e1, R.bind_ok, e2, R.bind_ok, rec_]
      simp [c]
    · rw [if_neg c, rec_]
      simp [c]
theorem comp_all (i : Nat) {e : EF} (f : D → D) (ds : List D) (ρ : Rho) (h : ∀ d ∈ ds, ∃ w, e (ρ.set i (some (.fz d))) = .ok w ∧ w.st = .ok (f d)) : compD (gV i) tTrue e ds ρ = .ok (ds.map f) := by
  have := comp_gV i (t := tTrue) (e := e) (fun _ => true) f ds ρ fun d hd => ⟨rfl, fun _ => h d hd⟩
  rw [this]
  congr 2
  exact List.filter_eq_self.mpr fun _ _ => rfl
theorem ati_nat {α : Type} {xs : List α} {i : Nat} : ati xs (i : Int) = xs[i]? := by
  unfold ati ixn
  rw [if_pos (by omega)]
  by_cases h : i < xs.length
  · rw [if_pos (by omega)]; simp
  · rw [if_neg (by omega)]; simp at h; simp [List.getElem?_eq_none h]
theorem comp_eq {n : Nat} {it : IF} {gf : GF} {t : TF} {e : EF} {ρ : Rho} {ds ys : List D} (h : it ρ = .ok ds) (hl : ds.length ≤ sz) (h2 : compD gf t e ds (cRho n ρ) = .ok ys) : eComp n it gf t e ρ = .ok (.ow (.lst ys)) := by
  unfold eComp
  rw [h, R.bind_ok, if_pos hl, h2, R.bind_ok]
end L3
namespace L3
open PySem
def Out.th (o : Out) (b : SF) : Out := match o with
  | .nx ρ => b ρ
  | o => o
def pickS (a b : SF) (ρ : Rho) (c : Bool) : Out := if c = true then a ρ else b ρ
def pickE (a b : EF) (ρ : Rho) (c : Bool) : R En := if c = true then a ρ else b ρ
def pickT (a b : TF) (ρ : Rho) (c : Bool) : R Bool := if c = true then a ρ else b ρ
def kF : EF := fun _ => okB false
def kT : EF := fun _ => okB true
def kfB : TF := fun _ => .ok false
def ktB : TF := fun _ => .ok true
def varR (o : Option (Option En)) : R En := match o with
  | some (some (.fz d)) => .ok (.fz d)
  | some (some (.ow d)) => .ok (.br d)
  | some (some (.br d)) => .ok (.br d)
  | some (some (.lk d)) => .ok (.fz d)
  | _ => .stuck
def retR (o : Option (Option En)) : Out := match o with
  | some (some (.fz d)) => .rt (.fz d)
  | some (some (.ow d)) => .rt (.ow d)
  | _ => .stuck
def R.b {α β : Type} (r : R α) (f : α → R β) : R β := r.bind f
theorem x_b_ok {α β : Type} {a : α} {f : α → R β} : (R.ok a).b f = f a := rfl
theorem x_b_stuck {α β : Type} {f : α → R β} : (R.stuck : R α).b f = .stuck := rfl
def mkLst (ds : List D) : R En := if ds.length ≤ sz then .ok (.ow (.lst ds)) else .stuck
def mkTup (ds : List D) : R En := if ds.length ≤ sz then .ok (.fz (.tup ds)) else .stuck
theorem mkLst_ok {ds : List D} (h : ds.length ≤ sz) : mkLst ds = .ok (.ow (.lst ds)) := if_pos h
theorem mkTup_ok {ds : List D} (h : ds.length ≤ sz) : mkTup ds = .ok (.fz (.tup ds)) := if_pos h
def En.dd (w : En) : D := w.d
def En.sto (w : En) : R D := w.st
def En.argo (w : En) : R En := w.arg
def En.nmo (w : En) : R En := w.nm
section
variable {a b : SF} {ρ ρ' : Rho} {w : En} {x : Xc} {d : D} {e f : EF} {t u : TF} {i j : Nat} {α β : Type} {k : α → Out} {v : α} {l : List EF}
theorem x_th_nx : Out.th (.nx ρ) b = b ρ := rfl
theorem x_th_rt : Out.th (.rt w) b = .rt w := rfl
theorem x_th_bk : Out.th (.bk ρ) b = .bk ρ := rfl
theorem x_th_ct : Out.th (.ct ρ) b = .ct ρ := rfl
theorem x_th_exc : Out.th (.exc x) b = .exc x := rfl
theorem x_th_stuck : Out.th .stuck b = .stuck := rfl
theorem x_seq : sSeq a b ρ = Out.th (a ρ) b := by unfold sSeq Out.th; cases a ρ <;> rfl
theorem x_of_ok : sOf (.ok v) k = k v := rfl
theorem x_of_stuck : sOf (.stuck : R α) k = .stuck := rfl
theorem x_pickS_t : pickS a b ρ true = a ρ := rfl
theorem x_pickS_f : pickS a b ρ false = b ρ := rfl
theorem x_pickE_t : pickE e f ρ true = e ρ := rfl
theorem x_pickE_f : pickE e f ρ false = f ρ := rfl
theorem x_pickT_t : pickT t u ρ true = t ρ := rfl
theorem x_pickT_f : pickT t u ρ false = u ρ := rfl
theorem x_kF : kF ρ = .ok (.fz (.bl false)) := rfl
theorem x_kT : kT ρ = .ok (.fz (.bl true)) := rfl
theorem x_kfB : kfB ρ = .ok false := rfl
theorem x_ktB : ktB ρ = .ok true := rfl
theorem x_set : sSet i e ρ = sOf ((e ρ).b En.nmo) fun w => .nx (ρ.set i (some w)) := rfl
theorem x_ret : sRet e ρ = sOf ((e ρ).b En.nmo) .rt := rfl
theorem x_retV : sRetV i ρ = retR ρ[i]? := rfl
theorem x_retR_fz : retR (some (some (.fz d))) = .rt (.fz d) := rfl
theorem x_retR_ow : retR (some (some (.ow d))) = .rt (.ow d) := rfl
theorem x_retN : sRetN ρ = .rt (.fz .non) := rfl
theorem x_next : sNext ρ = .nx ρ := rfl
theorem x_break : sBreak ρ = .bk ρ := rfl
theorem x_cont : sCont ρ = .ct ρ := rfl
theorem x_expr : sExpr e ρ = sOf (e ρ) fun _ => .nx ρ := rfl
theorem x_if : sIf t a b ρ = sOf (t ρ) (pickS a b ρ) := rfl
theorem x_nm_fz : En.nmo (.fz d) = .ok (.fz d) := rfl
theorem x_nm_ow : En.nmo (.ow d) = .ok (.ow d) := rfl
theorem x_st_fz : En.sto (.fz d) = .ok d := rfl
theorem x_st_ow : En.sto (.ow d) = .ok d := rfl
theorem x_arg_fz : En.argo (.fz d) = .ok (.fz d) := rfl
theorem x_arg_ow : En.argo (.ow d) = .ok (.fz d) := rfl
theorem x_arg_br : En.argo (.br d) = .ok (.br d) := rfl
theorem x_d_fz : En.dd (.fz d) = d := rfl
theorem x_d_ow : En.dd (.ow d) = d := rfl
theorem x_d_br : En.dd (.br d) = d := rfl
theorem x_d_lk : En.dd (.lk d) = d := rfl
theorem x_var : eVar i ρ = varR ρ[i]? := rfl
theorem x_varR_fz : varR (some (some (.fz d))) = .ok (.fz d) := rfl
theorem x_varR_ow : varR (some (some (.ow d))) = .ok (.br d) := rfl
theorem x_varR_br : varR (some (some (.br d))) = .ok (.br d) := rfl
theorem x_varR_lk : varR (some (some (.lk d))) = .ok (.fz d) := rfl
theorem x_c : eC d ρ = .ok (.fz d) := rfl
theorem x_op {g : D → D → R En} : eOp g e f ρ = (e ρ).b fun x => (f ρ).b fun y => g x.dd y.dd := rfl
theorem x_un {g : D → R En} : eUn g e ρ = (e ρ).b fun x => g x.dd := rfl
theorem x_evs_nil : evs [] ρ = .ok [] := rfl
theorem x_evs : evs (e :: l) ρ = (e ρ).b fun x => (evs l ρ).b fun xs => .ok (x :: xs) := rfl
theorem x_stA_nil : stAll [] = .ok [] := rfl
theorem x_stA {w : En} {ws : List En} : stAll (w :: ws) = w.sto.b fun d => (stAll ws).b fun ds => .ok (d :: ds) := rfl
theorem x_argA_nil : argAll [] = .ok [] := rfl
theorem x_argA {w : En} {ws : List En} : argAll (w :: ws) = w.argo.b fun d => (argAll ws).b fun ds => .ok (d :: ds) := rfl
theorem x_lst : eLst l ρ = (evs l ρ).b fun xs => (stAll xs).b mkLst := rfl
theorem x_tup : eTup l ρ = (evs l ρ).b fun xs => (stAll xs).b mkTup := rfl
theorem x_mkL0 : mkLst [] = .ok (.ow (.lst [])) := mkLst_ok (Nat.le_of_lt (Nat.lt_of_lt_of_le (show [].length < 17 by simp) (by decide)))
theorem x_mkT0 : mkTup [] = .ok (.fz (.tup [])) := mkTup_ok (Nat.le_of_lt (Nat.lt_of_lt_of_le (show [].length < 17 by simp) (by decide)))
theorem x_mkL1 {a0 : D} : mkLst [a0] = .ok (.ow (.lst [a0])) := mkLst_ok (Nat.le_of_lt (Nat.lt_of_lt_of_le (show [a0].length < 17 by simp) (by decide)))
theorem x_mkT1 {a0 : D} : mkTup [a0] = .ok (.fz (.tup [a0])) := mkTup_ok (Nat.le_of_lt (Nat.lt_of_lt_of_le (show [a0].length < 17 by simp) (by decide)))
theorem x_mkL2 {a0 a1 : D} : mkLst [a0, a1] = .ok (.ow (.lst [a0, a1])) := mkLst_ok (Nat.le_of_lt (Nat.lt_of_lt_of_le (show [a0, a1].length < 17 by simp) (by decide)))
theorem x_mkT2 {a0 a1 : D} : mkTup [a0, a1] = .ok (.fz (.tup [a0, a1])) := mkTup_ok (Nat.le_of_lt (Nat.lt_of_lt_of_le (show [a0, a1].length < 17 by simp) (by decide)))
theorem x_mkL3 {a0 a1 a2 : D} : mkLst [a0, a1, a2] = .ok (.ow (.lst [a0, a1, a2])) := mkLst_ok (Nat.le_of_lt (Nat.lt_of_lt_of_le (show [a0, a1, a2].length < 17 by simp) (by decide)))
theorem x_mkT3 {a0 a1 a2 : D} : mkTup [a0, a1, a2] = .ok (.fz (.tup [a0, a1, a2])) := mkTup_ok (Nat.le_of_lt (Nat.lt_of_lt_of_le (show [a0, a1, a2].length < 17 by simp) (by decide)))
theorem x_mkL4 {a0 a1 a2 a3 : D} : mkLst [a0, a1, a2, a3] = .ok (.ow (.lst [a0, a1, a2, a3])) := mkLst_ok (Nat.le_of_lt (Nat.lt_of_lt_of_le (show [a0, a1, a2, a3].length < 17 by simp) (by decide)))
theorem x_mkT4 {a0 a1 a2 a3 : D} : mkTup [a0, a1, a2, a3] = .ok (.fz (.tup [a0, a1, a2, a3])) := mkTup_ok (Nat.le_of_lt (Nat.lt_of_lt_of_le (show [a0, a1, a2, a3].length < 17 by simp) (by decide)))
theorem x_mkL5 {a0 a1 a2 a3 a4 : D} : mkLst [a0, a1, a2, a3, a4] = .ok (.ow (.lst [a0, a1, a2, a3, a4])) := mkLst_ok (Nat.le_of_lt (Nat.lt_of_lt_of_le (show [a0, a1, a2, a3, a4].length < 17 by simp) (by decide)))
theorem x_mkT5 {a0 a1 a2 a3 a4 : D} : mkTup [a0, a1, a2, a3, a4] = .ok (.fz (.tup [a0, a1, a2, a3, a4])) := mkTup_ok (Nat.le_of_lt (Nat.lt_of_lt_of_le (show [a0, a1, a2, a3, a4].length < 17 by simp) (by decide)))
theorem x_mkL6 {a0 a1 a2 a3 a4 a5 : D} : mkLst [a0, a1, a2, a3, a4, a5] = .ok (.ow (.lst [a0, a1, a2, a3, a4, a5])) := mkLst_ok (Nat.le_of_lt (Nat.lt_of_lt_of_le (show [a0, a1, a2, a3, a4, a5].length < 17 by simp) (by decide)))
theorem x_mkL7 {a0 a1 a2 a3 a4 a5 a6 : D} : mkLst [a0, a1, a2, a3, a4, a5, a6] = .ok (.ow (.lst [a0, a1, a2, a3, a4, a5, a6])) := mkLst_ok (Nat.le_of_lt (Nat.lt_of_lt_of_le (show [a0, a1, a2, a3, a4, a5, a6].length < 17 by simp) (by decide)))
theorem x_mkL8 {a0 a1 a2 a3 a4 a5 a6 a7 : D} : mkLst [a0, a1, a2, a3, a4, a5, a6, a7] = .ok (.ow (.lst [a0, a1, a2, a3, a4, a5, a6, a7])) := mkLst_ok (Nat.le_of_lt (Nat.lt_of_lt_of_le (show [a0, a1, a2, a3, a4, a5, a6, a7].length < 17 by simp) (by decide)))
theorem x_mkL9 {a0 a1 a2 a3 a4 a5 a6 a7 a8 : D} : mkLst [a0, a1, a2, a3, a4, a5, a6, a7, a8] = .ok (.ow (.lst [a0, a1, a2, a3, a4, a5, a6, a7, a8])) := mkLst_ok (Nat.le_of_lt (Nat.lt_of_lt_of_le (show [a0, a1, a2, a3, a4, a5, a6, a7, a8].length < 17 by simp) (by decide)))
theorem x_mkL10 {a0 a1 a2 a3 a4 a5 a6 a7 a8 a9 : D} : mkLst [a0, a1, a2, a3, a4, a5, a6, a7, a8, a9] = .ok (.ow (.lst [a0, a1, a2, a3, a4, a5, a6, a7, a8, a9])) := mkLst_ok (Nat.le_of_lt (Nat.lt_of_lt_of_le (show [a0, a1, a2, a3, a4, a5, a6, a7, a8, a9].length < 17 by simp) (by decide)))
theorem x_mkL11 {a0 a1 a2 a3 a4 a5 a6 a7 a8 a9 a10 : D} : mkLst [a0, a1, a2, a3, a4, a5, a6, a7, a8, a9, a10] = .ok (.ow (.lst [a0, a1, a2, a3, a4, a5, a6, a7, a8, a9, a10])) := mkLst_ok (Nat.le_of_lt (Nat.lt_of_lt_of_le (show [a0, a1, a2, a3, a4, a5, a6, a7, a8, a9, a10].length < 17 by simp) (by decide)))
theorem x_mkL12 {a0 a1 a2 a3 a4 a5 a6 a7 a8 a9 a10 a11 : D} : mkLst [a0, a1, a2, a3, a4, a5, a6, a7, a8, a9, a10, a11] = .ok (.ow (.lst [a0, a1, a2, a3, a4, a5, a6, a7, a8, a9, a10, a11])) := mkLst_ok (Nat.le_of_lt (Nat.lt_of_lt_of_le (show [a0, a1, a2, a3, a4, a5, a6, a7, a8, a9, a10, a11].length < 17 by simp) (by decide)))
theorem x_mkL13 {a0 a1 a2 a3 a4 a5 a6 a7 a8 a9 a10 a11 a12 : D} : mkLst [a0, a1, a2, a3, a4, a5, a6, a7, a8, a9, a10, a11, a12] = .ok (.ow (.lst [a0, a1, a2, a3, a4, a5, a6, a7, a8, a9, a10, a11, a12])) := mkLst_ok (Nat.le_of_lt (Nat.lt_of_lt_of_le (show [a0, a1, a2, a3, a4, a5, a6, a7, a8, a9, a10, a11, a12].length < 17 by simp) (by decide)))
theorem x_mkL14 {a0 a1 a2 a3 a4 a5 a6 a7 a8 a9 a10 a11 a12 a13 : D} : mkLst [a0, a1, a2, a3, a4, a5, a6, a7, a8, a9, a10, a11, a12, a13] = .ok (.ow (.lst [a0, a1, a2, a3, a4, a5, a6, a7, a8, a9, a10, a11, a12, a13])) := mkLst_ok (Nat.le_of_lt (Nat.lt_of_lt_of_le (show [a0, a1, a2, a3, a4, a5, a6, a7, a8, a9, a10, a11, a12, a13].length < 17 by simp) (by decide)))
theorem x_mkL15 {a0 a1 a2 a3 a4 a5 a6 a7 a8 a9 a10 a11 a12 a13 a14 : D} : mkLst [a0, a1, a2, a3, a4, a5, a6, a7, a8, a9, a10, a11, a12, a13, a14] = .ok (.ow (.lst [a0, a1, a2, a3, a4, a5, a6, a7, a8, a9, a10, a11, a12, a13, a14])) := mkLst_ok (Nat.le_of_lt (Nat.lt_of_lt_of_le (show [a0, a1, a2, a3, a4, a5, a6, a7, a8, a9, a10, a11, a12, a13, a14].length < 17 by simp) (by decide)))
theorem x_mkL16 {a0 a1 a2 a3 a4 a5 a6 a7 a8 a9 a10 a11 a12 a13 a14 a15 : D} : mkLst [a0, a1, a2, a3, a4, a5, a6, a7, a8, a9, a10, a11, a12, a13, a14, a15] = .ok (.ow (.lst [a0, a1, a2, a3, a4, a5, a6, a7, a8, a9, a10, a11, a12, a13, a14, a15])) := mkLst_ok (Nat.le_of_lt (Nat.lt_of_lt_of_le (show [a0, a1, a2, a3, a4, a5, a6, a7, a8, a9, a10, a11, a12, a13, a14, a15].length < 17 by simp) (by decide)))
theorem x_call {dn : Den} : eCall dn l ρ = (evs l ρ).b fun xs => (argAll xs).b fun ys => dn ys := rfl
theorem x_B {g : List D → R En} : eB g l ρ = (evs l ρ).b fun xs => g (xs.map En.dd) := rfl
theorem x_tE : tE e ρ = (e ρ).b fun x => truth x.dd := rfl
theorem x_tNot : tNot t ρ = (t ρ).b fun b => .ok (!b) := rfl
theorem x_tAnd : tAnd t u ρ = (t ρ).b (pickT u kfB ρ) := rfl
theorem x_tOr : tOr t u ρ = (t ρ).b (pickT ktB u ρ) := rfl
theorem x_eNot : eNot e ρ = (e ρ).b fun x => (isB x.dd).b fun b => .ok (.fz (.bl (!b))) := rfl
theorem x_eAnd : eAnd e f ρ = (e ρ).b fun x => (isB x.dd).b (pickE f kF ρ) := rfl
theorem x_eOr : eOr e f ρ = (e ρ).b fun x => (isB x.dd).b (pickE kT f ρ) := rfl
theorem x_eIf : eIf t e f ρ = (t ρ).b (pickE e f ρ) := rfl
theorem x_isB {c : Bool} : isB (.bl c) = .ok c := rfl
theorem x_truth_bl {c : Bool} : truth (.bl c) = .ok c := rfl
theorem x_truth_int {c : Int} : truth (.int c) = .ok (c != 0) := rfl
theorem x_truth_lst {c : List D} : truth (.lst c) = .ok (!c.isEmpty) := rfl
theorem x_truth_tup {c : List D} : truth (.tup c) = .ok (!c.isEmpty) := rfl
theorem x_truth_non : truth .non = .ok false := rfl
theorem x_for {it : IF} {g : GF} : sFor it g a ρ = sOf (it ρ) fun xs => forD g a xs ρ := rfl
theorem x_add {i j : Int} : dAddI (.int i) (.int j) = .ok (.fz (.int (i + j))) := rfl
theorem x_sub {i j : Int} : dSub (.int i) (.int j) = .ok (.fz (.int (i - j))) := rfl
theorem x_lt {i j : Int} : dLt (.int i) (.int j) = .ok (.fz (.bl (decide (i < j)))) := rfl
theorem x_le {i j : Int} : dLe (.int i) (.int j) = .ok (.fz (.bl (decide (i ≤ j)))) := rfl
theorem x_gt {i j : Int} : dGt (.int i) (.int j) = .ok (.fz (.bl (decide (j < i)))) := rfl
theorem x_ge {i j : Int} : dGe (.int i) (.int j) = .ok (.fz (.bl (decide (j ≤ i)))) := rfl
theorem x_eq {i j : Int} : dEq (.int i) (.int j) = .ok (.fz (.bl (i == j))) := rfl
theorem x_ne {i j : Int} : dNe (.int i) (.int j) = .ok (.fz (.bl (!(i == j)))) := rfl
theorem x_neg {i : Int} : dNeg (.int i) = .ok (.fz (.int (-i))) := rfl
theorem x_mod {i j : Int} (h : 0 < j) : dMod (.int i) (.int j) = .ok (.fz (.int (i % j))) := by unfold dMod; dsimp only; rw [if_pos h]
theorem x_mulr {i j : Int} (h1 : -1000000000000 < j) (h2 : j < 1000000000000) : dMul (.int i) (.int j) = .ok (.fz (.int (i * j))) := by
  unfold dMul; dsimp only; rw [if_pos]; rw [Bool.or_eq_true]; exact .inr (fits_iff.mpr (by rw [b64e]; omega))
theorem x_mull {i j : Int} (h1 : -1000000000000 < i) (h2 : i < 1000000000000) : dMul (.int i) (.int j) = .ok (.fz (.int (i * j))) := by
  unfold dMul; dsimp only; rw [if_pos]; rw [Bool.or_eq_true]; exact .inl (fits_iff.mpr (by rw [b64e]; omega))
theorem x_len_l {xs : List D} : dLenS [.lst xs] = .ok (.fz (.int xs.length)) := rfl
theorem x_len_t {xs : List D} : dLenS [.tup xs] = .ok (.fz (.int xs.length)) := rfl
theorem x_list_l {xs : List D} : dList [.lst xs] = .ok (.ow (.lst xs)) := rfl
theorem x_list_t {xs : List D} : dList [.tup xs] = .ok (.ow (.lst xs)) := rfl
theorem x_tuple_l {xs : List D} : dTuple [.lst xs] = .ok (.fz (.tup xs)) := rfl
theorem x_tuple_t {xs : List D} : dTuple [.tup xs] = .ok (.fz (.tup xs)) := rfl
theorem x_min {i j : Int} : dMin2 [.int i, .int j] = .ok (.fz (.int (if j < i then j else i))) := rfl
theorem x_max {i j : Int} : dMax2 [.int i, .int j] = .ok (.fz (.int (if j > i then j else i))) := rfl
theorem x_ix_l {xs : List D} {i : Int} : dIxS (.lst xs) (.int i) = okD (ati xs i) := rfl
theorem x_ix_t {xs : List D} {i : Int} : dIxS (.tup xs) (.int i) = okD (ati xs i) := rfl
theorem x_ati0 {d : D} {r : List D} : okD (ati (d :: r) 0) = .ok (.fz d) := by
  rw [show (0 : Int) = ((0 : Nat) : Int) from rfl, ati_nat]; rfl
theorem x_ati1 {c d : D} {r : List D} : okD (ati (c :: d :: r) 1) = .ok (.fz d) := by
  rw [show (1 : Int) = ((1 : Nat) : Int) from rfl, ati_nat]; rfl
theorem x_ati2 {b c d : D} {r : List D} : okD (ati (b :: c :: d :: r) 2) = .ok (.fz d) := by
  rw [show (2 : Int) = ((2 : Nat) : Int) from rfl, ati_nat]; rfl
theorem x_ati3 {a b c d : D} {r : List D} : okD (ati (a :: b :: c :: d :: r) 3) = .ok (.fz d) := by
  rw [show (3 : Int) = ((3 : Nat) : Int) from rfl, ati_nat]; rfl
theorem x_okD {d : D} : okD (some d) = .ok (.fz d) := rfl
theorem x_is_int {n : Int} : dIs .int (.int n) = .ok (.fz (.bl true)) := rfl
theorem x_is_bool {n : Int} : dIs .bool (.int n) = .ok (.fz (.bl false)) := rfl
theorem x_is_list {n : List D} : dIs .list (.lst n) = .ok (.fz (.bl true)) := rfl
theorem x_is_tuple {n : List D} : dIs .tuple (.tup n) = .ok (.fz (.bl true)) := rfl
theorem x_stuck : sStuck ρ = .stuck := rfl
theorem x_gV : gV i d ρ = .ok (ρ.set i (some (.fz d))) := rfl
theorem x_dK : eDK ρ = .ok (.ow (.dK [])) := rfl
theorem x_dT : eDT ρ = .ok (.ow (.dT [])) := rfl
theorem x_den {n : Nat} {ws : List En} : den n a ws = fin (a (ws.map some ++ List.replicate (n - ws.length) none)) := rfl
theorem x_fin_rt : fin (.rt w) = .ok w := rfl
theorem x_fin_nx : fin (.nx ρ) = .ok (.fz .non) := rfl
theorem x_iR {e : EF} {ρ : Rho} {j : Int} (h : e ρ = .ok (.fz (.int j))) (c : fits b62 j = true) : iR1 e ρ = .ok (rngD 0 j.toNat) := by
  unfold iR1
  rw [h, R.bind_ok]
  dsimp only [En.d]
  rw [if_pos c]
theorem x_iR1 {e : EF} {ρ : Rho} {n : Nat} (h : e ρ = .ok (.fz (.int n))) (hn : n < 1000000) : iR1 e ρ = .ok (rngD 0 n) := by
  rw [x_iR h (fits_iff.mpr (by rw [b62e]; omega)), Int.toNat_natCast]
theorem x_app {xs : List D} {i : Nat} (h : ρ[i]? = some (some (.ow (.lst xs)))) (hl : xs.length < sz) (h2 : (e ρ).b En.sto = .ok d) : sApp i e ρ = .nx (ρ.set i (some (.ow (.lst (xs ++ [d]))))) := by
  unfold sApp; have h2 : (e ρ).bind En.st = .ok d := h2
  rw [h]; dsimp only; rw [h2]; unfold sOf; dsimp only; rw [if_pos hl]
theorem deq_self : ∀ (n : Nat) (d : D), eqokN n d = true → deq d d = true
  | _, .non, _ => rfl
  | _, .bl _, _ => by simp [deq]
  | _, .int _, _ => by simp [deq]
  | _, .str _, _ => by simp [deq]
  | 0, .tup _, h => by simp [eqokN] at h
  | 0, .lst _, h => by simp [eqokN] at h
  | n + 1, .tup xs, h => by
    have k : ∀ ys : List D, ys.all (eqokN n) = true → deqs ys ys = true := by
      intro ys
      induction ys with
      | nil => intro _; rfl
      | cons y ys ih =>
        intro hy
        rw [List.all_cons, Bool.and_eq_true] at hy
        show (deq y y && deqs ys ys) = true
        rw [deq_self n y hy.1, ih hy.2]; rfl
    exact k xs h
  | n + 1, .lst xs, h => by
    have k : ∀ ys : List D, ys.all (eqokN n) = true → deqs ys ys = true := by
      intro ys
      induction ys with
      | nil => intro _; rfl
      | cons y ys ih =>
        intro hy
        rw [List.all_cons, Bool.and_eq_true] at hy
        show (deq y y && deqs ys ys) = true
        rw [deq_self n y hy.1, ih hy.2]; rfl
    exact k xs h
  | n, .dK _, h => by cases n <;> simp [eqokN] at h
  | n, .dT _, h => by cases n <;> simp [eqokN] at h
  | n, .xc _ _, h => by cases n <;> simp [eqokN] at h
theorem x_ne_self (h : eqok d = true) : dNe d d = .ok (.fz (.bl false)) := by
  unfold dNe; rw [h, deq_self 8 d h]; rfl
theorem eqok_lst {xs : List D} (h : ∀ x ∈ xs, eqokN 7 x = true) : eqok (.lst xs) = true := by
  show xs.all (eqokN 7) = true
  exact List.all_eq_true.mpr h
theorem x_asg {gf : GF} : sAsg gf e ρ = sOf ((e ρ).b fun w => w.sto.b fun d => gf d ρ) .nx := rfl
theorem x_gT {is : List Nat} {ds : List D} : gT is (.tup ds) ρ = gVs is ds ρ := rfl
theorem x_gVs0 : gVs [] [] ρ = .ok ρ := rfl
theorem x_gVs {is : List Nat} {ds : List D} : gVs (i :: is) (d :: ds) ρ = gVs is ds (ρ.set i (some (.fz d))) := rfl
end
end L3
namespace L3
open PySem PySem.Spec PyProof.Rows L2
section
variable {prog : Program} {w : World} {A : Around} {E : Value → Shared → Prop} {s : Shared} {kd : SortKind} {rk : Value → Int} {ini : Array Keyed}
def av (rk : Value → Int) (xs : Array Keyed) (i : Nat) : Int := match xs[i]? with
  | some p => rk p.1
  | none => 0
structure Mid (kd : SortKind) (ini : Array Keyed) (st : SortSt) : Prop where
  pm : (arrOf st).Perm ini
  kd : kindOf st = kd
  fl : failedOf st = none
  pd : pendingOf st = #[]
theorem Mid.sz {st : SortSt} (m : Mid kd ini st) : (arrOf st).size = ini.size := m.pm.size_eq
theorem Mid.put {st : SortSt} (m : Mid kd ini st) {xs : Array Keyed} (p : xs.Perm (arrOf st)) : Mid kd ini (setArr st xs) := ⟨p.trans m.pm, m.kd, m.fl, m.pd⟩
structure Tells (prog : Program) (w : World) (A : Around) (s : Shared) (kd : SortKind) (rk : Value → Int) (ini : Array Keyed) : Prop where
  lt : ∀ p ∈ ini.toList, ∀ q ∈ ini.toList, ∀ (E : Value → Shared → Prop) (Q : Bool → Shared → Prop), Q (decide (rk p.1 < rk q.1)) s → wpAny (model prog w) A (keyLt' kd p.1 q.1) Q E s
  nd : (ini.toList.map fun p => rk p.1).Nodup
theorem Mid.get {st : SortSt} (m : Mid kd ini st) {i : Nat} (hi : i < ini.size) : ∃ p, (arrOf st)[i]? = some p ∧ p ∈ ini.toList ∧ av rk (arrOf st) i = rk p.1 := by
  have h : i < (arrOf st).size := by rw [m.sz]; exact hi
  have e : (arrOf st)[i]? = some (arrOf st)[i] := getElem?_pos _ i h
  refine ⟨(arrOf st)[i], e, ?_, ?_⟩
  · exact (Array.perm_iff_toList_perm.mp m.pm).mem_iff.mp (by simp)
  · unfold av; rw [e]
theorem Mid.ne {st : SortSt} (T : Tells prog w A s kd rk ini) (m : Mid kd ini st) {i j : Nat} (hi : i < ini.size) (hj : j < ini.size) (h : i ≠ j) : av rk (arrOf st) i ≠ av rk (arrOf st) j := by
  have hp := (Array.perm_iff_toList_perm.mp m.pm).map fun p => rk p.1
  have nd := hp.nodup_iff.mpr T.nd
  have li : i < ((arrOf st).toList.map fun p => rk p.1).length := by simp; rw [m.sz]; exact hi
  have lj : j < ((arrOf st).toList.map fun p => rk p.1).length := by simp; rw [m.sz]; exact hj
  have key : ∀ k, (hk : k < ((arrOf st).toList.map fun p => rk p.1).length) → av rk (arrOf st) k = ((arrOf st).toList.map fun p => rk p.1)[k] := fun k hk => by
    have hk' : k < (arrOf st).size := by simpa using hk
    unfold av
    rw [getElem?_pos _ k hk']
    simp
  rw [key i li, key j lj]
  intro z
  exact h ((List.getElem_inj nd).mp z)
abbrev Up (rk : Value → Int) (st : SortSt) (k : Nat) : Prop := ∀ i j, i ≤ j → j < k → av rk (arrOf st) i ≤ av rk (arrOf st) j
abbrev Dn (rk : Value → Int) (st : SortSt) (k : Nat) : Prop := ∀ i j, i ≤ j → j < k → av rk (arrOf st) j ≤ av rk (arrOf st) i
theorem Up.one (st : SortSt) : Up rk st 1 := fun i j h1 h2 => by
  have : i = j := by omega
  subst this
  exact Int.le_refl _
theorem Up.more {st : SortSt} {x : Nat} (u : Up rk st x) (h : av rk (arrOf st) (x - 1) ≤ av rk (arrOf st) x) : Up rk st (x + 1) := fun i j h1 h2 => by
  by_cases c : j < x
  · exact u i j h1 c
  · have ej : j = x := by omega
    subst ej
    by_cases ci : i = j
    · subst ci; exact Int.le_refl _
    · exact Int.le_trans (u i (j - 1) (by omega) (by omega)) h
theorem Dn.more {st : SortSt} {x : Nat} (u : Dn rk st x) (h : av rk (arrOf st) x ≤ av rk (arrOf st) (x - 1)) : Dn rk st (x + 1) := fun i j h1 h2 => by
  by_cases c : j < x
  · exact u i j h1 c
  · have ej : j = x := by omega
    subst ej
    by_cases ci : i = j
    · subst ci; exact Int.le_refl _
    · exact Int.le_trans h (u i (j - 1) (by omega) (by omega))
end
end L3
namespace L3
open PySem PySem.Spec PyProof.Rows L2
section
variable {prog : Program} {w : World} {A : Around} {E : Value → Shared → Prop} {s : Shared}
def rowV (h : Heap) : Value → List Int
  | .ref a => (match h.get? a with
    | some o => (match o.data with | .seq its _ => numsOf its.toList | _ => [])
    | none => [])
  | _ => []
def Rows (h : Heap) (vs : List Value) : Prop := ∀ v ∈ vs, ∃ a its ns, v = .ref a ∧ IsTup h a (its : List Value).toArray ∧ IntsAre its (ns : List Int) ∧ ns ≠ []
theorem rowV_is {h : Heap} {a : Addr} {its : List Value} {ns : List Int} (p : IsTup h a its.toArray) (q : IntsAre its ns) : rowV h (.ref a) = ns := by
  obtain ⟨o, e, c, n, d⟩ := p
  unfold rowV
  dsimp only
  rw [e]
  dsimp only
  rw [d]
  exact q.numsOf
theorem Rows.stay {h h' : Heap} {vs : List Value} (R : Rows h vs) (k : ∀ b o, h.get? b = some o → h'.get? b = some o) : Rows h' vs ∧ ∀ v ∈ vs, rowV h' v = rowV h v := by
  have go : ∀ v ∈ vs, ∃ a its ns, v = .ref a ∧ IsTup h a (its : List Value).toArray ∧ IsTup h' a its.toArray ∧ IntsAre its (ns : List Int) ∧ ns ≠ [] := fun v hv => by
    obtain ⟨a, its, ns, e, p, q, n⟩ := R v hv
    obtain ⟨o, e2, c⟩ := p
    exact ⟨a, its, ns, e, ⟨o, e2, c⟩, ⟨o, k _ _ e2, c⟩, q, n⟩
  refine ⟨fun v hv => ?_, fun v hv => ?_⟩
  · obtain ⟨a, its, ns, e, _, p, q, n⟩ := go v hv
    exact ⟨a, its, ns, e, p, q, n⟩
  · obtain ⟨a, its, ns, rfl, p, p', q, n⟩ := go v hv
    rw [rowV_is p q, rowV_is p' q]
end
end L3
namespace L3
open PySem PySem.Spec PyProof.Rows L2
section
variable {prog : Program} {w : World} {A : Around} {E : Value → Shared → Prop} {s : Shared}
end
def rowD (r : List Int) : D := .tup (r.map .int)
def rowsOf : List D → Option (List (List Int))
  | [] => some []
  | .tup xs :: r => (match intsOf xs, rowsOf r with | some a, some b => some (a :: b) | _, _ => none)
  | _ :: _ => none
theorem rows_rep {X : Cx} {pins : List (Addr × Obj)} {σ : St} {F H : Hp} {s : Shared} (I : Inv X pins σ H s) (l : Le F H) : ∀ {ds : List D} {rs : List (List Int)} {vs : List V} {us : List Value}, rowsOf ds = some rs → Reps (kx X) F vs ds → Vals vs us →
    us.map (rowV s.heap) = rs ∧ ∀ u ∈ us, ∃ a its ns, u = .ref a ∧ IsTup s.heap a (its : List Value).toArray ∧ IntsAre its ns ∧ Rep (kx X) F (.ref a) (rowD ns) ∧ ns ∈ rs
  | [], rs, vs, us, h, r, q => by
    cases h
    cases (show vs = [] from r)
    cases q
    exact ⟨rfl, fun u hu => by simp at hu⟩
  | d :: ds, rs, vs, us, h, r, q => by
    obtain ⟨v, vr, rfl, r1, r2⟩ := r
    cases d <;> first | (cases h; done) | skip
    rename_i xs
    unfold rowsOf at h
    cases e1 : intsOf xs with
    | none => rw [e1] at h; cases h
    | some ns =>
      cases e2 : rowsOf ds with
      | none => rw [e1, e2] at h; cases h
      | some rs' =>
        rw [e1, e2] at h
        cases h
        cases q with
        | cons q1 q2 =>
          obtain ⟨m, k⟩ := rows_rep I l e2 r2 q2
          obtain ⟨a, ws, rfl, hq, rw'⟩ := id r1
          cases (show _ = Value.ref a from q1)
          have ev := intsOf_reps e1 rw'
          subst ev
          obtain ⟨its, rv, ht, _⟩ := I.tuple (SqT.le l hq)
          have hi : IntsAre its ns := intsAre_of rv
          have rep : Rep (kx X) F (.ref a) (rowD ns) := by
            refine ⟨a, _, rfl, hq, ?_⟩
            exact reps_ints ns
          refine ⟨by rw [List.map_cons, m, rowV_is ht hi], fun u hu => ?_⟩
          rcases List.mem_cons.mp hu with rfl | hu
          · exact ⟨a, its, ns, rfl, ht, hi, rep, List.mem_cons_self⟩
          · obtain ⟨a', its', ns', e, p1, p2, p3, p4⟩ := k u hu
            exact ⟨a', its', ns', e, p1, p2, p3, List.mem_cons_of_mem _ p4⟩
section
variable {X : Cx} {F0 H0 : Hp}
end
def cutD {α : Type} (xs : List α) (lo hi : Option Int) : List α := (xs.drop (HT.sIx xs.length 0 lo)).take (HT.sIx xs.length xs.length hi - HT.sIx xs.length 0 lo)
def dSl : D → Option Int → Option Int → R En
  | .lst xs, lo, hi => .ok (.ow (.lst (cutD xs lo hi)))
  | .tup xs, lo, hi => if HT.sIx xs.length 0 lo = 0 ∧ HT.sIx xs.length xs.length hi = xs.length then .stuck else .ok (.fz (.tup (cutD xs lo hi)))
  | _, _, _ => .stuck
abbrev OF := Rho → R (Option Int)
def oNo : OF := fun _ => .ok none
def isI : D → R (Option Int)
  | .int i => .ok (some i)
  | _ => .stuck
def oE (e : EF) : OF := fun ρ => (e ρ).bind fun w => isI w.d
def eSl (a : EF) (lo hi : OF) : EF := fun ρ => (a ρ).bind fun x => (lo ρ).bind fun l => (hi ρ).bind fun u => dSl x.d l u
theorem Reps.take {κ : Kx} {F : Hp} : ∀ (n : Nat) {ds : List D} {vs : List V}, Reps κ F vs ds → Reps κ F (vs.take n) (ds.take n)
  | 0, _, _, _ => rfl
  | n + 1, [], _, h => by cases (show _ = _ from h); rfl
  | n + 1, d :: ds, _, h => by
    obtain ⟨v, r, rfl, h1, h2⟩ := h
    exact ⟨v, r.take n, rfl, h1, Reps.take n h2⟩
theorem Reps.drop {κ : Kx} {F : Hp} : ∀ (n : Nat) {ds : List D} {vs : List V}, Reps κ F vs ds → Reps κ F (vs.drop n) (ds.drop n)
  | 0, _, _, h => h
  | n + 1, [], _, h => by cases (show _ = _ from h); rfl
  | n + 1, d :: ds, _, h => by
    obtain ⟨v, r, rfl, h1, h2⟩ := h
    exact Reps.drop n h2
theorem Reps.cut {κ : Kx} {F : Hp} {ds : List D} {vs : List V} (h : Reps κ F vs ds) (lo hi : Option Int) : Reps κ F (cutV vs lo hi) (cutD ds lo hi) := by
  unfold cutV cutD
  rw [Reps.length h]
  exact Reps.take _ (Reps.drop _ h)
section
variable {X : Cx} {F0 H0 : Hp} {pos p2 : Pos}
def SO (X : Cx) (F0 H0 : Hp) (e : Option Expr) (f : OF) : Prop :=
  ∃ t, PO X e t ∧ ∀ (σ : St) (F H : Hp) (ρ : Rho) (Q : Option Int → Hp → Prop), StOk (kx X) F0 H0 F H ρ σ → KE (XP X F0 H0) (f ρ) (fun o => ∀ F' H', Gr F H F' H' → Q o H') → t σ H Q
theorem so_some {e : Expr} {f : EF} (he : SE X F0 H0 e f) : SO X F0 H0 (some e) (oE f) :=
  ⟨_, po_some (pe_sem (e := e)), fun σ F H ρ Q S h => he.sem S ((KE.bind h).imp fun w k v F1 H1 g q => by
    have r := Vok.rd q
    revert k r
    generalize w.d = d
    intro k r
    cases d <;> first | exact k.elim | skip
    exact ⟨_, RdV.int r, k F1 H1 g⟩)⟩
theorem se_slice {e : Expr} {lo hi : Option Expr} {f : EF} {fl fh : OF} (he : SE X F0 H0 e f) (hl : SO X F0 H0 lo fl) (hh : SO X F0 H0 hi fh) : SE X F0 H0 (.Subscript e (.Slice lo hi none p2) pos) (eSl f fl fh) := by
  intro pins s σ F H ρ Q S I h
  obtain ⟨tl, pl, kl⟩ := hl
  obtain ⟨th, ph, kh⟩ := hh
  refine ep_end (pe_slice (p2 := p2) (pos := pos) (SlR.or sl_list sl_tup) (pe_sem (e := e)) pl ph pins s σ H (fun v H' => ∀ u s', RelV v u → Inv X pins σ H' s' → Q u s') I ?_)
  refine he.sem S ((KE.bind h).imp fun w h1 v F1 H1 g1 q1 => ?_)
  refine kl σ F1 H1 ρ _ (S.grow g1) ((KE.bind h1).imp fun o1 h2 F2 H2 g2 => ?_)
  refine kh σ F2 H2 ρ _ (S.grow (g1.trans g2)) ((KE.bind h2).imp fun o2 h3 F3 H3 g3 => ?_)
  have r := RdV.gr (g2.trans g3) (Vok.rd q1)
  have g := g1.trans (g2.trans g3)
  have wish := wish_end g h3
  revert wish r
  generalize w.d = d
  intro r wish
  cases d <;> first | exact wish.elim | skip
  · rename_i ds
    obtain ⟨a, vs, rfl, hq, _, rs⟩ := RdV.tup g3.s r
    unfold dSl at wish
    dsimp only at wish
    by_cases c : HT.sIx ds.length 0 o1 = 0 ∧ HT.sIx ds.length ds.length o2 = ds.length
    · rw [if_pos c] at wish; exact wish.elim
    · rw [if_neg c] at wish
      refine .inr ⟨a, vs, rfl, hq, by rw [Reps.length rs]; exact c, fun p hp => ?_⟩
      have gn := Gr.newF (o := .tup (cutV vs o1 o2)) g3.s hp
      exact wish (.ref p) _ _ gn ⟨p, _, rfl, .inl (.inl upd_same), Reps.le gn.f _ (Reps.cut rs o1 o2)⟩
  · rename_i ds
    obtain ⟨a, vs, rfl, hq, rs⟩ := RdV.lst g3.s r
    refine .inl ⟨a, vs, rfl, hq, fun p hp => ?_⟩
    exact wish (.ref p) _ _ (Gr.new g3.s hp) ⟨p, _, rfl, hp, Le.none g3.s hp, upd_same, Reps.cut rs o1 o2⟩
def sSetI (i : Nat) (k e : EF) : SF := fun ρ => match ρ[i]? with
  | some (some (.ow (.lst xs))) => sOf ((e ρ).bind En.st) fun d => sOf ((k ρ).bind fun q => isI q.d) fun j => match ixn xs.length (j.getD 0) with
    | some n => .nx (ρ.set i (some (.ow (.lst (xs.set n d)))))
    | none => .stuck
  | _ => .stuck
theorem Reps.set {κ : Kx} {F : Hp} {v : V} {d : D} (h : Rep κ F v d) : ∀ (n : Nat) {ds : List D} {vs : List V}, Reps κ F vs ds → Reps κ F (vs.set n v) (ds.set n d)
  | _, [], _, h2 => by cases (show _ = _ from h2); rfl
  | 0, _ :: ds, _, h2 => by
    obtain ⟨u, r, rfl, h3, h4⟩ := h2
    exact ⟨v, r, rfl, h, h4⟩
  | n + 1, _ :: ds, _, h2 => by
    obtain ⟨u, r, rfl, h3, h4⟩ := h2
    exact ⟨u, r.set n v, rfl, h3, Reps.set h n h4⟩
theorem ss_setI (i : Nat) {x : Str} {np pos' : Pos} {k e : Expr} {fk fe : EF} (hk : SE X F0 H0 k fk) (he : SE X F0 H0 e fe) (hN : X.N[i]? = some x := by rfl) (hv : Vis X.env.scope x := by first | exact Or.inl rfl | exact Or.inr (Or.inl rfl) | exact Or.inr (Or.inr rfl)) (hd : (x == ("__debug__" : Str)) = false := by decide)
    (hcd : (x == ("__classdict__" : Str)) = false := by decide)
    (ha : ∀ v, assign (.Subscript (.Name x np) k pos') X.env v = (do
      let ov ← holding [v] (eval (.Name x np) X.env); let iv ← holding [v, ov] (eval k X.env); standAt pos'; holding [v, ov, iv] (setItem ov iv v); release [v, ov, iv] []) := by intro _; rfl)
    (hs : swapsWithSole [.Subscript (.Name x np) k pos'] e pos.line X.env = pure false := by rfl) (hw : swappedStores [.Subscript (.Name x np) k pos'] e X.env = pure none := by rfl)
    (h1 : (assignEach [.Subscript (.Name x np) k pos'] X.env).map (·.2) = [assign (.Subscript (.Name x np) k pos') X.env] := by rfl) :
    SS X F0 H0 (.Assign [.Subscript (.Name x np) k pos'] e pos) (sSetI i fk fe) := by
  intro pins s σ F H ρ D S I h
  unfold sSetI at h
  cases ew : ρ[i]? with
  | none => rw [ew] at h; exact h.elim
  | some w =>
    rw [ew] at h
    cases w with
    | none => exact h.elim
    | some w =>
      cases w with
      | fz d => exact h.elim
      | br d => exact h.elim
      | lk d => exact h.elim
      | od d => exact h.elim
      | ow d =>
        cases d <;> first | exact h.elim | skip
        rename_i ds
        have h := KE.bind (PostS.of h)
        obtain ⟨v, e1, a, o, rfl, h0, hf, hh, ro⟩ := S.val i _ ew
        cases o <;> first | exact ro.elim | skip
        rename_i vs
        refine ps_asg (pos := pos) (pe_sem (e := e)) (pg_sub (pos := pos') (pe_var (pos := np) hN hv hd hcd) (pe_sem (e := k)) set_list ha) hs hw h1 pins s σ H D I (he.sem S (h.imp fun w k1 y F1 H1 g1 q1 => ?_))
        cases es : w.st with
        | exc x => rw [es] at k1; exact k1.elim
        | stuck => rw [es] at k1; exact k1.elim
        | ok d =>
          rw [es] at k1
          have ry := Vok.st S.s g1 q1 es
          obtain ⟨g2, _⟩ := fzAll_gr S.s g1
          have S2 := S.grow g2
          refine ⟨_, e1, hk.sem S2 ((KE.bind (PostS.of (show PostS X F0 H0 F D _ from k1))).imp fun wk k2 y2 F3 H3 g3 q3 => ?_)⟩
          have r := Vok.rd q3
          revert k2 r
          generalize wk.d = dk
          intro k2 r
          cases dk <;> first | exact k2.elim | skip
          rename_i j
          have k2 : PostS X F0 H0 F D (match ixn ds.length j with | some n => .nx (ρ.set i (some (.ow (.lst (ds.set n d))))) | none => .stuck) := k2
          cases ej : ixn ds.length j with
          | none => rw [ej] at k2; exact k2.elim
          | some n =>
            rw [ej] at k2
            refine ⟨a, vs, j, n, rfl, RdV.int r, g3.h _ _ (g1.h _ _ hh), by rw [Reps.length ro]; exact ej, ?_⟩
            refine k2 σ _ _ (Le.trans g2.f g3.f) ((S2.grow g3).mut ew e1 (o := .lst (vs.set n y)) ?_)
            exact Reps.set (Rep.le g3.f _ ry) n (Reps.le (Le.trans g2.f g3.f) _ ro)
def dAddA : D → D → R En
  | .int i, .int j => okI (i + j)
  | .lst xs, .lst ys => if xs.length + ys.length ≤ sz then .ok (.ow (.lst (xs ++ ys))) else .stuck
  | .tup xs, .tup ys => if xs.length + ys.length ≤ sz ∧ xs ≠ [] ∧ ys ≠ [] then .ok (.fz (.tup (xs ++ ys))) else .stuck
  | _, _ => .stuck
theorem od_addA : OpD X (binaryOp .Add) dAddA := by
  intro pins s σ F H x y v u dx dy Q I l rx ry qx qy w
  cases dx <;> first | exact w.elim | skip
  · cases dy <;> first | exact w.elim | skip
    exact od_addI pins s σ F H x y v u _ _ Q I l rx ry qx qy w
  · rename_i xs
    cases dy <;> first | exact w.elim | skip
    rename_i ys
    unfold dAddA at w
    dsimp only at w
    by_cases c : xs.length + ys.length ≤ sz ∧ xs ≠ [] ∧ ys ≠ []
    · rw [if_pos c] at w
      obtain ⟨a, vs, rfl, hq, _, rs⟩ := RdV.tup l qx
      obtain ⟨b, us, rfl, hq2, _, rs2⟩ := RdV.tup l qy
      have n1 : vs ≠ [] := fun z => by subst z; have := Reps.length rs; simp at this; exact c.2.1 (List.length_eq_zero_iff.mp this.symm)
      have n2 : us ≠ [] := fun z => by subst z; have := Reps.length rs2; simp at this; exact c.2.2 (List.length_eq_zero_iff.mp this.symm)
      refine op_catT pins s σ H _ _ v u Q I rx ry ⟨a, b, vs, us, rfl, rfl, hq, hq2, n1, by rw [Reps.length rs, Reps.length rs2, ← sz_eq]; exact c.1, fun z => absurd z n2, fun _ p hp => ?_⟩
      have gn := Gr.newF (o := .tup (vs ++ us)) l hp
      exact w (.ref p) _ _ gn ⟨p, _, rfl, .inl (.inl upd_same), Reps.le gn.f _ (Reps.append rs rs2)⟩
    · rw [if_neg c] at w; exact w.elim
  · rename_i xs
    cases dy <;> first | exact w.elim | skip
    rename_i ys
    unfold dAddA at w
    dsimp only at w
    by_cases c : xs.length + ys.length ≤ sz
    · rw [if_pos c] at w
      obtain ⟨a, vs, rfl, hq, rs⟩ := RdV.lst l qx
      obtain ⟨b, us, rfl, hq2, rs2⟩ := RdV.lst l qy
      cases (show v = Value.ref a from rx)
      cases (show u = Value.ref b from ry)
      obtain ⟨its, rv, pl, hz⟩ := I.list hq
      obtain ⟨its2, rv2, pl2, hz2⟩ := I.list hq2
      obtain ⟨⟨cls, dd, data, sl⟩, ho, hc, n, hd⟩ := pl.isList
      obtain ⟨⟨cls2, dd2, data2, sl2⟩, ho2, hc2, n2, hd2⟩ := pl2.isList
      simp only at hc hd hc2 hd2
      subst hc hd hc2 hd2
      have hl : its.length + its2.length ≤ sizeLine := by rw [← rv.length, ← rv2.length, Reps.length rs, Reps.length rs2, ← sz_eq]; exact c
      refine concat_meets ⟨_, ho, rfl⟩ ⟨_, ho2, rfl⟩ noFill_list_add seq_list_add PySem.F.slot_list_add PySem.F.entry_list_add (PySem.F.args_list_add_2 _ _) (list_addW a b its.toArray its2.toArray n n2 dd dd2 sl sl2 (by simpa using hl)) ⟨ho, ho2, ?_⟩
      have ea : its.toArray ++ its2.toArray = (its ++ its2).toArray := by simp
      rw [ea]
      have hp : H s.heap.objs.size = none := I.hok.fresh (Nat.le_refl _)
      refine ⟨.ref s.heap.objs.size, upd H s.heap.objs.size (.lst (vs ++ us)), I.laid (t' := s.toks) (fun b o q => Heap.get?_push_of_some _ q) (Nat.le_refl _) ⟨?_, its ++ its2, 0, rv.append rv2, Heap.get?_push_size _ rfl⟩, rfl, ?_⟩
      · rw [List.length_append, rv.length, rv2.length]; exact hl
      · exact w _ _ _ (Gr.new l hp) ⟨_, _, rfl, hp, Le.none l hp, upd_same, Reps.append rs rs2⟩
    · rw [if_neg c] at w; exact w.elim
end
end L3
namespace L3
open PySem PySem.Spec PyProof.Rows L2
section
variable {prog : Program} {w : World} {A : Around} {E : Value → Shared → Prop} {s : Shared}
theorem meets_len (d : Addr) (hd : (d == sysModules) = false) :
    MeetsIn prog w (Builtin.«dict.__len__» ⟨[.ref d], []⟩) (fun _ R s => ∃ o es ep, s.heap.get? d = some o ∧ o.data = .dict es ep ∧ R (.ok (.ret (.int es.size s.toks))) { s with toks := s.toks + 1 }) :=
  .of_wp fun A R s ⟨o, es, ep, ho, hdat, h⟩ => by
    refine wpAny_bind (m := dictSize d) (wpAny_bind (wpAny_dictEntries ho hdat (wpAny_pure ?_)))
    refine wpAny_bind (m := Builtin.Dict.pendingCount d) (wpAny_pendingCount_other hd (wpAny_ret_mkInt ?_))
    rw [Nat.add_zero]; exact h
theorem len_any {d : Addr} {o : Obj} {es : Array DictEntry} {ep : Nat} {Q : Value → Shared → Prop} (hd : (d == sysModules) = false) (ho : s.heap.get? d = some o) (hx : o.ExactDict) (hdat : o.data = .dict es ep) (hz : es.size ≤ sizeLine)
    (h : Q (.int es.size (s.toks + 1)) { s with toks := s.toks + 1 + 1 }) : wpAny (model prog w) A (call (.builtin "len") [.ref d]) Q E s := by
  rw [sizeLine_eq] at hz
  have ty : s.TypeIs (.ref d) "dict" := ⟨o, ho, hx.1⟩
  refine Calls.call_function_entry kind_len plain_len entry_len (args_len1 _) ?_
  unfold Builtin.«len»
  refine wpAny_bind (m := oneArg "len" _) (wpAny_pure ?_)
  refine wpAny_bind (m := callSpecial? (.ref d) (Str.ofString "__len__")) (wpAny_callSpecial?_slot (name := Str.ofString "__len__") ty PySem.F.slot_dict_len
    (call_meetsIn PySem.F.slot_dict_len ty PySem.F.entry_dict_len (PySem.F.args_dict_len_1 _) (meets_len d hd) ⟨o, es, ep, ho, hdat, ?_⟩))
  refine wpAny_bind (wpAny_holding (wpAny_pure (wpAny_bind (wpAny_letGo ?_))))
  have c1 : ¬ ((es.size : Nat) : Int) < 0 := by omega
  have c2 : ¬ ((es.size : Nat) : Int) ≥ 2 ^ 63 := by omega
  show wpAny _ _ (if ((es.size : Nat) : Int) < 0 then _ else _) _ _ _
  rw [if_neg c1]
  show wpAny _ _ (if ((es.size : Nat) : Int) ≥ 2 ^ 63 then _ else _) _ _ _
  rw [if_neg c2]
  exact wpAny_bind (wpAny_mkInt (wpAny_pure ⟨_, rfl, h⟩))
end
def dLenA : List D → R En
  | [.lst xs] => okI xs.length
  | [.tup xs] => okI xs.length
  | [.dK kvs] => if kvs.length ≤ sz then okI kvs.length else .stuck
  | [.dT kvs] => okI kvs.length
  | _ => .stuck
theorem RepT.length {κ : Kx} {F : Hp} : ∀ {kds : List (List (Sum Int Str) × D)} {kvs : List (List Key × V)}, RepT κ F kvs kds → kvs.length = kds.length
  | [], _, h => by cases (show _ = _ from h); rfl
  | (q, d) :: r, _, h => by
    obtain ⟨v, kr, rfl, h1, h2⟩ := h
    simp [RepT.length h2]
theorem RdV.dT {κ : Kx} {F H : Hp} {v : V} {ds : List (List (Sum Int Str) × D)} (s : Le F H) (h : RdV κ F H v (.dT ds)) : ∃ a kvs, v = .ref a ∧ Rd H a (.dT kvs) ∧ RepT κ F kvs ds := by
  rcases h with ⟨a, vs, e, q, r⟩ | ⟨a, o, e, e2, r⟩
  · exact ⟨a, vs, e, Rd.le s q, r⟩
  · cases o with
    | dT vs => exact ⟨a, vs, e, .inl e2, r⟩
    | _ => exact r.elim
section
variable {X : Cx} {F0 H0 : Hp}
theorem cd_lenA : CallD X (.builtin "len") dLenA := by
  intro pins s σ F H xs us ds Q I l rx qx w
  cases qx with
  | nil => exact w.elim
  | @cons x d xs ds q1 q2 =>
    cases q2 with
    | cons _ _ => cases d <;> exact w.elim
    | nil =>
      cases d <;> first | exact w.elim | skip
      · exact cd_len pins s σ F H _ _ [.tup _] Q I l rx (.cons q1 .nil) w
      · exact cd_len pins s σ F H _ _ [.lst _] Q I l rx (.cons q1 .nil) w
      · rename_i kds
        obtain ⟨p, kvs, rfl, hq, rk⟩ := RdV.dK l q1
        cases rx with
        | cons r1 r2 =>
          cases r2
          cases r1
          obtain ⟨hd, vs, rel, o, es, ep, ho, hx, hdat, hk, hp, hn⟩ := Inv.dictK I hq
          have e1 : es.size = kds.length := by
            have a1 : es.toList.length = vs.length := hp.length
            have a2 := rel.length
            have a3 := RepK.length rk
            simp at a1
            omega
          unfold dLenA at w
          dsimp only at w
          by_cases c : kds.length ≤ sz
          · rw [if_pos c] at w
            refine len_any hd ho hx hdat (by rw [e1, ← sz_eq]; exact c) ?_
            rw [e1]
            exact ⟨.int _, H, I.tok _, ⟨_, rfl⟩, wish_fz (X := X) l (v := .int _) w rfl⟩
          · rw [if_neg c] at w; exact w.elim
      · rename_i kds
        obtain ⟨p, kvs, rfl, hq, rk⟩ := RdV.dT l q1
        cases rx with
        | cons r1 r2 =>
          cases r2
          cases r1
          obtain ⟨hz, hd, zs, rel, o, es, ep, ho, hx, hdat, h4, h5⟩ := hq.ok I.hok
          have e1 : es.size = kvs.length := by
            have a1 : es.toList.length = zs.length := by rw [h4, List.length_map]
            have a2 := rel.length
            simp at a1
            omega
          refine len_any hd ho hx hdat (by omega) ?_
          rw [e1, RepT.length rk]
          exact ⟨.int _, H, I.tok _, ⟨_, rfl⟩, wish_fz (X := X) l (v := .int _) w rfl⟩
end
end L3
namespace L3
open PySem PySem.Spec PyProof.Rows L2
def chE (g : D → D → R En) (y : D) (c : EF) : EF := fun ρ => (c ρ).bind fun z => g y z.d
section
variable {ρ : Rho} {d : D} {e f : EF} {i : Nat} {a b c : EF}
theorem x_addA {i j : Int} : dAddA (.int i) (.int j) = .ok (.fz (.int (i + j))) := rfl
theorem x_lenA_l {xs : List D} : dLenA [.lst xs] = .ok (.fz (.int xs.length)) := rfl
theorem x_lenA_t {xs : List D} : dLenA [.tup xs] = .ok (.fz (.int xs.length)) := rfl
theorem x_lenA_dT {xs : List (List (Sum Int Str) × D)} : dLenA [.dT xs] = .ok (.fz (.int xs.length)) := rfl
theorem x_sl {lo hi : OF} : eSl a lo hi ρ = (a ρ).b fun x => (lo ρ).b fun l => (hi ρ).b fun u => dSl x.dd l u := rfl
theorem x_oNo : oNo ρ = .ok none := rfl
theorem x_oE : oE e ρ = (e ρ).b fun w => isI w.dd := rfl
theorem x_isI {j : Int} : isI (.int j) = .ok (some j) := rfl
theorem x_sl_l {xs : List D} {lo hi : Option Int} : dSl (.lst xs) lo hi = .ok (.ow (.lst (cutD xs lo hi))) := rfl
theorem x_sl_t32 {x y z : D} : dSl (.tup [x, y, z]) none (some 2) = .ok (.fz (.tup [x, y])) := rfl
theorem x_chain {g g' : D → D → R En} : eChain g g' a b c ρ = (a ρ).b fun x => (b ρ).b fun y => (g x.dd y.dd).b fun r => (isB r.dd).b (pickE (chE g' y.dd c) kF ρ) := rfl
theorem x_chE {g : D → D → R En} : chE g d c ρ = (c ρ).b fun z => g d z.dd := rfl
theorem x_setI {xs : List D} {k : EF} {w : En} {j : Int} {n : Nat} (h : ρ[i]? = some (some (.ow (.lst xs)))) (h2 : (e ρ).b En.sto = .ok d) (h3 : k ρ = .ok w) (h4 : w.d = .int j) (h5 : ixn xs.length j = some n) :
    sSetI i k e ρ = .nx (ρ.set i (some (.ow (.lst (xs.set n d))))) := by
  have h2 : (e ρ).bind En.st = .ok d := h2
  unfold sSetI
  rw [h]; dsimp only; rw [h2]; unfold sOf; dsimp only; rw [h3, R.bind_ok, h4]
  show (match ixn xs.length j with | some n => _ | none => _) = _
  rw [h5]
theorem x_iSeq {w : En} {ds : List D} (h : e ρ = .ok w) (h2 : w.st = .ok (.lst ds)) : iSeq e ρ = .ok ds := by unfold iSeq; rw [h, R.bind_ok, h2, R.bind_ok]; rfl
theorem eq_pair {a b c d : Int} : dEq (.tup [.int a, .int b]) (.tup [.int c, .int d]) = .ok (.fz (.bl (a == c && b == d))) := by
  show okB (deq _ _) = _
  simp [deq, deqs]
theorem ne_pair {a b c d : Int} : dNe (.tup [.int a, .int b]) (.tup [.int c, .int d]) = .ok (.fz (.bl (!(a == c && b == d)))) := by
  show okB (!deq _ _) = _
  simp [deq, deqs]
end
end L3
namespace L3
open PySem PySem.Spec PyProof.Rows L2
section
variable {prog : Program} {w : World} {A : Around} {R : Result → Shared → Prop} {it : Addr} {fp wr : List Addr} {n : Nat} {P : Nat → Value → Prop} {St : Nat → Heap → Prop}
end
section
variable {prog : Program} {w : World} {A : Around} {E : Value → Shared → Prop} {s : Shared}
end
def dMaxD : D → D → R En
  | .lst ds, .int d => (match intsOf ds with | some [] => okI d | some (i :: r) => okI (maxL i r) | none => .stuck)
  | _, _ => .stuck
section
variable {X : Cx} {F0 H0 : Hp} {pos p kp : Pos}
def isNon : D → Bool
  | .non => true
  | _ => false
def dIsN2 : D → D → R En
  | .xc _ _, _ => .stuck
  | d, .non => okB (isNon d)
  | _, _ => .stuck
def dIsNot2 : D → D → R En
  | .xc _ _, _ => .stuck
  | d, .non => okB (!isNon d)
  | _, _ => .stuck
theorem rd_non {κ : Kx} {F H : Hp} {v : V} {d : D} (l : Le F H) (q : RdV κ F H v d) (hx : ∀ c fs, d ≠ .xc c fs) : decide (v = .non) = isNon d := by
  cases d with
  | non => rw [RdV.non q]; rfl
  | bl b => rw [RdV.bl q]; rfl
  | int b => rw [RdV.int q]; rfl
  | str b => rw [RdV.str q]; rfl
  | tup ds => obtain ⟨a, vs, rfl, _⟩ := RdV.tup l q; rfl
  | lst ds => obtain ⟨a, vs, rfl, _⟩ := RdV.lst l q; rfl
  | dK ds => obtain ⟨a, vs, rfl, _⟩ := RdV.dK l q; rfl
  | dT ds => obtain ⟨a, vs, rfl, _⟩ := RdV.dT l q; rfl
  | xc c fs => exact absurd rfl (hx c fs)
theorem od_isNotN : OpD X (compareOp .IsNot) dIsNot2 := opd_of op_notN fun F H x y dx dy Q l qx qy w => by
  have hx : ∀ c fs, dx ≠ .xc c fs := fun c fs z => by subst z; exact w.elim
  cases dy <;> first | (cases dx <;> exact w.elim) | skip
  have w : Wish X F H (okB (!isNon dx)) Q := by cases dx <;> first | exact w | exact w.elim
  refine ⟨RdV.non qy, ?_⟩
  rw [rd_non l qx hx]
  exact wish_fz l (v := .bl _) w rfl
end
end L3
namespace L3
section
variable {ρ : Rho} {d : D} {e : EF} {i : Nat}
def augR (o : Option (Option En)) (i : Nat) (g : D → D → R En) (e : EF) (ρ : Rho) : Out := match o with
  | some (some (.fz x)) => sOf ((e ρ).b fun y => (g x y.dd).b En.nmo) fun w => .nx (ρ.set i (some w))
  | _ => .stuck
theorem x_aug {g : D → D → R En} : sAug i g e ρ = augR ρ[i]? i g e ρ := rfl
theorem x_augR {g : D → D → R En} : augR (some (some (.fz d))) i g e ρ = sOf ((e ρ).b fun y => (g d y.dd).b En.nmo) fun w => .nx (ρ.set i (some w)) := rfl
theorem x_maxD_nil {d : Int} : dMaxD (.lst []) (.int d) = .ok (.fz (.int d)) := rfl
theorem x_isN_non : dIsN2 .non .non = .ok (.fz (.bl true)) := rfl
theorem x_isN_tup {xs : List D} : dIsN2 (.tup xs) .non = .ok (.fz (.bl false)) := rfl
theorem x_isN_lst {xs : List D} : dIsN2 (.lst xs) .non = .ok (.fz (.bl false)) := rfl
theorem x_isN_int {j : Int} : dIsN2 (.int j) .non = .ok (.fz (.bl false)) := rfl
theorem x_isNot_non : dIsNot2 .non .non = .ok (.fz (.bl false)) := rfl
theorem x_isNot_tup {xs : List D} : dIsNot2 (.tup xs) .non = .ok (.fz (.bl true)) := rfl
theorem x_isNot_lst {xs : List D} : dIsNot2 (.lst xs) .non = .ok (.fz (.bl true)) := rfl
theorem x_isNot_int {j : Int} : dIsNot2 (.int j) .non = .ok (.fz (.bl true)) := rfl
end
end L3
namespace L3
open PySem
def frzR (o : Option (Option En)) (i : Nat) (ρ : Rho) : Rho := match o with
  | some (some (.ow d)) => ρ.set i (some (.fz d))
  | _ => ρ
section
variable {i : Nat} {ρ : Rho} {a : SF} {d : D}
theorem x_frzS : sFrz i a ρ = a (frzR ρ[i]? i ρ) := by unfold sFrz frz frzR; rfl
theorem x_frzR_ow : frzR (some (some (.ow d))) i ρ = ρ.set i (some (.fz d)) := rfl
theorem x_frzR_fz : frzR (some (some (.fz d))) i ρ = ρ := rfl
theorem x_frzR_br : frzR (some (some (.br d))) i ρ = ρ := rfl
theorem x_frzR_lk : frzR (some (some (.lk d))) i ρ = ρ := rfl
theorem x_frzR_no : frzR (some none) i ρ = ρ := rfl
end
def EV0 :=  And.intro @x_den
  (And.intro @x_fin_rt
  (And.intro @x_fin_nx
  (And.intro @List.map_cons.{0,0}
  (And.intro @List.map_nil.{0,0}
  (And.intro @List.length_cons.{0}
  (And.intro @List.length_nil.{0}
  (And.intro @List.replicate_succ.{0}
  (And.intro @List.replicate_zero.{0}
  (And.intro @List.cons_append.{0}
  (And.intro @List.nil_append.{0}
  (And.intro @Nat.zero_add
  (And.intro @x_th_nx
  (And.intro @x_th_rt
  (And.intro @x_th_bk
  (And.intro @x_th_ct
  (And.intro @x_th_stuck
  (And.intro @x_seq
  (And.intro @x_of_ok
  (And.intro @x_of_stuck
  (And.intro @x_pickS_t
  (And.intro @x_pickS_f
  (And.intro @x_pickE_t
  (And.intro @x_pickE_f
  (And.intro @x_pickT_t
  (And.intro @x_pickT_f
  (And.intro @x_kF
  (And.intro @x_kT
  (And.intro @x_kfB
  (And.intro @x_ktB
  (And.intro @x_set
  (And.intro @x_ret
  (And.intro @x_retV
  (And.intro @x_retR_fz
  (And.intro @x_retR_ow
  (And.intro @x_retN
  (And.intro @x_next
  (And.intro @x_break
  (And.intro @x_cont
  (And.intro @x_expr
  (And.intro @x_if
  (And.intro @x_nm_fz
  (And.intro @x_nm_ow
  (And.intro @x_st_fz
  (And.intro @x_st_ow
  (And.intro @x_arg_fz
  (And.intro @x_arg_ow
  (And.intro @x_arg_br
  (And.intro @x_d_fz
  (And.intro @x_d_ow
  (And.intro @x_d_br
  (And.intro @x_d_lk
  (And.intro @x_var
  (And.intro @x_varR_fz
  (And.intro @x_varR_ow
  (And.intro @x_varR_br
  (And.intro @x_varR_lk
  (And.intro @x_c
  (And.intro @x_op
  (And.intro @x_un
  (And.intro @x_evs_nil
  (And.intro @x_evs
  (And.intro @x_stA_nil
  (And.intro @x_stA
  (And.intro @x_argA_nil
  (And.intro @x_argA
  (And.intro @x_lst
  (And.intro @x_tup
  (And.intro @x_call
  (And.intro @x_B
  (And.intro @x_tE
  (And.intro @x_tNot
  (And.intro @x_tAnd
  (And.intro @x_tOr
  (And.intro @x_eNot
  (And.intro @x_eAnd
  (And.intro @x_eOr
  (And.intro @x_eIf
  (And.intro @x_isB
  (And.intro @x_truth_bl
  (And.intro @x_truth_int
  (And.intro @x_truth_lst
  (And.intro @x_truth_tup
  (And.intro @x_truth_non
  (And.intro @x_for
  (And.intro @x_add
  (And.intro @x_sub
  (And.intro @x_lt
  (And.intro @x_le
  (And.intro @x_gt
  (And.intro @x_ge
  (And.intro @x_eq
  (And.intro @x_ne
  (And.intro @x_neg
  (And.intro @x_len_l
  (And.intro @x_len_t
  (And.intro @x_list_l
  (And.intro @x_list_t
  (And.intro @x_tuple_l
  (And.intro @x_tuple_t
  (And.intro @x_min
  (And.intro @x_max
  (And.intro @x_ix_l
  (And.intro @x_ix_t
  (And.intro @x_ati0
  (And.intro @x_ati1
  (And.intro @x_ati2
  (And.intro @x_ati3
  (And.intro @x_okD
  (And.intro @x_is_int
  (And.intro @x_is_bool
  (And.intro @x_is_list
  (And.intro @x_is_tuple
  (And.intro @x_stuck
  (And.intro @x_gV
  (And.intro @x_dK
  (And.intro @x_dT
  (And.intro @x_b_ok
  (And.intro @x_b_stuck
  (And.intro @List.getElem?_cons_zero.{0}
  (And.intro @List.getElem?_cons_succ.{0}
  (And.intro @List.set_cons_zero.{0}
  (And.intro @List.set_cons_succ.{0}
  (And.intro @if_true.{1}
  (And.intro @Bool.not_true
  (And.intro @Bool.not_false
  (And.intro @ite_true.{1}
  (And.intro @x_mkL0
  (And.intro @x_mkL1
  (And.intro @x_mkL2
  (And.intro @x_mkL3
  (And.intro @x_mkL4
  (And.intro @x_mkL5
  (And.intro @x_mkL6
  (And.intro @x_mkL7
  (And.intro @x_mkL8
  (And.intro @x_mkL9
  (And.intro @x_mkL10
  (And.intro @x_mkL11
  (And.intro @x_mkL12
  (And.intro @x_mkL13
  (And.intro @x_mkL14
  (And.intro @x_mkL15
  (And.intro @x_mkL16
  (And.intro @x_mkT0
  (And.intro @x_mkT1
  (And.intro @x_mkT2
  (And.intro @x_mkT3
  (And.intro @x_mkT4
  (And.intro @x_mkT5
  (And.intro @x_asg
  (And.intro @x_gT
  (And.intro @x_gVs0
  (And.intro @x_gVs
  (And.intro @Int.cast_ofNat_Int
  (And.intro @x_addA
  (And.intro @x_lenA_l
  (And.intro @x_lenA_t
  (And.intro @x_lenA_dT
  (And.intro @x_sl
  (And.intro @x_oNo
  (And.intro @x_oE
  (And.intro @x_isI
  (And.intro @x_sl_l
  (And.intro @x_sl_t32
  (And.intro @x_chain
  (And.intro @x_chE
  (And.intro @eq_pair
  (And.intro @ne_pair
  (And.intro @x_aug
  (And.intro @x_augR
  (And.intro @x_maxD_nil
  (And.intro @x_isN_non
  (And.intro @x_isN_tup
  (And.intro @x_isN_lst
  (And.intro @x_isN_int
  (And.intro @x_isNot_non
  (And.intro @x_isNot_tup
  (And.intro @x_isNot_lst
  (And.intro @x_isNot_int
  (And.intro @x_frzS
  (And.intro @x_frzR_ow
  (And.intro @x_frzR_fz
  (And.intro @x_frzR_br
  (And.intro @x_frzR_lk
  (@x_frzR_no)))))))))))))))))))))))))))))))))))))))))))))))))))))))))))))))))))))))))))))))))))))))))))))))))))))))))))))))))))))))))))))))))))))))))))))))))))))))))))))))))))))))))))))))))))))))))
theorem EV : type_of% EV0 := EV0
end L3
set_option Elab.async false
set_option linter.all false
set_option maxRecDepth 100000
set_option maxHeartbeats 4000000
namespace L3
open PySem PySem.Spec PyProof.Rows L2
open PySem.Builtin PySem.Builtin.ObjectAttr
abbrev bmV : List Value := [.type "ValueError", .type "Exception", .type "BaseException", .type "object"]
def lineV : List Value → Bool
  | .ref _ :: r => lineV r
  | l => l == bmV
theorem lineV_refuse (self : Value) : ∀ {l : List Value}, lineV l = true → refuseLoop self "__setattr__" l = pure ()
  | .ref c :: r, e => by rw [refuseLoop_ref]; exact lineV_refuse self (l := r) e
  | [], e => by cases e
  | .none :: r, e => by cases e
  | .bool _ :: r, e => by cases e
  | .int _ _ :: r, e => by cases e
  | .type n :: r, e => by rw [show Value.type n :: r = bmV from beq_iff_eq.mp e]; kernel_rfl
  | .str _ _ :: r, e => by cases e
  | v :: r, e => by
    by_cases z : v :: r = bmV
    · rw [z]; kernel_rfl
    · unfold lineV at e
      split at e
      · rename_i h; cases h; rw [refuseLoop_ref]; exact lineV_refuse self e
      · exact absurd (beq_iff_eq.mp e) z
theorem lineV_has {b : Value} (hb : bmV.contains b = true) : ∀ {l : List Value}, lineV l = true → l.contains b = true
  | [], e => by cases e
  | v :: r, e => by
    unfold lineV at e
    split at e
    · rename_i h; cases h; rw [List.contains_cons, lineV_has hb e, Bool.or_true]
    · rw [beq_iff_eq.mp e]; exact hb
section
variable {prog : Program} {w : World} {A : Around} {E : Value → Shared → Prop} {s : Shared} {K : PySem.W.Frag} {x C : Addr} {vs : Array Value} {sl : Array (Option Value)} {cd : ClassData} {name : Str} {v : Value}
theorem set_exc {Q : Unit → Shared → Prop} (X : K.In s.heap) (hx : s.heap.get? x = some ⟨.ref C, none, .fields vs, sl⟩) (hc : PySem.W.clsIn K C = some cd) (hln : lineV cd.mro = true) (hh : cd.hasDict = true)
    (hs : PySem.W.findIn K (.ref C) "__setattr__" = some (some (.builtin "object.__setattr__"))) (hn : PySem.W.findIn K (.ref C) name = some none)
    (h : ∀ h' tk, h'.Ns1 s.heap.objs.size (fun y => if y = name then some v else none) → h'.get? x = some ⟨.ref C, some s.heap.objs.size, .fields vs, sl⟩ → (∀ b o, b ≠ x → s.heap.get? b = some o → h'.get? b = some o) → s.heap.objs.size < h'.objs.size →
      Q () { s with heap := h', toks := tk }) : wpAny (model prog w) A (setAttr (.ref x) name v) Q E s := by
  have J : PySem.W.InstAt s.heap x ⟨.ref C, none, .fields vs, sl⟩ C none := ⟨hx, rfl, rfl, trivial⟩
  have G := PySem.F.store_object
  have ty := J.type (M := model prog w)
  have ne : cd.mro.isEmpty = false := by
    cases q : cd.mro with
    | nil => rw [q] at hln; cases hln
    | cons _ _ => rfl
  have ob : PySem.W.Looks (model prog w) s.heap (isInstance (.ref x) (.type "object")) true := ty.andThen (PySem.W.looks_mroIn X (by unfold PySem.W.mroIn; rw [hc, Option.bind_some, if_neg (by rw [ne]; decide), lineV_has (by decide) hln]))
  have mr : PySem.W.Looks (model prog w) s.heap (mroOf (.ref C)) cd.mro := (PySem.W.looks_clsIn X hc).andThen .now
  refine PySem.W.set_plain X J hs (codeAny_call_builtin G.slot.plain G.entry (@PySem.W.check_slot (model prog w) _ _ { s with toks := s.toks + 1 } "object.__setattr__" "object" "__setattr__" (.ref x) [.str name s.toks, v] [] _ G.kind G.split ob (G.args (.ref x) (.str name s.toks) v) ?_))
  rw [PySem.W.osa_eq, refuse_eq]
  refine wpAny_bind (wpAny_bind (PySem.W.Looks.here (s := { s with toks := s.toks + 1 }) ty (wpAny_bind (PySem.W.Looks.here (s := { s with toks := s.toks + 1 }) mr ?_))))
  rw [lineV_refuse _ hln]
  refine wpAny_pure (wpAny_bind (PySem.W.Looks.here (s := { s with toks := s.toks + 1 }) ty (wpAny_bind (PySem.W.Looks.here (s := { s with toks := s.toks + 1 }) (PySem.W.looks_findIn X hn) (wpAny_bind (wpAny_pure ?_))))))
  have neS : x ≠ s.heap.objs.size := Nat.ne_of_lt (Heap.lt_size hx)
  refine wpAny_bind (wpAny_pure (wpAny_bind (wpAny_bind (wpAny_loadPart hx (wpAny_bind (PySem.W.Looks.here (s := { s with toks := s.toks + 1 }) (PySem.W.looks_clsIn X hc) ?_))))))
  rw [hh]
  have x1 : (s.heap.push { cls := .type "dict", data := .dict #[] }).get? x = some ⟨.ref C, none, .fields vs, sl⟩ := Heap.get?_push_of_some _ hx
  refine wpAny_bind (wpAny_alloc' (wpAny_bind (wpAny_update' x1 (wpAny_pure ?_))))
  have gd : ((s.heap.push { cls := .type "dict", data := .dict #[] }).update x fun o => { cls := o.cls, dict := some s.heap.objs.size, data := o.data, slots := o.slots }).get? s.heap.objs.size = some { cls := .type "dict", data := .dict #[] } :=
    (Heap.get?_update_ne _ _ _ _ neS.symm).trans (Heap.get?_push_at rfl rfl)
  have nd : ((s.heap.push { cls := .type "dict", data := .dict #[] }).update x fun o => { cls := o.cls, dict := some s.heap.objs.size, data := o.data, slots := o.slots }).Ns s.heap.objs.size (fun _ => none) :=
    ⟨_, #[], _, gd, rfl, fun e he => absurd he (by simp), fun _ => rfl⟩
  show wpAny _ _ (storeInDict s.heap.objs.size (.str name s.toks) name v) _ _ _
  unfold storeInDict; unfold newKeyGuard
  refine wpAny_bind (wpAny_pure (wpAny_bind (wpAny_nsSet1 (Heap.Ns1.of_empty nd) fun h' n' sb => ?_)))
  obtain ⟨oD, esD, epD, hoD, hdD, hcD⟩ := n'.count (PySem.Within.cons name v PySem.Within.nil)
  refine wpAny_bind (wpAny_lookBehind hoD (by rw [hdD]; exact pastItsLine_dict (Nat.le_trans hcD (by rw [List.length_cons, List.length_nil, sizeLine_eq]; omega))) (wpAny_pure ?_))
  refine h h' _ n' ((sb.2 x neS).trans (Heap.get?_update_self _ x1 rfl)) (fun b o hb ho => ?_) (Heap.lt_size hoD)
  exact (sb.2 b (Nat.ne_of_lt (Heap.lt_size ho))).trans ((Heap.get?_update_ne _ _ _ _ hb).trans (Heap.get?_push_of_some _ ho))
theorem get_exc {dx : Addr} {mA : Str → Option Value} {expr : Bool} {Q : Value → Shared → Prop} (X : K.In s.heap) (hx : s.heap.get? x = some ⟨.ref C, some dx, .fields vs, sl⟩) (hA : s.heap.Ns1 dx mA) (hv : mA name = some v) (ho : PySem.W.handedIn v = true)
    (hc : PySem.W.clsIn K C = some cd) (hln : lineV cd.mro = true) (hh : cd.hasDict = true) (hg : PySem.W.findIn K (.ref C) "__getattribute__" = some (some (.builtin "BaseException.__getattribute__"))) (hk : PySem.W.findIn K (.ref C) "__getattr__" = some none)
    (hn : PySem.W.findIn K (.ref C) name = some none) (h : Q v { s with toks := s.toks + 1 }) : wpAny (model prog w) A (getAttr (.ref x) name expr) Q E s := by
  obtain ⟨od, hod, hl0⟩ := lookIn_ns hA
  have J : PySem.W.InstAt s.heap x ⟨.ref C, some dx, .fields vs, sl⟩ C (some od) := ⟨hx, rfl, rfl, hod⟩
  have ty := J.type (M := model prog w)
  have hl : PySem.W.lookIn name od = some (some v) := by rw [hl0, hv]
  have fi : PySem.W.findObj K C (some od) name = some (.value v) := PySem.W.findObj_own (by unfold PySem.W.hasDictIn; rw [hc]; exact hh) hn rfl hl
  have G := PySem.F.excAttr_ValueError.ga
  have ne : cd.mro.isEmpty = false := by
    cases q : cd.mro with
    | nil => rw [q] at hln; cases hln
    | cons _ _ => rfl
  have ob : PySem.W.Looks (model prog w) s.heap (isInstance (.ref x) (.type "BaseException")) true := ty.andThen (PySem.W.looks_mroIn X (by unfold PySem.W.mroIn; rw [hc, Option.bind_some, if_neg (by rw [ne]; decide), lineV_has (by decide) hln]))
  have L1 := PySem.W.looks_findIn (M := model prog w) X hg
  have L2 := PySem.W.looks_findIn (M := model prog w) X hk
  have L3 := PySem.W.looks_find (M := model prog w) X J fi
  unfold getAttr getAttrBy
  refine wpAny_bind (wpAny_mkText (wpAny_holding (wpAny_bind (PySem.W.Looks.here (s := { s with toks := s.toks + 1 }) ty (wpAny_bind (PySem.W.Looks.here (s := { s with toks := s.toks + 1 }) L1 ?_))))))
  have nb2 : (Value.builtin "BaseException.__getattribute__" == Value.builtin "object.__getattribute__") = false := by decide +kernel
  simp only [nb2, Bool.and_false, Bool.false_eq_true, if_false]
  unfold getAttrByItsOwn hookBefore
  refine wpAny_bind (PySem.W.Looks.here (s := { s with toks := s.toks + 1 }) L2 ?_)
  unfold callGetattribute
  have nb0 : (expr && onTheHeap (Value.builtin "BaseException.__getattribute__")) = false := by cases expr <;> rfl
  rw [nb0, if_neg Bool.false_ne_true]
  unfold boundAndCalled
  rw [G.bind]
  refine wpAny_bind (wpAny_attempt (wpAny_holding (wpAny_bind (wpAny_pure (wpAny_call (codeAny_call_builtin G.plain PySem.F.entry_bexc_ga (@PySem.W.check_slot (model prog w) _ _ { s with toks := s.toks + 1 } "BaseException.__getattribute__" "BaseException" "__getattribute__" (.ref x) [.str name s.toks] [] _ (by decide +kernel) (by decide +kernel) ob (PySem.F.args_bexc_ga _ _) ?_)))))))
  refine wpAny_bind (wpAny_pure (wpAny_bind (wpAny_pure (wpAny_bind (PySem.W.Looks.here (s := { s with toks := s.toks + 1 }) ty (wpAny_bind (PySem.W.Looks.here (s := { s with toks := s.toks + 1 }) L3 (wpAny_pure ?_))))))))
  show wpAny (model prog w) _ (handedOut v) _ _ _
  rw [PySem.W.handedOut_of ho]
  exact wpAny_pure h
end
end L3
namespace L3
open PySem PySem.Spec PyProof.Rows L2
def clsX (K : PySem.W.Frag) (C : Addr) : Bool := match K.lookup C with
  | some ⟨.type "type", _, .cls k, z⟩ => match k.mro, z.toList with
    | .ref D :: r, [_, _, _, _, some (.builtin m), _] => D == C && m == "ValueError.__new__" && !k.hasDel && PySem.W.tailIn K bmV r
    | _, _ => false
  | _ => false
theorem clsX_of {K : PySem.W.Frag} {h : Heap} {C : Addr} (X : K.In h) (q : clsX K C = true) :
    ∃ bm N nm qn bs hd sn sub ab col dd k0 k1 k2 k3 k5, h.get? C = some (excClassObj nm qn C N bs bm hd sn sub ab col dd k0 k1 k2 k3 k5 "ValueError.__new__") ∧ OwnTail h bmV bm := by
  unfold clsX at q
  split at q
  · rename_i dd k z lk
    split at q
    · rename_i D r k0 k1 k2 k3 m k5 em es
      simp only [Bool.and_eq_true, beq_iff_eq, Bool.not_eq_true'] at q
      obtain ⟨⟨⟨rfl, rfl⟩, nd⟩, ht⟩ := q
      obtain ⟨nm, bs, mro, ns, qn, hd, sn, sub, ab, col, del⟩ := k
      dsimp only at em nd
      subst em nd
      have ez : z = #[k0, k1, k2, k3, some (.builtin "ValueError.__new__"), k5] := by
        obtain ⟨l⟩ := z
        simp only at es
        rw [es]
      subst ez
      exact ⟨r, ns, nm, qn, bs, hd, sn, sub, ab, col, dd, k0, k1, k2, k3, k5, X _ _ lk, PySem.W.tail_of_in X ht⟩
    · cases q
  · cases q
abbrev excO (C t : Addr) : Obj := { cls := .ref C, data := .fields #[.ref t, .none, .none, .none, .bool false, .none] }
abbrev tupO (rest : List Value) : Obj := { cls := .type "tuple", data := .seq rest.toArray }
section
variable {prog : Program} {w : World} {A : Around} {E : Value → Shared → Prop} {s : Shared} {K : PySem.W.Frag} {C f : Addr} {rest : List Value} {R : Result → Shared → Prop}
theorem make_exc (X : K.In s.heap) (q : clsX K C = true) (hi : PySem.W.findIn K (.ref C) "__init__" = some (some (.ref f))) (hf : PySem.W.typeIn K (.ref f) = some (.type "function")) (hz : rest.length ≤ sizeLine)
    (k : codeAny (model prog w) (A.under (.builtin "type.__call__" ⟨.ref C :: rest, []⟩)) (.call (.ref f) ⟨.ref (s.heap.objs.size + 1) :: rest, []⟩) (PySem.W.InitBack (s.heap.objs.size + 1) R) { s with heap := (s.heap.push (tupO rest)).push (excO C s.heap.objs.size) }) :
    codeAny (model prog w) A (.call (.ref C) ⟨rest, []⟩) R s := by
  obtain ⟨bm, N, nm, qn, bs, hd, sn, sub, ab, col, dd, k0, k1, k2, k3, k5, gC, T⟩ := clsX_of X q
  obtain ⟨h, g, d, t, os⟩ := s
  dsimp only at X gC T k ⊢
  have F := PySem.F.excBase_ValueError
  have f1 := tc_lookup
  have f2 := tc_bind (.ref C)
  have tT : (⟨h, g, d, t, os⟩ : Shared).TypeIs (.ref C) "type" := ⟨_, gC, rfl⟩
  refine codeAny_of_tree ?_
  show wpAny _ _ (callAny (.ref C) ⟨rest, []⟩) _ _ _
  repeat (any_goals (first | assumption | with_reducible refine wpAny_loadPart_at gC ?_ | wp_step))
  refine ⟨rfl, codeAny_call_builtin_at (Code.quiet_builtin _ (by decide +kernel)) entry_typeCall (wpAny_check_type_call_sub gC ?_)⟩
  repeat (first | with_reducible refine wpAny_loadPart_at gC ?_ | with_reducible refine wpAny_madeBy_exc gC ?_ | wp_step)
  refine codeAny_call_builtin_code (Code.quiet_builtin _ F.quiet) (wpAny_check_new_subT F T gC (codeAny_exc_new_subT F T gC ?_ hz))
  show wpAny _ _ _ _ _ _
  have up : ∀ b o, h.get? b = some o → ((h.push (tupO rest)).push (excO C h.objs.size)).get? b = some o := fun b o e => Heap.get?_push_of_some _ (Heap.get?_push_of_some _ e)
  have gC1 := up _ _ gC
  have X1 : K.In ((h.push (tupO rest)).push (excO C h.objs.size)) := X.keeps up
  have ge : ((h.push (tupO rest)).push (excO C h.objs.size)).get? (h.objs.size + 1) = some (excO C h.objs.size) := by heap_get
  have sC : (Value.ref C :: bm).contains (.ref C) = true := by simp
  unfold isInstance
  repeat (first | with_reducible refine wpAny_loadPart_at ge ?_ | wp_step)
  show wpAny _ _ (isSubtype (.ref C) (.ref C)) _ _ _
  refine wpAny_isSubtype_exc gC1 ?_
  rw [sC]
  repeat (first | with_reducible refine wpAny_loadPart_at ge ?_ | wp_step)
  show wpAny _ _ (typeLookup (.ref C) "__init__") _ _ _
  refine PySem.W.Looks.here (s := ⟨(h.push (tupO rest)).push (excO C h.objs.size), g, d, t, os⟩) (PySem.W.looks_findIn X1 hi) ?_
  refine wpAny_holding (wpAny_bind (PySem.W.Looks.here (s := ⟨(h.push (tupO rest)).push (excO C h.objs.size), g, d, t, os⟩) (PySem.W.bind_fn X1 _ hf) ?_))
  refine wpAny_bind (wpAny_call (codeAny_mono k fun r s' z => ?_))
  rcases r with er | (rv | _ | _ | _) <;> first | exact z | exact z.elim | skip
  obtain ⟨rfl, z⟩ := z
  exact wpAny_pure (wpAny_pure (by exact z))
end
end L3
namespace L3
open PySem PySem.Spec PyProof.Rows L2
structure XCls (K : PySem.W.Frag) (C : Addr) : Prop where
  cl : clsX K C = true
  kp : PySem.W.keepIn K (.ref C) = true
structure XIni (K : PySem.W.Frag) (C f : Addr) (qual : Str) (st : Stmt) (fd : FuncData) : Prop where
  cd : ∃ cd, PySem.W.clsIn K C = some cd ∧ lineV cd.mro = true ∧ cd.hasDict = true
  sa : PySem.W.findIn K (.ref C) "__setattr__" = some (some (.builtin "object.__setattr__"))
  na : PySem.W.findIn K (.ref C) "at" = some none
  ini : PySem.W.findIn K (.ref C) "__init__" = some (some (.ref f))
  fn : PySem.W.typeIn K (.ref f) = some (.type "function")
  F : Fun K "__init__" qual st f fd
  body : ∃ p1 p2 p3 p4, defBody st = [.Assign [.Attribute (.Name "self" p1) "at" p2] (.Name "at" p3) p4]
  sc : FnScope ["self", "at"] ["self", "at"] (defScope st)
  nl : (defScope st).names.lookup ("self" : Str) = some .local ∧ (defScope st).names.lookup ("at" : Str) = some .local
  bd : Binds K fd ["self", "at"] []
section
variable {P : Program} {w : World} {K : PySem.W.Frag} {mg : Str → Option Value} {base : Heap}
theorem init_exc {C f e : Addr} {qual : Str} {st : Stmt} {fd : FuncData} {k : Nat} {A : Around} {outer : List Env} {s : Shared} {H : Hp} {vs : Array Value} {sl : Array (Option Value)} {v : V} {u : Value} {R : Result → Shared → Prop} (J : XIni K C f qual st fd)
    (hr : Room (k + 1) A) (e0 : Env0 P w K mg base A outer s H) (he : s.heap.get? e = some ⟨.ref C, none, .fields vs, sl⟩) (hH : H e = none) (hf : e ∉ frs outer) (r : RelV v u)
    (kk : ∀ (s2 : Shared) (h' : Heap) (tk : Nat) (u' : Value) (dx : Addr), s2.os = s.os → AllBare s2.gens → Un (frs outer) [] H H s.heap s2.heap → HOk P w H s2.heap → RelV v u' → h'.Ns1 dx (fun y => if y = "at" then some u' else none) → h'.get? e = some ⟨.ref C, some dx, .fields vs, sl⟩ →
      (∀ b o, b ≠ e → s2.heap.get? b = some o → h'.get? b = some o) → s.heap.objs.size ≤ dx → dx < h'.objs.size → R (.ok (.ret .none)) { s2 with heap := h', toks := tk }) :
    codeAny (model P w) A (.call (.ref f) ⟨[.ref e, u], []⟩) R s := by
  obtain ⟨oc, od, kV, doc, pm, an, cdv, ct, osl, rfl, lk, hcd⟩ := J.F.ex
  obtain ⟨p1, p2, p3, p4, eb⟩ := J.body
  have S := J.sc
  have KX : K.In s.heap := e0.mod.kin.keeps fun b o e => (e0.bs b o e).1
  have lim : s.heap.NoLimit := e0.mod.nolimit.keeps fun b o e => (e0.bs b o e).1
  have hb : BindsTo s (PySem.W.fnOf "__init__" qual (defArgs st) (defBody st) (defScope st) .none kV doc pm an cdv ct) ⟨[.ref e, u], []⟩ ((["self", "at"] : List Str).zip [.ref e, u]) := J.bd s [.ref e, u] KX rfl
  refine codeAny_call_function hr.depth (KX _ _ lk) rfl S.co S.gen rfl (PySem.W.codeRec_of KX hcd) (hb _ _ _ _ ?_)
  refine wpAny_newFunctionEnv_cells S.kind (fun y hy => .inl ?_) fun env he1 s1 x => ?_
  · rcases List.mem_cons.mp hy with rfl | hy
    · exact J.nl.1
    · rcases List.mem_cons.mp hy with rfl | hy
      · exact J.nl.2
      · cases hy
  subst he1
  refine ⟨lim.keeps x.toInCall.keep, codeAny_func ?_⟩
  rw [eb]
  show wpAny (model P w) (A.deeper (envOfC qual (defScope st) s.heap.objs.size f cdv)) (execs [.Assign [.Attribute (.Name "self" p1) "at" p2] (.Name "at" p3) p4] (envOfC qual (defScope st) s.heap.objs.size f cdv)) _ _ s1
  have I0 : Inv (cxOf CX0 P w K mg base ["self", "at"] qual (defScope st) f cdv A outer s H E0) [] (L2.start ["self", "at"] [.ref e, v]) H s1 := inv_start S hr.hd e0 rfl (.cons rfl (.cons r .nil)) x
  have I := I0.wish fun _ _ => False
  refine wpAny_noRaise ?_
  refine wpAny_execs_cons (plainObj_wpAny_Assign_Attribute (thn (pe_var (i := 1) (x := "at") rfl (.inl J.nl.2) (by decide) (by decide) [] s1 _ H (fun v' H' => v' = v ∧ H' = H) I ⟨v, rfl, rfl, rfl⟩) fun u2 s2 ⟨v2, H2, I2, r2, ev, eH⟩ => ?_) rfl)
  subst ev eH
  refine thn (pe_var (i := 0) (x := "self") rfl (.inl J.nl.1) (by decide) (by decide) [] s2 _ H2 (fun v' H' => v' = .ref e ∧ H' = H2) I2 ⟨.ref e, rfl, rfl, rfl⟩) fun u3 s3 ⟨v3, H3, I3, r3, ev, eH⟩ => ?_
  subst ev eH
  obtain rfl : u3 = Value.ref e := r3
  have he3 : s3.heap.get? e = some ⟨.ref C, none, .fields vs, sl⟩ := I3.base.keep e _ he hH hf (fun z => nomatch z)
  obtain ⟨cd, c1, c2, c3⟩ := J.cd
  refine set_exc I3.kIn he3 c1 c2 c3 J.sa J.na fun h' tk n1 n2 n3 n4 => wpAny_execs_nil ?_
  exact kk s3 h' tk u2 _ I3.os I3.bare I3.base I3.hok r2 n1 n2 n3 I3.sz n4
end
end L3
namespace L3
open PySem PySem.Spec PyProof.Rows L2
theorem raise_obj {M : Model} {A : Around} {E : Value → Shared → Prop} {s : Shared} {env : Env} {K : PySem.W.Frag} {C : Addr} {x : Sem Value} {Q : Flow → Shared → Prop} (q : clsX K C = true) (hnd : A.handled = none)
    (h : wpAny M A x (fun v s1 => ∃ e dd vs sl, v = .ref e ∧ K.In s1.heap ∧ s1.heap.get? e = some ⟨.ref C, dd, .fields vs, sl⟩ ∧ vs[1]? = some .none ∧ E (.ref e) s1) E s) : wpAny M A (raiseStmt env (some x) none) Q E s := by
  unfold raiseStmt
  refine wpAny_bind (wpAny_mono h (fun v s1 ⟨e, dd, vs, sl, ev, X, he, h1, gE⟩ => ?_) fun _ _ z => z)
  subst ev
  obtain ⟨bm, N, nm, qn, bs, hd, sn, sub, ab, col, d2, k0, k1, k2, k3, k5, hC, T⟩ := clsX_of X q
  obtain ⟨hp, g, d, tk, os⟩ := s1
  have hB : (Value.ref C :: bm).contains (.type "BaseException") = true := by rw [List.contains_cons, T.hasType (show bmV.contains (.type "BaseException") = true by decide), Bool.or_true]
  repeat (first | with_reducible refine wpAny_loadPart_at he ?_ | with_reducible refine wpAny_loadPart_at hC ?_ | (with_reducible refine wpAny_isSubtype_exc hC ?_; rw [hB]) | with_reducible refine wpAny_field he rfl h1 ?_ | wp_step)
  exact wpAny_raiseNew_none hnd gE
end L3
namespace L3
open PySem PySem.Spec PyProof.Rows L2
section
variable {X : Cx} {F0 H0 : Hp}
theorem frames_lt {pins : List (Addr × Obj)} {σ : St} {H : Hp} {s : Shared} (I : Inv X pins σ H s) : ∀ b ∈ frs X.stack, b < s.heap.objs.size := fun b hb => by
  obtain ⟨_, o, ho, _⟩ := I.stack.mem hb
  exact Heap.lt_size ho
theorem fl_new {pins : List (Addr × Obj)} {σ : St} {H : Hp} {s s2 : Shared} {h' : Heap} {tk : Nat} {C e : Addr} {dd : Option Addr} {vs : Array Value} {sl : Array (Option Value)} {x : Xc} (I : Inv X pins σ H s) (hp : Heap) (up : ∀ b o, s.heap.get? b = some o → hp.get? b = some o)
    (o2 : s2.os = s.os) (b2 : AllBare s2.gens) (u2 : Un (frs X.stack) [] H H hp s2.heap) (k2 : HOk X.prog X.w H s2.heap) (z2 : hp.objs.size ≤ h'.objs.size) (z1 : s.heap.objs.size ≤ hp.objs.size) (ne : s.heap.objs.size ≤ e)
    (kp : ∀ b o, b ≠ e → s2.heap.get? b = some o → h'.get? b = some o) (hm : X.mg x.cls = some (.ref C)) (he : h'.get? e = some ⟨.ref C, dd, .fields vs, sl⟩) (v1 : vs[1]? = some .none) (ok : XOk x) (at_ : AtIs H s.heap.objs.size h' dd x.fs) :
    Fl X.prog X.w X.mg X.stack H s H { s2 with heap := h', toks := tk } e x none := by
  have He : H e = none := I.hok.fresh ne
  have nb : ∀ b o, s.heap.get? b = some o → b ≠ e := fun b o ho z => absurd (Nat.lt_of_lt_of_le (Heap.lt_size ho) (z ▸ ne)) (Nat.lt_irrefl _)
  refine ⟨o2, b2, ⟨fun b o ho n nf _ => kp b o (nb b o ho) (u2.keep b o (up b o ho) n nf (by simp)), fun b o ho n mf _ => ?_, fun _ _ _ n _ => n, fun b o ho _ => ?_, fun _ _ z => z, fun _ _ _ z => z, fun b ps z => ⟨#[], by rw [z]; simp⟩⟩, fun b u hb => ?_, Nat.le_trans z1 z2, ok,
    C, dd, hm, ⟨_, vs, he, rfl, rfl, rfl, (Array.getElem?_eq_some_iff.mp v1).1, ne, He, .inl ⟨v1, rfl⟩⟩, at_⟩
  · obtain ⟨sl', z⟩ := u2.slot b o (up b o ho) n mf (by simp)
    exact ⟨sl', kp b _ (nb b o ho) z⟩
  · obtain ⟨o', z⟩ := u2.there b o (up b o ho) (by simp)
    exact ⟨o', kp b o' (nb b o ho) z⟩
  · refine (k2 b u hb).stay (fun d v hd q => kp d v (fun z => ?_) q) (fun _ z => z) fun _ _ z => z
    subst z
    rcases hd with z | z
    · rw [← z, He] at hb; cases hb
    · rw [He] at z; cases z
def sRaiseA (c : Str) (a : EF) : SF := fun ρ => sOf (a ρ) fun w => match w.d with
  | .non => .exc ⟨c, [("at", .non)]⟩
  | .int (.ofNat n) => .exc ⟨c, [("at", .int n)]⟩
  | _ => .stuck
theorem ss_raiseA {c : Str} {C f : Addr} {qual : Str} {st : Stmt} {fd : FuncData} {k : Nat} {a : Expr} {fa : EF} {p pos pos2 : Pos} (G : XCls X.K C) (J : XIni X.K C f qual st fd) (hr : Room (k + 2) X.A) (hm : X.mg c = some (.ref C)) (ha : SE X F0 H0 a fa)
    (hg : Gl X c := by rfl) (hdb : (c == ("__debug__" : Str)) = false := by decide) (hs : starEach [a] X.env = (false, eval a X.env) :: starEach [] X.env := by rfl) :
    SS X F0 H0 (.Raise (some (.Call (.Name c p) [a] [] pos)) none pos2) (sRaiseA c fa) := by
  intro pins s σ F H ρ D S I h
  show wpAny _ _ (do standAt pos2; raiseStmt X.env (some (do let v ← eval (.Call (.Name c p) [a] [] pos) X.env; standAt pos2; pure v)) none) _ _ _
  refine wpAny_bind (wpAny_standAt (raise_obj (K := X.K) (C := C) G.cl hr.hd (wpAny_bind (wpAny_Call_Name_kw (ld_glob I hg hm ?_ hdb)))))
  refine PySem.W.callWith_K (h₀ := X.base) I.ok.mod.kin G.kp (sa_cons ha sa_nil hs pos pins s σ F H ρ _ S I ?_) hs rfl
  have h := PostS.of h
  cases ef : fa ρ with
  | exc x => rw [ef] at h; exact h.elim
  | stuck => rw [ef] at h; exact h.elim
  | ok wd =>
    rw [ef] at h
    have go : ∀ (x : Xc) (v0 : V), XOk x → x.cls = c → (∃ d : L3.D, x.fs = [(("at" : Str), d)] ∧ ∀ u, RelV v0 u → flatV d u) → XPS X F0 H0 x → (∀ {F1 H1 v}, RdV (kx X) F1 H1 v wd.d → v = v0) →
        KE (XP X F0 H0) (evs [fa] ρ) fun ws => ∀ vs us F' H' s', Gr F H F' H' → Voks (kx X) H F' H' vs ws → Vals vs us → Inv X pins σ H' s' → X.K.In s'.heap ∧ wpAny (model X.prog X.w) X.A (call (.ref C) us) (fun v s1 => wpAny (model X.prog X.w) X.A (do standAt pos2; pure v)
          (fun v s1 => ∃ e dd vs sl, v = .ref e ∧ X.K.In s1.heap ∧ s1.heap.get? e = some ⟨.ref C, dd, .fields vs, sl⟩ ∧ vs[1]? = some .none ∧ X.xe (.ref e) s1) X.xe s1) X.xe s' := by
      intro x v0 ok ec ⟨d, efs, fl⟩ hx hv
      have ee : evs [fa] ρ = .ok [wd] := by unfold evs; rw [ef]; rfl
      rw [ee]
      intro vs us F1 H1 s1 g1 q1 r1 I1
      obtain ⟨v, r, rfl, qv, er⟩ := q1
      obtain rfl : r = [] := er
      obtain rfl := hv (Vok.rd qv)
      cases r1 with
      | cons rv rn =>
        cases rn
        rename_i u
        refine ⟨I1.kIn, ?_⟩
        have up : ∀ b o, s1.heap.get? b = some o → ((s1.heap.push (tupO [u])).push (excO C s1.heap.objs.size)).get? b = some o := fun b o z => Heap.get?_push_of_some _ (Heap.get?_push_of_some _ z)
        have I2 : Inv X pins σ H1 { s1 with heap := (s1.heap.push (tupO [u])).push (excO C s1.heap.objs.size) } := I1.kept (t' := s1.toks) up
        have he : ((s1.heap.push (tupO [u])).push (excO C s1.heap.objs.size)).get? (s1.heap.objs.size + 1) = some (excO C s1.heap.objs.size) := by heap_get
        have zp : s1.heap.objs.size ≤ ((s1.heap.push (tupO [u])).push (excO C s1.heap.objs.size)).objs.size := by simp only [Heap.size_push]; omega
        refine wpAny_call (make_exc I1.kIn G.cl J.ini J.fn (by simp [sizeLine_eq]) (init_exc (k := k) J (hr.make C [u] []) (I2.env0.make C [u] []) he (I1.hok.fresh (Nat.le_succ _)) (fun z => ?_) rv fun s2 h' tk u' dx o2 b2 un2 hk2 ru n1 n2 n3 n4 n5 => ⟨rfl, ?_⟩))
        · exact absurd (frames_lt I1 _ z) (Nat.not_lt.mpr (Nat.le_succ _))
        · have W : Fl X.prog X.w X.mg X.stack H1 s1 H1 { s2 with heap := h', toks := tk } (s1.heap.objs.size + 1) x none :=
            fl_new I1 _ up o2 b2 un2 hk2 (Nat.le_trans n4 (Nat.le_of_lt n5)) zp (by omega) n3 (by rw [ec]; exact hm) n2 rfl ok (by rw [efs]; exact ⟨dx, _, u', rfl, Nat.le_trans zp n4, I1.hok.fresh (Nat.le_trans zp n4), n1, by simp, fl u' ru⟩)
          refine wpAny_bind (wpAny_standAt (wpAny_pure ⟨_, _, _, _, rfl, ?_, n2, rfl, hx pins σ H1 s1 F1 H1 _ _ none (.inl rfl) (S.gr.trans g1) I1 W⟩))
          exact (I1.call' W.os W.un W.hok W.bare (fun b z => by simp at z)).kIn
    cases w : wd.d with
    | non =>
      have h2 : XPS X F0 H0 ⟨c, [("at", .non)]⟩ := by
        have h2 : PostS X F0 H0 F D (match wd.d with | .non => .exc ⟨c, [("at", .non)]⟩ | .int (.ofNat n) => .exc ⟨c, [("at", .int n)]⟩ | _ => .stuck) := h
        rw [w] at h2; exact h2
      exact go _ .non (.nonf c) rfl ⟨.non, rfl, fun u r => r⟩ h2 fun q => RdV.non (w ▸ q)
    | int i =>
      cases i with
      | ofNat n =>
        have h2 : XPS X F0 H0 ⟨c, [("at", .int n)]⟩ := by
          have h2 : PostS X F0 H0 F D (match wd.d with | .non => .exc ⟨c, [("at", .non)]⟩ | .int (.ofNat n) => .exc ⟨c, [("at", .int n)]⟩ | _ => .stuck) := h
          rw [w] at h2; exact h2
        exact go _ (.int n) (.intf c n) rfl ⟨.int n, rfl, fun u r => r⟩ h2 fun q => RdV.int (w ▸ q)
      | negSucc n => have h2 : PostS X F0 H0 F D (match wd.d with | .non => .exc ⟨c, [("at", .non)]⟩ | .int (.ofNat n) => .exc ⟨c, [("at", .int n)]⟩ | _ => .stuck) := h; rw [w] at h2; exact h2.elim
    | _ => have h2 : PostS X F0 H0 F D (match wd.d with | .non => .exc ⟨c, [("at", .non)]⟩ | .int (.ofNat n) => .exc ⟨c, [("at", .int n)]⟩ | _ => .stuck) := h; rw [w] at h2; exact h2.elim
end
end L3
namespace L3
open PySem PySem.Spec PyProof.Rows L2
section
variable {prog : Program} {w : World} {A : Around} {E : Value → Shared → Prop} {s : Shared} {K : PySem.W.Frag} {C : Addr} {rest : List Value} {R : Result → Shared → Prop}
theorem make_exc0 (X : K.In s.heap) (q : clsX K C = true) (hi : PySem.W.findIn K (.ref C) "__init__" = some (some (.builtin "ValueError.__init__"))) (hz : rest.length ≤ sizeLine)
    (k : ∀ h', (∀ b o, s.heap.get? b = some o → h'.get? b = some o) → (∃ vs sl, h'.get? (s.heap.objs.size + 1) = some ⟨.ref C, none, .fields vs, sl⟩ ∧ vs[1]? = some .none) → s.heap.objs.size ≤ h'.objs.size → R (.ok (.ret (.ref (s.heap.objs.size + 1)))) { s with heap := h' }) :
    codeAny (model prog w) A (.call (.ref C) ⟨rest, []⟩) R s := by
  obtain ⟨bm, N, nm, qn, bs, hd, sn, sub, ab, col, dd, k0, k1, k2, k3, k5, gC, T⟩ := clsX_of X q
  obtain ⟨h, g, d, t, os⟩ := s
  dsimp only at X gC T k ⊢
  have F := PySem.F.excBase_ValueError
  have f1 := tc_lookup
  have f2 := tc_bind (.ref C)
  have tT : (⟨h, g, d, t, os⟩ : Shared).TypeIs (.ref C) "type" := ⟨_, gC, rfl⟩
  refine codeAny_of_tree ?_
  show wpAny _ _ (callAny (.ref C) ⟨rest, []⟩) _ _ _
  repeat (any_goals (first | assumption | with_reducible refine wpAny_loadPart_at gC ?_ | wp_step))
  refine ⟨rfl, codeAny_call_builtin_at (Code.quiet_builtin _ (by decide +kernel)) entry_typeCall (wpAny_check_type_call_sub gC ?_)⟩
  repeat (first | with_reducible refine wpAny_loadPart_at gC ?_ | with_reducible refine wpAny_madeBy_exc gC ?_ | wp_step)
  refine codeAny_call_builtin_code (Code.quiet_builtin _ F.quiet) (wpAny_check_new_subT F T gC (codeAny_exc_new_subT F T gC ?_ hz))
  show wpAny _ _ _ _ _ _
  have up : ∀ b o, h.get? b = some o → ((h.push (tupO rest)).push (excO C h.objs.size)).get? b = some o := fun b o e => Heap.get?_push_of_some _ (Heap.get?_push_of_some _ e)
  have gC1 := up _ _ gC
  have X1 : K.In ((h.push (tupO rest)).push (excO C h.objs.size)) := X.keeps up
  have T1 := T.keeps up
  have ge : ((h.push (tupO rest)).push (excO C h.objs.size)).get? (h.objs.size + 1) = some (excO C h.objs.size) := by heap_get
  have sC : (Value.ref C :: bm).contains (.ref C) = true := by simp
  unfold isInstance
  repeat (first | with_reducible refine wpAny_loadPart_at ge ?_ | wp_step)
  show wpAny _ _ (isSubtype (.ref C) (.ref C)) _ _ _
  refine wpAny_isSubtype_exc gC1 ?_
  rw [sC]
  repeat (first | with_reducible refine wpAny_loadPart_at ge ?_ | wp_step)
  show wpAny _ _ (typeLookup (.ref C) "__init__") _ _ _
  refine PySem.W.Looks.here (s := ⟨(h.push (tupO rest)).push (excO C h.objs.size), g, d, t, os⟩) (PySem.W.looks_findIn X1 hi) ?_
  refine wpAny_holding (wpAny_bind (wpAny_of_eq (F.init.bind (.ref (h.objs.size + 1))) ?_))
  refine wpAny_bind (wpAny_call (codeAny_call_builtin F.init.plain F.initEntry (wpAny_check_init_subT F T1 gC1 ge rfl ?_)))
  wp_walk
  have he2 := Heap.get?_push_of_some (h := (h.push (tupO rest)).push (excO C h.objs.size)) (tupO rest) ge
  refine k _ (fun b o hb => ?_) ⟨_, _, Heap.get?_update_self _ he2 rfl, rfl⟩ (by first | (simp only [Heap.size_update, Heap.size_push]; omega) | (simp; omega))
  rw [Heap.get?_update_other _ _ (Nat.ne_of_gt (Nat.lt_succ_of_lt (Heap.lt_size hb)))]
  exact Heap.get?_push_of_some _ (up b o hb)
end
section
variable {X : Cx} {F0 H0 : Hp}
def sRaise0 (c : Str) (a : EF) : SF := fun ρ => sOf (a ρ) fun _ => .exc ⟨c, []⟩
theorem ss_raise0 {c : Str} {C : Addr} {k : Nat} {a : Expr} {fa : EF} {p pos pos2 : Pos} (G : XCls X.K C) (hi : PySem.W.findIn X.K (.ref C) "__init__" = some (some (.builtin "ValueError.__init__"))) (hr : Room (k + 2) X.A) (hm : X.mg c = some (.ref C)) (ha : SE X F0 H0 a fa)
    (hg : Gl X c := by rfl) (hdb : (c == ("__debug__" : Str)) = false := by decide) (hs : starEach [a] X.env = (false, eval a X.env) :: starEach [] X.env := by rfl) :
    SS X F0 H0 (.Raise (some (.Call (.Name c p) [a] [] pos)) none pos2) (sRaise0 c fa) := by
  intro pins s σ F H ρ D S I h
  show wpAny _ _ (do standAt pos2; raiseStmt X.env (some (do let v ← eval (.Call (.Name c p) [a] [] pos) X.env; standAt pos2; pure v)) none) _ _ _
  refine wpAny_bind (wpAny_standAt (raise_obj (K := X.K) (C := C) G.cl hr.hd (wpAny_bind (wpAny_Call_Name_kw (ld_glob I hg hm ?_ hdb)))))
  refine PySem.W.callWith_K (h₀ := X.base) I.ok.mod.kin G.kp (sa_cons ha sa_nil hs pos pins s σ F H ρ _ S I ?_) hs rfl
  have h := PostS.of h
  cases ef : fa ρ with
  | exc x => rw [ef] at h; exact h.elim
  | stuck => rw [ef] at h; exact h.elim
  | ok wd =>
    rw [ef] at h
    have hx : XPS X F0 H0 ⟨c, []⟩ := h
    have ee : evs [fa] ρ = .ok [wd] := by unfold evs; rw [ef]; rfl
    rw [ee]
    intro vs us F1 H1 s1 g1 q1 r1 I1
    refine ⟨I1.kIn, ?_⟩
    have l1 : us.length = 1 := by
      obtain ⟨v, r, rfl, qv, er⟩ := q1
      obtain rfl : r = [] := er
      cases r1 with
      | cons rv rn => cases rn; rfl
    refine wpAny_call (make_exc0 I1.kIn G.cl hi (by simp [sizeLine_eq, l1]) fun h' up ⟨ws, sl, n2, v1⟩ zz => ?_)
    have W : Fl X.prog X.w X.mg X.stack H1 s1 H1 { s1 with heap := h' } (s1.heap.objs.size + 1) ⟨c, []⟩ none :=
      fl_new (s2 := { s1 with heap := h' }) (tk := s1.toks) I1 h' up rfl I1.bare Un.refl (I1.hok.kept up) (Nat.le_refl _) zz (by omega) (fun _ _ _ z => z) hm n2 v1 (.nof c) trivial
    refine wpAny_bind (wpAny_standAt (wpAny_pure ⟨_, _, _, _, rfl, ?_, n2, v1, hx pins σ H1 s1 F1 H1 _ _ none (.inl rfl) (S.gr.trans g1) I1 W⟩))
    exact (I1.call' W.os W.un W.hok W.bare (fun b z => by simp at z)).kIn
end
end L3
namespace L3
open PySem PySem.Spec PyProof.Rows L2
def CX1 (P : Program) (w : World) (mg : Str → Option Value) : CXT := fun outer H s E e s' => ∃ (x : Xc) (H' : Hp) (a : Addr), e = .ref a ∧ Fl P w mg outer H s H' s' a x (some .none) ∧ E (.str x.cls 0) (atc x) H'
def spX (κ : Kx) (dn : Den) (n : Nat) : Sp := fun vs H Q E => vs.length = n ∧ ∃ F ws, Le F H ∧ Args κ F H vs ws ∧
  KE (fun x => ∀ F' H', Gr F H F' H' → E (.str x.cls 0) (atc x) H') (dn ws) fun w => ∀ v F' H', Gr F H F' H' → Vok κ H F' H' v w → Q v H'
section
variable {P : Program} {w : World} {K : PySem.W.Frag} {mg : Str → Option Value} {base : Heap}
theorem calm {k : Nat} {f : Addr} {fd : FuncData} {ps : List Str} {κ : Kx} {dn : Den} {n : Nat} (G : FnOk P w K mg base (CX1 P w mg) k f fd ps (spX κ dn n)) : FnOk P w K mg base CX0 k f fd ps (spD κ dn n) := by
  have imp : ∀ vs H Q, spD κ dn n vs H Q E0 → spX κ dn n vs H Q E0 := fun vs H Q q => by
    obtain ⟨l, F, ws, a, b, c⟩ := q
    exact ⟨l, F, ws, a, b, KE.impX c (fun _ z => z) fun _ z => z.elim⟩
  refine ⟨fun vs H Q E q => G.len vs H Q E0 (imp vs H Q q), fun A outer s H args us vs Q E hr e0 hb hv hs => ?_⟩
  refine codeAny_mono (G.run A outer s H args us vs Q E0 hr e0 hb hv (imp vs H Q hs)) fun r s' z => ?_
  cases r with
  | error e => obtain ⟨_, _, _, _, _, z⟩ := z; exact z.elim
  | ok fl => cases fl <;> exact z
theorem xps_leave {N ps : List Str} {qual : Str} {scope : Scope} {f : Addr} {cdv : Value} {A : Around} {outer : List Env} {s0 : Shared} {H0 F0 : Hp} {E : XK} {x : Xc} (h : ∀ F' H', Gr F0 H0 F' H' → E (.str x.cls 0) (atc x) H') :
    XPS (cxOf (CX1 P w mg) P w K mg base N qual scope f cdv A outer s0 H0 E) F0 H0 x := by
  intro pins σ H s F' H' s' e q hq g I fl
  have I' := I.call' fl.os fl.un fl.hok fl.bare (fun b z => by simp at z)
  obtain ⟨C, dd, hm, W, at_⟩ := fl.way
  show wpAny _ _ (do noteFrame (.ref e) _; setFlight (.ref e) none) _ _ _
  refine wpAny_bind (way_note (base := base) (L := s0.heap.objs.size) I'.ok.frames I'.stack rfl W hq (fun b hb => fl.hok.fresh hb) fl.sz fun h1 c1 w1 => ?_)
  refine way_flight (s := { s' with heap := h1 }) (fs := frs (cxOf (CX1 P w mg) P w K mg base N qual scope f cdv A outer s0 H0 E).stack) w1 fun h2 c2 w2 => ?_
  have c := c1.trans c2
  have I2 := Inv.chg (t' := s'.toks) I I' c
  exact ⟨x, H', e, rfl, ⟨I2.os, I2.bare, I2.base, I2.hok, I2.sz, fl.ok, C, dd, hm, w2.mono I.sz, (at_.chg c (frames_lt I)).mono I.sz⟩, h F' H' g⟩
theorem fnX {x qual : Str} {st : Stmt} {f : Addr} {fd : FuncData} {N ps : List Str} {k : Nat} {body : SF} (F : Fun K x qual st f fd) (S : FnScope N ps (defScope st))
    (h : ∀ (cdv : Value) (A : Around) (outer : List Env) (s : Shared) (H F0 : Hp) (E : XK), Room k (A.deeper (envOfC qual (defScope st) s.heap.objs.size f cdv)) →
      SSs (cxOf (CX1 P w mg) P w K mg base N qual (defScope st) f cdv A outer s H E) F0 H (defBody st) body) : FnOk P w K mg base (CX1 P w mg) (k + 1) f fd ps (spX ⟨P, w, K⟩ (den N.length body) ps.length) := by
  obtain ⟨oc, od, kV, doc, pm, an, cdv, ct, osl, rfl, lk, hcd⟩ := F.ex
  refine fn_of lk hcd S (fun vs H Q E q => q.1) fun A outer s H vs Q E hr q => ?_
  obtain ⟨hl, F0, ws, l, ha, q⟩ := q
  refine ⟨tSemS _ _, pss_sem, fun pins s' I => ?_⟩
  refine h cdv A outer s H F0 E hr pins s' (L2.start N vs) F0 H _ _ (start_st (N := N) l ha) I ?_
  have e : KE (fun x => ∀ F' H', Gr F0 H F' H' → E (.str x.cls 0) (atc x) H') (den N.length body ws) fun w' => ∀ v F' H', Gr F0 H F' H' → Vok ⟨P, w, K⟩ H F' H' v w' → Q v H' := q
  unfold den fin at e
  cases eb : body (ws.map some ++ List.replicate (N.length - ws.length) none) with
  | nx ρ => rw [eb] at e; exact fun σ' F' H' l' S' => e .non F' H' S'.gr rfl
  | rt w' => rw [eb] at e; exact e
  | bk ρ => rw [eb] at e; exact e.elim
  | ct ρ => rw [eb] at e; exact e.elim
  | exc x => rw [eb] at e; exact xps_leave (ps := ps) e
  | stuck => rw [eb] at e; exact e.elim
end
section
variable {X : Cx} {F0 H0 : Hp} {pos p pos2 : Pos} {e : Expr} {es : List Expr} {fa : List EF} {x : Str} {k n : Nat} {f : Addr} {fd : FuncData} {ps : List Str} {dn : Den}
def nrm (x : Xc) : Xc := ⟨x.cls, match atc x with
  | none => []
  | some 0 => [("at", .non)]
  | some (n + 1) => [("at", .int n)]⟩
theorem nrm_ok {x : Xc} (h : XOk x) : nrm x = x := by cases h <;> rfl
theorem nrm_eq {x y : Xc} (hc : x.cls = y.cls) (ha : atc x = atc y) : nrm x = nrm y := by unfold nrm; rw [hc, ha]
def sCallX (dn : Den) (fa : List EF) : SF := fun ρ => sOf (evs fa ρ) fun ws => sOf (argAll ws) fun ys => match dn ys with
  | .ok _ => .nx ρ
  | .exc x => .exc (nrm x)
  | .stuck => .stuck
theorem ss_callX (G : FnOk X.prog X.w X.K X.mg X.base (CX1 X.prog X.w X.mg) k f fd ps (spX (kx X) dn n)) (hr : Room k X.A) (hm : X.mg x = some (.ref f)) (hk : PySem.W.keepIn X.K (.ref f) = true) (hb : Binds X.K fd ps []) (ha : SA X F0 H0 (e :: es) fa)
    (hn : fa.length = n := by rfl) (hs : swapsWith (.Call (.Name x p) (e :: es) [] pos) none pos2.line X.env = pure false := by rfl)
    (hg : Gl X x := by rfl) (hdb : (x == ("__debug__" : Str)) = false := by decide) (he : starEach (e :: es) X.env = (false, eval e X.env) :: starEach es X.env := by rfl) (hpl : (backTo pos (starEach es X.env)).any (·.1) = false := by rfl) :
    SS X F0 H0 (.Expr (.Call (.Name x p) (e :: es) [] pos) pos2) (sCallX dn fa) := by
  intro pins s σ F H ρ D S I h
  refine wpAny_Expr_any ?_ I.quiet hs
  refine wpAny_Call_Name_kw (ld_glob I hg hm ?_ hdb)
  refine PySem.W.callWith_K (h₀ := X.base) I.ok.mod.kin hk (ha pos pins s σ F H ρ _ S I ?_) he hpl
  have h := PostS.of h
  cases ef : evs fa ρ with
  | exc x => rw [ef] at h; exact h.elim
  | stuck => rw [ef] at h; exact h.elim
  | ok ws =>
    rw [ef] at h
    intro vs us F1 H1 s1 g1 q1 r1 I1
    refine ⟨I1.kIn, ?_⟩
    have h := PostS.of (show PostS X F0 H0 F D (sOf (argAll ws) fun ys => match dn ys with | .ok _ => .nx ρ | .exc x => .exc (nrm x) | .stuck => .stuck) from h)
    cases ea : argAll ws with
    | exc x => rw [ea] at h; exact h.elim
    | stuck => rw [ea] at h; exact h.elim
    | ok ys =>
      rw [ea] at h
      obtain ⟨g2, l2⟩ := fzAll_gr S.s g1
      have A := argAll_ok (κ := kx X) g1.s q1 ea (fzAll H F1 H1) l2 (fun a o e0 e2 => by unfold fzAll; rw [e0]; exact e2)
      have hl : vs.length = n := by
        rw [← hn, ← evs_len fa ρ ws ef]
        clear A ea h r1
        revert vs
        have : ∀ (ws : List En) (vs : List V), Voks (kx X) H F1 H1 vs ws → vs.length = ws.length := by
          intro ws
          induction ws with
          | nil => intro vs h; cases (show vs = [] from h); rfl
          | cons w ws ih =>
            intro vs h
            obtain ⟨v, r, rfl, _, h2⟩ := h
            simp [ih r h2]
        intro vs h
        exact this ws vs h
      have h : PostS X F0 H0 F D (match dn ys with | .ok _ => .nx ρ | .exc x => .exc (nrm x) | .stuck => .stuck) := h
      have r2 : Vals (vs ++ []) (us ++ []) := r1.append .nil
      cases ed : dn ys with
      | stuck => rw [ed] at h; exact h.elim
      | ok wr =>
        rw [ed] at h
        have h : ∀ σ' F' H', Le F F' → StOk (kx X) F0 H0 F' H' ρ σ' → D.nx σ' H' := h
        refine thn (run_fn (E := E0) (Q := fun v H' => ∃ F', Gr (fzAll H F1 H1) H1 F' H') G hr hb (dvs := []) .nil (fun _ _ _ _ _ _ _ z => by obtain ⟨_, _, _, _, _, z⟩ := z; exact z.elim) I1 r1 ?_) fun u s' ⟨v, H', I', rv, F', g'⟩ => ?_
        · rw [List.append_nil]
          exact ⟨hl, fzAll H F1 H1, ys, g2.s, A, by rw [ed]; exact fun v F' H' g' _ => ⟨F', g'⟩⟩
        · exact ⟨σ, H', I', h σ F' H' (Le.trans g2.f g'.f) (S.grow (g2.trans g'))⟩
      | exc x0 =>
        rw [ed] at h
        have h : XPS X F0 H0 (nrm x0) := h
        have hsp : spX (kx X) dn n vs H1 (fun _ _ => False) (fun v a H' => v = .str x0.cls 0 ∧ a = atc x0 ∧ ∃ F', Gr (fzAll H F1 H1) H1 F' H') := ⟨hl, fzAll H F1 H1, ys, g2.s, A, by rw [ed]; exact fun F' H' g' => ⟨rfl, rfl, F', g'⟩⟩
        refine wpAny_mono (wpAny_call (codeAny_mono (G.run X.A X.stack s1 H1 ⟨us, []⟩ us vs (fun _ _ => False) (fun v a H' => v = .str x0.cls 0 ∧ a = atc x0 ∧ ∃ F', Gr (fzAll H F1 H1) H1 F' H') hr I1.env0 ?_ r1 hsp) fun r s' z => ?_)) (fun _ _ z => z) fun _ _ z => z
        · have := hb s1 us I1.kIn (by rw [← r2.length, List.append_nil]; exact G.len vs H1 _ _ hsp)
          rwa [List.append_nil] at this
        · cases r with
          | ok fl => cases fl <;> first | exact z.elim | (obtain ⟨_, _, _, _, _, _, _, z⟩ := z; exact z.elim)
          | error er =>
            obtain ⟨y, H', a, rfl, fl, ec, ea', F', g'⟩ := z
            have ey : nrm x0 = y := (nrm_eq (by injection ec with z; exact z.symm) ea'.symm).trans (nrm_ok fl.ok)
            rw [ey] at h
            exact h pins σ H1 s1 F' H' s' a (some .none) (.inr rfl) (S.gr.trans (g2.trans g')) I1 fl
end
end L3
namespace L3
open PySem PySem.Spec PyProof.Rows L2
section
variable {M : Model} {A : Around} {E : Value → Shared → Prop} {s : Shared} {K : PySem.W.Frag} {C S e : Addr} {oe : Obj}
theorem has_mro {h : Heap} (X : K.In h) {b : Value} (hs : PySem.W.mroIn K C b = some true) {nm qn : Str} {N : Addr} {bs bm : List Value} {hd : Bool} {sn : List Str} {sub : List Value} {ab : Bool} {col : Option Bool} {dd : Option Addr} {k0 k1 k2 k3 k5 : Option Value} {nw : String}
    (hC : h.get? C = some (excClassObj nm qn C N bs bm hd sn sub ab col dd k0 k1 k2 k3 k5 nw)) : (Value.ref C :: bm).contains b = true := by
  obtain ⟨cd, e1, e2⟩ := Option.bind_eq_some_iff.mp hs
  unfold PySem.W.clsIn at e1
  split at e1
  · rename_i lk
    cases e1
    have z := X _ _ lk
    rw [hC] at z
    cases z
    split at e2
    · cases e2
    · exact Option.some.inj e2
  · cases e1
theorem exc_match {Q : Bool → Shared → Prop} (X : K.In s.heap) (qC : clsX K C = true) (qS : clsX K S = true) (hs : PySem.W.mroIn K C (.ref S) = some true) (he : s.heap.get? e = some oe) (hc : oe.cls = .ref C) (h : Q true s) : wpAny M A (excMatches (.ref e) (.ref S)) Q E s := by
  obtain ⟨bm, N, nm, qn, bs, hd, sn, sub, ab, col, d2, k0, k1, k2, k3, k5, hC, T⟩ := clsX_of X qC
  obtain ⟨bm', N', nm', qn', bs', hd', sn', sub', ab', col', d2', k0', k1', k2', k3', k5', hS, T'⟩ := clsX_of X qS
  have hB : (Value.ref S :: bm').contains (.type "BaseException") = true := by rw [List.contains_cons, T'.hasType (show bmV.contains (.type "BaseException") = true by decide), Bool.or_true]
  have hCS := has_mro X hs hC
  have f := tc_notTuple
  obtain ⟨hp0, g, d, tk, os⟩ := s
  unfold excMatches
  repeat (first | (with_reducible refine wpAny_loadPart_at he ?_; rw [hc]) | with_reducible refine wpAny_loadPart_at hS ?_ | (with_reducible refine wpAny_isSubtype_exc hS ?_; rw [hB]) | (with_reducible refine wpAny_isSubtype_exc hC ?_; rw [hCS]) | wp_step)
  exact h
end
theorem isi_exc {prog : Program} {w : World} {A : Around} {E : Value → Shared → Prop} {s : Shared} {K : PySem.W.Frag} {C e : Addr} {oe : Obj} {T : String} {Q : Value → Shared → Prop} (X : K.In s.heap) (he : s.heap.get? e = some oe) (hc : oe.cls = .ref C) (hm : PySem.W.kitCls K (.ref C) (.type T) = some true)
    (h : ∀ tk, Q (.bool true) { s with toks := tk }) : wpAny (model prog w) A (call (.builtin "isinstance") [.ref e, .type T]) Q E s := by
  refine call_isinstance (S := fun _ R s => (K.In s.heap ∧ s.heap.get? e = some oe) ∧ ∀ tk, R (.ok (.ret (.bool true))) { s with toks := tk }) (fun prog w A R s hs => isinstance_outer ?_ (fun z => nomatch z)) ⟨⟨X, he⟩, h⟩
  obtain ⟨hp0, g, d, tk0, os⟩ := s
  obtain ⟨⟨X, he⟩, gq⟩ := hs
  have LT : PySem.W.Looks (model prog w) hp0 (typeOf (.ref e)) (.ref C) := hc ▸ (PySem.W.Looks.ld he).andThen .now
  unfold Builtin.«isinstance.nested»
  refine wpAny_bind (PySem.W.Looks.here (s := ⟨hp0, g, d, tk0, os⟩) LT ?_)
  rw [if_neg (by simp)]
  obtain ⟨hty, his, hsub⟩ := PySem.W.kit_cls (M := model prog w) X hm
  refine wpAny_bind (PySem.W.Looks.here (s := ⟨hp0, g, d, tk0, os⟩) hty ?_)
  rw [if_pos (by decide)]
  have LI : PySem.W.Looks (model prog w) hp0 (isInstance (.ref e) (.type T)) true := LT.andThen hsub
  k_delta "plainIsInstance"
  refine wpAny_bind (wpAny_bind (PySem.W.Looks.here (s := ⟨hp0, g, d, tk0, os⟩) his ?_))
  simp only [Bool.not_true, Bool.false_eq_true, if_false]
  refine wpAny_bind (PySem.W.Looks.here (s := ⟨hp0, g, d, tk0, os⟩) LI ?_)
  first
    | exact wpAny_pure (wpAny_pure (gq tk0))
    | (simp only [if_true]; first | exact wpAny_pure (wpAny_pure (gq tk0)) | exact wpAny_pure (gq tk0) | exact wpAny_bind (wpAny_pure (wpAny_pure (gq tk0))))
end L3
namespace L3
open PySem PySem.Spec PyProof.Rows L2
abbrev _root_.L2.Cx.inn (X : Cx) (pn : List (Addr × Obj)) (E : Value → Shared → Prop) : Cx := { X with pn := pn, xe := E }
abbrev _root_.L2.Cx.hnd (X : Cx) (pn : List (Addr × Obj)) (e : Addr) : Cx := { X with pn := pn, xe := fun _ _ => False, A := X.A.mark (some (.ref e)), calm := false }
section
variable {X : Cx} {pins pn : List (Addr × Obj)} {σ : St} {H : Hp} {s : Shared} {E : Value → Shared → Prop} {e : Addr} {D : Ends} {fl : Flow}
theorem _root_.L2.Inv.inn (I : Inv X pins σ H s) : Inv (X.inn (X.pn ++ pins) E) [] σ H s :=
  ⟨⟨I.ok.mod, I.ok.kind, I.ok.glob, I.ok.blt, I.ok.above, I.ok.inj, I.ok.has, I.ok.cab, I.ok.hd, I.ok.frames, I.ok.stk, I.ok.exf, I.ok.bs, I.ok.bsz, I.ok.noex, I.ok.exfs, I.ok.funs, I.ok.frf⟩, I.os, I.bare, I.base, I.loc, I.cell, I.free, I.freeC, fun p hp => I.pin p (by simpa using hp), I.hok, I.len⟩
theorem _root_.L2.Inv.uninn {pins' : List (Addr × Obj)} (I : Inv (X.inn (X.pn ++ pins) E) pins' σ H s) : Inv X pins σ H s :=
  ⟨⟨I.ok.mod, I.ok.kind, I.ok.glob, I.ok.blt, I.ok.above, I.ok.inj, I.ok.has, I.ok.cab, I.ok.hd, I.ok.frames, I.ok.stk, I.ok.exf, I.ok.bs, I.ok.bsz, I.ok.noex, I.ok.exfs, I.ok.funs, I.ok.frf⟩, I.os, I.bare, I.base, I.loc, I.cell, I.free, I.freeC, fun p hp => I.pin p (List.mem_append_left _ hp), I.hok, I.len⟩
theorem _root_.L2.SP.uninn {pins' : List (Addr × Obj)} {f : Flow} {s' : Shared} (h : SP (X.inn (X.pn ++ pins) E) pins' D f s') : SP X pins D f s' := by
  cases f with
  | next => obtain ⟨σ', H', I, q⟩ := h; exact ⟨σ', H', I.uninn, q⟩
  | brk => obtain ⟨σ', H', I, q⟩ := h; exact ⟨σ', H', I.uninn, q⟩
  | cont => obtain ⟨σ', H', I, q⟩ := h; exact ⟨σ', H', I.uninn, q⟩
  | ret u => obtain ⟨v, σ', H', I, r, q⟩ := h; exact ⟨v, σ', H', I.uninn, r, q⟩
theorem _root_.L2.Inv.hnd {more : List (Addr × Obj)} (I : Inv X pins σ H s) (h : ∀ p ∈ more, s.heap.get? p.1 = some p.2 ∧ H p.1 = none ∧ p.1 ≠ X.env.locals ∧ p.1 ∉ X.fs ∧ ∀ v, p.2.data ≠ .cell v) : Inv (X.hnd (X.pn ++ pins ++ more) e) [] σ H s :=
  ⟨⟨I.ok.mod, I.ok.kind, I.ok.glob, I.ok.blt, I.ok.above, I.ok.inj, I.ok.has, I.ok.cab, (fun z => nomatch z), I.ok.frames, I.ok.stk, I.ok.exf, I.ok.bs, I.ok.bsz, I.ok.noex, I.ok.exfs, I.ok.funs, I.ok.frf⟩, I.os, I.bare, I.base, I.loc, I.cell, I.free, I.freeC,
    fun p hp => by
      have hp : p ∈ X.pn ++ pins ++ more := by simpa using hp
      rcases List.mem_append.mp hp with z | z
      · exact I.pin p z
      · exact h p z, I.hok, I.len⟩
theorem _root_.L2.Inv.gone {more : List (Addr × Obj)} {h' : Heap} {t' : Nat} {m' : Str → Option Value} (hc : X.calm = true → X.A.handled = none) (I : Inv (X.hnd (X.pn ++ pins ++ more) e) [] σ H s) (hn : h'.Ns X.env.locals m') (sb : Heap.SameBut X.env.locals s.heap h') : Inv X pins (σ.map fun _ => none) H { s with heap := h', toks := t' } := by
  have nl : ∀ b o, X.s₀.heap.get? b = some o → b ≠ X.env.locals := fun b o ho => Nat.ne_of_lt (Nat.lt_of_lt_of_le (Heap.lt_size ho) I.ok.above)
  have kp : ∀ b o, b ≠ X.env.locals → s.heap.get? b = some o → h'.get? b = some o := fun b o nb ho => (sb.2 b nb).trans ho
  have B := I.base
  refine ⟨⟨I.ok.mod, I.ok.kind, I.ok.glob, I.ok.blt, I.ok.above, I.ok.inj, I.ok.has, I.ok.cab, hc, I.ok.frames, I.ok.stk, I.ok.exf, I.ok.bs, I.ok.bsz, I.ok.noex, I.ok.exfs, I.ok.funs, I.ok.frf⟩, I.os, I.bare,
    ⟨fun b o e n nf nx => kp b o (nl b o e) (B.keep b o e n nf nx), fun b o e n mf nx => ?_, B.free, fun b o e nx => ?_, B.tups, B.frzs, B.tbls⟩, ⟨m', hn, fun i x v e1 e2 => ?_⟩, fun x c hx => ?_, I.free, I.freeC, fun p hp => ?_, fun b u hb => ?_, by rw [List.length_map]; exact I.len⟩
  · obtain ⟨sl, z⟩ := B.slot b o e n mf nx
    exact ⟨sl, kp b _ (nl b o e) z⟩
  · obtain ⟨o', z⟩ := B.there b o e nx
    exact ⟨o', kp b o' (nl b o e) z⟩
  · rw [List.getElem?_map] at e2
    cases q : σ[i]? with
    | none => rw [q] at e2; cases e2
    | some a => rw [q] at e2; cases e2
  · obtain ⟨v, o, ho, hd⟩ := I.cell x c hx
    exact ⟨v, o, kp c o (I.cne x c hx) ho, hd⟩
  · obtain ⟨e1, e2, e3, e4⟩ := I.pin p (by simp only [List.append_nil]; exact List.mem_append_left _ hp)
    exact ⟨kp p.1 p.2 e3 e1, e2, e3, e4⟩
  · refine (I.hok b u hb).stay (fun d v hd q => kp d v (fun z => ?_) q) (fun _ z => z) fun _ _ z => z
    subst z
    rcases hd with z | z
    · rw [← z, I.free] at hb; cases hb
    · have := I.free; rw [this] at z; cases z
end
def sTry (b : SF) (cs : List Str) (hd : Xc → R En) : SF := fun ρ => match b ρ with
  | .exc x => if cs.contains x.cls = true then sOf (hd x) .rt else .stuck
  | o => o
def HD (X : Cx) (F0 H0 : Hp) (h0 : ExceptHandler) (cs : List Str) (hd : Xc → R En) : Prop :=
  ∀ (pins : List (Addr × Obj)) (σ1 σ : St) (H1 F H : Hp) (s1 s : Shared) (e C : Addr) (dd : Option Addr) (x : Xc) (w : En) (D : Ends), Inv X pins σ1 H1 s1 → Inv X pins σ H s → Gr F0 H0 F H → X.mg x.cls = some (.ref C) → XOk x → cs.contains x.cls = true → hd x = .ok w →
    Way H s1.heap.objs.size s.heap e (.ref C) dd (some .none) → AtIs H s1.heap.objs.size s.heap dd x.fs → (∀ v F' H', Gr F0 H0 F' H' → Vok (kx X) H0 F' H' v w → D.rt v H') →
    wpAny (model X.prog X.w) X.A (handleBy (.ref e) X.env [h0]) (SP X pins D) X.xe s
theorem ss_try {X : Cx} {F0 H0 : Hp} {body : List Stmt} {b : SF} {h0 : ExceptHandler} {cs : List Str} {hd : Xc → R En} {pos : Pos} {L : Addr} {outer : List Env} (hf : X.env.frame = some L) (hst : X.stack = X.env :: outer) (hb : ∀ pn E, SSs (X.inn pn E) F0 H0 body b) (hh : HD X F0 H0 h0 cs hd) :
    SS X F0 H0 (.Try body [h0] [] [] pos) (sTry b cs hd) := by
  intro pins s σ F H ρ D S I h
  refine wpAny_Try_except ?_
  refine wpAny_mono (hb (X.pn ++ pins) (fun e s₁ => wpAny (model X.prog X.w) X.A (noteFrame e X.env) (fun _ s₂ => wpAny (model X.prog X.w) X.A (setFlight e none) (fun _ s₃ => wpAny (model X.prog X.w) X.A (handleBy e X.env [h0]) (SP X pins D) X.xe s₃) X.xe s₂) X.xe s₁)
    [] s σ F H ρ D S I.inn ?_) (fun f s1 q => ?_) (fun _ _ z => z)
  · unfold sTry at h
    cases eb : b ρ with
    | nx ρ' => rw [eb] at h; exact h
    | rt w => rw [eb] at h; exact h
    | bk ρ' => rw [eb] at h; exact h
    | ct ρ' => rw [eb] at h; exact h
    | stuck => rw [eb] at h; exact h
    | exc x =>
      rw [eb] at h
      dsimp only at h
      by_cases hc : cs.contains x.cls = true
      · rw [if_pos hc] at h
        have h := PostS.of h
        cases ew : hd x with
        | exc y => rw [ew] at h; exact h.elim
        | stuck => rw [ew] at h; exact h.elim
        | ok w =>
          rw [ew] at h
          intro pins' σ' H1 s1 F' H' s' e q hq g I1 fl
          have J1 : Inv X pins σ' H1 s1 := I1.uninn
          have J2 : Inv X pins σ' H' s' := J1.call' fl.os fl.un fl.hok fl.bare (fun b z => by simp at z)
          obtain ⟨C, dd, hm, W, at_⟩ := fl.way
          refine way_note (base := X.base) (L := L) (outer := outer) (by rw [J2.ok.frames, hst]) (hst ▸ J2.stack) hf W hq (fun b hb => fl.hok.fresh hb) fl.sz fun h1 c1 w1 => ?_
          refine way_flight (s := { s' with heap := h1 }) (fs := frs (X.env :: outer)) w1 fun h2 c2 w2 => ?_
          have c : Chg H' s1.heap.objs.size (frs X.stack) s'.heap h2 := hst ▸ c1.trans c2
          have J3 := Inv.chg (t' := s'.toks) J1 J2 c
          exact hh pins σ' σ' H1 F' H' s1 _ e C dd x w D J1 J3 g hm fl.ok hc ew w2 (at_.chg c (frames_lt J1)) fun v F2 H2 g2 q2 => h v F2 H2 g2 q2
      · rw [if_neg hc] at h; exact h.elim
  · have q := SP.uninn q
    cases f with
    | next => exact wpAny_execs_nil q
    | _ => exact q
end L3
namespace L3
open PySem PySem.Spec PyProof.Rows L2
def PinAt (pn : List (Addr × Obj)) (dd : Option Addr) : List (Str × D) → Prop
  | [] => True
  | (nm, d) :: _ => ∃ dx od mA u, dd = some dx ∧ (dx, od) ∈ pn ∧ (∀ h : Heap, h.get? dx = some od → h.Ns1 dx mA) ∧ mA nm = some u ∧ flatV d u
def Caught (X : Cx) (S : Addr) (cs : List Str) : Prop := ∀ c C, cs.contains c = true → X.mg c = some (.ref C) → clsX X.K C = true ∧ PySem.W.mroIn X.K C (.ref S) = some true
section
variable {X : Cx} {F0 H0 : Hp} {cN n : Str} {S : Addr} {i : Nat} {ex : Expr} {cs : List Str} {hd : Xc → R En} {cp rp hp : Pos}
def Suite (X : Cx) (F0 H0 : Hp) (i : Nat) (ex : Expr) (rp : Pos) (cs : List Str) (hd : Xc → R En) : Prop :=
  ∀ (pn : List (Addr × Obj)) (σ : St) (F H : Hp) (s : Shared) (e C : Addr) (oe : Obj) (x : Xc) (w : En) (D : Ends), Inv (X.hnd pn e) [] σ H s → σ[i]? = some (some (.ref e)) → (e, oe) ∈ pn → oe.cls = .ref C → (∃ vs, oe.data = .fields vs) → X.mg x.cls = some (.ref C) → cs.contains x.cls = true → XOk x →
    PinAt pn oe.dict x.fs → hd x = .ok w → Gr F0 H0 F H → (∀ v F' H', Gr F0 H0 F' H' → Vok (kx X) H0 F' H' v w → D.rt v H') →
    wpAny (model X.prog X.w) (X.A.mark (some (.ref e))) (execs [.Return (some ex) rp] X.env) (SP (X.hnd pn e) [] { nx := fun _ _ => False, rt := D.rt }) (fun _ _ => False) s
theorem pins_exc {pins : List (Addr × Obj)} {σ1 σ : St} {H1 H : Hp} {s1 s : Shared} {e : Addr} {cl : Value} {dd : Option Addr} {q : Option Value} {fs : List (Str × D)} (I1 : Inv X pins σ1 H1 s1) (I : Inv X pins σ H s) (W : Way H s1.heap.objs.size s.heap e cl dd q) (at_ : AtIs H s1.heap.objs.size s.heap dd fs) :
    ∃ (oe : Obj) (more : List (Addr × Obj)), oe.cls = cl ∧ oe.dict = dd ∧ (∃ vs, oe.data = .fields vs) ∧ (e, oe) ∈ more ∧ PinAt more dd fs ∧ ∀ p ∈ more, s.heap.get? p.1 = some p.2 ∧ H p.1 = none ∧ p.1 ≠ X.env.locals ∧ p.1 ∉ X.fs ∧ ∀ v, p.2.data ≠ .cell v := by
  obtain ⟨oe, vs, he, e1, e2, hd', _, hn, hH, _⟩ := W
  have far : ∀ b, s1.heap.objs.size ≤ b → b ≠ X.env.locals ∧ b ∉ X.fs := fun b hb => ⟨fun z => absurd (Nat.lt_of_lt_of_le I1.lt (z ▸ hb)) (Nat.lt_irrefl _), fun z => by
    obtain ⟨_, o, ho, _⟩ := I1.funs.mem z
    exact absurd (Nat.lt_of_lt_of_le (Heap.lt_size ho) hb) (Nat.lt_irrefl _)⟩
  have pe : s.heap.get? e = some oe ∧ H e = none ∧ e ≠ X.env.locals ∧ e ∉ X.fs ∧ ∀ v, oe.data ≠ .cell v := ⟨he, hH, (far e hn).1, (far e hn).2, fun v z => by rw [hd'] at z; cases z⟩
  cases fs with
  | nil => exact ⟨oe, [(e, oe)], e1, e2, ⟨vs, hd'⟩, .head _, trivial, fun p hp => (show p = (e, oe) by simpa using hp) ▸ pe⟩
  | cons pr r =>
    obtain ⟨nm, d⟩ := pr
    obtain ⟨dx, mA, u, f1, f2, f3, ⟨od, es, ep, ho, hdd, f4⟩, f5, f6⟩ := at_
    refine ⟨oe, [(e, oe), (dx, od)], e1, e2, ⟨vs, hd'⟩, .head _, ⟨dx, od, mA, u, f1, .tail _ (.head _), fun h hh => ⟨od, es, ep, hh, hdd, f4⟩, f5, f6⟩, fun p hp => ?_⟩
    rcases List.mem_cons.mp hp with rfl | hp
    · exact pe
    · obtain rfl : p = (dx, od) := by simpa using hp
      exact ⟨ho, f3, (far dx f2).1, (far dx f2).2, fun v z => by rw [hdd] at z; cases z⟩
theorem hd_as (hm : X.mg cN = some (.ref S)) (qS : clsX X.K S = true) (hcs : Caught X S cs) (hst : X.calm = true) (hN : X.N.Nodup) (hi : X.N[i]? = some n) (hl : X.env.scope.names.lookup n = some .local) (hs : Suite X F0 H0 i ex rp cs hd)
    (hg : Gl X cN := by rfl) (hdb : (cN == ("__debug__" : Str)) = false := by decide) : HD X F0 H0 (.ExceptHandler (some (.Name cN cp)) (some n) [.Return (some ex) rp] hp) cs hd := by
  intro pins σ1 σ H1 F H s1 s e C dd x w D I1 I g hC ok hc ew W at_ k
  obtain ⟨qC, hsub⟩ := hcs _ _ hc hC
  refine wpAny_handleBy_cons (codeAny_handlers_test ?_) (by intro q; cases q)
  refine ld_glob (X := X.hnd (X.pn ++ pins ++ []) e) (I.hnd (more := []) fun p z => nomatch z) hg hm ?_ hdb
  obtain ⟨oe, vs, he, e1, _⟩ := id W
  refine exc_match I.kIn qC qS hsub he e1 (codeAny_handlers_suite_as ?_)
  refine way_flight (fs := frs X.stack) W fun h' c w' => ?_
  have I3 := Inv.chg (t' := s.toks) I1 I c
  have at3 := at_.chg c (frames_lt I1)
  obtain ⟨oe3, more, m1, m2, m3, m4, m5, m6⟩ := pins_exc I1 I3 w' at3
  have J := Inv.hnd (e := e) I3 m6
  refine store_ok (X := X.hnd (X.pn ++ pins ++ more) e) (v := .ref e) J hN hi (.inl hl) rfl (fun s4 I4 => ?_) (.inr hl)
  have li : i < σ.length := by rw [I.len]; exact (List.getElem?_eq_some_iff.mp hi).1
  refine wpAny_noRaise (thn (hs (X.pn ++ pins ++ more) (σ.set i (some (.ref e))) F H s4 e C oe3 x w D I4 (List.getElem?_set_self li) (List.mem_append_right _ m4) m1 m3 hC hc ok ?_ ew g k) fun f s5 q => ?_)
  · rw [m2]
    have up : ∀ p ∈ more, p ∈ X.pn ++ pins ++ more := fun p hp => List.mem_append_right _ hp
    revert m5
    cases x.fs with
    | nil => exact fun _ => trivial
    | cons pr r => intro ⟨dx, od, mA, u, a1, a2, a3⟩; exact ⟨dx, od, mA, u, a1, up _ a2, a3⟩
  · cases f with
    | next => obtain ⟨_, _, _, z⟩ := q; exact z.elim
    | brk => obtain ⟨_, _, _, z⟩ := q; exact z.elim
    | cont => obtain ⟨_, _, _, z⟩ := q; exact z.elim
    | ret u =>
      obtain ⟨v, σ5, H5, I5, r5, q5⟩ := q
      obtain ⟨m, hm5, _⟩ := I5.loc
      refine wpAny_nameGoes_keeps (env := X.env) hl hm5 (by rw [I.ok.kind]; rfl) fun h6 v6 n6 sb6 => ?_
      exact ⟨v, _, H5, Inv.gone (pins := pins) (more := more) I.ok.hd I5 n6 sb6, r5, q5⟩
end
end L3
namespace L3
open PySem PySem.Spec PyProof.Rows L2
structure XGet (K : PySem.W.Frag) (C : Addr) : Prop where
  cd : ∃ cd, PySem.W.clsIn K C = some cd ∧ lineV cd.mro = true ∧ cd.hasDict = true
  ga : PySem.W.findIn K (.ref C) "__getattribute__" = some (some (.builtin "BaseException.__getattribute__"))
  gh : PySem.W.findIn K (.ref C) "__getattr__" = some none
  na : PySem.W.findIn K (.ref C) "at" = some none
def hAt : Xc → R En := fun x => match x.fs with
  | [(_, d)] => .ok (.fz (.tup [.bl true, d]))
  | _ => .stuck
section
variable {X : Cx} {F0 H0 : Hp} {n : Str} {i : Nat} {cs : List Str} {rp np apos tp bp vp ip cp : Pos} {j1 j2 : Nat}
theorem flat_ok {d : D} {u : Value} (h : flatV d u) (κ : Kx) : ∃ v : V, RelV v u ∧ PySem.W.handedIn u = true ∧ ∀ F, Rep κ F v d := by
  cases d with
  | non => obtain rfl : u = .none := h; exact ⟨.non, rfl, rfl, fun _ => rfl⟩
  | int k => obtain ⟨t, rfl⟩ := (show ∃ t, u = .int k t from h); exact ⟨.int k, ⟨t, rfl⟩, rfl, fun _ => rfl⟩
  | _ => exact h.elim
theorem st_at (hcs : ∀ c C, cs.contains c = true → X.mg c = some (.ref C) → XGet X.K C) (hi : X.N[i]? = some n) (hl : X.env.scope.names.lookup n = some .local) (hnd : (n == ("__debug__" : Str)) = false := by decide) (hnc : (n == ("__classdict__" : Str)) = false := by decide)
    (hs1 : starEach [.Constant (.bool true) j1 bp, .Attribute (.Name n np) "at" apos] X.env = (false, eval (.Constant (.bool true) j1 bp) X.env) :: starEach [.Attribute (.Name n np) "at" apos] X.env := by rfl)
    (hs2 : starEach [.Attribute (.Name n np) "at" apos] X.env = (false, eval (.Attribute (.Name n np) "at" apos) X.env) :: starEach [] X.env := by rfl) :
    Suite X F0 H0 i (.Tuple [.Constant (.bool true) j1 bp, .Attribute (.Name n np) "at" apos] j2 tp) rp cs hAt := by
  intro pn σ F H s e C oe x w D I hσ hpe hcl hdt hC hc ok hat ew g k
  obtain ⟨⟨cd, c1, c2, c3⟩, G2, G3, G4⟩ := hcs _ _ hc hC
  have hx : ∃ d, x.fs = [(("at" : Str), d)] ∧ w = .fz (.tup [.bl true, d]) := by
    cases ok with
    | nof c => cases ew
    | nonf c => cases ew; exact ⟨_, rfl, rfl⟩
    | intf c m => cases ew; exact ⟨_, rfl, rfl⟩
  obtain ⟨d, efs, rfl⟩ := hx
  rw [efs] at hat
  obtain ⟨dx, od, mA, u, a1, a2, a3, a4, a5⟩ := hat
  obtain ⟨v0, rv, hh, rep⟩ := flat_ok a5 (kx X)
  obtain ⟨vs, hvs⟩ := hdt
  have pa : PE (X.hnd pn e) (.Attribute (.Name n np) "at" apos) (fun σ H Q => σ[i]? = some (some (.ref e)) ∧ Q v0 H) := by
    intro pins s σ H Q I ⟨hσ, q⟩
    refine attr_of rfl (thn (pe_var (X := X.hnd pn e) (i := i) (x := n) hi (.inl hl) hnd hnc pins s σ H (fun v' H' => v' = .ref e ∧ H' = H) I ⟨.ref e, hσ, rfl, rfl⟩) fun u1 s1 ⟨v1, H1, I1, r1, ev, eH⟩ => ?_)
    subst ev eH
    obtain rfl : u1 = Value.ref e := r1
    have e1 := (I1.pin (e, oe) (List.mem_append_left _ hpe)).1
    have e2 := (I1.pin (dx, od) (List.mem_append_left _ a2)).1
    obtain ⟨oc, odi, oda, osl⟩ := oe
    dsimp only at hcl hvs a1 e1
    subst hcl hvs a1
    exact get_exc I1.kIn e1 (a3 _ e2) a4 hh c1 c2 c3 G2 G3 G4 ⟨v0, H1, I1.tok _, rv, q⟩
  refine pss_one (X := X.hnd pn e) (ps_ret (pe_tup (pa_cons pe_bl (pa_cons pa pa_nil hs2) hs1))) [] s σ H _ I ?_
  refine ⟨hσ, by simp [sizeLine_eq], fun p hp => ?_⟩
  refine k (.ref p) (upd F p (.tup [.bl true, v0])) (upd H p (.tup [.bl true, v0])) (g.trans (Gr.newF g.s hp)) ⟨p, _, rfl, .inl (.inl upd_same), ?_⟩
  exact ⟨_, _, rfl, rfl, _, _, rfl, rep _, rfl⟩
theorem st_isi {T : String} (hcs : ∀ c C, cs.contains c = true → X.mg c = some (.ref C) → PySem.W.kitCls X.K (.ref C) (.type T) = some true) (hi : X.N[i]? = some n) (hl : X.env.scope.names.lookup n = some .local) (hm : X.mg "isinstance" = none) (hmt : X.mg T = none) (hbt : bootBuiltins T = some (.type T))
    (hg : Gl X "isinstance" := by rfl) (hgt : Gl X T := by rfl) (hnt : (Str.ofString T) ≠ "__name__" := by decide) (hdt : ((Str.ofString T) == ("__debug__" : Str)) = false := by decide) (hnd : (n == ("__debug__" : Str)) = false := by decide) (hnc : (n == ("__classdict__" : Str)) = false := by decide)
    (hs1 : starEach [.Name n np, .Name T vp] X.env = (false, eval (.Name n np) X.env) :: starEach [.Name T vp] X.env := by rfl) (hs2 : starEach [.Name T vp] X.env = [(false, eval (.Name T vp) X.env)] := by rfl)
    (hpl : (backTo cp (starEach [.Name T vp] X.env)).any (·.1) = false := by rfl) : Suite X F0 H0 i (.Call (.Name "isinstance" ip) [.Name n np, .Name T vp] [] cp) rp cs fun _ => okB true := by
  intro pn σ F H s e C oe x w D I hσ hpe hcl hdt' hC hc ok hat ew g k
  cases ew
  have hk := hcs _ _ hc hC
  refine pss_one (X := X.hnd pn e) (t := tRet fun σ H Q => σ[i]? = some (some (.ref e)) ∧ Q (.bl true) H) (ps_ret ?_) [] s σ H _ I ⟨hσ, k (.bl true) F H g rfl⟩
  intro pins s σ H Q I ⟨hσ, q⟩
  refine wpAny_Call_Name_kw (ld_blt (X := X.hnd pn e) I hg hm boot_isinstance ?_)
  refine PyProof.Rows.callWith_builtin1 ?_ hs1 hpl
  show wpAny _ _ (spliced (backTo cp (starEach [.Name n np, .Name T vp] X.env))) _ _ _
  rw [hs1]
  refine Calls.spliced_cons (thn (pe_var (X := X.hnd pn e) (i := i) (x := n) hi (.inl hl) hnd hnc pins s σ H (fun v' H' => v' = .ref e ∧ H' = H) I ⟨.ref e, hσ, rfl, rfl⟩) fun u1 s1 ⟨v1, H1, I1, r1, ev, eH⟩ => ?_)
  subst ev eH
  obtain rfl : u1 = Value.ref e := r1
  rw [hs2]
  refine Calls.spliced_cons (ld_blt (X := X.hnd pn e) I1 hgt hmt hbt (Calls.spliced_nil ?_) hnt hdt)
  exact isi_exc I1.kIn (I1.pin (e, oe) (List.mem_append_left _ hpe)).1 hcl hk fun tk => ⟨.bl true, H1, I1.tok tk, rfl, q⟩
end
end L3
set_option Elab.async false
set_option linter.all false
set_option maxRecDepth 100000
set_option maxHeartbeats 4000000
namespace L3
open PySem PySem.Spec PyProof.Rows L2
section
variable {X : Cx} {pins : List (Addr × Obj)} {σ : St} {H : Hp} {s : Shared} {h' : Heap} {fp : List Addr} {t' : Nat}
theorem ne_fp {b : Addr} {u : HO} (hf : ∀ b ∈ fp, FpOk X pins H b) (hb : H b = some u) : b ∉ fp := fun z => by rw [(hf b z).1] at hb; cases hb
theorem turnE (I : Inv X pins σ H s) (hf : ∀ b ∈ fp, FpOk X pins H b) (k : ∀ b o, b ∉ fp → s.heap.get? b = some o → h'.get? b = some o) : Inv X pins σ H { s with heap := h', toks := t' } := by
  refine I.call (ch := fp) (g' := s.gens) (d' := s.drawn) ⟨fun b o e _ _ nc => k b o nc e, fun b o e _ _ nc => ⟨o.slots, k b o nc e⟩, fun _ _ _ n _ => n, fun b o e nc => ⟨o, k b o nc e⟩, fun _ _ z => z, fun _ _ _ z => z, fun b ps z => ⟨#[], by rw [z]; simp⟩⟩ (fun b u hb => ?_) I.bare
    fun b hb => ⟨(hf b hb).2.2.2.1, (hf b hb).2.1, (hf b hb).2.2.2.2.1, (hf b hb).2.2.2.2.2⟩
  refine (I.hok b u hb).stay (fun d v hd q => k d v ?_ q) (fun _ z => z) fun _ _ z => z
  rcases hd with rfl | z
  · exact ne_fp hf hb
  · exact ne_fp hf z
theorem turnT {T : Addr} {its : List Value} {xs : List V} (I : Inv X pins σ H s) (hf : ∀ b ∈ fp, FpOk X pins H b) (k : ∀ b o, b ∉ fp → s.heap.get? b = some o → h'.get? b = some o) (hT : s.heap.objs.size ≤ T) (tup : IsTup h' T its.toArray) (r : Vals xs its) (hz : xs.length ≤ sizeLine) :
    Inv X pins σ (upd H T (.tup xs)) { s with heap := h', toks := t' } := by
  have nT : H T = none := I.hok.fresh hT
  have ne : ∀ b o, s.heap.get? b = some o → b ≠ T := fun b o e z => absurd (Nat.lt_of_lt_of_le (Heap.lt_size e) (z ▸ hT)) (Nat.lt_irrefl _)
  have up : ∀ b u, H b = some u → upd H T (.tup xs) b = some u := fun b u e => by rw [upd_ne (ne_of_none e nT)]; exact e
  refine I.call (ch := fp) (g' := s.gens) (d' := s.drawn) ⟨fun b o e _ _ nc => k b o nc e, fun b o e _ _ nc => ⟨o.slots, k b o nc e⟩, fun b o e n _ => ?_, fun b o e nc => ⟨o, k b o nc e⟩, fun b _ z => up b _ z, fun b _ _ z => up b _ z, fun b ps z => ⟨#[], by rw [up b _ z]; simp⟩⟩ (fun b u hb => ?_) I.bare
    fun b hb => ⟨(hf b hb).2.2.2.1, (hf b hb).2.1, (hf b hb).2.2.2.2.1, (hf b hb).2.2.2.2.2⟩
  · rw [upd_ne (ne b o e)]; exact n
  · by_cases z : b = T
    · subst z
      rw [upd_same] at hb
      cases hb
      exact ⟨hz, its, r, tup⟩
    · rw [upd_ne z] at hb
      refine (I.hok b u hb).stay (fun d v hd q => k d v ?_ q) (fun c y => up c _ y) fun c ys y => up c _ y
      rcases hd with rfl | y
      · exact ne_fp hf hb
      · exact ne_fp hf y
end
def Ite (K : PySem.W.Frag) (a : Addr) : It :=
  ⟨fun i H => ∃ xs x, SqL K H a xs ∧ xs[i]? = some x, fun i H x H' => ∃ p y, H p = none ∧ x = .ref p ∧ H' = upd H p (.tup [.int i, y]) ∧ ∀ xs, SqL K H a xs → xs[i]? = some y, fun i H => ∃ xs, SqL K H a xs ∧ xs.length ≤ i⟩
theorem turn_enum {P : Program} {w : World} {K : PySem.W.Frag} {es : List Expr} {k : Nat} {tp : Pos} (a it e : Addr) (ne : e ≠ it) :
    Turn P w K (.Tuple es k tp) (Ite K a) [e, it] e (fun i h => (∃ old, IsEnum h e it i old) ∧ h.IsListIter it a i) where
  mem := by simp
  obj := fun i h ⟨⟨old, he⟩, hi⟩ b hb => by
    rcases List.mem_cons.mp hb with rfl | hb
    · exact ⟨_, he, fun v z => by cases z⟩
    · obtain rfl : b = it := by simpa using hb
      obtain ⟨o, e, c, d⟩ := hi
      exact ⟨o, e, fun v z => by rw [d] at z; cases z⟩
  keep := fun i h h' ⟨⟨old, he⟩, hi⟩ kk => ⟨⟨old, kk e (by simp) _ he⟩, hi.at fun o q => kk it (by simp) o q⟩
  item := by
    intro X hP hw hK hc i pins s σ H E I hf ⟨⟨old, he⟩, hi⟩ hg
    subst hP hw hK
    obtain ⟨xs, x, hq, hx⟩ := hg
    obtain ⟨its, rv, p, hz⟩ := I.list hq
    obtain ⟨u, hu, ru⟩ := rv.get hx
    refine wpAny_pyNext_enum_item he hi p.isList (x := u) (by simpa using hu) ne fun h1 ho hi1 hT hsz hk => ⟨_, rfl, ?_⟩
    refine wpAny_letOwnedTupleGo_enum (s := { s with heap := h1, toks := s.toks + 1 }) ho fun h2 he2 sb => ?_
    have neE : s.heap.objs.size ≠ e := Nat.ne_of_gt (Heap.lt_size he)
    have T2 : h2.get? s.heap.objs.size = some { cls := .type "tuple", data := .seq #[.int i s.toks, u] } := (sb.2 _ neE).trans hT
    refine ⟨.ref s.heap.objs.size, upd H s.heap.objs.size (.tup [.int i, x]), turnT (s := s) (t' := s.toks + 1) (its := [.int i s.toks, u]) I hf (fun b o nb ho => ?_) (Nat.le_refl _) ⟨_, T2, rfl, _, rfl⟩ (.cons ⟨_, rfl⟩ (.cons ru .nil)) (by simp [sizeLine_eq]), rfl,
      ⟨_, x, I.hok.fresh (Nat.le_refl _), rfl, rfl, fun ys hy => by rw [I.list_inj hy hq]; exact hx⟩, ⟨⟨u, by simpa using he2⟩, hi1.at fun o q => (sb.2 it (Ne.symm ne)).trans q⟩, fun b hb => ?_⟩
    · have nb1 : b ≠ e := fun z => nb (by simp [z])
      have nb2 : b ≠ it := fun z => nb (by simp [z])
      exact (sb.2 b nb1).trans (hk b o nb1 nb2 ho)
    · rw [upd_ne]
      · exact (hf b hb).1
      · rcases List.mem_cons.mp hb with rfl | hb
        · exact Ne.symm neE
        · obtain rfl : b = it := by simpa using hb
          obtain ⟨o, q, _⟩ := hi
          exact Nat.ne_of_lt (Heap.lt_size q)
  done := by
    intro X hP hw hK hc i pins s σ H E I hf ⟨⟨old, he⟩, hi⟩ hg
    subst hP hw hK
    obtain ⟨xs, hq, hx⟩ := hg
    obtain ⟨its, rv, p, hz⟩ := I.list hq
    have hl := rv.length
    refine wpAny_pyNext_enum_end (I.ok.hd hc) he hi p.isList (by simp; omega) fun h1 eb => ⟨rfl, turnE (t' := s.toks) I hf fun b o nb ho => eb b o (fun z => nb (by simp [z])) ho⟩
  self := fun _ _ _ _ _ ⟨⟨old, he⟩, _⟩ h => wpAny_pyIter_enum he h
def numd : Nat → List D → List D
  | _, [] => []
  | n, d :: r => .tup [.int n, d] :: numd (n + 1) r
theorem numd_get : ∀ (ds : List D) (n i : Nat) (x : D), (numd n ds)[i]? = some x → ∃ d, ds[i]? = some d ∧ x = .tup [.int (n + i : Nat), d]
  | [], _, _, _, h => by simp [numd] at h
  | d :: r, n, 0, x, h => by simp [numd] at h; exact ⟨d, rfl, by rw [← h]; rfl⟩
  | d :: r, n, i + 1, x, h => by
    obtain ⟨y, e1, e2⟩ := numd_get r (n + 1) i x (by simpa [numd] using h)
    exact ⟨y, by simpa using e1, by rw [e2]; congr 3; omega⟩
theorem numd_len : ∀ (ds : List D) (n : Nat), (numd n ds).length = ds.length
  | [], _ => rfl
  | d :: r, n => by simp [numd, numd_len r]
theorem walk_enum {κ : Kx} {F1 G : Hp} {a : Addr} {vs : List V} {ds : List D} (hq : ∀ F H, Le F1 F → Le F H → Le G H → SqL κ.K H a vs) (rs : Reps κ F1 vs ds) : Walk κ (Ite κ.K a) F1 G (numd 0 ds) where
  go := fun i x F H ed l1 l lg => by
    obtain ⟨d, e1, rfl⟩ := numd_get ds 0 i x ed
    obtain ⟨v, ev, rv⟩ := Reps.get rs e1
    have q := hq F H l1 l lg
    refine ⟨⟨vs, v, q, ev⟩, fun y H' z => ?_⟩
    obtain ⟨p, y, hp, rfl, rfl, w⟩ := z
    have := w vs q
    rw [ev] at this
    cases this
    refine ⟨_, Gr.newF (o := .tup [.int i, v]) l hp, p, [.int i, v], rfl, .inl (.inl upd_same), ?_⟩
    exact ⟨_, _, rfl, by rw [Nat.zero_add]; rfl, _, _, rfl, Rep.le (fun b o z => by rw [upd_ne (ne_of_none z (Le.none l hp))]; exact z) d (Rep.le l1 d rv), rfl⟩
  stop := fun i F H hi l1 l lg => ⟨vs, hq F H l1 l lg, by rw [Reps.length rs]; rw [numd_len] at hi; exact hi⟩
def iEnum (i : Nat) : IF := fun ρ => match ρ[i]? with
  | some (some (.fz (.lst ds))) => .ok (numd 0 ds)
  | some (some (.br (.lst ds))) => .ok (numd 0 ds)
  | _ => .stuck
theorem si_enum (i : Nat) {X : Cx} {F0 H0 : Hp} {es : List Expr} {k : Nat} {x : Str} {tp pos np cp : Pos} (hm : X.mg "enumerate" = none) (hN : X.N[i]? = some x := by rfl) (hv : Vis X.env.scope x := by first | exact Or.inl rfl | exact Or.inr (Or.inl rfl) | exact Or.inr (Or.inr rfl)) (hd : (x == ("__debug__" : Str)) = false := by decide)
    (hcd : (x == ("__classdict__" : Str)) = false := by decide) (hg : Gl X "enumerate" := by rfl) (hs : starEach [.Name x pos] X.env = [(false, eval (.Name x pos) X.env)] := by rfl) :
    SI X F0 H0 (.Tuple es k tp) (.Call (.Name "enumerate" np) [.Name x pos] [] cp) (iEnum i) := by
  refine ⟨fun σ H R => ∃ a, σ[i]? = some (some (.ref a)) ∧ (∃ xs, SqL X.K H a xs) ∧ R (Ite X.K a) H, fun pins s σ H R I ⟨a, hσ, ⟨xs, hq⟩, hR⟩ => ?_, fun σ F H ρ R S h => ?_⟩
  · refine Call_ (ld_blt I hg hm boot_enumerate (PyProof.Rows.callWith_type1 ?_ hs rfl))
    rw [hs]
    refine Calls.spliced_cons (thn (pe_var (pos := pos) hN hv hd hcd pins s σ H (fun v' H' => v' = .ref a ∧ H' = H) I ⟨_, hσ, rfl, rfl⟩) fun u s1 ⟨v1, H1, I1, r1, e1, e2⟩ => ?_)
    subst e1 e2
    obtain rfl : u = Value.ref a := r1
    refine Calls.spliced_nil ?_
    obtain ⟨its, rv, p, hz⟩ := I1.list hq
    refine call_enumerate_list p.isList fun h' he hi hsz kp => ?_
    refine wpAny_pyIter_enum (s := { s1 with heap := h' }) he ?_
    refine ⟨_, _, _, _, H1, rfl, I1.kept (t' := s1.toks) kp, turn_enum a s1.heap.objs.size (s1.heap.objs.size + 1) (Nat.ne_of_gt (Nat.lt_succ_self _)), ⟨⟨_, he⟩, hi⟩, fun b hb => ?_, hR⟩
    have lb : s1.heap.objs.size ≤ b := by
      rcases List.mem_cons.mp hb with rfl | hb
      · exact Nat.le_succ _
      · obtain rfl : b = s1.heap.objs.size := by simpa using hb
        exact Nat.le_refl _
    exact I1.fpOk lb (I1.hok.fresh lb)
  · unfold iEnum at h
    cases ew : ρ[i]? with
    | none => rw [ew] at h; exact h.elim
    | some w =>
      rw [ew] at h
      cases w with
      | none => exact h.elim
      | some w =>
        obtain ⟨v, e1, q⟩ := S.val i w ew
        cases w with
        | ow d => exact h.elim
        | lk d => exact h.elim
        | od d => exact h.elim
        | fz d =>
          cases d <;> first | exact h.elim | skip
          obtain ⟨a, vs, rfl, hq, rs⟩ := q
          exact ⟨a, e1, ⟨vs, SqL.le S.s hq⟩, h F H _ (Gr.refl S.s) (walk_enum (κ := kx X) (fun F' H' l1 l _ => SqL.le l (SqL.le l1 hq)) rs)⟩
        | br d =>
          obtain ⟨a, o, rfl, eh, ro⟩ := q
          cases d <;> first | exact h.elim | skip
          cases o <;> first | exact ro.elim | skip
          exact ⟨a, e1, ⟨_, SqL.of (S.gr.h _ _ eh)⟩, h F H _ (Gr.refl S.s) (walk_enum (κ := kx X) (fun F' H' _ _ lg => SqL.le lg (SqL.of eh)) ro)⟩
end L3
set_option Elab.async false
set_option linter.all false
set_option maxRecDepth 100000
set_option maxHeartbeats 4000000
namespace L3
open PySem PySem.Spec PyProof.Rows L2
section
variable {prog : Program} {w : World} {A : Around} {E : Value → Shared → Prop} {s : Shared}
end
section
variable {prog : Program} {w : World} {A : Around} {E : Value → Shared → Prop} {s : Shared}
end
end L3
set_option Elab.async false
set_option linter.all false
set_option maxRecDepth 100000
set_option maxHeartbeats 4000000
namespace L3
open PySem PySem.Spec PyProof.Rows L2
section
variable {X : Cx}
end
section
variable {X : Cx}
end
def iniX (K : PySem.W.Frag) (C : Addr) : Bool := match PySem.W.clsIn K C with
  | some cd => lineV cd.mro && cd.hasDict
  | none => false
theorem iniX_of {K : PySem.W.Frag} {C : Addr} (h : iniX K C = true) : ∃ cd, PySem.W.clsIn K C = some cd ∧ lineV cd.mro = true ∧ cd.hasDict = true := by
  unfold iniX at h
  split at h
  · rename_i cd e
    rw [Bool.and_eq_true] at h
    exact ⟨cd, e, h.1, h.2⟩
  · cases h
def clsBody (s : Stmt) : List Stmt := match s with
  | .ClassDef _ _ _ b _ _ _ _ _ _ _ => b
  | _ => []
theorem caught1 {X : Cx} {c : Str} {C S : Addr} (hm : X.mg c = some (.ref C)) (h : clsX X.K C = true) (h2 : PySem.W.mroIn X.K C (.ref S) = some true) : Caught X S [c] := fun c' C' hc hm' => by
  obtain rfl : c' = c := by simpa using hc
  rw [hm] at hm'
  cases hm'
  exact ⟨h, h2⟩
theorem gets1 {X : Cx} {c : Str} {C : Addr} (hm : X.mg c = some (.ref C)) (h : XGet X.K C) : ∀ c' C', [c].contains c' = true → X.mg c' = some (.ref C') → XGet X.K C' := fun c' C' hc hm' => by
  obtain rfl : c' = c := by simpa using hc
  rw [hm] at hm'
  cases hm'
  exact h
theorem kits1 {X : Cx} {c : Str} {C : Addr} {T : String} (hm : X.mg c = some (.ref C)) (h : PySem.W.kitCls X.K (.ref C) (.type T) = some true) : ∀ c' C', [c].contains c' = true → X.mg c' = some (.ref C') → PySem.W.kitCls X.K (.ref C') (.type T) = some true := fun c' C' hc hm' => by
  obtain rfl : c' = c := by simpa using hc
  rw [hm] at hm'
  cases hm'
  exact h
end L3
namespace L3
open PySem PySem.Spec PyProof.Rows L2
section
variable {prog : Program} {w : World} {A : Around} {E : Value → Shared → Prop} {s : Shared} {I l : Addr} {items : Array Value}
end
section
variable {X : Cx} {F0 H0 : Hp} {p p2 c1 c2 : Pos}
end
end L3
namespace L3
open PySem PySem.Spec PyProof.Rows L2
section
variable {X : Cx}
end
section
variable {X : Cx} {F0 H0 : Hp} {pos : Pos}
end
section
open PySem.SeqAt PySem.MeetsSeq PySem.MeetsSeq2 PySem.MeetsSeq3
open PySem.AutoSeq1 (wpAny_loadPart')
end
section
variable {X : Cx}
end
end L3
set_option Elab.async false
set_option linter.all false
set_option maxRecDepth 100000
set_option maxHeartbeats 4000000
namespace L3
open PySem PySem.Spec PyProof.Rows L2
section
variable {κ : Kx} {F0 H0 F H : Hp} {ρ : Rho} {σ : St}
theorem Inn.len : ∀ {bs : List Addr} {ds : List D}, Inn κ H0 F H bs ds → bs.length = ds.length
  | [], [], _ => rfl
  | [], _ :: _, h => h.elim
  | _ :: _, [], h => h.elim
  | b :: bs, e :: es, h => by rw [List.length_cons, List.length_cons, Inn.len h.2]
theorem StOk.turn {i : Nat} {d d' : D} {a : Addr} {bs bs' : List Addr} {H' : Hp} (S : StOk κ F0 H0 F H ρ σ) (ei : ρ[i]? = some (some (.od d))) (si : σ[i]? = some (some (.ref a))) (sh : shal i ρ)
    (sp : ∀ (j : Nat) (w : En) (b : Addr), j ≠ i → ρ[j]? = some (some w) → w.own = true → b ∈ a :: bs → σ[j]? ≠ some (some (.ref b)))
    (same : ∀ c, c ∉ a :: bs' → H' c = H c) (sub : ∀ b ∈ bs', b ∈ bs ∨ ∀ (j : Nat) (w : En), ρ[j]? = some (some w) → w.own = true → σ[j]? ≠ some (some (.ref b)))
    (h0 : ∀ c ∈ a :: bs', H0 c = none) (hf : ∀ c ∈ a :: bs', F c = none) (nd : (a :: bs').Nodup) (dp : Deep κ H0 F H' a bs' d') : StOk κ F0 H0 F H' (ρ.set i (some (.od d'))) σ := by
  have sp' : ∀ (j : Nat) (w : En) (b : Addr), j ≠ i → ρ[j]? = some (some w) → w.own = true → b ∈ a :: bs' → σ[j]? ≠ some (some (.ref b)) := fun j w b hj ej ow m => by
    rcases List.mem_cons.mp m with rfl | m
    · exact sp j w _ hj ej ow (by simp)
    · rcases sub b m with z | z
      · exact sp j w b hj ej ow (List.mem_cons_of_mem _ z)
      · exact z j w ej ow
  have at_ : ∀ {m : Nat} {y : En}, (ρ.set i (some (.od d')))[m]? = some (some y) → y.own = true → ∃ y', ρ[m]? = some (some y') ∧ y'.own = true := fun {m y} h oy => by
    rcases set_get h with ⟨rfl, _⟩ | ⟨_, z⟩
    · exact ⟨_, ei, rfl⟩
    · exact ⟨y, z, oy⟩
  have out0 : ∀ {c u}, H0 c = some u → c ∉ a :: bs' := fun {c u} e m => by rw [h0 c m] at e; cases e
  have outF : ∀ {c u}, F c = some u → c ∉ a :: bs' := fun {c u} e m => by rw [hf c m] at e; cases e
  refine ⟨⟨S.gr.f, fun c u h => (same c (out0 h)).trans (S.gr.h c u h), fun c u h => (same c (outF h)).trans (S.s c u h), S.gr.n⟩, by simpa using S.len, fun j w e => ?_, fun j k w w' c hjk ej ek oj ok sj sk => ?_, fun j y e => ?_⟩
  · rcases set_get e with ⟨rfl, z⟩ | ⟨ne, z⟩
    · cases z
      obtain ⟨o, ho, nt⟩ := Deep.top dp
      exact ⟨_, si, a, o, rfl, h0 a (by simp), hf a (by simp), ho, nt⟩
    · obtain ⟨v, e1, q⟩ := S.val j w z
      refine ⟨v, e1, ?_⟩
      have nb : ∀ {c}, v = .ref c → w.own = true → c ∉ a :: bs' := fun {c} ev ow m => by
        subst ev
        exact sp' j w c ne z ow m e1
      cases w with
      | fz d => exact q
      | br d => exact q
      | ow d => obtain ⟨c, oc, ec, c0, cf, ch, cr⟩ := q; exact ⟨c, oc, ec, c0, cf, (same c (nb ec rfl)).trans ch, cr⟩
      | lk d => exact q
      | od d => exact (sh j d ne z).elim
  · obtain ⟨y, ej', oj'⟩ := at_ ej oj
    obtain ⟨y', ek', ok'⟩ := at_ ek ok
    exact S.sep j k y y' c hjk ej' ek' oj' ok' sj sk
  · rcases set_get e with ⟨rfl, z⟩ | ⟨ne, z⟩
    · cases z
      refine ⟨fun k z hk ek => ?_, a, bs', si, h0 a (by simp), hf a (by simp), nd, dp, fun k w b hk ek ok m => ?_⟩
      · rcases set_get ek with ⟨rfl, _⟩ | ⟨_, q⟩
        · exact hk rfl
        · exact sh k z hk q
      · rcases set_get ek with ⟨rfl, _⟩ | ⟨_, q⟩
        · exact (hk rfl).elim
        · exact sp' k w b hk q ok m
    · exact (sh j y ne z).elim
theorem Inn.snoc {b : Addr} {us : List V} {xs : List D} (h0 : H0 b = none) (hf : F b = none) (hh : H b = some (.lst us)) (r : Reps κ F us xs) : ∀ {bs : List Addr} {ds : List D}, Inn κ H0 F H bs ds → Inn κ H0 F H (bs ++ [b]) (ds ++ [.lst xs])
  | [], [], _ => ⟨⟨us, xs, rfl, h0, hf, hh, r⟩, trivial⟩
  | [], _ :: _, h => h.elim
  | _ :: _, [], h => h.elim
  | _ :: _, _ :: _, h => ⟨h.1, Inn.snoc h0 hf hh r h.2⟩
end
section
variable {X : Cx} {F0 H0 : Hp} {pos pos' : Pos}
end
section
variable {X : Cx} {F0 H0 : Hp} {pos : Pos}
end
end L3
set_option Elab.async false
set_option linter.all false
set_option maxRecDepth 100000
set_option maxHeartbeats 4000000
namespace L3
open PySem PySem.Spec PyProof.Rows L2
section
variable {prog : Program} {w : World} {K : Type} [DecidableEq K] {knd : HeapKind prog w K} {A : Around} {E : Value → Shared → Prop} {s : Shared} {d a : Addr} {k : K} {xs : List (K × Addr × Value)} {dv : Value}
end
section
variable {X : Cx}
end
def short : D → Bool
  | .lst xs => decide (xs.length < sz)
  | _ => false
theorem StOk.drop {κ : Kx} {F0 H0 F H : Hp} {ρ : Rho} {σ : St} (i : Nat) (S : StOk κ F0 H0 F H ρ σ) : StOk κ F0 H0 F H (ρ.set i none) σ := by
  have at_ : ∀ {m : Nat} {y : En}, (ρ.set i none)[m]? = some (some y) → ρ[m]? = some (some y) := fun {m y} h => by
    rcases set_get h with ⟨_, z⟩ | ⟨_, z⟩
    · cases z
    · exact z
  refine ⟨S.gr, by simpa using S.len, fun j w e => S.val j w (at_ e), fun j k w w' c hjk ej ek => S.sep j k w w' c hjk (at_ ej) (at_ ek), fun j y e => ?_⟩
  obtain ⟨s1, a, bs, e1, h0, hf, nd, dp, sp⟩ := S.dp j y (at_ e)
  exact ⟨fun k z hk ek => s1 k z hk (at_ ek), a, bs, e1, h0, hf, nd, dp, fun k w b hk ek => sp k w b hk (at_ ek)⟩
section
variable {X : Cx} {F0 H0 : Hp} {pos : Pos}
end
section
variable {prog : Program} {w : World} {A : Around} {E : Value → Shared → Prop} {s : Shared} {d it : Addr} {o : Obj} {es : Array DictEntry} {ep i : Nat}
end
theorem Gr.tup {F H : Hp} (s : Le F H) {q : Addr} {xs : List V} (hq : H q = some (.tup xs)) : Gr F H (upd F q (.tup xs)) H := by
  refine ⟨fun a u h => ?_, Le.refl, fun a u h => ?_, fun a h => ?_⟩
  · by_cases e : a = q
    · subst e
      have := s a u h
      rw [hq] at this
      cases this
      exact upd_same
    · rw [upd_ne e]; exact h
  · by_cases e : a = q
    · subst e; rw [upd_same] at h; cases h; exact hq
    · rw [upd_ne e] at h; exact s a u h
  · by_cases e : a = q
    · subst e; exact .inr (.inr ⟨xs, hq⟩)
    · rw [upd_ne e] at h; exact .inl h
section
variable {κ : Kx} {F0 H0 F H : Hp} {ρ : Rho} {σ : St}
end
section
variable {X : Cx} {F0 H0 : Hp} {a b : Expr} {fa fb : EF} {pos : Pos}
end
end L3
set_option Elab.async false
set_option linter.all false
set_option maxRecDepth 100000
set_option maxHeartbeats 4000000
namespace L3
open PySem PySem.Spec PyProof.Rows L2
open PySem.Builtin PySem.Builtin.Str
section
variable {X : Cx} {F0 H0 : Hp} {tg : Expr} {pos : Pos}
theorem b62_of {j : Int} (c : fits b62 j = true) : -(2 ^ 62) ≤ j ∧ j < 2 ^ 62 := by
  have p62 : (2 : Int) ^ 62 = 4611686018427387904 := by simp
  rw [fits_iff, b62e] at c
  rw [p62]
  omega
theorem si_range2 {a b : Expr} {fa fb : EF} {np cp : Pos} (ha : SE X F0 H0 a fa) (hb : SE X F0 H0 b fb) (hm : X.mg "range" = none) (hg : Gl X "range" := by rfl) (hs : starEach [a, b] X.env = [(false, eval a X.env), (false, eval b X.env)] := by rfl) (hs2 : starEach [b] X.env = [(false, eval b X.env)] := by rfl) :
    SI X F0 H0 tg (.Call (.Name "range" np) [a, b] [] cp) (iR2 fa fb) := by
  refine ⟨_, pi_range2 hg hm (pa_cons (pe_sem (e := a)) (pa_cons (pe_sem (e := b)) pa_nil hs2) (by rw [hs, hs2])) hs hs2, fun σ F H ρ R S h => ha.sem S ((KE.bind h).imp fun w k v F1 H1 g1 q1 => hb.sem (S.grow g1) ((KE.bind k).imp fun w2 k v2 F2 H2 g2 q2 => ?_))⟩
  have r := RdV.gr g2 (Vok.rd q1)
  have r2 := Vok.rd q2
  revert k
  generalize w.d = d at r
  generalize w2.d = d2 at r2
  intro k
  cases d <;> first | exact k.elim | skip
  cases d2 <;> first | exact k.elim | skip
  rename_i i j
  dsimp only at k
  by_cases c' : (fits b62 i && fits b62 j) = true
  · rw [if_pos c'] at k
    have c := Bool.and_eq_true_iff.mp c'
    obtain ⟨a1, a2⟩ := b62_of c.1
    obtain ⟨a3, a4⟩ := b62_of c.2
    cases RdV.int r
    cases RdV.int r2
    exact ⟨i, j, rfl, ⟨a1, a2, a3, a4⟩, k F2 H2 _ (g1.trans g2) (walk_rng i (j - i).toNat)⟩
  · rw [if_neg c'] at k; exact k.elim
end
end L3
set_option Elab.async false
set_option linter.all false
set_option maxRecDepth 100000
set_option maxHeartbeats 4000000
namespace L3
open PySem PySem.Spec PyProof.Rows L2
def one (c : Nat) : D := .str ⟨#[c]⟩
section
variable {X : Cx} {F0 H0 : Hp} {a b : Expr} {fa fb : EF} {pos : Pos}
end
def rngS (lo st : Int) (n : Nat) : List D := (List.range n).map fun k : Nat => D.int (lo + k * st)
def Itr3 (lo st : Int) (n : Nat) : It := ⟨fun i _ => i < n, fun i H x H' => H' = H ∧ x = .int (lo + i * st), fun i _ => n ≤ i⟩
theorem turn_range3 {P : Program} {w : World} {K : PySem.W.Frag} {tg : Expr} (it : Addr) (lo st : Int) (n : Nat) : Turn P w K tg (Itr3 lo st n) [it] it (fun i h => IsRangeIter h it (lo + (i : Nat) * st) ((n : Int) - (i : Nat)) st) where
  mem := by simp
  obj := fun i h z b hb => by
    obtain rfl : b = it := by simpa using hb
    exact ⟨_, z, fun v q => nomatch (show Data.fields _ = Data.cell v from q)⟩
  keep := fun i h h' z k => k it (by simp) _ z
  item := by
    intro X hP hw hK hc i pins s σ H E I hf z hg
    subst hP hw hK
    obtain ⟨f0, f1, f2, f3, f4, f5⟩ := hf it (by simp)
    have W := Walks.range (prog := X.prog) (w := X.w) (I.ok.hd hc) it lo st n
    refine W.item i s _ _ hg z fun v h' tk hv z' kk => ?_
    obtain ⟨t, rfl⟩ := hv
    have I1 : Inv X pins σ H { s with heap := h', toks := tk } := I.turned (fun b o hb e => kk b o (by simpa using hb) e) f0 f1 f3 f4 f5
    exact ⟨_, rfl, go_of (s := { s with heap := h', toks := tk }) (n := "range_iterator") z' rfl rfl (by decide) ⟨.int (lo + i * st), H, I1, ⟨t, rfl⟩, ⟨rfl, rfl⟩, z', fun b hb => (hf b hb).1⟩⟩
  done := by
    intro X hP hw hK hc i pins s σ H E I hf z hg
    subst hP hw hK
    obtain ⟨f0, f1, f2, f3, f4, f5⟩ := hf it (by simp)
    exact wpAny_pyNext_range_end (I.ok.hd hc) z (by have : n ≤ i := hg; omega) fun h' eb => ⟨rfl, I.turned (t' := s.toks) (fun b o hb e => eb b o hb e) f0 f1 f3 f4 f5⟩
  self := fun _ _ _ _ _ z h => wpAny_pyIter_rangeiter z h
def minL : Int → List Int → Int
  | m, [] => m
  | m, a :: r => minL (if a < m then a else m) r
theorem minL_ok : ∀ (r : List Int) (m : Int), minL m r ∈ m :: r ∧ ∀ a ∈ m :: r, minL m r ≤ a
  | [], m => ⟨by simp [minL], fun a ha => by simp at ha; subst ha; exact Int.le_refl _⟩
  | b :: r, m => by
    unfold minL
    obtain ⟨h1, h2⟩ := minL_ok r (if b < m then b else m)
    have hm := h2 _ List.mem_cons_self
    refine ⟨?_, fun a ha => ?_⟩
    · rcases List.mem_cons.mp h1 with e | h1
      · rw [e]
        split <;> simp
      · exact List.mem_cons_of_mem _ (List.mem_cons_of_mem _ h1)
    · rcases List.mem_cons.mp ha with rfl | ha
      · split at hm <;> split <;> omega
      · rcases List.mem_cons.mp ha with rfl | ha
        · split at hm <;> split <;> omega
        · exact h2 a (List.mem_cons_of_mem _ ha)
def dMinL : List D → R En
  | [.lst ds] => (match intsOf ds with | some (i :: r) => okI (minL i r) | _ => .stuck)
  | _ => .stuck
theorem cd_minL {X : Cx} (hc : X.calm = true := by rfl) : CallD X (.builtin "min") dMinL := by
  intro pins s σ F H xs us ds Q I l rx qx w
  cases qx with
  | nil => exact w.elim
  | cons q1 q2 =>
    rename_i d _ _
    cases q2 with
    | cons _ _ => cases d <;> exact w.elim
    | nil =>
      cases d <;> first | exact w.elim | skip
      rename_i ds
      unfold dMinL at w
      dsimp only at w
      cases e : intsOf ds with
      | none => rw [e] at w; exact w.elim
      | some ns =>
        rw [e] at w
        cases ns with
        | nil => exact w.elim
        | cons i r =>
          dsimp only at w
          obtain ⟨p, vs, rfl, hq, rs⟩ := RdV.lst l q1
          have ev := intsOf_reps e rs
          subst ev
          cases rx with
          | cons r1 r2 =>
            cases r2
            cases r1
            obtain ⟨its, rv, pl, hz⟩ := I.list hq
            have hi : IntsAre its (i :: r) := intsAre_of rv
            obtain ⟨ys, ey⟩ := hi.allInts.items
            have hns : (i :: r) = ys.toList.map (·.1) := by rw [← hi.numsOf, ← nums_intItems, ← ey]
            have hlen : ys.size = r.length + 1 := by
              have := congrArg List.length hns
              simpa using this.symm
            have hl := pl.isList
            rw [ey] at hl
            refine min_intList (I.ok.hd hc) hl (by omega) fun v h' tk hv hk => ?_
            obtain ⟨t, rfl⟩ := intItems_at hv
            obtain ⟨b1, b2⟩ := argBest_lt (numAt ys) (ys.size - 1)
            generalize argBest (fun i j => decide (numAt ys i < numAt ys j)) (ys.size - 1) = k at b1 b2
            have m1 : numAt ys k ∈ i :: r := by
              rw [hns, numAt_eq]; exact getD_mem (by rw [List.length_map, Array.length_toList]; omega)
            have m2 : ∀ a ∈ i :: r, numAt ys k ≤ a := fun a ha => by
              rw [hns] at ha
              obtain ⟨j, hj, rfl⟩ := mem_getD ha
              rw [List.length_map, Array.length_toList] at hj
              rw [← numAt_eq]; exact b2 j (by omega)
            obtain ⟨k1, k2⟩ := minL_ok r i
            have em : numAt ys k = minL i r := Int.le_antisymm (m2 _ k1) (k2 _ m1)
            rw [em]
            exact ⟨.int _, H, I.kept hk, ⟨_, rfl⟩, wish_fz (X := X) l (v := .int _) w rfl⟩
section
variable {X : Cx} {F0 H0 : Hp} {pos : Pos}
end
end L3
namespace L3
section
open PySem PySem.Spec PyProof.Rows L2
variable {X : Cx}
end
end L3
set_option Elab.async false
set_option linter.all false
set_option maxRecDepth 100000
set_option maxHeartbeats 4000000
namespace L3
open PySem PySem.Spec PyProof.Rows L2
section
variable {κ : Kx} {H0 F H F' H' : Hp}
theorem In2.len : ∀ {bs : List Addr} {css : List (List Addr)} {ds : List D}, In2 κ H0 F H bs css ds → bs.length = ds.length
  | [], [], [], _ => rfl
  | [], _ :: _, _, h => by cases h
  | [], [], _ :: _, h => by cases h
  | _ :: _, [], _, h => by cases h
  | _ :: _, _ :: _, [], h => by cases h
  | b :: bs, cs :: css, e :: es, h => by rw [List.length_cons, List.length_cons, In2.len h.2]
theorem In2.snoc {b : Addr} {cs : List Addr} {xs : List D} (h0 : H0 b = none) (hf : F b = none) (hh : H b = some (.lst (cs.map V.ref))) (r : Inn κ H0 F H cs xs) : ∀ {bs : List Addr} {css : List (List Addr)} {ds : List D}, In2 κ H0 F H bs css ds → In2 κ H0 F H (bs ++ [b]) (css ++ [cs]) (ds ++ [.lst xs])
  | [], [], [], _ => ⟨⟨xs, rfl, h0, hf, hh, r⟩, trivial⟩
  | [], _ :: _, _, h => by cases h
  | [], [], _ :: _, h => by cases h
  | _ :: _, [], _, h => by cases h
  | _ :: _, _ :: _, [], h => by cases h
  | _ :: _, _ :: _, _ :: _, h => ⟨h.1, In2.snoc h0 hf hh r h.2⟩
end
section
variable {X : Cx} {F0 H0 : Hp} {pos : Pos} {tg elt iter : Expr} {scope : Scope} {fi : IF} {gf : GF} {e : EF} {ad : En → R D} {mk : List D → D}
theorem DV.deep {κ : Kx} {H F' H' : Hp} {v : V} {d : D} (h : DV κ H F' H' v d) (nt : ∀ xs, d ≠ .tup xs) : ∃ a bs, v = .ref a ∧ (∀ c ∈ a :: bs, H c = none) ∧ F' a = none ∧ (a :: bs).Nodup ∧ Deep κ H F' H' a bs d := by
  rcases h with ⟨ds, rfl, a, bs, e1, h0, hf, nd, hh, i⟩ | ⟨ds, rfl, a, bs, css, e1, h0, hf, nd, hh, i⟩ | ⟨ds, y, e, _⟩
  · refine ⟨a, bs, e1, fun c m => ?_, hf, nd, hh, i⟩
    rcases List.mem_cons.mp m with rfl | m
    · exact h0
    · obtain ⟨_, z, _⟩ := Inn.at i m; exact z
  · refine ⟨a, bs ++ css.flatten, e1, fun c m => ?_, hf, nd, bs, css, rfl, hh, i⟩
    rcases List.mem_cons.mp m with rfl | m
    · exact h0
    · obtain ⟨_, z, _⟩ := In2.at i m; exact z
  · exact (nt _ e).elim
theorem Deep.older {κ : Kx} {H G F' H' : Hp} {a : Addr} {bs : List Addr} {d : D} (l : ∀ a, H a = none → G a = none) (h : Deep κ H F' H' a bs d) : Deep κ G F' H' a bs d := by
  cases d <;> first | exact h.elim | exact ⟨h.1, Inn.older l h.2⟩ | skip
  obtain ⟨b1, css, e, h1, h2⟩ := h
  exact ⟨b1, css, e, h1, In2.older l h2⟩
end
end L3
set_option Elab.async false
set_option linter.all false
set_option maxRecDepth 100000
set_option maxHeartbeats 4000000
namespace L3
open PySem PySem.Spec PyProof.Rows L2
section
variable {X : Cx} {F0 H0 : Hp} {pos : Pos}
end
def but (H : Hp) (a : Addr) : Hp := fun c => if c = a then none else H c
section
variable {P : Program} {w : World} {K : PySem.W.Frag} {mg : Str → Option Value} {base : Heap}
end
section
variable {X : Cx} {F0 H0 : Hp} {pos : Pos}
end
section
variable {κ : Kx} {H0 F H : Hp}
end
section
variable {X : Cx} {F0 H0 : Hp} {pos : Pos}
end
end L3
set_option Elab.async false
set_option linter.all false
set_option maxRecDepth 100000
set_option maxHeartbeats 4000000
namespace L3
open PySem PySem.Spec PyProof.Rows L2
section
variable {X : Cx} {F0 H0 : Hp} {tg : Expr} {pos : Pos}
end
end L3
set_option Elab.async false
set_option linter.all false
set_option maxRecDepth 100000
set_option maxHeartbeats 4000000
namespace L3
open PySem PySem.Spec PyProof.Rows L2
end L3
set_option Elab.async false
set_option linter.all false
set_option maxRecDepth 100000
set_option maxHeartbeats 4000000
namespace L3
open PySem PySem.Spec PyProof.Rows L2
section
open PySem.SeqAt PySem.MeetsSeq PySem.MeetsSeq2 PySem.MeetsSeq3
open PySem.AutoSeq1 (wpAny_loadPart')
end
section
variable {X : Cx}
end
section
variable {X : Cx}
end
section
variable {X : Cx} {F0 H0 : Hp}
end
end L3
set_option Elab.async false
set_option linter.all false
set_option maxRecDepth 100000
set_option maxHeartbeats 4000000
namespace L3
open PySem L2
def repD {α : Type} (n : Nat) (xs : List α) : List α := (List.replicate n xs).flatten
theorem repD_len {α : Type} (xs : List α) : ∀ n, (repD n xs).length = xs.length * n
  | 0 => by simp [repD]
  | n + 1 => by
    have := repD_len xs n
    unfold repD at this ⊢
    rw [List.replicate_succ, List.flatten_cons, List.length_append, this, Nat.mul_succ]
    omega
theorem Reps.rep {κ : Kx} {F : Hp} {ds : List D} {vs : List V} (h : Reps κ F vs ds) : ∀ n, Reps κ F (repD n vs) (repD n ds)
  | 0 => rfl
  | n + 1 => by
    have := Reps.rep h n
    unfold repD at this ⊢
    rw [List.replicate_succ, List.replicate_succ, List.flatten_cons, List.flatten_cons]
    exact Reps.append h this
theorem Vals.rep {vs : List V} {us : List Value} (h : Vals vs us) : ∀ n, Vals (repD n vs) (repD n us)
  | 0 => .nil
  | n + 1 => by
    have := Vals.rep h n
    unfold repD at this ⊢
    rw [List.replicate_succ, List.replicate_succ, List.flatten_cons, List.flatten_cons]
    exact Vals.append h this
def dMulA : D → D → R En
  | .int i, .lst xs => if i < 1048576 ∧ -1048576 ≤ i ∧ xs.length * i.toNat ≤ sz then .ok (.ow (.lst (repD i.toNat xs))) else .stuck
  | .lst xs, .int i => if i < 1048576 ∧ -1048576 ≤ i ∧ xs.length * i.toNat ≤ sz then .ok (.ow (.lst (repD i.toNat xs))) else .stuck
  | x, y => dMul x y
section
variable {X : Cx}
theorem od_mulA : OpD X (binaryOp .Mult) dMulA := by
  intro pins s σ F H x y v u dx dy Q I l rx ry qx qy w
  have p62 : (2 : Int) ^ 63 = 9223372036854775808 := by decide
  cases dx <;> first | exact w.elim | skip
  · rename_i i
    cases dy <;> first | exact w.elim | skip
    · exact od_mul pins s σ F H x y v u _ _ Q I l rx ry qx qy w
    · rename_i xs
      unfold dMulA at w
      dsimp only at w
      split at w
      · rename_i c
        obtain ⟨b, us, rfl, hq, rs⟩ := RdV.lst l qy
        cases RdV.int qx
        obtain ⟨t1, rfl⟩ := rx
        cases (show u = Value.ref b from ry)
        obtain ⟨its, rv, pl, hz⟩ := I.list hq
        obtain ⟨⟨cls, dd, data, sl⟩, ho, hc, n, hd⟩ := pl.isList
        simp only at hc hd
        subst hc hd
        have hl : its.toArray.size * i.toNat ≤ sizeLine := by
          rw [List.size_toArray, ← rv.length, Reps.length rs, ← sz_eq]; exact c.2.2
        have hl' : its.toArray.size * i.toNat ≤ 16777216 := hl
        have e63 : ((2 ^ 63 - 1) / 8 : Nat) = 1152921504606846975 := by decide
        refine lm_binaryOp_repeat_right (T := "list") (U := "int") (by decide) (fun s' => typeIs_int s' i t1) ⟨_, ho, rfl⟩ PySem.F.fills_int_mul noFill_list_mul PySem.F.slot_int_mul lm_noRepeat_int repeat_list PySem.F.slot_int_index.lookup (call_meets PySem.F.slot_int_mul (typeIs_int s i t1) PySem.F.entry_int_mul (PySem.F.args_int_mul_2 _ _) (lm_int_mul_list_any i t1 b its.toArray n dd sl) ⟨ho, rfl, ⟨_, ho, rfl⟩, call_meets PySem.F.slot_list_mul ⟨_, ho, rfl⟩ PySem.F.entry_list_mul (PySem.F.args_list_mul_2 _ _) (lm_list_mul_any b its.toArray n dd sl i t1 (by simp [Builtin.List.listFitsIndex]; omega) (by rw [e63]; omega) (by simp [Builtin.List.listTooLong, sizeLine]; simpa using hl')) ⟨ho, ?_⟩⟩)
        rw [PyProof.Rows.listMul_foldl_if]
        have hp : H s.heap.objs.size = none := I.hok.fresh (Nat.le_refl _)
        refine ⟨.ref s.heap.objs.size, upd H s.heap.objs.size (.lst (repD i.toNat us)), I.laid (t' := s.toks) (fun b o q => Heap.get?_push_of_some _ q) (Nat.le_refl _) ⟨?_, repD i.toNat its, 0, Vals.rep rv _, Heap.get?_push_size _ rfl⟩, rfl, ?_⟩
        · rw [repD_len, rv.length]; simpa using hl
        · exact w _ _ _ (Gr.new l hp) ⟨_, _, rfl, hp, Le.none l hp, upd_same, Reps.rep rs _⟩
      · exact w.elim
  · rename_i xs
    cases dy <;> first | exact w.elim | skip
    rename_i i
    unfold dMulA at w
    dsimp only at w
    split at w
    · rename_i c
      obtain ⟨b, us, rfl, hq, rs⟩ := RdV.lst l qx
      cases RdV.int qy
      obtain ⟨t1, rfl⟩ := ry
      cases (show v = Value.ref b from rx)
      obtain ⟨its, rv, pl, hz⟩ := I.list hq
      obtain ⟨⟨cls, dd, data, sl⟩, ho, hc, n, hd⟩ := pl.isList
      simp only at hc hd
      subst hc hd
      have hl : its.toArray.size * i.toNat ≤ sizeLine := by
        rw [List.size_toArray, ← rv.length, Reps.length rs, ← sz_eq]; exact c.2.2
      have hl' : its.toArray.size * i.toNat ≤ 16777216 := hl
      have e63 : ((2 ^ 63 - 1) / 8 : Nat) = 1152921504606846975 := by decide
      refine wpAny_binaryOp_repeat_ref (T := "list") (U := "int") (by decide) ⟨_, ho, rfl⟩ (fun s' => typeIs_int s' i t1) noFill_list_mul PySem.F.fills_int_mul PySem.F.slot_int_rmul repeat_list PySem.F.slot_int_index.lookup (call_meets PySem.F.slot_int_rmul (typeIs_int s i t1) PySem.F.entry_int_rmul (PySem.F.args_int_rmul_2 _ _) (lm_int_rmul_list_any i t1 b its.toArray n dd sl) ⟨ho, rfl, ⟨_, ho, rfl⟩, call_meets PySem.F.slot_list_mul ⟨_, ho, rfl⟩ PySem.F.entry_list_mul (PySem.F.args_list_mul_2 _ _) (lm_list_mul_any b its.toArray n dd sl i t1 (by simp [Builtin.List.listFitsIndex]; omega) (by rw [e63]; omega) (by simp [Builtin.List.listTooLong, sizeLine]; simpa using hl')) ⟨ho, ?_⟩⟩)
      rw [PyProof.Rows.listMul_foldl_if]
      have hp : H s.heap.objs.size = none := I.hok.fresh (Nat.le_refl _)
      refine ⟨.ref s.heap.objs.size, upd H s.heap.objs.size (.lst (repD i.toNat us)), I.laid (t' := s.toks) (fun b o q => Heap.get?_push_of_some _ q) (Nat.le_refl _) ⟨?_, repD i.toNat its, 0, Vals.rep rv _, Heap.get?_push_size _ rfl⟩, rfl, ?_⟩
      · rw [repD_len, rv.length]; simpa using hl
      · exact w _ _ _ (Gr.new l hp) ⟨_, _, rfl, hp, Le.none l hp, upd_same, Reps.rep rs _⟩
    · exact w.elim
end
def minR : List Int → List (List Int) → List Int
  | m, [] => m
  | m, q :: r => minR (if HT.lexLt q m = true then q else m) r
section
variable {prog : Program} {w : World} {A : Around} {R : Result → Shared → Prop} {I l S : Addr} {us : List Value} {rk : Value → List Int} {h0 : Heap} {M : List Int}
def KeepH (h0 h : Heap) : Prop := ∀ b o, h0.get? b = some o → h.get? b = some o
theorem least_loop {s0 : Shared} (hh : A.handled = none) (ne : l ≠ I) (nS : S ≠ I) (nl : S ≠ l) (hI : h0.get? I = none) (hS0 : h0.get? S = none)
    (cmp : ∀ u ∈ us, ∀ v ∈ us, ∀ (s : Shared) (Q : Value → Shared → Prop) (E : Value → Shared → Prop), KeepH h0 s.heap → Q (.bool (HT.lexLt (rk u) (rk v))) s → wpAny (model prog w) A.in1 (richCompare .Lt u v) Q E s)
    (fin : ∀ v h' tk, v ∈ us → rk v = M → KeepH h0 h' → R (.ok (.ret v)) { s0 with heap := h', toks := tk }) :
    ∀ (k j : Nat) (h : Heap) (t : Nat) (vb : Value) (c : Nat), us.length - (j + 1) = k → j + 1 ≤ us.length → h.IsListIter I l (j + 1) → h.IsList l us.toArray → vb ∈ us → minR (rk vb) ((us.drop (j + 1)).map rk) = M →
      h.get? S = some ⟨.type "list", none, .seq #[vb, vb] c, #[]⟩ → KeepH h0 h →
      codeAny (model prog w) A (.builtin "min.loop" ⟨[.ref I, .none, .ref S], []⟩) R { s0 with heap := h, toks := t } := by
  have W := Walks.list (prog := prog) (w := w) (A := A.in1) hh I l ne us.toArray
  have word : (toString "min" ++ toString ".loop" : String) = "min.loop" := by decide
  have zl : us.toArray.size = us.length := List.size_toArray ..
  have nSw : S ∉ [I] := by simp [nS]
  have no : ∀ {b : Addr} {o : Obj}, h0.get? b = some o → b ≠ I ∧ b ≠ S := by
    intro b o e
    constructor
    · intro z
      rw [z, hI] at e
      cases e
    · intro z
      rw [z, hS0] at e
      cases e
  intro k
  induction k with
  | zero =>
    intro j h t vb c hk hj it il hb hm hS kp
    have hin : j + 1 = us.length := by omega
    refine codeAny_builtin PySem.F.entry_min_loop ?_
    rw [Around.under_plainId PySem.F.plain_min_loop _]
    refine (show wpAny _ A.in1 (seqItems? (.ref S) >>= _) _ _ _ from wpAny_bind (wpAny_seqItems (s := { s0 with heap := h, toks := t }) hS rfl ?_))
    refine (show wpAny _ A.in1 (tryCatch (pyNext (.ref I)) _ >>= _) _ _ _ from wpAny_bind (wpAny_tryCatch (W.done { s0 with heap := h, toks := t } _ _ ⟨by rw [zl, ← hin]; exact it, il⟩ fun h1 t1 k1 => ?_)))
    have hS1 := k1 S _ nSw hS
    refine (show wpAny _ A.in1 (updateSeq S (fun _ => #[]) >>= _) _ _ _ from wpAny_bind (wpAny_updateSeq hS1 rfl (wpAny_bind (wpAny_letGo (wpAny_pure ?_)))))
    refine fin vb _ t1 hb ?_ fun b o e => ?_
    · rw [hin, List.drop_length] at hm; exact hm
    · exact (Heap.get?_update_other _ _ (Ne.symm (no e).2)).trans (k1 b o (by simp [(no e).1]) (kp b o e))
  | succ k ih =>
    intro j h t vb c hk hj it il hb hm hS kp
    have hlt : j + 1 < us.length := by omega
    refine codeAny_builtin PySem.F.entry_min_loop ?_
    rw [Around.under_plainId PySem.F.plain_min_loop _]
    refine (show wpAny _ A.in1 (seqItems? (.ref S) >>= _) _ _ _ from wpAny_bind (wpAny_seqItems (s := { s0 with heap := h, toks := t }) hS rfl ?_))
    refine (show wpAny _ A.in1 (tryCatch (pyNext (.ref I)) _ >>= _) _ _ _ from wpAny_bind (wpAny_tryCatch (W.item (j + 1) { s0 with heap := h, toks := t } _ _ (by rw [zl]; exact hlt) ⟨it, il⟩ fun v h1 t1 hP st1 k1 => ?_)))
    have hS1 := k1 S _ nSw hS
    have hP' : us[j + 1]? = some v := by simpa using hP
    have hv : v ∈ us := List.mem_of_getElem? hP'
    have dr : us.drop (j + 1) = v :: us.drop (j + 1 + 1) := by
      rw [List.drop_eq_getElem_cons hlt]
      congr 1
      rw [List.getElem?_eq_getElem hlt] at hP'
      exact Option.some.inj hP'
    have kp1 : KeepH h0 h1 := fun b o e => k1 b o (by simp [(no e).1]) (kp b o e)
    rw [dr, List.map_cons] at hm
    refine (show wpAny _ A.in1 (tryCatch (holding [v, v] (richCompare .Lt v vb >>= _)) _ >>= _) _ _ _ from wpAny_bind (wpAny_tryCatch (wpAny_holding (wpAny_bind (cmp v hv vb hb _ _ _ kp1 ?_)))))
    refine wpAny_bind (wpAny_holding (wpAny_truthy_bool (wpAny_bind (wpAny_letGo (wpAny_pure ?_)))))
    unfold minR at hm
    cases hl : HT.lexLt (rk v) (rk vb) with
    | true =>
      rw [hl] at hm
      simp only [if_true] at hm ⊢
      refine wpAny_bind (wpAny_updateSeq hS1 rfl (wpAny_bind (wpAny_letGo ?_)))
      rw [word]
      have oth : ∀ b, b ≠ S → ∀ o, h1.get? b = some o → (h1.update S (Obj.mapSeq fun _ => #[v, v])).get? b = some o := fun b nb o e => (Heap.get?_update_other _ _ (Ne.symm nb)).trans e
      exact wpAny_pure ⟨plainId_quiet PySem.F.plain_min_loop _, ih (j + 1) _ _ v _ (by omega) hlt (st1.1.at fun o e => oth I (Ne.symm nS) o e) (st1.2.at fun o e => oth l (Ne.symm nl) o e) hv hm (Heap.get?_update_self _ hS1 rfl) fun b o e => oth b (no e).2 o (kp1 b o e)⟩
    | false =>
      rw [hl] at hm
      simp only [Bool.false_eq_true, if_false] at hm ⊢
      refine wpAny_bind (wpAny_letGo ?_)
      rw [word]
      exact wpAny_pure ⟨plainId_quiet PySem.F.plain_min_loop _, ih (j + 1) _ _ vb c (by omega) hlt st1.1 st1.2 hb hm hS1 kp1⟩
theorem least_call {s : Shared} {Q : Value → Shared → Prop} {E : Value → Shared → Prop} (hh : A.handled = none) (hl : s.heap.IsList l us.toArray) {u0 : Value} {ur : List Value} (eu : us = u0 :: ur) (hM : minR (rk u0) (ur.map rk) = M)
    (cmp : ∀ u ∈ us, ∀ v ∈ us, ∀ (s' : Shared) (Q : Value → Shared → Prop) (E : Value → Shared → Prop), KeepH s.heap s'.heap → Q (.bool (HT.lexLt (rk u) (rk v))) s' → wpAny (model prog w) A.in1 (richCompare .Lt u v) Q E s')
    (fin : ∀ v h' tk, v ∈ us → rk v = M → KeepH s.heap h' → Q v { s with heap := h', toks := tk }) :
    wpAny (model prog w) A (call (.builtin "min") [.ref l]) Q E s := by
  have word : (toString "min" ++ toString ".loop" : String) = "min.loop" := by decide
  have hlt : l < s.heap.objs.size := by
    obtain ⟨oo, eo, _⟩ := id hl
    exact Heap.lt_size eo
  refine call_function_tree PySem.F.kind_min PySem.F.plain_min PySem.F.entry_min (PySem.F.args_min1 _) ?_
  refine (show wpAny _ A.in1 (Builtin.Builtins.bindParams "min" ["key", "default"] 0 ⟨[], []⟩ >>= _) _ _ s from wpAny_bind (wpAny_of_eq (show Builtin.Builtins.bindParams "min" ["key", "default"] 0 ⟨[], []⟩ = pure [none, none] from rfl) (wpAny_bind (wpAny_pure ?_))))
  refine wpAny_bind (wpAny_pyIter_list hl (wpAny_bind (wpAny_newObj_type ?_)))
  rw [word]
  refine wpAny_pure ⟨plainId_quiet PySem.F.plain_min_loop _, codeAny_builtin PySem.F.entry_min_loop ?_⟩
  rw [Around.under_plainId PySem.F.plain_min_loop _]
  generalize eh : (s.heap.push { cls := .type "list_iterator", data := .fields #[.ref l, .int 0 0] }) = hA
  have zA : hA.objs.size = s.heap.objs.size + 1 := by rw [← eh]; exact Heap.size_push ..
  have kA : KeepH s.heap hA := fun b o e => by rw [← eh]; exact Heap.get?_push_of_some _ e
  have itA : hA.IsListIter s.heap.objs.size l 0 := by rw [← eh]; exact ⟨_, Heap.get?_push_size _ rfl, rfl, rfl⟩
  have szB : hA.objs.size ≠ s.heap.objs.size := by omega
  have lB : hA.IsList l us.toArray := hl.at fun o e => kA _ _ e
  have far : ∀ b : Nat, s.heap.objs.size ≤ b → s.heap.get? b = none := fun b hb => by
    cases e : s.heap.get? b with
    | none => rfl
    | some o => exact absurd (Heap.lt_size e) (Nat.not_lt.mpr hb)
  have nI : s.heap.get? s.heap.objs.size = none := far _ (Nat.le_refl _)
  have nS : s.heap.get? hA.objs.size = none := far _ (by rw [zA]; exact Nat.le_succ _)
  generalize eB : (hA.push { cls := .type "list", data := .seq #[] }) = hB
  have kB : KeepH hA hB := fun b o e => by rw [← eB]; exact Heap.get?_push_of_some _ e
  have hS : hB.get? hA.objs.size = some ⟨.type "list", none, .seq #[] 0, #[]⟩ := by rw [← eB]; exact Heap.get?_push_size _ rfl
  have ne : l ≠ s.heap.objs.size := Nat.ne_of_lt hlt
  have nl : hA.objs.size ≠ l := fun z => by rw [zA] at z; exact absurd hlt (by rw [← z]; exact Nat.not_lt.mpr (Nat.le_succ _))
  have W := Walks.list (prog := prog) (w := w) (A := A.in1) hh s.heap.objs.size l ne us.toArray
  have e0 : us[0]? = some u0 := by rw [eu]; rfl
  refine (show wpAny _ A.in1 (seqItems? (.ref hA.objs.size) >>= _) _ _ _ from wpAny_bind (wpAny_seqItems (s := { s with heap := hB }) hS rfl ?_))
  refine (show wpAny _ A.in1 (tryCatch (pyNext (.ref s.heap.objs.size)) _ >>= _) _ _ _ from wpAny_bind (wpAny_tryCatch (W.item 0 { s with heap := hB } _ _ (by rw [eu]; simp) ⟨itA.at fun o e => kB _ _ e, lB.at fun o e => kB _ _ e⟩ fun v h1 t1 hP st1 k1 => ?_)))
  have hv : v = u0 := by
    have : us[0]? = some v := by simpa using hP
    rw [e0] at this
    exact (Option.some.inj this).symm
  subst hv
  have hS1 := k1 hA.objs.size _ (by simp [szB]) hS
  refine (show wpAny _ A.in1 (updateSeq hA.objs.size (fun _ => #[v, v]) >>= _) _ _ _ from wpAny_bind (wpAny_updateSeq hS1 rfl ?_))
  rw [word]
  have oth : ∀ b, b ≠ hA.objs.size → ∀ o, h1.get? b = some o → (h1.update hA.objs.size (Obj.mapSeq fun _ => #[v, v])).get? b = some o := fun b nb o e => (Heap.get?_update_other _ _ (Ne.symm nb)).trans e
  refine wpAny_pure ⟨plainId_quiet PySem.F.plain_min_loop _, least_loop (s0 := s) (h0 := s.heap) (M := M) (rk := rk) hh ne szB nl nI nS cmp (fun v h' tk hv he kp => fin v h' tk hv he kp) _ 0 _ _ v _ rfl (by rw [eu]; simp) (st1.1.at fun o e => oth _ (Ne.symm szB) o e) (st1.2.at fun o e => oth l (Ne.symm nl) o e) (by rw [eu]; exact List.mem_cons_self) (by rw [eu]; exact hM) (Heap.get?_update_self _ hS1 rfl) fun b o e => ?_⟩
  have n1 : b ≠ s.heap.objs.size := fun z => by rw [z, nI] at e; cases e
  have n2 : b ≠ hA.objs.size := fun z => by rw [z, nS] at e; cases e
  exact oth b n2 o (k1 b o (by simp [n1]) (kB _ _ (kA _ _ e)))
end
def dMinT : List D → R En
  | [.lst ds] => (match rowsOf ds with | some (a :: r) => .ok (.fz (rowD (minR a r))) | _ => .stuck)
  | _ => .stuck
theorem cd_minT {X : Cx} (hu : X.A.units + 10 < cLine) (hc : X.calm = true := by rfl) : CallD X (.builtin "min") dMinT := by
  intro pins s σ F H xs us ds Q I l rx qx w
  cases qx with
  | nil => exact w.elim
  | cons q1 q2 =>
    rename_i d _ _
    cases q2 with
    | cons _ _ => cases d <;> exact w.elim
    | nil =>
      cases d <;> first | exact w.elim | skip
      rename_i ds
      unfold dMinT at w
      dsimp only at w
      cases e : rowsOf ds with
      | none => rw [e] at w; exact w.elim
      | some rs =>
        rw [e] at w
        cases rs with
        | nil => exact w.elim
        | cons a r =>
          dsimp only at w
          obtain ⟨p, vs, rfl, hq, rs'⟩ := RdV.lst l q1
          cases rx with
          | cons r1 r2 =>
            cases r2
            cases r1
            obtain ⟨its, rv, pl, hz⟩ := I.list hq
            obtain ⟨m, k⟩ := rows_rep I l e rs' rv
            cases its with
            | nil => cases m
            | cons u0 ur =>
              rw [List.map_cons] at m
              injection m with m1 m2
              refine least_call (rk := rowV s.heap) (M := minR a r) (I.ok.hd hc) pl.isList rfl (by rw [m1, m2]) (fun u hu' v hv' s' Q' E' kp q => ?_) fun v h' tk hv' hm kp => ?_
              · obtain ⟨b1, i1, n1, rfl, t1, j1, _, _⟩ := k u hu'
                obtain ⟨b2, i2, n2, rfl, t2, j2, _, _⟩ := k v hv'
                rw [rowV_is t1 j1, rowV_is t2 j2] at q
                have up : ∀ {b : Addr} {i : List Value}, PyProof.Rows.IsTup s.heap b i.toArray → PyProof.Rows.IsTup s'.heap b i.toArray := by
                  intro b i t
                  obtain ⟨o, eo, rest⟩ := t
                  exact ⟨o, kp b o eo, rest⟩
                exact HT.lt_tupInts (A := X.A.in1) (up t1) (up t2) j1 j2 (by show X.A.units + 1 < cLine; omega) q
              · obtain ⟨b1, i1, n1, rfl, t1, j1, rp, _⟩ := k v hv'
                rw [rowV_is t1 j1] at hm
                subst hm
                exact ⟨.ref b1, H, I.kept kp, rfl, wish_fz (X := X) l (v := .ref b1) w rp⟩
end L3
set_option Elab.async false
set_option linter.all false
set_option maxRecDepth 100000
set_option maxHeartbeats 4000000
namespace L3
open PySem PySem.Spec PyProof.Rows L2
mutual
def cE : Nat → Expr → Option EF
  | _, .Constant (.int i) _ _ => some (eC (.int i))
  | _, .Constant (.str x) _ _ => some (eC (.str x))
  | n + 1, .List es _ => (cEs n es).map eLst
  | _, _ => none
def cEs : Nat → List Expr → Option (List EF)
  | _, [] => some []
  | n, e :: r => (cE n e).bind fun f => (cEs n r).map fun fs => f :: fs
end
mutual
theorem se_const {X : Cx} {F0 H0 : Hp} : ∀ (n : Nat) {e : Expr} {f : EF}, cE n e = some f → SE X F0 H0 e f
  | n, .Constant c j p, f, h => by
    cases c <;> first | (cases n <;> (cases h; done)) | skip
    · obtain rfl : eC (.int _) = f := by cases n <;> exact Option.some.inj h
      exact se_int
    · obtain rfl : eC (.str _) = f := by cases n <;> exact Option.some.inj h
      exact se_str
  | 0, .List es p, f, h => by cases h
  | n + 1, .List es p, f, h => by
    rw [cE] at h
    cases e : cEs n es with
    | none => rw [e] at h; cases h
    | some fs =>
      rw [e] at h
      obtain rfl : eLst fs = f := Option.some.inj h
      exact se_lst (sa_const n e)
theorem sa_const {X : Cx} {F0 H0 : Hp} : ∀ (n : Nat) {es : List Expr} {fs : List EF}, cEs n es = some fs → SA X F0 H0 es fs
  | n, [], fs, h => by
    rw [cEs] at h
    cases h
    exact sa_nil
  | n, e :: r, fs, h => by
    rw [cEs] at h
    cases e1 : cE n e with
    | none => rw [e1] at h; cases h
    | some f =>
      cases e2 : cEs n r with
      | none => rw [e1, e2] at h; cases h
      | some fr =>
        rw [e1, e2] at h
        obtain rfl : f :: fr = fs := Option.some.inj h
        refine sa_cons (se_const n e1) (sa_const n e2) ?_
        cases e <;> first | rfl | (cases n <;> (cases e1; done))
end
def size1 (a b c : Int) : Int := if a > b then a - b else 0
def rng3d : D → D → D → R (List D)
  | .int a, .int b, .int c => if -1000000 ≤ a ∧ a ≤ 1000000 ∧ -1000000 ≤ b ∧ b ≤ 1000000 ∧ c = -1 then .ok (rngS a c (size1 a b c).toNat) else .stuck
  | _, _, _ => .stuck
def iR3d (a b c : EF) : IF := fun ρ => (a ρ).bind fun x => (b ρ).bind fun y => (c ρ).bind fun z => rng3d x.d y.d z.d
theorem size1_eq {a b c : Int} (h : c = -1) : Builtin.Range.rangeSize a b c = size1 a b c := by
  subst h
  unfold Builtin.Range.rangeSize size1
  simp
theorem small1 {a b c : Int} (h1 : -1000000 ≤ a) (h2 : a ≤ 1000000) (h3 : -1000000 ≤ b) (h4 : b ≤ 1000000) (h : c = -1) : Builtin.Range.small a b c = true := by
  unfold Builtin.Range.small
  rw [size1_eq h]
  unfold size1
  simp only [Builtin.Range.rangeFitsLong, Bool.and_eq_true, Bool.or_eq_true, decide_eq_true_eq, beq_iff_eq]
  subst h
  simp only [show ¬ (-1 : Int) > 0 by decide, if_false, Bool.and_eq_true, decide_eq_true_eq]
  split <;> omega
theorem si_range3d {X : Cx} {F0 H0 : Hp} {tg a b c : Expr} {fa fb fc : EF} {np cp : Pos} (ha : SE X F0 H0 a fa) (hb : SE X F0 H0 b fb) (hc : SE X F0 H0 c fc) (hm : X.mg "range" = none) (hg : Gl X "range" := by rfl)
    (hs : starEach [a, b, c] X.env = (false, eval a X.env) :: starEach [b, c] X.env := by rfl) (hs2 : starEach [b, c] X.env = (false, eval b X.env) :: starEach [c] X.env := by rfl) (hs3 : starEach [c] X.env = [(false, eval c X.env)] := by rfl) (hpl : (backTo cp (starEach [b, c] X.env)).any (·.1) = false := by rfl) :
    SI X F0 H0 tg (.Call (.Name "range" np) [a, b, c] [] cp) (iR3d fa fb fc) := by
  refine ⟨fun σ H R => (tCons (tSem X a) (tCons (tSem X b) (tCons (tSem X c) tNil))) σ H fun vs H1 => ∃ i j k : Int, vs = [.int i, .int j, .int k] ∧ (-1000000 ≤ i ∧ i ≤ 1000000 ∧ -1000000 ≤ j ∧ j ≤ 1000000 ∧ k = -1) ∧ R (Itr3 i k (size1 i j k).toNat) H1, fun pins s σ H R I h => ?_, fun σ F H ρ R S h => ?_⟩
  · refine Call_ (ld_blt I hg hm boot_range (PyProof.Rows.callWith_type1 (thn ((pa_cons (pe_sem (e := a)) (pa_cons (pe_sem (e := b)) (pa_cons (pe_sem (e := c)) pa_nil hs3) hs2) hs) cp pins s σ H _ I h) fun us s1 ⟨vs, H1, I1, r1, q1⟩ => ?_) hs hpl))
    obtain ⟨i, j, k, rfl, ⟨b1, b2, b3, b4, b5⟩, hR⟩ := q1
    cases r1 with
    | cons r r1 =>
      cases r1 with
      | cons r' r1 =>
        cases r1 with
        | cons r'' r1 =>
          cases r1
          obtain ⟨t, rfl⟩ := r
          obtain ⟨t', rfl⟩ := r'
          obtain ⟨t'', rfl⟩ := r''
          refine call_range_3 (by omega) ?_ (.inl (PyProof.noPylong_small (by omega)))
          refine wpAny_pyIter_range (IsRange.new ..) (small1 b1 b2 b3 b4 b5) ?_
          have I2 : Inv X pins σ H1 { s1 with heap := s1.heap.push { cls := .type "range", data := .fields #[.int i t, .int j t', .int k t''] } } := I1.kept (t' := s1.toks) fun b o e => Heap.get?_push_of_some _ e
          have n0 : 0 ≤ size1 i j k := by unfold size1; split <;> omega
          refine ⟨_, [_], _, _, H1, rfl, I2.kept (t' := s1.toks) fun b o e => Heap.get?_push_of_some _ e, turn_range3 _ i k (size1 i j k).toNat, ?_, fun b hb => ?_, hR⟩
          · have e1 : i + ((0 : Nat) : Int) * k = i := by simp
            have e2 : (((size1 i j k).toNat : Nat) : Int) - ((0 : Nat) : Int) = Builtin.Range.rangeSize i j k := by rw [size1_eq b5]; omega
            show IsRangeIter _ _ (i + ((0 : Nat) : Int) * k) ((((size1 i j k).toNat : Nat) : Int) - ((0 : Nat) : Int)) k
            rw [e1, e2]
            exact Heap.get?_push_size _ rfl
          · rw [List.mem_singleton] at hb
            subst hb
            exact I2.fpOk (Nat.le_refl _) (I2.hok.fresh (Nat.le_refl _))
  · refine ha.sem S ((KE.bind h).imp fun w1 k1 v1 F1 H1 g1 q1 => hb.sem (S.grow g1) ((KE.bind k1).imp fun w2 k2 v2 F2 H2 g2 q2 => hc.sem ((S.grow g1).grow g2) ((KE.bind k2).imp fun w3 k3 v3 F3 H3 g3 q3 => ?_)))
    have r1 := RdV.gr g3 (RdV.gr g2 (Vok.rd q1))
    have r2 := RdV.gr g3 (Vok.rd q2)
    have r3 := Vok.rd q3
    revert k3
    generalize w1.d = d1 at r1
    generalize w2.d = d2 at r2
    generalize w3.d = d3 at r3
    intro k3
    cases d1 <;> first | exact k3.elim | skip
    cases d2 <;> first | exact k3.elim | skip
    cases d3 <;> first | exact k3.elim | skip
    rename_i i j k
    unfold rng3d at k3
    dsimp only at k3
    by_cases cc : -1000000 ≤ i ∧ i ≤ 1000000 ∧ -1000000 ≤ j ∧ j ≤ 1000000 ∧ k = -1
    · rw [if_pos cc] at k3
      cases RdV.int r1
      cases RdV.int r2
      cases RdV.int r3
      have k3 : ∀ F' H' J, Gr F H F' H' → Walk (kx X) J F' H0 (rngS i k (size1 i j k).toNat) → R J H' := k3
      refine ⟨i, j, k, rfl, cc, k3 F3 H3 _ ((g1.trans g2).trans g3) ⟨fun m d F' H' ed l1 l2 _ => ?_, fun m F' H' hm l1 l2 _ => ?_⟩⟩
      · unfold rngS at ed
        rw [List.getElem?_map] at ed
        obtain ⟨q, eq, rfl⟩ := Option.map_eq_some_iff.mp ed
        have hq := List.getElem?_eq_some_iff.mp eq
        have hm : m < (size1 i j k).toNat := by simpa using hq.1
        have em : q = m := by
          rw [List.getElem?_range hm] at eq
          exact (Option.some.inj eq).symm
        subst em
        refine ⟨hm, fun y H2' hy => ?_⟩
        obtain ⟨rfl, rfl⟩ := hy
        exact ⟨F', Gr.refl l2, rfl⟩
      · show (size1 i j k).toNat ≤ m
        simpa [rngS] using hm
    · rw [if_neg cc] at k3; exact k3.elim
end L3
set_option Elab.async false
set_option linter.all false
set_option maxRecDepth 100000
set_option maxHeartbeats 4000000
namespace L3
open PySem PySem.Spec PyProof.Rows L2
section
variable {prog : Program} {w : World} {A : Around} {E : Value → Shared → Prop} {s : Shared}
end
section
variable {prog : Program} {w : World} {A : Around} {E : Value → Shared → Prop} {s : Shared}
end
end L3
set_option Elab.async false
set_option linter.all false
set_option maxRecDepth 100000
set_option maxHeartbeats 4000000
namespace L3
open PySem PySem.Spec PyProof.Rows L2
def raiseOf (dn : Den) (fa : List EF) (ρ : Rho) : Option Xc := match evs fa ρ with
  | .ok ws => (match argAll ws with
    | .ok ys => (match dn ys with
      | .exc x => some x
      | _ => none)
    | _ => none)
  | _ => none
def sX (dn : Den) (fa : List EF) (st : SF) : SF := fun ρ => match raiseOf dn fa ρ with
  | some x => .exc (nrm x)
  | none => st ρ
def RX (X : Cx) (F0 H0 : Hp) (e : Expr) (dn : Den) (fa : List EF) : Prop :=
  ∀ (pins : List (Addr × Obj)) (s : Shared) (σ : St) (F H : Hp) (ρ : Rho) (Q : Value → Shared → Prop) (x : Xc), StOk (kx X) F0 H0 F H ρ σ → Inv X pins σ H s → raiseOf dn fa ρ = some x → XPS X F0 H0 (nrm x) →
    wpAny (model X.prog X.w) X.A (eval e X.env) Q X.xe s
theorem raise_is {dn : Den} {fa : List EF} {ρ : Rho} {x : Xc} (h : raiseOf dn fa ρ = some x) : ∃ ws ys, evs fa ρ = .ok ws ∧ argAll ws = .ok ys ∧ dn ys = .exc x := by
  unfold raiseOf at h
  split at h
  · rename_i ws ew
    split at h
    · rename_i ys ey
      split at h
      · rename_i x' ex
        cases h
        exact ⟨ws, ys, ew, ey, ex⟩
      · cases h
    · cases h
  · cases h
section
variable {X : Cx} {F0 H0 : Hp} {pos p pos2 : Pos} {e : Expr} {es : List Expr} {fa : List EF} {x : Str} {k n : Nat} {f : Addr} {fd : FuncData} {ps : List Str} {dn : Den} {st : SF}
theorem rx_call (G : FnOk X.prog X.w X.K X.mg X.base (CX1 X.prog X.w X.mg) k f fd ps (spX (kx X) dn n)) (hr : Room k X.A) (hm : X.mg x = some (.ref f)) (hk : PySem.W.keepIn X.K (.ref f) = true) (hb : Binds X.K fd ps []) (ha : SA X F0 H0 (e :: es) fa)
    (hn : fa.length = n := by rfl) (hg : Gl X x := by rfl) (hdb : (x == ("__debug__" : Str)) = false := by decide) (he : starEach (e :: es) X.env = (false, eval e X.env) :: starEach es X.env := by rfl) (hpl : (backTo pos (starEach es X.env)).any (·.1) = false := by rfl) :
    RX X F0 H0 (.Call (.Name x p) (e :: es) [] pos) dn fa := by
  intro pins s σ F H ρ Q x0 S I hx h
  obtain ⟨ws, ys, ef, ea, ed⟩ := raise_is hx
  refine wpAny_Call_Name_kw (ld_glob I hg hm ?_ hdb)
  refine PySem.W.callWith_K (h₀ := X.base) I.ok.mod.kin hk (ha pos pins s σ F H ρ _ S I ?_) he hpl
  rw [ef]
  intro vs us F1 H1 s1 g1 q1 r1 I1
  refine ⟨I1.kIn, ?_⟩
  obtain ⟨g2, l2⟩ := fzAll_gr S.s g1
  have A := argAll_ok (κ := kx X) g1.s q1 ea (fzAll H F1 H1) l2 (fun a o e0 e2 => by unfold fzAll; rw [e0]; exact e2)
  have hl : vs.length = n := by
    rw [← hn, ← evs_len fa ρ ws ef]
    clear A ea h r1
    revert vs
    have : ∀ (ws : List En) (vs : List V), Voks (kx X) H F1 H1 vs ws → vs.length = ws.length := by
      intro ws
      induction ws with
      | nil => intro vs h; cases (show vs = [] from h); rfl
      | cons w ws ih =>
        intro vs h
        obtain ⟨v, r, rfl, _, h2⟩ := h
        simp [ih r h2]
    intro vs h
    exact this ws vs h
  have r2 : Vals (vs ++ []) (us ++ []) := r1.append .nil
  have hsp : spX (kx X) dn n vs H1 (fun _ _ => False) (fun v a H' => v = .str x0.cls 0 ∧ a = atc x0 ∧ ∃ F', Gr (fzAll H F1 H1) H1 F' H') := ⟨hl, fzAll H F1 H1, ys, g2.s, A, by rw [ed]; exact fun F' H' g' => ⟨rfl, rfl, F', g'⟩⟩
  refine wpAny_mono (wpAny_call (codeAny_mono (G.run X.A X.stack s1 H1 ⟨us, []⟩ us vs (fun _ _ => False) (fun v a H' => v = .str x0.cls 0 ∧ a = atc x0 ∧ ∃ F', Gr (fzAll H F1 H1) H1 F' H') hr I1.env0 ?_ r1 hsp) fun r s' z => ?_)) (fun _ _ z => z) fun _ _ z => z
  · have := hb s1 us I1.kIn (by rw [← r2.length, List.append_nil]; exact G.len vs H1 _ _ hsp)
    rwa [List.append_nil] at this
  · cases r with
    | ok fl => cases fl <;> first | exact z.elim | (obtain ⟨_, _, _, _, _, _, _, z⟩ := z; exact z.elim)
    | error er =>
      obtain ⟨y, H', a, rfl, fl, ec, ea', F', g'⟩ := z
      have ey : nrm x0 = y := (nrm_eq (by injection ec with z; exact z.symm) ea'.symm).trans (nrm_ok fl.ok)
      rw [ey] at h
      exact h pins σ H1 s1 F' H' s' a (some .none) (.inr rfl) (S.gr.trans (g2.trans g')) I1 fl
theorem rx_comp {tg elt iter : Expr} {ifs : List Expr} {scope : Scope} (hi : RX X F0 H0 iter dn fa) (hkind : scope.kind = .function := by rfl) (hcap : capB X.env scope.names = true := by rfl)
    (hnames : ∀ x ∈ scope.names, x.2 = .local → scope.names.lookup x.1 = some .local := by decide +kernel) (hs : ∀ x, foldedSetIterable iter X.env x = pure x := by intro _; rfl) :
    RX X F0 H0 (.ListComp elt [⟨tg, iter, ifs, 0⟩] scope pos) dn fa := by
  intro pins s σ F H ρ Q x0 S I hx h
  rw [eval_ListComp]
  have has : ∀ n, X.env.kindOf n = some .cell → ∃ c, X.env.cells.lookup n = some c := fun n hn => I.ok.has n (.inl hn)
  refine wpAny_comprehension_free rfl hs (closure_ok hcap has) hkind hnames ?_
  exact hi pins s σ F H ρ _ x0 S I hx h
theorem ss_xset {pos' : Pos} {y : Str} (hst : SS X F0 H0 (.Assign [.Name y pos'] e pos) st) (h : RX X F0 H0 e dn fa) (hs : swapsWith e (some (.Name y pos')) pos.line X.env = pure false := by rfl) : SS X F0 H0 (.Assign [.Name y pos'] e pos) (sX dn fa st) := by
  intro pins s σ F H ρ D S I q
  unfold sX at q
  cases er : raiseOf dn fa ρ with
  | none => rw [er] at q; exact hst pins s σ F H ρ D S I q
  | some x0 =>
    rw [er] at q
    exact wpAny_Assign_Name (h pins s σ F H ρ _ x0 S I er q) hs
theorem ss_xret (hst : SS X F0 H0 (.Return (some e) pos) st) (h : RX X F0 H0 e dn fa) : SS X F0 H0 (.Return (some e) pos) (sX dn fa st) := by
  intro pins s σ F H ρ D S I q
  unfold sX at q
  cases er : raiseOf dn fa ρ with
  | none => rw [er] at q; exact hst pins s σ F H ρ D S I q
  | some x0 =>
    rw [er] at q
    exact wpAny_Return_some (h pins s σ F H ρ _ x0 S I er q)
end
end L3
set_option maxHeartbeats 4000000
namespace My
open PySem PySem.Spec PyProof.Rows L2 L3
def top (i : Nat) : Stmt := PySem.Challenge.pw_stavemill_k24_prices_of_lines.main.body.getD i (.Pass ⟨0, 0, 0, 0⟩)
abbrev s_is_whole : Stmt := top 5
def B_is_whole : SF :=
  (sRet (eAnd (eUn (dIs .int) (eVar 0)) (eNot (eUn (dIs .bool) (eVar 0)))))
def D_is_whole : Den := den 1 B_is_whole
abbrev s_line_choices : Stmt := top 8
def B_line_choices : SF :=
  (sSeq (sSet 4 (eLst []))
  (sSeq (sSet 5 (eVar 1))
  (sSeq (sFor (iR2 (eOp dAddA (eVar 2) (eC (.int 1))) (eOp dAddA (eB dLenA [(eVar 0)]) (eC (.int 1)))) (gV 6) (sSeq (sAug 5 dSub (eOp dIxS (eVar 0) (eOp dSub (eVar 6) (eC (.int 1)))))
  (sSeq (sIf (tE (eOp dLt (eVar 5) (eC (.int 0)))) sBreak sNext)
  (sSeq (sSet 7 (eIf (tE (eOp dEq (eVar 6) (eB dLenA [(eVar 0)]))) (eC (.int 0)) (eOp dAddA (eOp dMul (eVar 5) (eVar 5)) (eOp dIxS (eOp dIxS (eVar 3) (eVar 6)) (eC (.int 0))))))
  (sApp 4 (eTup [(eVar 7), (eUn dNeg (eVar 6))]))))))
  (sRetV 4))))
def D_line_choices : Den := den 8 B_line_choices
abbrev s__law_cell : Stmt := top 13
def B__law_cell : SF :=
  (sSeq (sIf (tE (eOp dLt (eVar 1) (eB dLenA [(eVar 0)]))) (sRet (eOp dIxS (eVar 0) (eVar 1))) sNext)
  (sRet (eC (.int 0))))
def D__law_cell : Den := den 2 B__law_cell
abbrev s__law_mix : Stmt := top 14
def B__law_mix : SF :=
  (sRet (eOp dMod (eOp dMod (eOp dMul (eVar 0) (eC (.int 48271))) (eVar 1)) (eVar 2)))
def D__law_mix : Den := den 3 B__law_mix
abbrev s__law_whole : Stmt := top 16
def B__law_whole : SF :=
  (sRet (eAnd (eUn (dIs .int) (eVar 0)) (eNot (eUn (dIs .bool) (eVar 0)))))
def D__law_whole : Den := den 1 B__law_whole
abbrev s__law_wide_at : Stmt := top 19
def B__law_wide_at : SF :=
  (sSeq (sFor (iEnum 0) (gT [2, 3]) (sIf (tE (eOp dGt (eVar 3) (eVar 1))) (sRetV 2) sNext))
  (sRet (eC .non)))
def D__law_wide_at : Den := den 4 B__law_wide_at
abbrev s__law_price : Stmt := top 20
def B__law_price : SF :=
  (sSeq (sSet 4 (eLst []))
  (sSeq (sSet 5 (eVar 1))
  (sSeq (sFor (iR2 (eVar 3) (eB dLenA [(eVar 0)])) (gV 6) (sSeq (sSet 5 (eOp dSub (eVar 5) (eOp dIxS (eVar 0) (eVar 6))))
  (sSeq (sIf (tE (eOp dLt (eVar 5) (eC (.int 0)))) sBreak sNext)
  (sIf (tE (eOp dEq (eOp dAddA (eVar 6) (eC (.int 1))) (eB dLenA [(eVar 0)]))) (sApp 4 (eC (.int 0))) (sApp 4 (eOp dAddA (eOp dMul (eVar 5) (eVar 5)) (eOp dIxS (eVar 2) (eOp dAddA (eVar 6) (eC (.int 1))))))))))
  (sRet (eB dMinL [(eVar 4)])))))
def D__law_price : Den := den 7 B__law_price
abbrev s__law_large : Stmt := top 15
def B__law_large : SF :=
  (sRet (eOp dEq (eCall D__law_mix [(eOp dAddA (eCall D__law_cell [(eVar 0), (eC (.int 0))]) (eOp dMul (eC (.int 7)) (eB dLenA [(eVar 0)]))), (eC (.int 9871)), (eC (.int 8))]) (eC (.int 3))))
def D__law_large : Den := den 1 B__law_large
abbrev s__law_room : Stmt := top 18
def B__law_room : SF :=
  (sSeq (sIf (tE (eOp dEq (eOp dMod (eCall D__law_cell [(eVar 0), (eC (.int 0))]) (eC (.int 5))) (eC (.int 4)))) (sRet (eOp dAddA (eC (.int 1)) (eCall D__law_mix [(eCall D__law_cell [(eVar 0), (eC (.int 1))]), (eC (.int 10007)), (eC (.int 5000))]))) sNext)
  (sSeq (sIf (tE (eOp dEq (eOp dMod (eCall D__law_cell [(eVar 0), (eC (.int 0))]) (eC (.int 2))) (eC (.int 1)))) (sRet (eOp dAddA (eC (.int 40)) (eOp dMul (eC (.int 10)) (eCall D__law_mix [(eCall D__law_cell [(eVar 0), (eC (.int 1))]), (eC (.int 10007)), (eC (.int 9))])))) sNext)
  (sRet (eOp dAddA (eC (.int 40)) (eCall D__law_mix [(eCall D__law_cell [(eVar 0), (eC (.int 1))]), (eC (.int 10007)), (eC (.int 121))])))))
def D__law_room : Den := den 1 B__law_room
abbrev s_refuse_too_wide : Stmt := top 7
def B_refuse_too_wide : SF :=
  (sFor (iEnum 0) (gT [2, 3]) (sIf (tE (eOp dGt (eVar 3) (eVar 1))) (sRaiseA "TooWide" (eVar 2)) sNext))
def D_refuse_too_wide : Den := den 4 B_refuse_too_wide
abbrev s__law_widths : Stmt := top 17
def B__law_widths : SF :=
  (sSeq (sSet 1 (eC (.int 10)))
  (sSeq (sIf (tE (eCall D__law_large [(eVar 0)])) (sSet 1 (eC (.int 30))) sNext)
  (sSeq (sIf (tE (eOp dGt (eB dLenA [(eVar 0)]) (eC (.int 63)))) (sSet 1 (eC (.int 60))) sNext)
  (sSeq (sIf (tE (eOp dEq (eOp dMod (eCall D__law_cell [(eVar 0), (eC (.int 0))]) (eC (.int 2))) (eC (.int 1)))) (sRet (eComp 1 (iSeq (eSl (eVar 0) (oE (eC (.int 3))) (oE (eOp dAddA (eC (.int 3)) (eVar 1))))) (gV 2) tTrue (eOp dAddA (eC (.int 10)) (eOp dMul (eC (.int 10)) (eCall D__law_mix [(eVar 2), (eC (.int 9973)), (eC (.int 3))]))))) sNext)
  (sRet (eComp 1 (iSeq (eSl (eVar 0) (oE (eC (.int 3))) (oE (eOp dAddA (eC (.int 3)) (eVar 1))))) (gV 2) tTrue (eOp dAddA (eC (.int 1)) (eCall D__law_mix [(eVar 2), (eC (.int 9973)), (eC (.int 60))]))))))))
def D__law_widths : Den := den 2 B__law_widths
abbrev s_best_lines : Stmt := top 9
def B_best_lines : SF :=
  (sSeq (sIf (tNot (tE (eCall D_is_whole [(eVar 1)]))) (sRaise0 "BadRoom" (eC (.str "not a whole number"))) sNext)
  (sSeq (sCallX D_refuse_too_wide [(eVar 0), (eVar 1)])
  (sSeq (sSet 2 (eOp dMulA (eLst [(eTup [(eC (.int 0)), (eC (.int 0))])]) (eB dLenA [(eVar 0)])))
  (sSeq (sFor (iR3d (eOp dSub (eB dLenA [(eVar 0)]) (eC (.int 1))) (eUn dNeg (eC (.int 1))) (eUn dNeg (eC (.int 1)))) (gV 3) (sSetI 2 (eVar 3) (eB dMinT [(eCall D_line_choices [(eVar 0), (eVar 1), (eVar 3), (eVar 2)])])))
  (sRetV 2)))))
def D_best_lines : Den := den 4 B_best_lines
abbrev s_line_prices : Stmt := top 10
def B_line_prices : SF :=
  (sX D_best_lines [(eVar 0), (eVar 1)] (sRet (eComp 1 (iSeq (eCall D_best_lines [(eVar 0), (eVar 1)])) (gV 2) tTrue (eOp dIxS (eVar 2) (eC (.int 0))))))
def D_line_prices : Den := den 2 B_line_prices
abbrev s_firsts : Stmt := top 11
def B_firsts : SF :=
  (sSeq (sX D_best_lines [(eVar 0), (eVar 1)] (sSet 2 (eCall D_best_lines [(eVar 0), (eVar 1)])))
  (sSeq (sSet 3 (eLst []))
  (sSeq (sSet 4 (eC (.int 0)))
  (sSeq (sWhile 65 (tE (eOp dLt (eVar 4) (eB dLenA [(eVar 0)]))) (sSeq (sApp 3 (eVar 4))
  (sSet 4 (eUn dNeg (eOp dIxS (eOp dIxS (eVar 2) (eVar 4)) (eC (.int 1)))))))
  (sRetV 3)))))
def D_firsts : Den := den 5 B_firsts
abbrev s__law_refused : Stmt := top 21
def B__law_refused : SF :=
  (sSeq (sTry (sIf (tE (eVar 2)) (sCallX D_line_prices [(eVar 0), (eVar 1)]) (sCallX D_firsts [(eVar 0), (eVar 1)])) ["TooWide"] hAt)
  (sRet (eTup [(eC (.bl false)), (eC .non)])))
def D__law_refused : Den := den 4 B__law_refused
abbrev s__law_by_base : Stmt := top 22
def B__law_by_base : SF :=
  (sSeq (sTry (sCallX D_line_prices [(eVar 0), (eVar 1)]) ["TooWide"] (fun _ => okB true))
  (sRet (eC (.bl false))))
def D__law_by_base : Den := den 3 B__law_by_base
abbrev s_law : Stmt := top 23
def B_law : SF :=
  (sSeq (sSet 1 (eCall D__law_widths [(eVar 0)]))
  (sSeq (sSet 2 (eCall D__law_room [(eVar 0)]))
  (sSeq (sSet 3 (eCall D__law_wide_at [(eVar 1), (eVar 2)]))
  (sSeq (sIf (tE (eOp dIsNot2 (eVar 3) (eC .non))) (sSeq (sFor (iSeq (eLst [(eC (.bl true)), (eC (.bl false))])) (gV 4) (sSeq (sAsg (gT [5, 6]) (eCall D__law_refused [(eB dList [(eVar 1)]), (eVar 2), (eVar 4)]))
  (sIf (tOr (tNot (tE (eVar 5))) (tOr (tNot (tE (eCall D__law_whole [(eVar 6)]))) (tE (eOp dNe (eVar 6) (eVar 3))))) (sRet (eC (.bl false))) sNext)))
  (sRet (eCall D__law_by_base [(eB dList [(eVar 1)]), (eVar 2)]))) sNext)
  (sSeq (sSet 7 (eB dList [(eVar 1)]))
  (sSeq (sSet 8 (eCall D_line_prices [(eVar 7), (eVar 2)]))
  (sSeq (sIf (tOr (tNot (tE (eUn (dIs .list) (eVar 8)))) (tOr (tE (eOp dNe (eB dLenA [(eVar 8)]) (eB dLenA [(eVar 1)]))) (tE (eOp dNe (eVar 7) (eVar 1))))) (sRet (eC (.bl false))) sNext)
  (sSeq (sFor (iR1 (eB dLenA [(eVar 1)])) (gV 9) (sIf (tOr (tNot (tE (eCall D__law_whole [(eOp dIxS (eVar 8) (eVar 9))]))) (tE (eOp dNe (eOp dIxS (eVar 8) (eVar 9)) (eCall D__law_price [(eVar 1), (eVar 2), (eVar 8), (eVar 9)])))) (sRet (eC (.bl false))) sNext))
  (sRet (eC (.bl true)))))))))))
def D_law : Den := den 10 B_law
abbrev s_TooWide : Stmt := (clsBody (top 3)).getD 0 (.Pass ⟨0, 0, 0, 0⟩)
def cell (ns : List Int) (k : Nat) : Int := ns.getD k 0
theorem cell_eq (ns : List Int) (k : Nat) : D__law_cell [.fz (.lst (ns.map D.int)), .fz (.int (k : Int))] = .ok (.fz (.int (cell ns k))) := by
  unfold D__law_cell B__law_cell
  simp only [EV, Nat.reduceAdd, Nat.reduceSub, Nat.reduceLeDiff, ati_nat, List.length_map, cell, List.getD_eq_getElem?_getD]
  by_cases h : (k : Int) < (ns.length : Int)
  · have h2 : k < ns.length := by omega
    simp [h, h2, EV, Nat.reduceAdd, Nat.reduceSub, Nat.reduceLeDiff, ati_nat]
  · have h2 : ¬ k < ns.length := by omega
    simp [h, h2, EV, Nat.reduceAdd, Nat.reduceSub, Nat.reduceLeDiff, ati_nat]
def mixN (c p m : Int) : Int := c * 48271 % p % m
theorem mix_eq (c p m : Int) (hp : 0 < p) (hm : 0 < m) : D__law_mix [.fz (.int c), .fz (.int p), .fz (.int m)] = .ok (.fz (.int (mixN c p m))) := by
  unfold D__law_mix B__law_mix
  simp only [EV, Nat.reduceAdd, Nat.reduceSub, Nat.reduceLeDiff, x_mulr (i := c) (j := 48271) (by decide) (by decide), x_mod hp, x_mod hm, mixN]
theorem mix_lt (c p m : Int) (hm : 0 < m) : 0 ≤ mixN c p m ∧ mixN c p m < m := ⟨Int.emod_nonneg _ (by omega), Int.emod_lt_of_pos _ hm⟩
theorem x_forD_nil {g : GF} {b : SF} {ρ : Rho} : forD g b [] ρ = .nx ρ := rfl
def turn (g : GF) (b : SF) (xs : List D) (o : Out) : Out := match o with
  | .nx ρ2 => forD g b xs ρ2
  | .ct ρ2 => forD g b xs ρ2
  | .bk ρ2 => .nx ρ2
  | o => o
theorem x_forD {g : GF} {b : SF} {x : D} {xs : List D} {ρ ρ1 : Rho} (h : g x ρ = .ok ρ1) : forD g b (x :: xs) ρ = turn g b xs (b ρ1) := by
  show (match g x ρ with | .ok ρ1 => _ | .exc x => _ | .stuck => _) = _
  rw [h]
  unfold turn
  first | (dsimp only; cases b ρ1 <;> rfl) | dsimp only | rfl
theorem x_turn_nx {g : GF} {b : SF} {xs : List D} {ρ : Rho} : turn g b xs (.nx ρ) = forD g b xs ρ := rfl
theorem x_turn_rt {g : GF} {b : SF} {xs : List D} {w : En} : turn g b xs (.rt w) = .rt w := rfl
theorem x_turn_exc {g : GF} {b : SF} {xs : List D} {x : Xc} : turn g b xs (.exc x) = .exc x := rfl
theorem cut_map {lo hi : Option Int} (xs : List Int) : L3.cutD (xs.map D.int) lo hi = (L3.cutD xs lo hi).map D.int := by
  unfold L3.cutD
  rw [List.length_map, List.map_take, List.map_drop]
theorem cut_sub {α : Type} {lo hi : Option Int} (xs : List α) : (L3.cutD xs lo hi).length ≤ xs.length := by
  unfold L3.cutD
  rw [List.length_take, List.length_drop]
  omega
theorem x_iRr {a b : EF} {ρ : Rho} {i j : Int} (ha : a ρ = .ok (.fz (.int i))) (hb : b ρ = .ok (.fz (.int j))) (h1 : -1000000 < i) (h2 : i < 1000000) (h3 : -1000000 < j) (h4 : j < 1000000) : iR2 a b ρ = .ok (rngD i (j - i).toNat) := by
  unfold iR2
  rw [ha, R.bind_ok, hb, R.bind_ok]
  dsimp only [En.d]
  rw [if_pos]
  rw [Bool.and_eq_true]
  exact ⟨fits_iff.mpr (by rw [b62e]; omega), fits_iff.mpr (by rw [b62e]; omega)⟩
def downD : Nat → List D
  | 0 => []
  | n + 1 => .int (n : Int) :: downD n
theorem down_eq : ∀ n : Nat, rngS ((n : Int) - 1) (-1) n = downD n
  | 0 => rfl
  | n + 1 => by
    have ih := down_eq n
    unfold rngS at ih ⊢
    rw [List.range_succ_eq_map, List.map_cons, List.map_map]
    show D.int _ :: _ = D.int (n : Int) :: downD n
    rw [← ih]
    congr 1
    · congr 1; omega
    · apply List.map_congr_left
      intro k _
      show D.int _ = D.int _
      congr 1
      push_cast
      omega
theorem x_down {a b c : EF} {ρ : Rho} {n : Nat} (ha : a ρ = .ok (.fz (.int ((n : Int) - 1)))) (hb : b ρ = .ok (.fz (.int (-1)))) (hc : c ρ = .ok (.fz (.int (-1)))) (hn : n < 100000) : iR3d a b c ρ = .ok (downD n) := by
  unfold iR3d
  rw [ha, R.bind_ok, hb, R.bind_ok, hc, R.bind_ok]
  dsimp only [En.d]
  unfold rng3d
  dsimp only
  rw [if_pos ⟨by omega, by omega, by decide, by decide, rfl⟩]
  have : (size1 ((n : Int) - 1) (-1) (-1)).toNat = n := by unfold size1; split <;> omega
  rw [this, down_eq]
def Rd (W : En) (d : D) : Prop := W = .fz d ∨ W = .br d
theorem ints_m : ∀ xs : List Int, intsOf (xs.map D.int) = some xs
  | [] => rfl
  | x :: r => by
    show (match intsOf (r.map D.int) with | some ns => some (x :: ns) | none => none) = _
    rw [ints_m r]
abbrev E2 := Int × Nat
def nxC (x : Int) : List E2 → Int
  | [] => 0
  | e :: _ => x * x + e.1
def cho : Int → List Int → List E2 → List E2
  | _, [], _ => []
  | l, w :: s, t => if l - w < 0 then [] else (nxC (l - w) t, s.length) :: cho (l - w) s t.tail
def ltE (a b : E2) : Bool := decide (a.1 < b.1) || (decide (a.1 = b.1) && decide (a.2 < b.2))
def bstE : E2 → List E2 → E2
  | m, [] => m
  | m, e :: r => bstE (if ltE e m = true then e else m) r
def hdE (r : Int) (s : List Int) (t : List E2) : E2 := match cho r s t with
  | [] => (0, 0)
  | e :: es => bstE e es
def tab (r : Int) : List Int → List E2
  | [] => []
  | w :: s => hdE r (w :: s) (tab r s) :: tab r s
theorem tab_len (r : Int) : ∀ s, (tab r s).length = s.length
  | [] => rfl
  | w :: s => by simp [tab, tab_len r s]
theorem tab_drop (r : Int) : ∀ (k : Nat) (s : List Int), (tab r s).drop k = tab r (s.drop k)
  | 0, s => rfl
  | k + 1, [] => by simp [tab]
  | k + 1, w :: s => by simpa [tab] using tab_drop r k s
def pr (r : Int) (s : List Int) : Int := match tab r s with
  | [] => 0
  | e :: _ => e.1
def rs (r : Int) (s : List Int) : Nat := match tab r s with
  | [] => 0
  | e :: _ => e.2
def leE (a b : E2) : Prop := a.1 < b.1 ∨ (a.1 = b.1 ∧ a.2 ≤ b.2)
theorem ltE_false {a b : E2} (h : ltE a b = false) : leE b a := by
  unfold ltE at h
  unfold leE
  simp at h
  omega
theorem ltE_true {a b : E2} (h : ltE a b = true) : leE a b := by
  unfold ltE at h
  unfold leE
  simp at h
  omega
theorem tab_cons (r : Int) (w : Int) (s : List Int) : tab r (w :: s) = hdE r (w :: s) (tab r s) :: tab r s := rfl
theorem cho_ne {r w : Int} {s : List Int} {t : List E2} (h : w ≤ r) : ∃ e es, cho r (w :: s) t = e :: es := by
  unfold cho
  rw [if_neg (by omega)]
  exact ⟨_, _, rfl⟩
def told (r : Int) : Nat → List Int → List Nat
  | 0, _ => []
  | k + 1, s => if rs r s = 0 then [] else rs r s :: told r k (s.drop (s.length - rs r s))
def wdD (a b : Int) (m : Int) : D → D
  | .int c => .int (a + b * mixN c 9973 m)
  | d => d
theorem large_eq (ns : List Int) (hl : ns.length ≤ 63) : ∃ b : Bool, D__law_large [.fz (.lst (ns.map D.int))] = .ok (.fz (.bl b)) := by
  have c0 : D__law_cell [.fz (.lst (ns.map D.int)), .fz (.int 0)] = .ok (.fz (.int (cell ns 0))) := cell_eq ns 0
  refine ⟨mixN (cell ns 0 + 7 * (ns.length : Int)) 9871 8 == 3, ?_⟩
  unfold D__law_large B__law_large
  simp only [EV, Nat.reduceAdd, Nat.reduceSub, Nat.reduceLeDiff, c0, List.length_map, x_mull (i := 7) (j := (ns.length : Int)) (by decide) (by decide), mix_eq (cell ns 0 + 7 * (ns.length : Int)) 9871 8 (by decide) (by decide)]
theorem widths_go (ns : List Int) (hl : ns.length ≤ 63) (m : Int) : ∃ ws : List Int, (∀ w ∈ ws, 1 ≤ w ∧ w ≤ 60) ∧ ws.length ≤ 63 ∧
    fin ((sSeq (sIf (tE (eOp dGt (eB dLenA [(eVar 0)]) (eC (.int 63)))) (sSet 1 (eC (.int 60))) sNext)
  (sSeq (sIf (tE (eOp dEq (eOp dMod (eCall D__law_cell [(eVar 0), (eC (.int 0))]) (eC (.int 2))) (eC (.int 1)))) (sRet (eComp 1 (iSeq (eSl (eVar 0) (oE (eC (.int 3))) (oE (eOp dAddA (eC (.int 3)) (eVar 1))))) (gV 2) tTrue (eOp dAddA (eC (.int 10)) (eOp dMul (eC (.int 10)) (eCall D__law_mix [(eVar 2), (eC (.int 9973)), (eC (.int 3))]))))) sNext)
  (sRet (eComp 1 (iSeq (eSl (eVar 0) (oE (eC (.int 3))) (oE (eOp dAddA (eC (.int 3)) (eVar 1))))) (gV 2) tTrue (eOp dAddA (eC (.int 1)) (eCall D__law_mix [(eVar 2), (eC (.int 9973)), (eC (.int 60))])))))) [some (.fz (.lst (ns.map D.int))), some (.fz (.int m))]) = .ok (.ow (.lst (ws.map D.int))) := by
  have hz : sz = 16777216 := rfl
  have c0 : D__law_cell [.fz (.lst (ns.map D.int)), .fz (.int 0)] = .ok (.fz (.int (cell ns 0))) := cell_eq ns 0
  have d2 := x_mod (i := cell ns 0) (j := 2) (by decide)
  have big : ¬ (63 : Int) < ((ns.map D.int).length : Nat) := by rw [List.length_map]; omega
  have cm := cut_map (lo := some 3) (hi := some (3 + m)) ns
  have cl := cut_sub (lo := some 3) (hi := some (3 + m)) ns
  generalize L3.cutD ns (some 3) (some (3 + m)) = cs at cm cl
  have it : iSeq (eSl (eVar 0) (oE (eC (.int 3))) (oE (eOp dAddA (eC (.int 3)) (eVar 1)))) [some (.fz (.lst (ns.map D.int))), some (.fz (.int m))] = .ok (cs.map D.int) := by
    rw [x_iSeq (w := .ow (.lst (L3.cutD (ns.map D.int) (some 3) (some (3 + m))))) (by simp only [EV, Nat.reduceAdd, Nat.reduceSub, Nat.reduceLeDiff]) rfl, cm]
  cases z : (cell ns 0 % 2 == 1)
  · refine ⟨cs.map fun c => 1 + 1 * mixN c 9973 60, fun w hw => ?_, by rw [List.length_map]; omega, ?_⟩
    · obtain ⟨c, _, rfl⟩ := List.mem_map.mp hw
      have := mix_lt c 9973 60 (by decide)
      omega
    · have e : eComp 1 (iSeq (eSl (eVar 0) (oE (eC (.int 3))) (oE (eOp dAddA (eC (.int 3)) (eVar 1))))) (gV 2) tTrue (eOp dAddA (eC (.int 1)) (eCall D__law_mix [(eVar 2), (eC (.int 9973)), (eC (.int 60))])) [some (.fz (.lst (ns.map D.int))), some (.fz (.int m))] = .ok (.ow (.lst ((cs.map D.int).map (wdD 1 1 60)))) := by
        refine comp_eq it (by rw [List.length_map]; omega) (comp_all 2 (wdD 1 1 60) _ _ fun d hd => ?_)
        obtain ⟨c, hc, rfl⟩ := List.mem_map.mp hd
        refine ⟨.fz (.int (1 + mixN c 9973 60)), by simp only [cRho, ro, EV, Nat.reduceAdd, Nat.reduceSub, Nat.reduceLeDiff, mix_eq c 9973 60 (by decide) (by decide)], by simp only [wdD, Int.one_mul]⟩
      have e2 : (cs.map D.int).map (wdD 1 1 60) = (cs.map fun c => 1 + 1 * mixN c 9973 60).map D.int := by rw [List.map_map, List.map_map]; rfl
      rw [e2] at e
      simp only [EV, Nat.reduceAdd, Nat.reduceSub, Nat.reduceLeDiff, c0, d2, z, big, decide_false, e]
  · refine ⟨cs.map fun c => 10 + 10 * mixN c 9973 3, fun w hw => ?_, by rw [List.length_map]; omega, ?_⟩
    · obtain ⟨c, _, rfl⟩ := List.mem_map.mp hw
      have := mix_lt c 9973 3 (by decide)
      omega
    · have e : eComp 1 (iSeq (eSl (eVar 0) (oE (eC (.int 3))) (oE (eOp dAddA (eC (.int 3)) (eVar 1))))) (gV 2) tTrue (eOp dAddA (eC (.int 10)) (eOp dMul (eC (.int 10)) (eCall D__law_mix [(eVar 2), (eC (.int 9973)), (eC (.int 3))]))) [some (.fz (.lst (ns.map D.int))), some (.fz (.int m))] = .ok (.ow (.lst ((cs.map D.int).map (wdD 10 10 3)))) := by
        refine comp_eq it (by rw [List.length_map]; omega) (comp_all 2 (wdD 10 10 3) _ _ fun d hd => ?_)
        obtain ⟨c, hc, rfl⟩ := List.mem_map.mp hd
        refine ⟨.fz (.int (10 + 10 * mixN c 9973 3)), by simp only [cRho, ro, EV, Nat.reduceAdd, Nat.reduceSub, Nat.reduceLeDiff, mix_eq c 9973 3 (by decide) (by decide), x_mull (i := 10) (j := mixN c 9973 3) (by decide) (by decide)], rfl⟩
      have e2 : (cs.map D.int).map (wdD 10 10 3) = (cs.map fun c => 10 + 10 * mixN c 9973 3).map D.int := by rw [List.map_map, List.map_map]; rfl
      rw [e2] at e
      simp only [EV, Nat.reduceAdd, Nat.reduceSub, Nat.reduceLeDiff, c0, d2, z, big, decide_false, e]
theorem widths_eq (ns : List Int) (hl : ns.length ≤ 63) : ∃ ws : List Int, (∀ w ∈ ws, 1 ≤ w ∧ w ≤ 60) ∧ ws.length ≤ 63 ∧ D__law_widths [.fz (.lst (ns.map D.int))] = .ok (.ow (.lst (ws.map D.int))) := by
  obtain ⟨b, hb⟩ := large_eq ns hl
  cases b
  · obtain ⟨ws, h1, h2, h3⟩ := widths_go ns hl 10
    refine ⟨ws, h1, h2, ?_⟩
    unfold D__law_widths B__law_widths
    rw [x_den]
    simp only [EV, Nat.reduceAdd, Nat.reduceSub, Nat.reduceLeDiff, hb]
    simp only [EV, Nat.reduceAdd, Nat.reduceSub, Nat.reduceLeDiff] at h3
    exact h3
  · obtain ⟨ws, h1, h2, h3⟩ := widths_go ns hl 30
    refine ⟨ws, h1, h2, ?_⟩
    unfold D__law_widths B__law_widths
    rw [x_den]
    simp only [EV, Nat.reduceAdd, Nat.reduceSub, Nat.reduceLeDiff, hb]
    simp only [EV, Nat.reduceAdd, Nat.reduceSub, Nat.reduceLeDiff] at h3
    exact h3
theorem room_eq (ns : List Int) : ∃ r : Int, 1 ≤ r ∧ r ≤ 5000 ∧ D__law_room [.fz (.lst (ns.map D.int))] = .ok (.fz (.int r)) := by
  have c0 : D__law_cell [.fz (.lst (ns.map D.int)), .fz (.int 0)] = .ok (.fz (.int (cell ns 0))) := cell_eq ns 0
  have c1 : D__law_cell [.fz (.lst (ns.map D.int)), .fz (.int 1)] = .ok (.fz (.int (cell ns 1))) := cell_eq ns 1
  have d2 := x_mod (i := cell ns 0) (j := 2) (by decide)
  have d5 := x_mod (i := cell ns 0) (j := 5) (by decide)
  have m1 := mix_lt (cell ns 1) 10007 5000 (by decide)
  have m2 := mix_lt (cell ns 1) 10007 9 (by decide)
  have m3 := mix_lt (cell ns 1) 10007 121 (by decide)
  have e1 := mix_eq (cell ns 1) 10007 5000 (by decide) (by decide)
  have e2 := mix_eq (cell ns 1) 10007 9 (by decide) (by decide)
  have e3 := mix_eq (cell ns 1) 10007 121 (by decide) (by decide)
  have x10 := x_mull (i := 10) (j := mixN (cell ns 1) 10007 9) (by decide) (by decide)
  unfold D__law_room B__law_room
  simp only [EV, Nat.reduceAdd, Nat.reduceSub, Nat.reduceLeDiff, c0, c1, d5, e1]
  cases z : (cell ns 0 % 5 == 4)
  · simp only [EV, Nat.reduceAdd, Nat.reduceSub, Nat.reduceLeDiff, c0, c1, d2, e2]
    cases y : (cell ns 0 % 2 == 1)
    · exact ⟨40 + mixN (cell ns 1) 10007 121, by omega, by omega, by simp only [EV, Nat.reduceAdd, Nat.reduceSub, Nat.reduceLeDiff, c1, e3]⟩
    · exact ⟨40 + 10 * mixN (cell ns 1) 10007 9, by omega, by omega, by simp only [EV, Nat.reduceAdd, Nat.reduceSub, Nat.reduceLeDiff, c1, e2, x10]⟩
  · exact ⟨1 + mixN (cell ns 1) 10007 5000, by omega, by omega, by simp only [EV, Nat.reduceAdd, Nat.reduceSub, Nat.reduceLeDiff, c1, e1]⟩
def rowE (n : Nat) (e : E2) : D := .tup [.int e.1, .int ((e.2 : Int) - (n : Int))]
theorem cho_loop (ws : List Int) (r f : Int) (W B : En) (bs : List D) (hW : Rd W (.lst (ws.map D.int))) (hB : Rd B (.lst bs)) (hr : r ≤ 5000) (hn : ws.length ≤ 63) : ∀ (s : List Int) (k : Nat) (l : Int) (t : List E2) (acc : List D) (j6 j7 : Option En),
    ws.drop k = s → t.length = s.length - 1 → (∀ i e, t[i]? = some e → ∃ x, bs[k + 1 + i]? = some (.tup [.int e.1, x])) → l ≤ 5000 → (∀ w ∈ s, 1 ≤ w) → acc.length + s.length ≤ 63 → ∃ i5 i6 i7,
    forD (gV 6) (sSeq (sAug 5 dSub (eOp dIxS (eVar 0) (eOp dSub (eVar 6) (eC (.int 1)))))
  (sSeq (sIf (tE (eOp dLt (eVar 5) (eC (.int 0)))) sBreak sNext)
  (sSeq (sSet 7 (eIf (tE (eOp dEq (eVar 6) (eB dLenA [(eVar 0)]))) (eC (.int 0)) (eOp dAddA (eOp dMul (eVar 5) (eVar 5)) (eOp dIxS (eOp dIxS (eVar 3) (eVar 6)) (eC (.int 0))))))
  (sApp 4 (eTup [(eVar 7), (eUn dNeg (eVar 6))]))))) (rngD ((k : Int) + 1) s.length) [some W, some (.fz (.int r)), some (.fz (.int f)), some B, some (.ow (.lst acc)), some (.fz (.int l)), j6, j7]
    = .nx [some W, some (.fz (.int r)), some (.fz (.int f)), some B, some (.ow (.lst (acc ++ (cho l s t).map (rowE ws.length)))), i5, i6, i7] := by
  have hz : sz = 16777216 := rfl
  intro s
  induction s with
  | nil =>
    intro k l t acc j6 j7 _ _ _ _ _ _
    exact ⟨some (.fz (.int l)), j6, j7, by simp only [List.length_nil, rngD, x_forD_nil, cho, List.map_nil, List.append_nil]⟩
  | cons w s ih =>
    intro k l t acc j6 j7 hs ht hb hl hp ha
    have hk : ws[k]? = some w := by
      have := congrArg (fun xs => xs[0]?) hs
      simpa [List.getElem?_drop] using this
    have hs' : ws.drop (k + 1) = s := by
      have := congrArg List.tail hs
      simpa [List.tail_drop] using this
    have hlen : s.length + (k + 1) = ws.length := by
      have := congrArg List.length hs
      simp at this
      omega
    have hw := hp w (by simp)
    have e1 : ((k : Int) + 1) - 1 = (k : Int) := by omega
    have g0 : (ws.map D.int)[k]? = some (.int w) := by rw [List.getElem?_map, hk]; rfl
    rw [List.length_cons, rngD, x_forD (x_gV)]
    simp only [List.set_cons_zero, List.set_cons_succ]
    have s1 : (sAug 5 dSub (eOp dIxS (eVar 0) (eOp dSub (eVar 6) (eC (.int 1))))) [some W, some (.fz (.int r)), some (.fz (.int f)), some B, some (.ow (.lst acc)), some (.fz (.int l)), some (.fz (.int ((k : Int) + 1))), j7] = .nx [some W, some (.fz (.int r)), some (.fz (.int f)), some B, some (.ow (.lst acc)), some (.fz (.int (l - w))), some (.fz (.int ((k : Int) + 1))), j7] := by
      rcases hW with rfl | rfl <;> simp only [EV, Nat.reduceAdd, Nat.reduceSub, Nat.reduceLeDiff, e1, ati_nat, g0]
    rw [x_seq, s1, x_th_nx, x_seq]
    unfold cho
    have s2 : (sIf (tE (eOp dLt (eVar 5) (eC (.int 0)))) sBreak sNext) [some W, some (.fz (.int r)), some (.fz (.int f)), some B, some (.ow (.lst acc)), some (.fz (.int (l - w))), some (.fz (.int ((k : Int) + 1))), j7] = if l - w < 0 then .bk [some W, some (.fz (.int r)), some (.fz (.int f)), some B, some (.ow (.lst acc)), some (.fz (.int (l - w))), some (.fz (.int ((k : Int) + 1))), j7] else .nx [some W, some (.fz (.int r)), some (.fz (.int f)), some B, some (.ow (.lst acc)), some (.fz (.int (l - w))), some (.fz (.int ((k : Int) + 1))), j7] := by
      by_cases c : l - w < 0 <;> simp only [EV, Nat.reduceAdd, Nat.reduceSub, Nat.reduceLeDiff, c, decide_true, decide_false, if_true, if_false]
    rw [s2]
    by_cases c : l - w < 0
    · rw [if_pos c, if_pos c]
      exact ⟨some (.fz (.int (l - w))), some (.fz (.int ((k : Int) + 1))), j7, by simp only [x_th_bk, List.map_nil, List.append_nil]; rfl⟩
    · rw [if_neg c, if_neg c, x_th_nx]
      have sqq := x_mull (i := l - w) (j := l - w) (by omega) (by omega)
      have ec : ((k : Int) + 1 == ((ws.map D.int).length : Int)) = decide (s = []) := by
        rw [List.length_map]
        by_cases z : s = []
        · subst z; simp at hlen; simp; omega
        · have : 0 < s.length := List.length_pos_iff.mpr z
          simp [z]; omega
      have cost : ∃ i7, (sSet 7 (eIf (tE (eOp dEq (eVar 6) (eB dLenA [(eVar 0)]))) (eC (.int 0)) (eOp dAddA (eOp dMul (eVar 5) (eVar 5)) (eOp dIxS (eOp dIxS (eVar 3) (eVar 6)) (eC (.int 0)))))) [some W, some (.fz (.int r)), some (.fz (.int f)), some B, some (.ow (.lst acc)), some (.fz (.int (l - w))), some (.fz (.int ((k : Int) + 1))), j7] = .nx [some W, some (.fz (.int r)), some (.fz (.int f)), some B, some (.ow (.lst acc)), some (.fz (.int (l - w))), some (.fz (.int ((k : Int) + 1))), some (.fz (.int i7))] ∧ i7 = nxC (l - w) t := by
        cases t with
        | nil =>
          have z : s = [] := List.length_eq_zero_iff.mp (by simp at ht; omega)
          subst z
          exact ⟨0, by rcases hW with rfl | rfl <;> simp only [EV, Nat.reduceAdd, Nat.reduceSub, Nat.reduceLeDiff, ec, decide_true], rfl⟩
        | cons e t =>
          have z : s ≠ [] := fun z => by subst z; simp at ht
          obtain ⟨x, hx⟩ := hb 0 e rfl
          have g1 : ati bs ((k : Int) + 1) = some (.tup [.int e.1, x]) := by
            have : ((k : Int) + 1) = ((k + 1 : Nat) : Int) := by omega
            rw [this, ati_nat]
            exact hx
          refine ⟨(l - w) * (l - w) + e.1, ?_, rfl⟩
          rcases hW with rfl | rfl <;> rcases hB with rfl | rfl <;> simp only [EV, Nat.reduceAdd, Nat.reduceSub, Nat.reduceLeDiff, ec, z, decide_false, sqq, g1]
      obtain ⟨i7, q1, q2⟩ := cost
      rw [x_seq, q1, x_th_nx]
      rw [x_app (xs := acc) (d := rowE ws.length (i7, s.length)) rfl (by simp at ha; omega) (by
        have en : -((k : Int) + 1) = ((s.length : Nat) : Int) - (ws.length : Int) := by omega
        simp only [EV, Nat.reduceAdd, Nat.reduceSub, Nat.reduceLeDiff, rowE, en])]
      simp only [List.set_cons_zero, List.set_cons_succ, x_turn_nx]
      have e2 : (k : Int) + 1 + 1 = ((k + 1 : Nat) : Int) + 1 := by omega
      rw [e2]
      obtain ⟨i5, i6, i7', q⟩ := ih (k + 1) (l - w) t.tail (acc ++ [rowE ws.length (i7, s.length)]) (some (.fz (.int ((k : Int) + 1)))) (some (.fz (.int i7))) hs' (by simp at ht ⊢; omega) (fun i e he => by
        rw [List.getElem?_tail] at he
        obtain ⟨x, hx⟩ := hb (i + 1) e he
        exact ⟨x, by rw [show k + 1 + 1 + i = k + 1 + (i + 1) by omega]; exact hx⟩) (by omega) (fun v hv => hp v (List.mem_cons_of_mem _ hv)) (by simp at ha ⊢; omega)
      refine ⟨i5, i6, i7', ?_⟩
      rw [q, List.append_assoc, List.map_cons, q2]
      rfl
theorem choices_eq (ws : List Int) (r : Int) (k : Nat) (W B : En) (bs : List D) (t : List E2) (hW : Rd W (.lst (ws.map D.int))) (hB : Rd B (.lst bs)) (hr : r ≤ 5000) (hn : ws.length ≤ 63) (hk : k < ws.length) (hp : ∀ w ∈ ws, 1 ≤ w)
    (ht : t.length = ws.length - (k + 1)) (hb : ∀ i e, t[i]? = some e → ∃ x, bs[k + 1 + i]? = some (.tup [.int e.1, x])) :
    D_line_choices [W, .fz (.int r), .fz (.int (k : Int)), B] = .ok (.ow (.lst ((cho r (ws.drop k) t).map (rowE ws.length)))) := by
  obtain ⟨i5, i6, i7, q⟩ := cho_loop ws r (k : Int) W B bs hW hB hr hn (ws.drop k) k r t [] none none rfl (by rw [List.length_drop]; omega) hb hr (fun w hw => hp w (List.mem_of_mem_drop hw)) (by rw [List.length_drop]; simp; omega)
  unfold D_line_choices B_line_choices
  simp only [EV, Nat.reduceAdd, Nat.reduceSub, Nat.reduceLeDiff]
  rw [x_iRr (i := (k : Int) + 1) (j := (ws.length : Int) + 1) (by rcases hW with rfl | rfl <;> rcases hB with rfl | rfl <;> simp only [EV, Nat.reduceAdd, Nat.reduceSub, Nat.reduceLeDiff]) (by rcases hW with rfl | rfl <;> rcases hB with rfl | rfl <;> simp only [EV, Nat.reduceAdd, Nat.reduceSub, Nat.reduceLeDiff, List.length_map]) (by omega) (by omega) (by omega) (by omega)]
  have e : ((ws.length : Int) + 1 - ((k : Int) + 1)).toNat = (ws.drop k).length := by rw [List.length_drop]; omega
  rw [x_of_ok, e, q]
  simp only [EV, Nat.reduceAdd, Nat.reduceSub, Nat.reduceLeDiff]
def rowI (n : Nat) (e : E2) : List Int := [e.1, (e.2 : Int) - (n : Int)]
theorem rows_m (n : Nat) : ∀ es : List E2, rowsOf (es.map (rowE n)) = some (es.map (rowI n))
  | [] => rfl
  | e :: r => by
    show (match intsOf [D.int e.1, D.int ((e.2 : Int) - (n : Int))], rowsOf (r.map (rowE n)) with | some a, some b => some (a :: b) | _, _ => none) = _
    rw [rows_m n r]
    rfl
theorem lex_m (n : Nat) (a b : E2) : HT.lexLt (rowI n a) (rowI n b) = ltE a b := by
  unfold rowI ltE
  rw [HT.lexLt_cons, HT.lexLt_cons, HT.lexLt_nil_nil]
  by_cases c : a.1 = b.1
  · rw [if_pos c]
    by_cases d : (a.2 : Int) - (n : Int) = (b.2 : Int) - (n : Int)
    · rw [if_pos d]; simp [c]; omega
    · rw [if_neg d]; simp [c]
  · rw [if_neg c]; simp [c]
theorem min_m (n : Nat) : ∀ (es : List E2) (m : E2), minR (rowI n m) (es.map (rowI n)) = rowI n (bstE m es)
  | [], m => rfl
  | e :: r, m => by
    show minR (if HT.lexLt (rowI n e) (rowI n m) = true then rowI n e else rowI n m) (r.map (rowI n)) = _
    rw [lex_m]
    unfold bstE
    cases ltE e m
    · exact min_m n r m
    · exact min_m n r e
theorem minT_m (n : Nat) (e : E2) (es : List E2) : dMinT [.lst (rowE n e :: es.map (rowE n))] = .ok (.fz (rowE n (bstE e es))) := by
  unfold dMinT
  dsimp only
  rw [← List.map_cons, rows_m, List.map_cons]
  dsimp only
  rw [min_m]
  rfl
def zD : D := .tup [.int 0, .int 0]
def bsD (n : Nat) (s : List E2) : List D := List.replicate (n - s.length) zD ++ s.map (rowE n)
theorem best_loop (ws : List Int) (r : Int) (W : En) (hW : Rd W (.lst (ws.map D.int))) (hr : r ≤ 5000) (hn : ws.length ≤ 63) (hp : ∀ w ∈ ws, 1 ≤ w ∧ w ≤ r) : ∀ (q : Nat) (j3 : Option En), q ≤ ws.length → ∃ i3,
    forD (gV 3) (sSetI 2 (eVar 3) (eB dMinT [(eCall D_line_choices [(eVar 0), (eVar 1), (eVar 3), (eVar 2)])])) (downD q) [some W, some (.fz (.int r)), some (.ow (.lst (bsD ws.length (tab r (ws.drop q))))), j3]
    = .nx [some W, some (.fz (.int r)), some (.ow (.lst (bsD ws.length (tab r ws)))), i3] := by
  intro q
  induction q with
  | zero => intro j3 _; exact ⟨j3, rfl⟩
  | succ q ih =>
    intro j3 hq
    obtain ⟨i3, ihq⟩ := ih (some (.fz (.int (q : Int)))) (by omega)
    refine ⟨i3, ?_⟩
    rw [downD, x_forD (x_gV)]
    simp only [List.set_cons_zero, List.set_cons_succ]
    have hd : ws.drop q = ws[q] :: ws.drop (q + 1) := List.drop_eq_getElem_cons (by omega)
    have tl : (tab r (ws.drop (q + 1))).length = ws.length - (q + 1) := by rw [tab_len, List.length_drop]
    have bl : (bsD ws.length (tab r (ws.drop (q + 1)))).length = ws.length := by unfold bsD; rw [List.length_append, List.length_replicate, List.length_map, tl]; omega
    have ch := choices_eq ws r q W (.br (.lst (bsD ws.length (tab r (ws.drop (q + 1)))))) _ (tab r (ws.drop (q + 1))) hW (.inr rfl) hr hn (by omega) (fun w hw => (hp w hw).1) tl (fun i e he => ⟨.int ((e.2 : Int) - (ws.length : Int)), by
      unfold bsD
      rw [List.getElem?_append_right (by rw [List.length_replicate, tl]; omega), List.length_replicate, tl, List.getElem?_map, show q + 1 + i - (ws.length - (ws.length - (q + 1))) = i by omega, he]
      rfl⟩)
    obtain ⟨e, es, ec⟩ := cho_ne (r := r) (w := ws[q]) (s := ws.drop (q + 1)) (t := tab r (ws.drop (q + 1))) (hp _ (List.getElem_mem _)).2
    rw [hd, ec] at ch
    rw [x_setI (xs := bsD ws.length (tab r (ws.drop (q + 1)))) (d := rowE ws.length (bstE e es)) (w := .fz (.int (q : Int))) (j := (q : Int)) (n := q) rfl (by
      rcases hW with rfl | rfl <;> simp only [EV, Nat.reduceAdd, Nat.reduceSub, Nat.reduceLeDiff, ch, minT_m]) rfl rfl (by unfold ixn; rw [if_pos (by omega), if_pos (by rw [bl]; omega)]; simp)]
    simp only [List.set_cons_zero, List.set_cons_succ, x_turn_nx]
    have st : (bsD ws.length (tab r (ws.drop (q + 1)))).set q (rowE ws.length (bstE e es)) = bsD ws.length (tab r (ws.drop q)) := by
      rw [hd, tab_cons]
      have hh : hdE r (ws[q] :: ws.drop (q + 1)) (tab r (ws.drop (q + 1))) = bstE e es := by unfold hdE; rw [ec]
      rw [hh]
      unfold bsD
      rw [List.length_cons, tl, show ws.length - (ws.length - (q + 1)) = q + 1 by omega, show ws.length - (ws.length - (q + 1) + 1) = q by omega, List.replicate_succ', List.append_assoc, List.set_append_right _ _ (by simp)]
      simp
    rw [st]
    exact ihq
theorem start_best (n : Nat) (hn : n ≤ 63) : dMulA (.lst [.tup [.int 0, .int 0]]) (.int (n : Int)) = .ok (.ow (.lst (bsD n (tab 0 [])))) := by
  have hz : sz = 16777216 := rfl
  unfold dMulA
  dsimp only
  rw [if_pos ⟨by omega, by omega, by rw [Int.toNat_natCast]; simp; omega⟩, Int.toNat_natCast]
  have : ∀ n : Nat, repD n [D.tup [.int 0, .int 0]] = List.replicate n zD := by
    intro n
    induction n with
    | zero => rfl
    | succ n ih =>
      unfold repD at ih ⊢
      rw [List.replicate_succ, List.flatten_cons, ih, List.replicate_succ]
      rfl
  rw [this]
  simp [bsD, tab]
theorem tab_last (r : Int) (ws : List Int) : tab r (ws.drop ws.length) = tab 0 [] := by rw [List.drop_length]; rfl
theorem bs_all (r : Int) (ws : List Int) : bsD ws.length (tab r ws) = (tab r ws).map (rowE ws.length) := by
  unfold bsD
  rw [tab_len, Nat.sub_self]
  rfl
theorem x_iEnum {i : Nat} {ρ : Rho} {ds : List D} (h : ρ[i]? = some (some (.br (.lst ds)))) : iEnum i ρ = .ok (numd 0 ds) := by unfold iEnum; rw [h]
theorem x_raiseA {c : Str} {e : EF} {ρ : Rho} {n : Nat} (h : e ρ = .ok (.fz (.int n))) : sRaiseA c e ρ = .exc ⟨c, [("at", .int n)]⟩ := by unfold sRaiseA; rw [h]; rfl
theorem x_callX {dn : Den} {fa : List EF} {ρ : Rho} {ws ys : List En} {x : Xc} (h1 : evs fa ρ = .ok ws) (h2 : argAll ws = .ok ys) (h3 : dn ys = .exc x) : sCallX dn fa ρ = .exc (nrm x) := by
  unfold sCallX
  rw [h1]
  show sOf (argAll ws) _ = _
  rw [h2]
  show (match dn ys with | .ok _ => _ | .exc x => _ | .stuck => _) = _
  rw [h3]
theorem x_try {b : SF} {cs : List Str} {hd : Xc → R En} {ρ : Rho} {x : Xc} {w : En} (h1 : b ρ = .exc x) (h2 : cs.contains x.cls = true) (h3 : hd x = .ok w) : sTry b cs hd ρ = .rt w := by
  unfold sTry
  rw [h1]
  dsimp only
  rw [if_pos h2, h3]
  rfl
theorem x_fin_exc {x : Xc} : fin (.exc x) = .exc x := rfl
def wideAt (r : Int) : List Int → Option Nat
  | [] => none
  | w :: s => if r < w then some 0 else (wideAt r s).map (· + 1)
theorem wide_none {r : Int} : ∀ {s : List Int}, wideAt r s = none → ∀ w ∈ s, w ≤ r
  | [], _, w, hw => nomatch hw
  | v :: s, h, w, hw => by
    unfold wideAt at h
    split at h
    · cases h
    · rename_i c
      rcases List.mem_cons.mp hw with rfl | hw
      · omega
      · exact wide_none (by simpa using h) w hw
theorem find_loop (W : Option En) (r : Int) : ∀ (s : List Int) (k : Nat) (j2 j3 : Option En), ∃ i2 i3, forD (gT [2, 3]) (sIf (tE (eOp dGt (eVar 3) (eVar 1))) (sRetV 2) sNext) (numd k (s.map D.int)) [W, some (.fz (.int r)), j2, j3] = match wideAt r s with
    | none => .nx [W, some (.fz (.int r)), i2, i3]
    | some a => .rt (.fz (.int ((k + a : Nat) : Int))) := by
  intro s
  induction s with
  | nil => intro k j2 j3; exact ⟨j2, j3, rfl⟩
  | cons w s ih =>
    intro k j2 j3
    obtain ⟨i2, i3, q⟩ := ih (k + 1) (some (.fz (.int (k : Int)))) (some (.fz (.int w)))
    refine ⟨i2, i3, ?_⟩
    rw [List.map_cons, numd, x_forD (ρ1 := [W, some (.fz (.int r)), some (.fz (.int (k : Int))), some (.fz (.int w))]) rfl]
    unfold wideAt
    by_cases c : r < w
    · rw [if_pos c]
      have d : decide (r < w) = true := by simp [c]
      simp only [EV, Nat.reduceAdd, Nat.reduceSub, Nat.reduceLeDiff, d, x_turn_rt]
      rfl
    · rw [if_neg c]
      have d : decide (r < w) = false := by simp; omega
      have st : (sIf (tE (eOp dGt (eVar 3) (eVar 1))) (sRetV 2) sNext) [W, some (.fz (.int r)), some (.fz (.int (k : Int))), some (.fz (.int w))] = .nx [W, some (.fz (.int r)), some (.fz (.int (k : Int))), some (.fz (.int w))] := by simp only [EV, Nat.reduceAdd, Nat.reduceSub, Nat.reduceLeDiff, d]
      rw [st, x_turn_nx, q]
      cases wideAt r s with
      | none => rfl
      | some a =>
        show Out.rt (.fz (.int ((k + 1 + a : Nat) : Int))) = Out.rt (.fz (.int ((k + (a + 1) : Nat) : Int)))
        rw [show k + 1 + a = k + (a + 1) by omega]
def atD : Option Nat → D
  | none => .non
  | some a => .int (a : Int)
theorem wide_eq (ws : List Int) (r : Int) : D__law_wide_at [.br (.lst (ws.map D.int)), .fz (.int r)] = .ok (.fz (atD (wideAt r ws))) := by
  obtain ⟨i2, i3, q⟩ := find_loop (some (.br (.lst (ws.map D.int)))) r ws 0 none none
  unfold D__law_wide_at B__law_wide_at
  rw [x_den]
  simp only [List.length_cons, List.length_nil, List.map_cons, List.map_nil, List.cons_append, List.nil_append, Nat.reduceAdd, Nat.reduceSub, List.replicate_succ, List.replicate_zero]
  rw [x_seq, x_for, x_iEnum (ds := ws.map D.int) rfl, x_of_ok, q]
  cases wideAt r ws with
  | none => simp only [EV, Nat.reduceAdd, Nat.reduceSub, Nat.reduceLeDiff, atD]
  | some a => simp only [EV, Nat.reduceAdd, Nat.reduceSub, Nat.reduceLeDiff, atD, Nat.zero_add]
theorem refuse_loop (W : Option En) (r : Int) : ∀ (s : List Int) (k : Nat) (j2 j3 : Option En), ∃ i2 i3, forD (gT [2, 3]) (sIf (tE (eOp dGt (eVar 3) (eVar 1))) (sRaiseA "TooWide" (eVar 2)) sNext) (numd k (s.map D.int)) [W, some (.fz (.int r)), j2, j3] = match wideAt r s with
    | none => .nx [W, some (.fz (.int r)), i2, i3]
    | some a => .exc ⟨"TooWide", [("at", .int ((k + a : Nat) : Int))]⟩ := by
  intro s
  induction s with
  | nil => intro k j2 j3; exact ⟨j2, j3, rfl⟩
  | cons w s ih =>
    intro k j2 j3
    obtain ⟨i2, i3, q⟩ := ih (k + 1) (some (.fz (.int (k : Int)))) (some (.fz (.int w)))
    refine ⟨i2, i3, ?_⟩
    rw [List.map_cons, numd, x_forD (ρ1 := [W, some (.fz (.int r)), some (.fz (.int (k : Int))), some (.fz (.int w))]) rfl]
    unfold wideAt
    have ra : sRaiseA "TooWide" (eVar 2) [W, some (.fz (.int r)), some (.fz (.int (k : Int))), some (.fz (.int w))] = .exc ⟨"TooWide", [("at", .int (k : Int))]⟩ := x_raiseA rfl
    by_cases c : r < w
    · rw [if_pos c]
      have d : decide (r < w) = true := by simp [c]
      have st : (sIf (tE (eOp dGt (eVar 3) (eVar 1))) (sRaiseA "TooWide" (eVar 2)) sNext) [W, some (.fz (.int r)), some (.fz (.int (k : Int))), some (.fz (.int w))] = .exc ⟨"TooWide", [("at", .int (k : Int))]⟩ := by simp only [EV, Nat.reduceAdd, Nat.reduceSub, Nat.reduceLeDiff, d, ra]
      rw [st, x_turn_exc]
      rfl
    · rw [if_neg c]
      have d : decide (r < w) = false := by simp; omega
      have st : (sIf (tE (eOp dGt (eVar 3) (eVar 1))) (sRaiseA "TooWide" (eVar 2)) sNext) [W, some (.fz (.int r)), some (.fz (.int (k : Int))), some (.fz (.int w))] = .nx [W, some (.fz (.int r)), some (.fz (.int (k : Int))), some (.fz (.int w))] := by simp only [EV, Nat.reduceAdd, Nat.reduceSub, Nat.reduceLeDiff, d]
      rw [st, x_turn_nx, q]
      cases wideAt r s with
      | none => rfl
      | some a =>
        show Out.exc ⟨"TooWide", [("at", .int ((k + 1 + a : Nat) : Int))]⟩ = Out.exc ⟨"TooWide", [("at", .int ((k + (a + 1) : Nat) : Int))]⟩
        rw [show k + 1 + a = k + (a + 1) by omega]
theorem refuse_eq (ws : List Int) (r : Int) (W : En) (hW : Rd W (.lst (ws.map D.int))) : D_refuse_too_wide [W, .fz (.int r)] = match wideAt r ws with
    | none => .ok (.fz .non)
    | some a => .exc ⟨"TooWide", [("at", .int (a : Int))]⟩ := by
  obtain ⟨i2, i3, q⟩ := refuse_loop (some W) r ws 0 none none
  unfold D_refuse_too_wide B_refuse_too_wide
  rw [x_den]
  simp only [List.length_cons, List.length_nil, List.map_cons, List.map_nil, List.cons_append, List.nil_append, Nat.reduceAdd, Nat.reduceSub, List.replicate_succ, List.replicate_zero]
  rw [x_for, show iEnum 0 [some W, some (.fz (.int r)), none, none] = .ok (numd 0 (ws.map D.int)) by unfold iEnum; rcases hW with rfl | rfl <;> rfl, x_of_ok, q]
  cases wideAt r ws with
  | none => rfl
  | some a =>
    show R.exc ⟨"TooWide", [("at", .int ((0 + a : Nat) : Int))]⟩ = R.exc ⟨"TooWide", [("at", .int (a : Int))]⟩
    rw [Nat.zero_add]
theorem whole_room (r : Int) : D_is_whole [.fz (.int r)] = .ok (.fz (.bl true)) := rfl
theorem Rd.argo {W : En} {d : D} (h : Rd W d) : W.arg = .ok W := by rcases h with rfl | rfl <;> rfl
theorem best_ok (ws : List Int) (r : Int) (W : En) (hW : Rd W (.lst (ws.map D.int))) (hr : r ≤ 5000) (hn : ws.length ≤ 63) (hp : ∀ w ∈ ws, 1 ≤ w ∧ w ≤ r) (hw : wideAt r ws = none) : D_best_lines [W, .fz (.int r)] = .ok (.ow (.lst ((tab r ws).map (rowE ws.length)))) := by
  have rf := refuse_eq ws r W hW
  rw [hw] at rf
  have wr := whole_room r
  obtain ⟨i3, q⟩ := best_loop ws r W hW hr hn hp ws.length none (Nat.le_refl _)
  rw [tab_last, bs_all] at q
  have st := start_best ws.length hn
  have len : ((ws.map D.int).length : Int) = (ws.length : Int) := by rw [List.length_map]
  have it : iR3d (eOp dSub (eB dLenA [(eVar 0)]) (eC (.int 1))) (eUn dNeg (eC (.int 1))) (eUn dNeg (eC (.int 1))) [some W, some (.fz (.int r)), some (.ow (.lst (bsD ws.length (tab 0 [])))), none] = .ok (downD ws.length) := by
    refine x_down ?_ ?_ ?_ (by omega)
    · rcases hW with rfl | rfl <;> simp only [EV, Nat.reduceAdd, Nat.reduceSub, Nat.reduceLeDiff, len]
    · simp only [EV, Nat.reduceAdd, Nat.reduceSub, Nat.reduceLeDiff]
    · simp only [EV, Nat.reduceAdd, Nat.reduceSub, Nat.reduceLeDiff]
  have cl : ∀ ρ2 ρ3, sCallX D_refuse_too_wide [(eVar 0), (eVar 1)] [some W, some (.fz (.int r)), ρ2, ρ3] = .nx [some W, some (.fz (.int r)), ρ2, ρ3] := by
    intro ρ2 ρ3
    unfold sCallX
    rw [show evs [(eVar 0), (eVar 1)] [some W, some (.fz (.int r)), ρ2, ρ3] = .ok [W, .fz (.int r)] by rcases hW with rfl | rfl <;> rfl]
    show sOf (argAll [W, .fz (.int r)]) _ = _
    rw [show argAll [W, .fz (.int r)] = .ok [W, .fz (.int r)] by rcases hW with rfl | rfl <;> rfl]
    show (match D_refuse_too_wide [W, .fz (.int r)] with | .ok _ => _ | .exc x => _ | .stuck => _) = _
    rw [rf]
  unfold D_best_lines B_best_lines
  rcases hW with rfl | rfl
  · simp only [EV, Nat.reduceAdd, Nat.reduceSub, Nat.reduceLeDiff, cl, wr, len, st]
    rw [it, x_of_ok, q]
    simp only [EV, Nat.reduceAdd, Nat.reduceSub, Nat.reduceLeDiff]
  · simp only [EV, Nat.reduceAdd, Nat.reduceSub, Nat.reduceLeDiff, cl, wr, len, st]
    rw [it, x_of_ok, q]
    simp only [EV, Nat.reduceAdd, Nat.reduceSub, Nat.reduceLeDiff]
def prD (e : E2) : D := .int e.1
def p0D : D → D
  | .tup (x :: _) => x
  | d => d
theorem raise_of {dn : Den} {fa : List EF} {ρ : Rho} {ws ys : List En} (h1 : evs fa ρ = .ok ws) (h2 : argAll ws = .ok ys) : raiseOf dn fa ρ = (match dn ys with | .exc x => some x | _ => none) := by
  simp only [raiseOf, h1, h2] <;> (cases dn ys <;> rfl)
theorem prices_ok (ws : List Int) (r : Int) (hr : r ≤ 5000) (hn : ws.length ≤ 63) (hp : ∀ w ∈ ws, 1 ≤ w ∧ w ≤ r) (hw : wideAt r ws = none) : D_line_prices [.br (.lst (ws.map D.int)), .fz (.int r)] = .ok (.ow (.lst ((tab r ws).map prD))) := by
  have hz : sz = 16777216 := rfl
  have be := best_ok ws r (.br (.lst (ws.map D.int))) (.inr rfl) hr hn hp hw
  have no : raiseOf D_best_lines [(eVar 0), (eVar 1)] [some (.br (.lst (ws.map D.int))), some (.fz (.int r))] = none := by
    rw [raise_of (ws := [.br (.lst (ws.map D.int)), .fz (.int r)]) (ys := [.br (.lst (ws.map D.int)), .fz (.int r)]) rfl rfl, be]
  unfold D_line_prices B_line_prices
  have cm : eComp 1 (iSeq (eCall D_best_lines [(eVar 0), (eVar 1)])) (gV 2) tTrue (eOp dIxS (eVar 2) (eC (.int 0))) [some (.br (.lst (ws.map D.int))), some (.fz (.int r))] = .ok (.ow (.lst (((tab r ws).map (rowE ws.length)).map p0D))) := by
    refine comp_eq (x_iSeq (w := .ow (.lst ((tab r ws).map (rowE ws.length)))) (by simp only [EV, Nat.reduceAdd, Nat.reduceSub, Nat.reduceLeDiff, be]) rfl) (by rw [List.length_map, tab_len]; omega) (comp_all 2 p0D _ _ fun d hd => ?_)
    obtain ⟨e, _, rfl⟩ := List.mem_map.mp hd
    exact ⟨.fz (.int e.1), by simp only [cRho, ro, EV, Nat.reduceAdd, Nat.reduceSub, Nat.reduceLeDiff, rowE], rfl⟩
  rw [x_den]
  simp only [List.length_cons, List.length_nil, List.map_cons, List.map_nil, List.cons_append, List.nil_append, Nat.reduceAdd, Nat.reduceSub, List.replicate_succ, List.replicate_zero]
  unfold sX
  rw [no]
  dsimp only
  rw [x_ret, cm]
  simp only [x_b_ok, x_nm_ow, x_of_ok, x_fin_rt]
  rw [List.map_map]
  rfl
theorem best_bad (ws : List Int) (r : Int) (a : Nat) (hw : wideAt r ws = some a) : D_best_lines [.fz (.lst (ws.map D.int)), .fz (.int r)] = .exc ⟨"TooWide", [("at", .int (a : Int))]⟩ := by
  have rf := refuse_eq ws r (.fz (.lst (ws.map D.int))) (.inl rfl)
  rw [hw] at rf
  have wr := whole_room r
  have cl : sCallX D_refuse_too_wide [(eVar 0), (eVar 1)] [some (.fz (.lst (ws.map D.int))), some (.fz (.int r)), none, none] = .exc ⟨"TooWide", [("at", .int (a : Int))]⟩ :=
    x_callX (ws := [.fz (.lst (ws.map D.int)), .fz (.int r)]) (ys := [.fz (.lst (ws.map D.int)), .fz (.int r)]) rfl rfl rf
  unfold D_best_lines B_best_lines
  simp only [EV, Nat.reduceAdd, Nat.reduceSub, Nat.reduceLeDiff, wr, cl, x_th_exc, x_fin_exc]
theorem prices_bad (ws : List Int) (r : Int) (a : Nat) (hw : wideAt r ws = some a) : D_line_prices [.fz (.lst (ws.map D.int)), .fz (.int r)] = .exc ⟨"TooWide", [("at", .int (a : Int))]⟩ := by
  have be := best_bad ws r a hw
  have yes : raiseOf D_best_lines [(eVar 0), (eVar 1)] [some (.fz (.lst (ws.map D.int))), some (.fz (.int r))] = some ⟨"TooWide", [("at", .int (a : Int))]⟩ := by
    rw [raise_of (ws := [.fz (.lst (ws.map D.int)), .fz (.int r)]) (ys := [.fz (.lst (ws.map D.int)), .fz (.int r)]) rfl rfl, be]
  unfold D_line_prices B_line_prices
  rw [x_den]
  simp only [List.length_cons, List.length_nil, List.map_cons, List.map_nil, List.cons_append, List.nil_append, Nat.reduceAdd, Nat.reduceSub, List.replicate_succ, List.replicate_zero]
  unfold sX
  rw [yes]
  rfl
theorem firsts_bad (ws : List Int) (r : Int) (a : Nat) (hw : wideAt r ws = some a) : D_firsts [.fz (.lst (ws.map D.int)), .fz (.int r)] = .exc ⟨"TooWide", [("at", .int (a : Int))]⟩ := by
  have be := best_bad ws r a hw
  have yes : raiseOf D_best_lines [(eVar 0), (eVar 1)] [some (.fz (.lst (ws.map D.int))), some (.fz (.int r)), none, none, none] = some ⟨"TooWide", [("at", .int (a : Int))]⟩ := by
    rw [raise_of (ws := [.fz (.lst (ws.map D.int)), .fz (.int r)]) (ys := [.fz (.lst (ws.map D.int)), .fz (.int r)]) rfl rfl, be]
  unfold D_firsts B_firsts
  rw [x_den]
  simp only [List.length_cons, List.length_nil, List.map_cons, List.map_nil, List.cons_append, List.nil_append, Nat.reduceAdd, Nat.reduceSub, List.replicate_succ, List.replicate_zero]
  rw [x_seq]
  have : sX D_best_lines [(eVar 0), (eVar 1)] (sSet 2 (eCall D_best_lines [(eVar 0), (eVar 1)])) [some (.fz (.lst (ws.map D.int))), some (.fz (.int r)), none, none, none] = .exc ⟨"TooWide", [("at", .int (a : Int))]⟩ := by
    unfold sX
    rw [yes]
    rfl
  rw [this]
  rfl
theorem refused_eq (ws : List Int) (r : Int) (a : Nat) (hw : wideAt r ws = some a) (b : Bool) : D__law_refused [.fz (.lst (ws.map D.int)), .fz (.int r), .fz (.bl b)] = .ok (.fz (.tup [.bl true, .int (a : Int)])) := by
  unfold D__law_refused B__law_refused
  rw [x_den]
  simp only [List.length_cons, List.length_nil, List.map_cons, List.map_nil, List.cons_append, List.nil_append, Nat.reduceAdd, Nat.reduceSub, List.replicate_succ, List.replicate_zero]
  rw [x_seq]
  have c1 : sCallX D_line_prices [(eVar 0), (eVar 1)] [some (.fz (.lst (ws.map D.int))), some (.fz (.int r)), some (.fz (.bl b)), none] = .exc ⟨"TooWide", [("at", .int (a : Int))]⟩ :=
    x_callX (ws := [.fz (.lst (ws.map D.int)), .fz (.int r)]) (ys := [.fz (.lst (ws.map D.int)), .fz (.int r)]) rfl rfl (prices_bad ws r a hw)
  have c2 : sCallX D_firsts [(eVar 0), (eVar 1)] [some (.fz (.lst (ws.map D.int))), some (.fz (.int r)), some (.fz (.bl b)), none] = .exc ⟨"TooWide", [("at", .int (a : Int))]⟩ :=
    x_callX (ws := [.fz (.lst (ws.map D.int)), .fz (.int r)]) (ys := [.fz (.lst (ws.map D.int)), .fz (.int r)]) rfl rfl (firsts_bad ws r a hw)
  have body : (sIf (tE (eVar 2)) (sCallX D_line_prices [(eVar 0), (eVar 1)]) (sCallX D_firsts [(eVar 0), (eVar 1)])) [some (.fz (.lst (ws.map D.int))), some (.fz (.int r)), some (.fz (.bl b)), none] = .exc ⟨"TooWide", [("at", .int (a : Int))]⟩ := by
    cases b
    · simp only [EV, Nat.reduceAdd, Nat.reduceSub, Nat.reduceLeDiff, c2]
    · simp only [EV, Nat.reduceAdd, Nat.reduceSub, Nat.reduceLeDiff, c1]
  rw [x_try (x := ⟨"TooWide", [("at", .int (a : Int))]⟩) (w := .fz (.tup [.bl true, .int (a : Int)])) body rfl rfl]
  rfl
theorem base_eq (ws : List Int) (r : Int) (a : Nat) (hw : wideAt r ws = some a) : D__law_by_base [.fz (.lst (ws.map D.int)), .fz (.int r)] = .ok (.fz (.bl true)) := by
  unfold D__law_by_base B__law_by_base
  rw [x_den]
  simp only [List.length_cons, List.length_nil, List.map_cons, List.map_nil, List.cons_append, List.nil_append, Nat.reduceAdd, Nat.reduceSub, List.replicate_succ, List.replicate_zero]
  rw [x_seq]
  have c1 : sCallX D_line_prices [(eVar 0), (eVar 1)] [some (.fz (.lst (ws.map D.int))), some (.fz (.int r)), none] = .exc ⟨"TooWide", [("at", .int (a : Int))]⟩ :=
    x_callX (ws := [.fz (.lst (ws.map D.int)), .fz (.int r)]) (ys := [.fz (.lst (ws.map D.int)), .fz (.int r)]) rfl rfl (prices_bad ws r a hw)
  rw [x_try (x := ⟨"TooWide", [("at", .int (a : Int))]⟩) (w := .fz (.bl true)) c1 rfl rfl]
  rfl
theorem lp_loop (ws : List Int) (r f : Int) (ps : List D) (hn : ws.length ≤ 63) : ∀ (s : List Int) (k : Nat) (l : Int) (t : List E2) (acc : List D) (j6 : Option En),
    ws.drop k = s → t.length = s.length - 1 → (∀ i e, t[i]? = some e → ps[k + 1 + i]? = some (.int e.1)) → l ≤ 5000 → (∀ w ∈ s, 1 ≤ w) → acc.length + s.length ≤ 63 → ∃ i5 i6,
    forD (gV 6) (sSeq (sSet 5 (eOp dSub (eVar 5) (eOp dIxS (eVar 0) (eVar 6))))
  (sSeq (sIf (tE (eOp dLt (eVar 5) (eC (.int 0)))) sBreak sNext)
  (sIf (tE (eOp dEq (eOp dAddA (eVar 6) (eC (.int 1))) (eB dLenA [(eVar 0)]))) (sApp 4 (eC (.int 0))) (sApp 4 (eOp dAddA (eOp dMul (eVar 5) (eVar 5)) (eOp dIxS (eVar 2) (eOp dAddA (eVar 6) (eC (.int 1))))))))) (rngD (k : Int) s.length) [some (.br (.lst (ws.map D.int))), some (.fz (.int r)), some (.br (.lst ps)), some (.fz (.int f)), some (.ow (.lst acc)), some (.fz (.int l)), j6]
    = .nx [some (.br (.lst (ws.map D.int))), some (.fz (.int r)), some (.br (.lst ps)), some (.fz (.int f)), some (.ow (.lst (acc ++ (cho l s t).map prD))), i5, i6] := by
  have hz : sz = 16777216 := rfl
  intro s
  induction s with
  | nil =>
    intro k l t acc j6 _ _ _ _ _ _
    exact ⟨some (.fz (.int l)), j6, by simp only [List.length_nil, rngD, x_forD_nil, cho, List.map_nil, List.append_nil]⟩
  | cons w s ih =>
    intro k l t acc j6 hs ht hb hl hp ha
    have hk : ws[k]? = some w := by
      have := congrArg (fun xs => xs[0]?) hs
      simpa [List.getElem?_drop] using this
    have hs' : ws.drop (k + 1) = s := by
      have := congrArg List.tail hs
      simpa [List.tail_drop] using this
    have hlen : s.length + (k + 1) = ws.length := by
      have := congrArg List.length hs
      simp at this
      omega
    have hw := hp w (by simp)
    have g0 : ati (ws.map D.int) (k : Int) = some (.int w) := by rw [ati_nat, List.getElem?_map, hk]; rfl
    rw [List.length_cons, rngD, x_forD (x_gV)]
    simp only [List.set_cons_zero, List.set_cons_succ]
    have s1 : (sSet 5 (eOp dSub (eVar 5) (eOp dIxS (eVar 0) (eVar 6)))) [some (.br (.lst (ws.map D.int))), some (.fz (.int r)), some (.br (.lst ps)), some (.fz (.int f)), some (.ow (.lst acc)), some (.fz (.int l)), some (.fz (.int (k : Int)))] = .nx [some (.br (.lst (ws.map D.int))), some (.fz (.int r)), some (.br (.lst ps)), some (.fz (.int f)), some (.ow (.lst acc)), some (.fz (.int (l - w))), some (.fz (.int (k : Int)))] := by
      simp only [EV, Nat.reduceAdd, Nat.reduceSub, Nat.reduceLeDiff, g0]
    rw [x_seq, s1, x_th_nx, x_seq]
    unfold cho
    have s2 : (sIf (tE (eOp dLt (eVar 5) (eC (.int 0)))) sBreak sNext) [some (.br (.lst (ws.map D.int))), some (.fz (.int r)), some (.br (.lst ps)), some (.fz (.int f)), some (.ow (.lst acc)), some (.fz (.int (l - w))), some (.fz (.int (k : Int)))] = if l - w < 0 then .bk [some (.br (.lst (ws.map D.int))), some (.fz (.int r)), some (.br (.lst ps)), some (.fz (.int f)), some (.ow (.lst acc)), some (.fz (.int (l - w))), some (.fz (.int (k : Int)))] else .nx [some (.br (.lst (ws.map D.int))), some (.fz (.int r)), some (.br (.lst ps)), some (.fz (.int f)), some (.ow (.lst acc)), some (.fz (.int (l - w))), some (.fz (.int (k : Int)))] := by
      by_cases c : l - w < 0 <;> simp only [EV, Nat.reduceAdd, Nat.reduceSub, Nat.reduceLeDiff, c, decide_true, decide_false, if_true, if_false]
    rw [s2]
    by_cases c : l - w < 0
    · rw [if_pos c, if_pos c]
      exact ⟨some (.fz (.int (l - w))), some (.fz (.int (k : Int))), by simp only [x_th_bk, List.map_nil, List.append_nil]; rfl⟩
    · rw [if_neg c, if_neg c, x_th_nx]
      have sqq := x_mull (i := l - w) (j := l - w) (by omega) (by omega)
      have last : (sIf (tE (eOp dEq (eOp dAddA (eVar 6) (eC (.int 1))) (eB dLenA [(eVar 0)]))) (sApp 4 (eC (.int 0))) (sApp 4 (eOp dAddA (eOp dMul (eVar 5) (eVar 5)) (eOp dIxS (eVar 2) (eOp dAddA (eVar 6) (eC (.int 1))))))) [some (.br (.lst (ws.map D.int))), some (.fz (.int r)), some (.br (.lst ps)), some (.fz (.int f)), some (.ow (.lst acc)), some (.fz (.int (l - w))), some (.fz (.int (k : Int)))] = .nx [some (.br (.lst (ws.map D.int))), some (.fz (.int r)), some (.br (.lst ps)), some (.fz (.int f)), some (.ow (.lst (acc ++ [prD (nxC (l - w) t, s.length)]))), some (.fz (.int (l - w))), some (.fz (.int (k : Int)))] := by
        rw [x_if]
        cases t with
        | nil =>
          have z : s = [] := List.length_eq_zero_iff.mp (by simp at ht; omega)
          subst z
          have ec : ((k : Int) + 1 == (ws.length : Int)) = true := by simp at hlen; simp; omega
          rw [show (tE (eOp dEq (eOp dAddA (eVar 6) (eC (.int 1))) (eB dLenA [(eVar 0)]))) [some (.br (.lst (ws.map D.int))), some (.fz (.int r)), some (.br (.lst ps)), some (.fz (.int f)), some (.ow (.lst acc)), some (.fz (.int (l - w))), some (.fz (.int (k : Int)))] = .ok true by simp only [EV, Nat.reduceAdd, Nat.reduceSub, Nat.reduceLeDiff, List.length_map, ec], x_of_ok, x_pickS_t]
          rw [x_app (xs := acc) (d := prD (0, 0)) rfl (by simp at ha; omega) rfl]
          rfl
        | cons e t =>
          have ec : ((k : Int) + 1 == (ws.length : Int)) = false := by
            have : 0 < s.length := by simp at ht; omega
            simp; omega
          have hx := hb 0 e rfl
          have g1 : ati ps ((k : Int) + 1) = some (.int e.1) := by
            have : ((k : Int) + 1) = ((k + 1 : Nat) : Int) := by omega
            rw [this, ati_nat]
            exact hx
          rw [show (tE (eOp dEq (eOp dAddA (eVar 6) (eC (.int 1))) (eB dLenA [(eVar 0)]))) [some (.br (.lst (ws.map D.int))), some (.fz (.int r)), some (.br (.lst ps)), some (.fz (.int f)), some (.ow (.lst acc)), some (.fz (.int (l - w))), some (.fz (.int (k : Int)))] = .ok false by simp only [EV, Nat.reduceAdd, Nat.reduceSub, Nat.reduceLeDiff, List.length_map, ec], x_of_ok, x_pickS_f]
          rw [x_app (xs := acc) (d := prD ((l - w) * (l - w) + e.1, s.length)) rfl (by simp at ha; omega) (by simp only [EV, Nat.reduceAdd, Nat.reduceSub, Nat.reduceLeDiff, sqq, g1, prD])]
          rfl
      obtain ⟨i5, i6, q⟩ := ih (k + 1) (l - w) t.tail (acc ++ [prD (nxC (l - w) t, s.length)]) (some (.fz (.int (k : Int)))) hs' (by simp at ht ⊢; omega) (fun i e he => by
        rw [List.getElem?_tail] at he
        have := hb (i + 1) e he
        rw [show k + 1 + 1 + i = k + 1 + (i + 1) by omega]
        exact this) (by omega) (fun v hv => hp v (List.mem_cons_of_mem _ hv)) (by simp at ha ⊢; omega)
      refine ⟨i5, i6, ?_⟩
      rw [last, x_turn_nx, show (k : Int) + 1 = ((k + 1 : Nat) : Int) by omega, q, List.append_assoc]
      rfl
theorem minL_bst : ∀ (es : List E2) (m : E2), minL m.1 (es.map (·.1)) = (bstE m es).1
  | [], m => rfl
  | e :: r, m => by
    have u : (if e.1 < m.1 then e.1 else m.1) = (if ltE e m = true then e else m).1 := by
      cases c : ltE e m
      · have h := ltE_false c
        unfold leE at h
        have d : ¬ e.1 < m.1 := by omega
        rw [if_neg d]
        rfl
      · have h := ltE_true c
        unfold leE at h
        by_cases d : e.1 < m.1
        · rw [if_pos d]; rfl
        · rw [if_neg d, show m.1 = e.1 by omega]; rfl
    rw [List.map_cons]
    show minL (if e.1 < m.1 then e.1 else m.1) (r.map (·.1)) = _
    rw [u]
    exact minL_bst r _
theorem lprice_eq (ws : List Int) (r : Int) (hr : r ≤ 5000) (hn : ws.length ≤ 63) (hp : ∀ w ∈ ws, 1 ≤ w ∧ w ≤ r) (k : Nat) (hk : k < ws.length) :
    D__law_price [.br (.lst (ws.map D.int)), .fz (.int r), .br (.lst ((tab r ws).map prD)), .fz (.int (k : Int))] = .ok (.fz (.int (pr r (ws.drop k)))) := by
  have hd : ws.drop k = ws[k] :: ws.drop (k + 1) := List.drop_eq_getElem_cons hk
  have sl : (ws.drop k).length = ws.length - k := List.length_drop
  obtain ⟨i5, i6, q⟩ := lp_loop ws r (k : Int) ((tab r ws).map prD) hn (ws.drop k) k r (tab r (ws.drop (k + 1))) [] none rfl (by rw [tab_len, List.length_drop, List.length_drop]; omega) (fun i e he => by
    rw [← tab_drop, List.getElem?_drop] at he
    rw [List.getElem?_map, he]
    rfl) hr (fun w hw => (hp w (List.mem_of_mem_drop hw)).1) (by rw [sl]; simp; omega)
  obtain ⟨e, es, ec⟩ := cho_ne (r := r) (w := ws[k]'hk) (s := ws.drop (k + 1)) (t := tab r (ws.drop (k + 1))) (hp _ (List.getElem_mem _)).2
  rw [List.nil_append, hd, ec] at q
  have pe : pr r (ws.drop k) = (bstE e es).1 := by
    rw [hd]
    unfold pr
    rw [tab_cons]
    have hh : hdE r (ws[k] :: ws.drop (k + 1)) (tab r (ws.drop (k + 1))) = bstE e es := by unfold hdE; rw [ec]
    rw [hh]
  have mn : dMinL [.lst ((e :: es).map prD)] = .ok (.fz (.int (pr r (ws.drop k)))) := by
    have e1 : (e :: es).map prD = ((e :: es).map (·.1)).map D.int := by rw [List.map_map]; rfl
    unfold dMinL
    dsimp only
    rw [e1, ints_m, List.map_cons]
    dsimp only
    rw [minL_bst, pe]
  have it : iR2 (eVar 3) (eB dLenA [(eVar 0)]) [some (.br (.lst (ws.map D.int))), some (.fz (.int r)), some (.br (.lst ((tab r ws).map prD))), some (.fz (.int (k : Int))), some (.ow (.lst [])), some (.fz (.int r)), none] = .ok (rngD (k : Int) (ws[k] :: ws.drop (k + 1)).length) := by
    rw [← hd, sl, x_iRr (i := (k : Int)) (j := (ws.length : Int)) (by simp only [EV, Nat.reduceAdd, Nat.reduceSub, Nat.reduceLeDiff]) (by simp only [EV, Nat.reduceAdd, Nat.reduceSub, Nat.reduceLeDiff, List.length_map]) (by omega) (by omega) (by omega) (by omega)]
    congr 2
    omega
  rw [List.map_cons] at mn
  unfold D__law_price B__law_price
  simp only [EV, Nat.reduceAdd, Nat.reduceSub, Nat.reduceLeDiff]
  rw [it, x_of_ok, q]
  simp only [EV, Nat.reduceAdd, Nat.reduceSub, Nat.reduceLeDiff, mn]
theorem law_true (ns : List Int) (hl : ns.length ≤ 63) : D_law [.fz (.lst (ns.map D.int))] = .ok (.fz (.bl true)) := by
  obtain ⟨ws, hw, hn, we⟩ := widths_eq ns hl
  obtain ⟨r, r1, h5, re⟩ := room_eq ns
  have wa := wide_eq ws r
  unfold D_law B_law
  cases c : wideAt r ws with
  | some a =>
    rw [c] at wa
    have t1 := refused_eq ws r a c true
    have t2 := refused_eq ws r a c false
    have tb := base_eq ws r a c
    have wh : D__law_whole [.fz (.int (a : Int))] = .ok (.fz (.bl true)) := rfl
    simp only [atD] at wa
    have one : ∀ (b : Bool) (j4 j5 j6 : Option En), D__law_refused [.fz (.lst (ws.map D.int)), .fz (.int r), .fz (.bl b)] = .ok (.fz (.tup [.bl true, .int (a : Int)])) → (sSeq (sAsg (gT [5, 6]) (eCall D__law_refused [(eB dList [(eVar 1)]), (eVar 2), (eVar 4)]))
  (sIf (tOr (tNot (tE (eVar 5))) (tOr (tNot (tE (eCall D__law_whole [(eVar 6)]))) (tE (eOp dNe (eVar 6) (eVar 3))))) (sRet (eC (.bl false))) sNext)) [some (.fz (.lst (ns.map D.int))), some (.ow (.lst (ws.map D.int))), some (.fz (.int r)), some (.fz (.int (a : Int))), some (.fz (.bl b)), j5, j6, none, none, none] = .nx [some (.fz (.lst (ns.map D.int))), some (.ow (.lst (ws.map D.int))), some (.fz (.int r)), some (.fz (.int (a : Int))), some (.fz (.bl b)), some (.fz (.bl true)), some (.fz (.int (a : Int))), none, none, none] := by
      intro b j4 j5 j6 h
      simp only [EV, Nat.reduceAdd, Nat.reduceSub, Nat.reduceLeDiff, h, wh, beq_self_eq_true]
    have it : iSeq (eLst [(eC (.bl true)), (eC (.bl false))]) [some (.fz (.lst (ns.map D.int))), some (.ow (.lst (ws.map D.int))), some (.fz (.int r)), some (.fz (.int (a : Int))), none, none, none, none, none, none] = .ok [.bl true, .bl false] := rfl
    have lp : forD (gV 4) (sSeq (sAsg (gT [5, 6]) (eCall D__law_refused [(eB dList [(eVar 1)]), (eVar 2), (eVar 4)]))
  (sIf (tOr (tNot (tE (eVar 5))) (tOr (tNot (tE (eCall D__law_whole [(eVar 6)]))) (tE (eOp dNe (eVar 6) (eVar 3))))) (sRet (eC (.bl false))) sNext)) [.bl true, .bl false] [some (.fz (.lst (ns.map D.int))), some (.ow (.lst (ws.map D.int))), some (.fz (.int r)), some (.fz (.int (a : Int))), none, none, none, none, none, none] = .nx [some (.fz (.lst (ns.map D.int))), some (.ow (.lst (ws.map D.int))), some (.fz (.int r)), some (.fz (.int (a : Int))), some (.fz (.bl false)), some (.fz (.bl true)), some (.fz (.int (a : Int))), none, none, none] := by
      rw [x_forD (x_gV)]
      simp only [List.set_cons_zero, List.set_cons_succ]
      rw [one true none none none t1, x_turn_nx, x_forD (x_gV)]
      simp only [List.set_cons_zero, List.set_cons_succ]
      rw [one false none _ _ t2, x_turn_nx]
      rfl
    simp only [EV, Nat.reduceAdd, Nat.reduceSub, Nat.reduceLeDiff, we, re, wa]
    rw [it, x_of_ok, lp]
    simp only [EV, Nat.reduceAdd, Nat.reduceSub, Nat.reduceLeDiff, tb]
  | none =>
    rw [c] at wa
    have hp : ∀ w ∈ ws, 1 ≤ w ∧ w ≤ r := fun w h => ⟨(hw w h).1, wide_none c w h⟩
    have pe := prices_ok ws r h5 hn hp c
    have len1 : (((tab r ws).map prD).length : Int) = (ws.length : Int) := by rw [List.length_map, tab_len]
    have len2 : ((ws.map D.int).length : Int) = (ws.length : Int) := by rw [List.length_map]
    have nes := x_ne_self (d := .lst (ws.map D.int)) (eqok_lst fun x hx => by obtain ⟨n, _, rfl⟩ := List.mem_map.mp hx; rfl)
    simp only [atD] at wa
    have go : ∀ (m k : Nat) (j9 : Option En), k + m = ws.length → ∃ i9, forD (gV 9) (sIf (tOr (tNot (tE (eCall D__law_whole [(eOp dIxS (eVar 8) (eVar 9))]))) (tE (eOp dNe (eOp dIxS (eVar 8) (eVar 9)) (eCall D__law_price [(eVar 1), (eVar 2), (eVar 8), (eVar 9)])))) (sRet (eC (.bl false))) sNext) (rngD (k : Int) m) [some (.fz (.lst (ns.map D.int))), some (.ow (.lst (ws.map D.int))), some (.fz (.int r)), some (.fz .non), none, none, none, some (.ow (.lst (ws.map D.int))), some (.ow (.lst ((tab r ws).map prD))), j9] = .nx [some (.fz (.lst (ns.map D.int))), some (.ow (.lst (ws.map D.int))), some (.fz (.int r)), some (.fz .non), none, none, none, some (.ow (.lst (ws.map D.int))), some (.ow (.lst ((tab r ws).map prD))), i9] := by
      intro m
      induction m with
      | zero => intro k j9 _; exact ⟨j9, rfl⟩
      | succ m ih =>
        intro k j9 h
        obtain ⟨i9, q⟩ := ih (k + 1) (some (.fz (.int (k : Int)))) (by omega)
        refine ⟨i9, ?_⟩
        have g : ati ((tab r ws).map prD) (k : Int) = some (.int (pr r (ws.drop k))) := by
          rw [ati_nat, List.getElem?_map]
          have e := congrArg (fun t => t[0]?) (tab_drop r k ws)
          simp only [List.getElem?_drop, Nat.add_zero] at e
          rw [e, List.drop_eq_getElem_cons (show k < ws.length by omega)]
          unfold pr
          rw [tab_cons]
          rfl
        have lp := lprice_eq ws r h5 hn hp k (by omega)
        have wh : D__law_whole [.fz (.int (pr r (ws.drop k)))] = .ok (.fz (.bl true)) := rfl
        rw [rngD, x_forD (x_gV)]
        simp only [List.set_cons_zero, List.set_cons_succ]
        rw [show ((k + 1 : Nat) : Int) = (k : Int) + 1 by omega] at q
        simp only [EV, Nat.reduceAdd, Nat.reduceSub, Nat.reduceLeDiff, g, lp, wh, beq_self_eq_true, x_turn_nx, q]
    obtain ⟨i9, q⟩ := go ws.length 0 none (by omega)
    have it : iR1 (eB dLenA [(eVar 1)]) [some (.fz (.lst (ns.map D.int))), some (.ow (.lst (ws.map D.int))), some (.fz (.int r)), some (.fz .non), none, none, none, some (.ow (.lst (ws.map D.int))), some (.ow (.lst ((tab r ws).map prD))), none] = .ok (rngD 0 ws.length) := x_iR1 (n := ws.length) (by simp only [EV, Nat.reduceAdd, Nat.reduceSub, Nat.reduceLeDiff, List.length_map]) (by omega)
    simp only [EV, Nat.reduceAdd, Nat.reduceSub, Nat.reduceLeDiff, we, re, wa, pe, len1, len2, nes, beq_self_eq_true]
    rw [it, x_of_ok]
    rw [show ((0 : Nat) : Int) = 0 from rfl] at q
    rw [q]
    simp only [EV, Nat.reduceAdd, Nat.reduceSub, Nat.reduceLeDiff]
section
variable {P : Program} {w : World} {K : PySem.W.Frag} {mg : Str → Option Value} {base : Heap}
theorem sc_is_whole : FnScope ["thing"] ["thing"] (defScope s_is_whole) := ⟨rfl, rfl, rfl, by decide +kernel, rfl, by decide +kernel, by decide +kernel⟩
theorem ok_is_whole {f : Addr} {fd : FuncData} (F : Fun K "is_whole" "is_whole" s_is_whole f fd)
    (b_isinstance : mg "isinstance" = none)
    (b_int : mg "int" = none)
    (b_bool : mg "bool" = none) :
    FnOk P w K mg base CX0 1 f fd ["thing"] (spD ⟨P, w, K⟩ D_is_whole 1) := by
  refine fnD (N := ["thing"]) F sc_is_whole (fun cdv A outer s H F0 hr => ?_)
  have nd := sc_is_whole.nd
  have hu := hu10 hr
  exact (sss_one (ss_ret (se_and (se_isi .int (se_var 0) b_isinstance b_int) (se_one (se_not (se_isi .bool (se_var 0) b_isinstance b_bool))))))
theorem sc_line_choices : FnScope ["widths", "room", "first", "best", "choices", "left", "behind", "cost"] ["widths", "room", "first", "best"] (defScope s_line_choices) := ⟨rfl, rfl, rfl, by decide +kernel, rfl, by decide +kernel, by decide +kernel⟩
theorem ok_line_choices {f : Addr} {fd : FuncData} (F : Fun K "line_choices" "line_choices" s_line_choices f fd)
    (b_range : mg "range" = none)
    (b_len : mg "len" = none) :
    FnOk P w K mg base CX0 1 f fd ["widths", "room", "first", "best"] (spD ⟨P, w, K⟩ D_line_choices 4) := by
  refine fnD (N := ["widths", "room", "first", "best", "choices", "left", "behind", "cost"]) F sc_line_choices (fun cdv A outer s H F0 hr => ?_)
  have nd := sc_line_choices.nd
  have hu := hu10 hr
  exact (sss_cons (ss_set 4 nd (se_lst sa_nil))
  (sss_cons (ss_set 5 nd (se_var 1))
  (sss_cons (ss_for PassesOwn.never rfl (si_range2 (se_op od_addA (se_var 2) se_int) (se_op od_addA (se_callB cd_lenA b_len PySem.boot_len (sa_cons (se_var 0) sa_nil)) se_int) b_range) (sg_name 6 nd) (sss_cons (ss_aug 5 nd oi_sub (se_ix (se_var 0) (se_op od_sub (se_var 6) se_int)))
  (sss_cons (ss_if (st_cmp od_lt (se_var 5) se_int) (sss_one ss_break) sss_nil)
  (sss_cons (ss_set 7 nd (se_ifExp (st_cmp (od_eq hu) (se_var 6) (se_callB cd_lenA b_len PySem.boot_len (sa_cons (se_var 0) sa_nil))) se_int (se_op od_addA (se_op od_mul (se_var 5) (se_var 5)) (se_ix (se_ix (se_var 3) (se_var 6)) se_int))))
  (sss_one (ss_app 4 (se_tup (sa_cons (se_var 7) (sa_cons (se_neg (se_var 6)) sa_nil)))))))))
  (sss_one (ss_retV 4)))))
theorem sc__law_cell : FnScope ["_law_script", "_law_k"] ["_law_script", "_law_k"] (defScope s__law_cell) := ⟨rfl, rfl, rfl, by decide +kernel, rfl, by decide +kernel, by decide +kernel⟩
theorem ok__law_cell {f : Addr} {fd : FuncData} (F : Fun K "_law_cell" "_law_cell" s__law_cell f fd)
    (b_len : mg "len" = none) :
    FnOk P w K mg base CX0 1 f fd ["_law_script", "_law_k"] (spD ⟨P, w, K⟩ D__law_cell 2) := by
  refine fnD (N := ["_law_script", "_law_k"]) F sc__law_cell (fun cdv A outer s H F0 hr => ?_)
  have nd := sc__law_cell.nd
  have hu := hu10 hr
  exact (sss_cons (ss_if (st_cmp od_lt (se_var 1) (se_callB cd_lenA b_len PySem.boot_len (sa_cons (se_var 0) sa_nil))) (sss_one (ss_ret (se_ix (se_var 0) (se_var 1)))) sss_nil)
  (sss_one (ss_ret se_int)))
theorem sc__law_mix : FnScope ["_law_cell_here", "_law_prime", "_law_many"] ["_law_cell_here", "_law_prime", "_law_many"] (defScope s__law_mix) := ⟨rfl, rfl, rfl, by decide +kernel, rfl, by decide +kernel, by decide +kernel⟩
theorem ok__law_mix {f : Addr} {fd : FuncData} (F : Fun K "_law_mix" "_law_mix" s__law_mix f fd) :
    FnOk P w K mg base CX0 1 f fd ["_law_cell_here", "_law_prime", "_law_many"] (spD ⟨P, w, K⟩ D__law_mix 3) := by
  refine fnD (N := ["_law_cell_here", "_law_prime", "_law_many"]) F sc__law_mix (fun cdv A outer s H F0 hr => ?_)
  have nd := sc__law_mix.nd
  have hu := hu10 hr
  exact (sss_one (ss_ret (se_op od_mod (se_op od_mod (se_op od_mul (se_var 0) se_int) (se_var 1)) (se_var 2))))
theorem sc__law_whole : FnScope ["_law_found"] ["_law_found"] (defScope s__law_whole) := ⟨rfl, rfl, rfl, by decide +kernel, rfl, by decide +kernel, by decide +kernel⟩
theorem ok__law_whole {f : Addr} {fd : FuncData} (F : Fun K "_law_whole" "_law_whole" s__law_whole f fd)
    (b_isinstance : mg "isinstance" = none)
    (b_int : mg "int" = none)
    (b_bool : mg "bool" = none) :
    FnOk P w K mg base CX0 1 f fd ["_law_found"] (spD ⟨P, w, K⟩ D__law_whole 1) := by
  refine fnD (N := ["_law_found"]) F sc__law_whole (fun cdv A outer s H F0 hr => ?_)
  have nd := sc__law_whole.nd
  have hu := hu10 hr
  exact (sss_one (ss_ret (se_and (se_isi .int (se_var 0) b_isinstance b_int) (se_one (se_not (se_isi .bool (se_var 0) b_isinstance b_bool))))))
theorem sc__law_wide_at : FnScope ["_law_widths_here", "_law_room_here", "_law_at", "_law_one"] ["_law_widths_here", "_law_room_here"] (defScope s__law_wide_at) := ⟨rfl, rfl, rfl, by decide +kernel, rfl, by decide +kernel, by decide +kernel⟩
theorem ok__law_wide_at {f : Addr} {fd : FuncData} (F : Fun K "_law_wide_at" "_law_wide_at" s__law_wide_at f fd)
    (b_enumerate : mg "enumerate" = none) :
    FnOk P w K mg base CX0 1 f fd ["_law_widths_here", "_law_room_here"] (spD ⟨P, w, K⟩ D__law_wide_at 2) := by
  refine fnD (N := ["_law_widths_here", "_law_room_here", "_law_at", "_law_one"]) F sc__law_wide_at (fun cdv A outer s H F0 hr => ?_)
  have nd := sc__law_wide_at.nd
  have hu := hu10 hr
  exact (sss_cons (ss_for PassesOwn.never rfl (si_enum 0 b_enumerate) (sg_tup rfl (sgs_cons 2 nd (sgs_cons 3 nd sgs_nil))) (sss_one (ss_if (st_cmp od_gt (se_var 3) (se_var 1)) (sss_one (ss_retV 2)) sss_nil)))
  (sss_one (ss_ret se_non)))
theorem sc__law_price : FnScope ["_law_widths_here", "_law_room_here", "_law_found", "_law_first", "_law_some", "_law_left", "_law_at"] ["_law_widths_here", "_law_room_here", "_law_found", "_law_first"] (defScope s__law_price) := ⟨rfl, rfl, rfl, by decide +kernel, rfl, by decide +kernel, by decide +kernel⟩
theorem ok__law_price {f : Addr} {fd : FuncData} (F : Fun K "_law_price" "_law_price" s__law_price f fd)
    (b_range : mg "range" = none)
    (b_len : mg "len" = none)
    (b_min : mg "min" = none) :
    FnOk P w K mg base CX0 1 f fd ["_law_widths_here", "_law_room_here", "_law_found", "_law_first"] (spD ⟨P, w, K⟩ D__law_price 4) := by
  refine fnD (N := ["_law_widths_here", "_law_room_here", "_law_found", "_law_first", "_law_some", "_law_left", "_law_at"]) F sc__law_price (fun cdv A outer s H F0 hr => ?_)
  have nd := sc__law_price.nd
  have hu := hu10 hr
  exact (sss_cons (ss_set 4 nd (se_lst sa_nil))
  (sss_cons (ss_set 5 nd (se_var 1))
  (sss_cons (ss_for PassesOwn.never rfl (si_range2 (se_var 3) (se_callB cd_lenA b_len PySem.boot_len (sa_cons (se_var 0) sa_nil)) b_range) (sg_name 6 nd) (sss_cons (ss_set 5 nd (se_op od_sub (se_var 5) (se_ix (se_var 0) (se_var 6))))
  (sss_cons (ss_if (st_cmp od_lt (se_var 5) se_int) (sss_one ss_break) sss_nil)
  (sss_one (ss_if (st_cmp (od_eq hu) (se_op od_addA (se_var 6) se_int) (se_callB cd_lenA b_len PySem.boot_len (sa_cons (se_var 0) sa_nil))) (sss_one (ss_app 4 se_int)) (sss_one (ss_app 4 (se_op od_addA (se_op od_mul (se_var 5) (se_var 5)) (se_ix (se_var 2) (se_op od_addA (se_var 6) se_int))))))))))
  (sss_one (ss_ret (se_callB (cd_minL rfl) b_min PyProof.Rows.boot_min (sa_cons (se_var 4) sa_nil)))))))
theorem sc__law_large : FnScope ["_law_script"] ["_law_script"] (defScope s__law_large) := ⟨rfl, rfl, rfl, by decide +kernel, rfl, by decide +kernel, by decide +kernel⟩
theorem ok__law_large {f : Addr} {fd : FuncData} (F : Fun K "_law_large" "_law_large" s__law_large f fd)
    {f__law_cell : Addr} {fd__law_cell : FuncData} (G__law_cell : FnOk P w K mg base CX0 1 f__law_cell fd__law_cell ["_law_script", "_law_k"] (spD ⟨P, w, K⟩ D__law_cell 2)) (m__law_cell : mg "_law_cell" = some (.ref f__law_cell)) (k__law_cell : PySem.W.keepIn K (.ref f__law_cell) = true) (b__law_cell : Binds K fd__law_cell ["_law_script", "_law_k"] [])
    {f__law_mix : Addr} {fd__law_mix : FuncData} (G__law_mix : FnOk P w K mg base CX0 1 f__law_mix fd__law_mix ["_law_cell_here", "_law_prime", "_law_many"] (spD ⟨P, w, K⟩ D__law_mix 3)) (m__law_mix : mg "_law_mix" = some (.ref f__law_mix)) (k__law_mix : PySem.W.keepIn K (.ref f__law_mix) = true) (b__law_mix : Binds K fd__law_mix ["_law_cell_here", "_law_prime", "_law_many"] [])
    (b_len : mg "len" = none) :
    FnOk P w K mg base CX0 2 f fd ["_law_script"] (spD ⟨P, w, K⟩ D__law_large 1) := by
  refine fnD (N := ["_law_script"]) F sc__law_large (fun cdv A outer s H F0 hr => ?_)
  have nd := sc__law_large.nd
  have hu := hu10 hr
  exact (sss_one (ss_ret (se_cmp (od_eq hu) (se_call G__law_mix (hr.mono (by decide)) m__law_mix k__law_mix b__law_mix (sa_cons (se_op od_addA (se_call G__law_cell (hr.mono (by decide)) m__law_cell k__law_cell b__law_cell (sa_cons (se_var 0) (sa_cons se_int sa_nil))) (se_op od_mul se_int (se_callB cd_lenA b_len PySem.boot_len (sa_cons (se_var 0) sa_nil)))) (sa_cons se_int (sa_cons se_int sa_nil)))) se_int)))
theorem sc__law_room : FnScope ["_law_script"] ["_law_script"] (defScope s__law_room) := ⟨rfl, rfl, rfl, by decide +kernel, rfl, by decide +kernel, by decide +kernel⟩
theorem ok__law_room {f : Addr} {fd : FuncData} (F : Fun K "_law_room" "_law_room" s__law_room f fd)
    {f__law_cell : Addr} {fd__law_cell : FuncData} (G__law_cell : FnOk P w K mg base CX0 1 f__law_cell fd__law_cell ["_law_script", "_law_k"] (spD ⟨P, w, K⟩ D__law_cell 2)) (m__law_cell : mg "_law_cell" = some (.ref f__law_cell)) (k__law_cell : PySem.W.keepIn K (.ref f__law_cell) = true) (b__law_cell : Binds K fd__law_cell ["_law_script", "_law_k"] [])
    {f__law_mix : Addr} {fd__law_mix : FuncData} (G__law_mix : FnOk P w K mg base CX0 1 f__law_mix fd__law_mix ["_law_cell_here", "_law_prime", "_law_many"] (spD ⟨P, w, K⟩ D__law_mix 3)) (m__law_mix : mg "_law_mix" = some (.ref f__law_mix)) (k__law_mix : PySem.W.keepIn K (.ref f__law_mix) = true) (b__law_mix : Binds K fd__law_mix ["_law_cell_here", "_law_prime", "_law_many"] []) :
    FnOk P w K mg base CX0 2 f fd ["_law_script"] (spD ⟨P, w, K⟩ D__law_room 1) := by
  refine fnD (N := ["_law_script"]) F sc__law_room (fun cdv A outer s H F0 hr => ?_)
  have nd := sc__law_room.nd
  have hu := hu10 hr
  exact (sss_cons (ss_if (st_cmp (od_eq hu) (se_op od_mod (se_call G__law_cell (hr.mono (by decide)) m__law_cell k__law_cell b__law_cell (sa_cons (se_var 0) (sa_cons se_int sa_nil))) se_int) se_int) (sss_one (ss_ret (se_op od_addA se_int (se_call G__law_mix (hr.mono (by decide)) m__law_mix k__law_mix b__law_mix (sa_cons (se_call G__law_cell (hr.mono (by decide)) m__law_cell k__law_cell b__law_cell (sa_cons (se_var 0) (sa_cons se_int sa_nil))) (sa_cons se_int (sa_cons se_int sa_nil))))))) sss_nil)
  (sss_cons (ss_if (st_cmp (od_eq hu) (se_op od_mod (se_call G__law_cell (hr.mono (by decide)) m__law_cell k__law_cell b__law_cell (sa_cons (se_var 0) (sa_cons se_int sa_nil))) se_int) se_int) (sss_one (ss_ret (se_op od_addA se_int (se_op od_mul se_int (se_call G__law_mix (hr.mono (by decide)) m__law_mix k__law_mix b__law_mix (sa_cons (se_call G__law_cell (hr.mono (by decide)) m__law_cell k__law_cell b__law_cell (sa_cons (se_var 0) (sa_cons se_int sa_nil))) (sa_cons se_int (sa_cons se_int sa_nil)))))))) sss_nil)
  (sss_one (ss_ret (se_op od_addA se_int (se_call G__law_mix (hr.mono (by decide)) m__law_mix k__law_mix b__law_mix (sa_cons (se_call G__law_cell (hr.mono (by decide)) m__law_cell k__law_cell b__law_cell (sa_cons (se_var 0) (sa_cons se_int sa_nil))) (sa_cons se_int (sa_cons se_int sa_nil)))))))))
theorem sc_refuse_too_wide : FnScope ["widths", "room", "bar", "wide"] ["widths", "room"] (defScope s_refuse_too_wide) := ⟨rfl, rfl, rfl, by decide +kernel, rfl, by decide +kernel, by decide +kernel⟩
theorem ok_refuse_too_wide {f : Addr} {fd : FuncData} (F : Fun K "refuse_too_wide" "refuse_too_wide" s_refuse_too_wide f fd)
    {C_TooWide : Addr} (mc_TooWide : mg "TooWide" = some (.ref C_TooWide))
    (g_TooWide : XCls K C_TooWide)
    {fi_TooWide : Addr} {fdi_TooWide : FuncData} (j_TooWide : XIni K C_TooWide fi_TooWide "TooWide.__init__" s_TooWide fdi_TooWide)
    (b_enumerate : mg "enumerate" = none) :
    FnOk P w K mg base (CX1 P w mg) 3 f fd ["widths", "room"] (spX ⟨P, w, K⟩ D_refuse_too_wide 2) := by
  refine fnX (N := ["widths", "room", "bar", "wide"]) F sc_refuse_too_wide (fun cdv A outer s H F0 E hr => ?_)
  have nd := sc_refuse_too_wide.nd
  have hu := hu10 hr
  exact (sss_one (ss_for PassesOwn.leaving rfl (si_enum 0 b_enumerate) (sg_tup rfl (sgs_cons 2 nd (sgs_cons 3 nd sgs_nil))) (sss_one (ss_if (st_cmp od_gt (se_var 3) (se_var 1)) (sss_one (ss_raiseA (k := 0) g_TooWide j_TooWide (hr.mono (by decide)) mc_TooWide (se_var 2))) sss_nil))))
theorem sc__law_widths : FnScope ["_law_script", "_law_most"] ["_law_script"] (defScope s__law_widths) := ⟨rfl, rfl, rfl, by decide +kernel, rfl, by decide +kernel, by decide +kernel⟩
theorem ok__law_widths {f : Addr} {fd : FuncData} (F : Fun K "_law_widths" "_law_widths" s__law_widths f fd)
    {f__law_large : Addr} {fd__law_large : FuncData} (G__law_large : FnOk P w K mg base CX0 2 f__law_large fd__law_large ["_law_script"] (spD ⟨P, w, K⟩ D__law_large 1)) (m__law_large : mg "_law_large" = some (.ref f__law_large)) (k__law_large : PySem.W.keepIn K (.ref f__law_large) = true) (b__law_large : Binds K fd__law_large ["_law_script"] [])
    {f__law_cell : Addr} {fd__law_cell : FuncData} (G__law_cell : FnOk P w K mg base CX0 1 f__law_cell fd__law_cell ["_law_script", "_law_k"] (spD ⟨P, w, K⟩ D__law_cell 2)) (m__law_cell : mg "_law_cell" = some (.ref f__law_cell)) (k__law_cell : PySem.W.keepIn K (.ref f__law_cell) = true) (b__law_cell : Binds K fd__law_cell ["_law_script", "_law_k"] [])
    {f__law_mix : Addr} {fd__law_mix : FuncData} (G__law_mix : FnOk P w K mg base CX0 1 f__law_mix fd__law_mix ["_law_cell_here", "_law_prime", "_law_many"] (spD ⟨P, w, K⟩ D__law_mix 3)) (m__law_mix : mg "_law_mix" = some (.ref f__law_mix)) (k__law_mix : PySem.W.keepIn K (.ref f__law_mix) = true) (b__law_mix : Binds K fd__law_mix ["_law_cell_here", "_law_prime", "_law_many"] [])
    (b_len : mg "len" = none) :
    FnOk P w K mg base CX0 3 f fd ["_law_script"] (spD ⟨P, w, K⟩ D__law_widths 1) := by
  refine fnD (N := ["_law_script", "_law_most"]) F sc__law_widths (fun cdv A outer s H F0 hr => ?_)
  have nd := sc__law_widths.nd
  have hu := hu10 hr
  have nd1 : (["_law_script", "_law_most", "_law_cell_here"] : List Str).Nodup := by decide +kernel
  exact (sss_cons (ss_set 1 nd se_int)
  (sss_cons (ss_if (st_val (se_call G__law_large (hr.mono (by decide)) m__law_large k__law_large b__law_large (sa_cons (se_var 0) sa_nil))) (sss_one (ss_set 1 nd se_int)) sss_nil)
  (sss_cons (ss_if (st_cmp od_gt (se_callB cd_lenA b_len PySem.boot_len (sa_cons (se_var 0) sa_nil)) se_int) (sss_one (ss_set 1 nd se_int)) sss_nil)
  (sss_cons (ss_if (st_cmp (od_eq hu) (se_op od_mod (se_call G__law_cell (hr.mono (by decide)) m__law_cell k__law_cell b__law_cell (sa_cons (se_var 0) (sa_cons se_int sa_nil))) se_int) se_int) (sss_one (ss_ret (se_comp (n := 1) ["_law_script", "_law_most", "_law_cell_here"] (SI.c (si_seq (se_slice (se_var 0) (so_some se_int) (so_some (se_op od_addA se_int (se_var 1)))))) (no_gV 2) (fun _ _ _ _ _ => (sg_name 2 nd1)) (fun _ _ _ _ _ => .nil) (fun _ _ _ _ _ => (se_op od_addA se_int (se_op od_mul se_int (se_call G__law_mix (hr.mono (by decide)) m__law_mix k__law_mix b__law_mix (sa_cons (se_var 2) (sa_cons se_int (sa_cons se_int sa_nil)))))))))) sss_nil)
  (sss_one (ss_ret (se_comp (n := 1) ["_law_script", "_law_most", "_law_cell_here"] (SI.c (si_seq (se_slice (se_var 0) (so_some se_int) (so_some (se_op od_addA se_int (se_var 1)))))) (no_gV 2) (fun _ _ _ _ _ => (sg_name 2 nd1)) (fun _ _ _ _ _ => .nil) (fun _ _ _ _ _ => (se_op od_addA se_int (se_call G__law_mix (hr.mono (by decide)) m__law_mix k__law_mix b__law_mix (sa_cons (se_var 2) (sa_cons se_int (sa_cons se_int sa_nil)))))))))))))
theorem sc_best_lines : FnScope ["widths", "room", "best", "first"] ["widths", "room"] (defScope s_best_lines) := ⟨rfl, rfl, rfl, by decide +kernel, rfl, by decide +kernel, by decide +kernel⟩
theorem ok_best_lines {f : Addr} {fd : FuncData} (F : Fun K "best_lines" "best_lines" s_best_lines f fd)
    {C_BadRoom : Addr} (mc_BadRoom : mg "BadRoom" = some (.ref C_BadRoom))
    (g_BadRoom : XCls K C_BadRoom)
    (i0_BadRoom : PySem.W.findIn K (.ref C_BadRoom) "__init__" = some (some (.builtin "ValueError.__init__")))
    {f_is_whole : Addr} {fd_is_whole : FuncData} (G_is_whole : FnOk P w K mg base CX0 1 f_is_whole fd_is_whole ["thing"] (spD ⟨P, w, K⟩ D_is_whole 1)) (m_is_whole : mg "is_whole" = some (.ref f_is_whole)) (k_is_whole : PySem.W.keepIn K (.ref f_is_whole) = true) (b_is_whole : Binds K fd_is_whole ["thing"] [])
    {f_refuse_too_wide : Addr} {fd_refuse_too_wide : FuncData} (G_refuse_too_wide : FnOk P w K mg base (CX1 P w mg) 3 f_refuse_too_wide fd_refuse_too_wide ["widths", "room"] (spX ⟨P, w, K⟩ D_refuse_too_wide 2)) (m_refuse_too_wide : mg "refuse_too_wide" = some (.ref f_refuse_too_wide)) (k_refuse_too_wide : PySem.W.keepIn K (.ref f_refuse_too_wide) = true) (b_refuse_too_wide : Binds K fd_refuse_too_wide ["widths", "room"] [])
    {f_line_choices : Addr} {fd_line_choices : FuncData} (G_line_choices : FnOk P w K mg base CX0 1 f_line_choices fd_line_choices ["widths", "room", "first", "best"] (spD ⟨P, w, K⟩ D_line_choices 4)) (m_line_choices : mg "line_choices" = some (.ref f_line_choices)) (k_line_choices : PySem.W.keepIn K (.ref f_line_choices) = true) (b_line_choices : Binds K fd_line_choices ["widths", "room", "first", "best"] [])
    (b_len : mg "len" = none)
    (b_range : mg "range" = none)
    (b_min : mg "min" = none) :
    FnOk P w K mg base (CX1 P w mg) 4 f fd ["widths", "room"] (spX ⟨P, w, K⟩ D_best_lines 2) := by
  refine fnX (N := ["widths", "room", "best", "first"]) F sc_best_lines (fun cdv A outer s H F0 E hr => ?_)
  have nd := sc_best_lines.nd
  have hu := hu10 hr
  exact (sss_cons (ss_if (st_not (st_val (se_call G_is_whole (hr.mono (by decide)) m_is_whole k_is_whole b_is_whole (sa_cons (se_var 1) sa_nil)))) (sss_one (ss_raise0 (k := 0) g_BadRoom i0_BadRoom (hr.mono (by decide)) mc_BadRoom se_str)) sss_nil)
  (sss_cons (ss_callX G_refuse_too_wide (hr.mono (by decide)) m_refuse_too_wide k_refuse_too_wide b_refuse_too_wide (sa_cons (se_var 0) (sa_cons (se_var 1) sa_nil)))
  (sss_cons (ss_set 2 nd (se_op od_mulA (se_lst (sa_cons (se_tup (sa_cons se_int (sa_cons se_int sa_nil))) sa_nil)) (se_callB cd_lenA b_len PySem.boot_len (sa_cons (se_var 0) sa_nil))))
  (sss_cons (ss_for PassesOwn.leaving rfl (si_range3d (se_op od_sub (se_callB cd_lenA b_len PySem.boot_len (sa_cons (se_var 0) sa_nil)) se_int) (se_neg se_int) (se_neg se_int) b_range) (sg_name 3 nd) (sss_one (ss_setI 2 (se_var 3) (se_callB (cd_minT hu rfl) b_min PyProof.Rows.boot_min (sa_cons (se_call G_line_choices (hr.mono (by decide)) m_line_choices k_line_choices b_line_choices (sa_cons (se_var 0) (sa_cons (se_var 1) (sa_cons (se_var 3) (sa_cons (se_var 2) sa_nil))))) sa_nil)))))
  (sss_one (ss_retV 2))))))
theorem sc_line_prices : FnScope ["widths", "room"] ["widths", "room"] (defScope s_line_prices) := ⟨rfl, rfl, rfl, by decide +kernel, rfl, by decide +kernel, by decide +kernel⟩
theorem ok_line_prices {f : Addr} {fd : FuncData} (F : Fun K "line_prices" "line_prices" s_line_prices f fd)
    {f_best_lines : Addr} {fd_best_lines : FuncData} (G_best_lines : FnOk P w K mg base (CX1 P w mg) 4 f_best_lines fd_best_lines ["widths", "room"] (spX ⟨P, w, K⟩ D_best_lines 2)) (m_best_lines : mg "best_lines" = some (.ref f_best_lines)) (k_best_lines : PySem.W.keepIn K (.ref f_best_lines) = true) (b_best_lines : Binds K fd_best_lines ["widths", "room"] []) :
    FnOk P w K mg base (CX1 P w mg) 5 f fd ["widths", "room"] (spX ⟨P, w, K⟩ D_line_prices 2) := by
  refine fnX (N := ["widths", "room"]) F sc_line_prices (fun cdv A outer s H F0 E hr => ?_)
  have nd := sc_line_prices.nd
  have hu := hu10 hr
  have nd1 : (["widths", "room", "line"] : List Str).Nodup := by decide +kernel
  exact (sss_one (ss_xret (ss_ret (se_comp (n := 1) ["widths", "room", "line"] (SI.c (si_seq (se_call (calm G_best_lines) (hr.mono (by decide)) m_best_lines k_best_lines b_best_lines (sa_cons (se_var 0) (sa_cons (se_var 1) sa_nil))))) (no_gV 2) (fun _ _ _ _ _ => (sg_name 2 nd1)) (fun _ _ _ _ _ => .nil) (fun _ _ _ _ _ => (se_ix (se_var 2) se_int)))) (rx_comp (rx_call G_best_lines (hr.mono (by decide)) m_best_lines k_best_lines b_best_lines (sa_cons (se_var 0) (sa_cons (se_var 1) sa_nil))))))
theorem sc_firsts : FnScope ["widths", "room", "best", "row", "first"] ["widths", "room"] (defScope s_firsts) := ⟨rfl, rfl, rfl, by decide +kernel, rfl, by decide +kernel, by decide +kernel⟩
theorem ok_firsts {f : Addr} {fd : FuncData} (F : Fun K "firsts" "firsts" s_firsts f fd)
    {f_best_lines : Addr} {fd_best_lines : FuncData} (G_best_lines : FnOk P w K mg base (CX1 P w mg) 4 f_best_lines fd_best_lines ["widths", "room"] (spX ⟨P, w, K⟩ D_best_lines 2)) (m_best_lines : mg "best_lines" = some (.ref f_best_lines)) (k_best_lines : PySem.W.keepIn K (.ref f_best_lines) = true) (b_best_lines : Binds K fd_best_lines ["widths", "room"] [])
    (b_len : mg "len" = none) :
    FnOk P w K mg base (CX1 P w mg) 5 f fd ["widths", "room"] (spX ⟨P, w, K⟩ D_firsts 2) := by
  refine fnX (N := ["widths", "room", "best", "row", "first"]) F sc_firsts (fun cdv A outer s H F0 E hr => ?_)
  have nd := sc_firsts.nd
  have hu := hu10 hr
  exact (sss_cons (ss_xset (ss_set 2 nd (se_call (calm G_best_lines) (hr.mono (by decide)) m_best_lines k_best_lines b_best_lines (sa_cons (se_var 0) (sa_cons (se_var 1) sa_nil)))) (rx_call G_best_lines (hr.mono (by decide)) m_best_lines k_best_lines b_best_lines (sa_cons (se_var 0) (sa_cons (se_var 1) sa_nil))))
  (sss_cons (ss_set 3 nd (se_lst sa_nil))
  (sss_cons (ss_set 4 nd se_int)
  (sss_cons (ss_while 65 PassesOwn.leaving (st_cmp od_lt (se_var 4) (se_callB cd_lenA b_len PySem.boot_len (sa_cons (se_var 0) sa_nil))) (sss_cons (ss_app 3 (se_var 4))
  (sss_one (ss_set 4 nd (se_neg (se_ix (se_ix (se_var 2) (se_var 4)) se_int))))))
  (sss_one (ss_retV 3))))))
theorem sc__law_refused : FnScope ["_law_widths_here", "_law_room_here", "_law_way", "e"] ["_law_widths_here", "_law_room_here", "_law_way"] (defScope s__law_refused) := ⟨rfl, rfl, rfl, by decide +kernel, rfl, by decide +kernel, by decide +kernel⟩
theorem ok__law_refused {f : Addr} {fd : FuncData} (F : Fun K "_law_refused" "_law_refused" s__law_refused f fd)
    {C_TooWide : Addr} (mc_TooWide : mg "TooWide" = some (.ref C_TooWide))
    (q_TooWide : clsX K C_TooWide = true)
    (g_TooWide : XCls K C_TooWide)
    (r_TooWide : XGet K C_TooWide)
    (mr_TooWide_TooWide : PySem.W.mroIn K C_TooWide (.ref C_TooWide) = some true)
    {f_line_prices : Addr} {fd_line_prices : FuncData} (G_line_prices : FnOk P w K mg base (CX1 P w mg) 5 f_line_prices fd_line_prices ["widths", "room"] (spX ⟨P, w, K⟩ D_line_prices 2)) (m_line_prices : mg "line_prices" = some (.ref f_line_prices)) (k_line_prices : PySem.W.keepIn K (.ref f_line_prices) = true) (b_line_prices : Binds K fd_line_prices ["widths", "room"] [])
    {f_firsts : Addr} {fd_firsts : FuncData} (G_firsts : FnOk P w K mg base (CX1 P w mg) 5 f_firsts fd_firsts ["widths", "room"] (spX ⟨P, w, K⟩ D_firsts 2)) (m_firsts : mg "firsts" = some (.ref f_firsts)) (k_firsts : PySem.W.keepIn K (.ref f_firsts) = true) (b_firsts : Binds K fd_firsts ["widths", "room"] []) :
    FnOk P w K mg base CX0 6 f fd ["_law_widths_here", "_law_room_here", "_law_way"] (spD ⟨P, w, K⟩ D__law_refused 3) := by
  refine fnD (N := ["_law_widths_here", "_law_room_here", "_law_way", "e"]) F sc__law_refused (fun cdv A outer s H F0 hr => ?_)
  have nd := sc__law_refused.nd
  have hu := hu10 hr
  exact (sss_cons (ss_try rfl rfl (fun _ _ => (sss_one (ss_if (st_val (se_var 2)) (sss_one (ss_callX G_line_prices (hr.mono (by decide)) m_line_prices k_line_prices b_line_prices (sa_cons (se_var 0) (sa_cons (se_var 1) sa_nil)))) (sss_one (ss_callX G_firsts (hr.mono (by decide)) m_firsts k_firsts b_firsts (sa_cons (se_var 0) (sa_cons (se_var 1) sa_nil))))))) (hd_as (i := 3) mc_TooWide q_TooWide (caught1 mc_TooWide g_TooWide.cl mr_TooWide_TooWide) rfl nd rfl rfl (st_at (gets1 mc_TooWide r_TooWide) rfl rfl)))
  (sss_one (ss_ret (se_tup (sa_cons se_bl (sa_cons se_non sa_nil))))))
theorem sc__law_by_base : FnScope ["_law_widths_here", "_law_room_here", "e"] ["_law_widths_here", "_law_room_here"] (defScope s__law_by_base) := ⟨rfl, rfl, rfl, by decide +kernel, rfl, by decide +kernel, by decide +kernel⟩
theorem ok__law_by_base {f : Addr} {fd : FuncData} (F : Fun K "_law_by_base" "_law_by_base" s__law_by_base f fd)
    {C_StaveError : Addr} (mc_StaveError : mg "StaveError" = some (.ref C_StaveError))
    (q_StaveError : clsX K C_StaveError = true)
    {C_TooWide : Addr} (mc_TooWide : mg "TooWide" = some (.ref C_TooWide))
    (g_TooWide : XCls K C_TooWide)
    (v_TooWide : PySem.W.kitCls K (.ref C_TooWide) (.type "ValueError") = some true)
    (mr_TooWide_StaveError : PySem.W.mroIn K C_TooWide (.ref C_StaveError) = some true)
    {f_line_prices : Addr} {fd_line_prices : FuncData} (G_line_prices : FnOk P w K mg base (CX1 P w mg) 5 f_line_prices fd_line_prices ["widths", "room"] (spX ⟨P, w, K⟩ D_line_prices 2)) (m_line_prices : mg "line_prices" = some (.ref f_line_prices)) (k_line_prices : PySem.W.keepIn K (.ref f_line_prices) = true) (b_line_prices : Binds K fd_line_prices ["widths", "room"] [])
    (b_isinstance : mg "isinstance" = none)
    (b_ValueError : mg "ValueError" = none) :
    FnOk P w K mg base CX0 6 f fd ["_law_widths_here", "_law_room_here"] (spD ⟨P, w, K⟩ D__law_by_base 2) := by
  refine fnD (N := ["_law_widths_here", "_law_room_here", "e"]) F sc__law_by_base (fun cdv A outer s H F0 hr => ?_)
  have nd := sc__law_by_base.nd
  have hu := hu10 hr
  exact (sss_cons (ss_try rfl rfl (fun _ _ => (sss_one (ss_callX G_line_prices (hr.mono (by decide)) m_line_prices k_line_prices b_line_prices (sa_cons (se_var 0) (sa_cons (se_var 1) sa_nil))))) (hd_as (i := 2) mc_StaveError q_StaveError (caught1 mc_TooWide g_TooWide.cl mr_TooWide_StaveError) rfl nd rfl rfl (st_isi (T := "ValueError") (kits1 mc_TooWide v_TooWide) rfl rfl b_isinstance b_ValueError (by decide +kernel))))
  (sss_one (ss_ret se_bl)))
theorem sc_law : FnScope ["_law_script", "_law_widths_here", "_law_room_here", "_law_at", "_law_way", "_law_refused_here", "_law_told", "_law_kept", "_law_found", "_law_first"] ["_law_script"] (defScope s_law) := ⟨rfl, rfl, rfl, by decide +kernel, rfl, by decide +kernel, by decide +kernel⟩
theorem ok_law {f : Addr} {fd : FuncData} (F : Fun K "law" "law" s_law f fd)
    {f__law_widths : Addr} {fd__law_widths : FuncData} (G__law_widths : FnOk P w K mg base CX0 3 f__law_widths fd__law_widths ["_law_script"] (spD ⟨P, w, K⟩ D__law_widths 1)) (m__law_widths : mg "_law_widths" = some (.ref f__law_widths)) (k__law_widths : PySem.W.keepIn K (.ref f__law_widths) = true) (b__law_widths : Binds K fd__law_widths ["_law_script"] [])
    {f__law_room : Addr} {fd__law_room : FuncData} (G__law_room : FnOk P w K mg base CX0 2 f__law_room fd__law_room ["_law_script"] (spD ⟨P, w, K⟩ D__law_room 1)) (m__law_room : mg "_law_room" = some (.ref f__law_room)) (k__law_room : PySem.W.keepIn K (.ref f__law_room) = true) (b__law_room : Binds K fd__law_room ["_law_script"] [])
    {f__law_wide_at : Addr} {fd__law_wide_at : FuncData} (G__law_wide_at : FnOk P w K mg base CX0 1 f__law_wide_at fd__law_wide_at ["_law_widths_here", "_law_room_here"] (spD ⟨P, w, K⟩ D__law_wide_at 2)) (m__law_wide_at : mg "_law_wide_at" = some (.ref f__law_wide_at)) (k__law_wide_at : PySem.W.keepIn K (.ref f__law_wide_at) = true) (b__law_wide_at : Binds K fd__law_wide_at ["_law_widths_here", "_law_room_here"] [])
    {f__law_refused : Addr} {fd__law_refused : FuncData} (G__law_refused : FnOk P w K mg base CX0 6 f__law_refused fd__law_refused ["_law_widths_here", "_law_room_here", "_law_way"] (spD ⟨P, w, K⟩ D__law_refused 3)) (m__law_refused : mg "_law_refused" = some (.ref f__law_refused)) (k__law_refused : PySem.W.keepIn K (.ref f__law_refused) = true) (b__law_refused : Binds K fd__law_refused ["_law_widths_here", "_law_room_here", "_law_way"] [])
    {f__law_whole : Addr} {fd__law_whole : FuncData} (G__law_whole : FnOk P w K mg base CX0 1 f__law_whole fd__law_whole ["_law_found"] (spD ⟨P, w, K⟩ D__law_whole 1)) (m__law_whole : mg "_law_whole" = some (.ref f__law_whole)) (k__law_whole : PySem.W.keepIn K (.ref f__law_whole) = true) (b__law_whole : Binds K fd__law_whole ["_law_found"] [])
    {f__law_by_base : Addr} {fd__law_by_base : FuncData} (G__law_by_base : FnOk P w K mg base CX0 6 f__law_by_base fd__law_by_base ["_law_widths_here", "_law_room_here"] (spD ⟨P, w, K⟩ D__law_by_base 2)) (m__law_by_base : mg "_law_by_base" = some (.ref f__law_by_base)) (k__law_by_base : PySem.W.keepIn K (.ref f__law_by_base) = true) (b__law_by_base : Binds K fd__law_by_base ["_law_widths_here", "_law_room_here"] [])
    {f_line_prices : Addr} {fd_line_prices : FuncData} (G_line_prices : FnOk P w K mg base (CX1 P w mg) 5 f_line_prices fd_line_prices ["widths", "room"] (spX ⟨P, w, K⟩ D_line_prices 2)) (m_line_prices : mg "line_prices" = some (.ref f_line_prices)) (k_line_prices : PySem.W.keepIn K (.ref f_line_prices) = true) (b_line_prices : Binds K fd_line_prices ["widths", "room"] [])
    {f__law_price : Addr} {fd__law_price : FuncData} (G__law_price : FnOk P w K mg base CX0 1 f__law_price fd__law_price ["_law_widths_here", "_law_room_here", "_law_found", "_law_first"] (spD ⟨P, w, K⟩ D__law_price 4)) (m__law_price : mg "_law_price" = some (.ref f__law_price)) (k__law_price : PySem.W.keepIn K (.ref f__law_price) = true) (b__law_price : Binds K fd__law_price ["_law_widths_here", "_law_room_here", "_law_found", "_law_first"] [])
    (b_list : mg "list" = none)
    (b_isinstance : mg "isinstance" = none)
    (b_len : mg "len" = none)
    (b_range : mg "range" = none) :
    FnOk P w K mg base CX0 7 f fd ["_law_script"] (spD ⟨P, w, K⟩ D_law 1) := by
  refine fnD (N := ["_law_script", "_law_widths_here", "_law_room_here", "_law_at", "_law_way", "_law_refused_here", "_law_told", "_law_kept", "_law_found", "_law_first"]) F sc_law (fun cdv A outer s H F0 hr => ?_)
  have nd := sc_law.nd
  have hu := hu10 hr
  exact (sss_cons (ss_set 1 nd (se_call G__law_widths (hr.mono (by decide)) m__law_widths k__law_widths b__law_widths (sa_cons (se_var 0) sa_nil)))
  (sss_cons (ss_set 2 nd (se_call G__law_room (hr.mono (by decide)) m__law_room k__law_room b__law_room (sa_cons (se_var 0) sa_nil)))
  (sss_cons (ss_set 3 nd (se_call G__law_wide_at (hr.mono (by decide)) m__law_wide_at k__law_wide_at b__law_wide_at (sa_cons (se_var 1) (sa_cons (se_var 2) sa_nil))))
  (sss_cons (ss_if (st_cmp od_isNotN (se_var 3) se_non) (sss_cons (ss_for PassesOwn.never rfl (si_seq (se_lst (sa_cons se_bl (sa_cons se_bl sa_nil)))) (sg_name 4 nd) (sss_cons (ss_asg (se_call G__law_refused (hr.mono (by decide)) m__law_refused k__law_refused b__law_refused (sa_cons (se_callTy cd_list b_list PyProof.Rows.boot_list (sa_cons (se_var 1) sa_nil)) (sa_cons (se_var 2) (sa_cons (se_var 4) sa_nil)))) (sg_tup rfl (sgs_cons 5 nd (sgs_cons 6 nd sgs_nil))))
  (sss_one (ss_if (st_w (sw_or (st_not (st_val (se_var 5))) (sw_or (st_not (st_val (se_call G__law_whole (hr.mono (by decide)) m__law_whole k__law_whole b__law_whole (sa_cons (se_var 6) sa_nil)))) (sw_or1 (st_cmp (od_ne hu) (se_var 6) (se_var 3)))))) (sss_one (ss_ret se_bl)) sss_nil))))
  (sss_one (ss_ret (se_call G__law_by_base (hr.mono (by decide)) m__law_by_base k__law_by_base b__law_by_base (sa_cons (se_callTy cd_list b_list PyProof.Rows.boot_list (sa_cons (se_var 1) sa_nil)) (sa_cons (se_var 2) sa_nil)))))) sss_nil)
  (sss_cons (ss_set 7 nd (se_callTy cd_list b_list PyProof.Rows.boot_list (sa_cons (se_var 1) sa_nil)))
  (sss_cons (ss_set 8 nd (se_call (calm G_line_prices) (hr.mono (by decide)) m_line_prices k_line_prices b_line_prices (sa_cons (se_var 7) (sa_cons (se_var 2) sa_nil))))
  (sss_cons (ss_if (st_w (sw_or (st_not (st_val (se_isi .list (se_var 8) b_isinstance b_list))) (sw_or (st_cmp (od_ne hu) (se_callB cd_lenA b_len PySem.boot_len (sa_cons (se_var 8) sa_nil)) (se_callB cd_lenA b_len PySem.boot_len (sa_cons (se_var 1) sa_nil))) (sw_or1 (st_cmp (od_ne hu) (se_var 7) (se_var 1)))))) (sss_one (ss_ret se_bl)) sss_nil)
  (sss_cons (ss_for PassesOwn.never rfl (si_range1 (se_callB cd_lenA b_len PySem.boot_len (sa_cons (se_var 1) sa_nil)) b_range) (sg_name 9 nd) (sss_one (ss_if (st_w (sw_or (st_not (st_val (se_call G__law_whole (hr.mono (by decide)) m__law_whole k__law_whole b__law_whole (sa_cons (se_ix (se_var 8) (se_var 9)) sa_nil)))) (sw_or1 (st_cmp (od_ne hu) (se_ix (se_var 8) (se_var 9)) (se_call G__law_price (hr.mono (by decide)) m__law_price k__law_price b__law_price (sa_cons (se_var 1) (sa_cons (se_var 2) (sa_cons (se_var 8) (sa_cons (se_var 9) sa_nil))))))))) (sss_one (ss_ret se_bl)) sss_nil)))
  (sss_one (ss_ret se_bl))))))))))
end
theorem all_mk {l : PySem.W.OpenLaw} {w : World} {K : PySem.W.Frag} {h : Heap} {mg : Str → Option Value} {fa : Addr} (X : K.In h) (G : h.Ns mainGlobals mg) (hfa : mg "law" = some (.ref fa))
    {f_is_whole : Addr} {od_is_whole an_is_whole : Option Addr} {sl_is_whole : Array (Option Value)} {oc_is_whole kV_is_whole dc_is_whole pm_is_whole cd_is_whole ct_is_whole : Value}
    {f_line_choices : Addr} {od_line_choices an_line_choices : Option Addr} {sl_line_choices : Array (Option Value)} {oc_line_choices kV_line_choices dc_line_choices pm_line_choices cd_line_choices ct_line_choices : Value}
    {f__law_cell : Addr} {od__law_cell an__law_cell : Option Addr} {sl__law_cell : Array (Option Value)} {oc__law_cell kV__law_cell dc__law_cell pm__law_cell cd__law_cell ct__law_cell : Value}
    {f__law_mix : Addr} {od__law_mix an__law_mix : Option Addr} {sl__law_mix : Array (Option Value)} {oc__law_mix kV__law_mix dc__law_mix pm__law_mix cd__law_mix ct__law_mix : Value}
    {f__law_whole : Addr} {od__law_whole an__law_whole : Option Addr} {sl__law_whole : Array (Option Value)} {oc__law_whole kV__law_whole dc__law_whole pm__law_whole cd__law_whole ct__law_whole : Value}
    {f__law_wide_at : Addr} {od__law_wide_at an__law_wide_at : Option Addr} {sl__law_wide_at : Array (Option Value)} {oc__law_wide_at kV__law_wide_at dc__law_wide_at pm__law_wide_at cd__law_wide_at ct__law_wide_at : Value}
    {f__law_price : Addr} {od__law_price an__law_price : Option Addr} {sl__law_price : Array (Option Value)} {oc__law_price kV__law_price dc__law_price pm__law_price cd__law_price ct__law_price : Value}
    {f__law_large : Addr} {od__law_large an__law_large : Option Addr} {sl__law_large : Array (Option Value)} {oc__law_large kV__law_large dc__law_large pm__law_large cd__law_large ct__law_large : Value}
    {f__law_room : Addr} {od__law_room an__law_room : Option Addr} {sl__law_room : Array (Option Value)} {oc__law_room kV__law_room dc__law_room pm__law_room cd__law_room ct__law_room : Value}
    {f_refuse_too_wide : Addr} {od_refuse_too_wide an_refuse_too_wide : Option Addr} {sl_refuse_too_wide : Array (Option Value)} {oc_refuse_too_wide kV_refuse_too_wide dc_refuse_too_wide pm_refuse_too_wide cd_refuse_too_wide ct_refuse_too_wide : Value}
    {f__law_widths : Addr} {od__law_widths an__law_widths : Option Addr} {sl__law_widths : Array (Option Value)} {oc__law_widths kV__law_widths dc__law_widths pm__law_widths cd__law_widths ct__law_widths : Value}
    {f_best_lines : Addr} {od_best_lines an_best_lines : Option Addr} {sl_best_lines : Array (Option Value)} {oc_best_lines kV_best_lines dc_best_lines pm_best_lines cd_best_lines ct_best_lines : Value}
    {f_line_prices : Addr} {od_line_prices an_line_prices : Option Addr} {sl_line_prices : Array (Option Value)} {oc_line_prices kV_line_prices dc_line_prices pm_line_prices cd_line_prices ct_line_prices : Value}
    {f_firsts : Addr} {od_firsts an_firsts : Option Addr} {sl_firsts : Array (Option Value)} {oc_firsts kV_firsts dc_firsts pm_firsts cd_firsts ct_firsts : Value}
    {f__law_refused : Addr} {od__law_refused an__law_refused : Option Addr} {sl__law_refused : Array (Option Value)} {oc__law_refused kV__law_refused dc__law_refused pm__law_refused cd__law_refused ct__law_refused : Value}
    {f__law_by_base : Addr} {od__law_by_base an__law_by_base : Option Addr} {sl__law_by_base : Array (Option Value)} {oc__law_by_base kV__law_by_base dc__law_by_base pm__law_by_base cd__law_by_base ct__law_by_base : Value}
    {f_law : Addr} {od_law an_law : Option Addr} {sl_law : Array (Option Value)} {oc_law kV_law dc_law pm_law cd_law ct_law : Value}
    {C_TooWide : Addr}
    {f_iTooWide : Addr} {od_iTooWide an_iTooWide : Option Addr} {sl_iTooWide : Array (Option Value)} {oc_iTooWide kV_iTooWide dc_iTooWide pm_iTooWide cd_iTooWide ct_iTooWide : Value}
    {C_BadRoom : Addr}
    {C_StaveError : Addr}
    (a_is_whole : PySem.W.nsIn K mainGlobals "is_whole" = some (some (.ref f_is_whole))) (l_is_whole : K.lookup f_is_whole = some ⟨oc_is_whole, od_is_whole, .func (PySem.W.fnOf "is_whole" "is_whole" (defArgs s_is_whole) (defBody s_is_whole) (defScope s_is_whole) .none kV_is_whole dc_is_whole pm_is_whole an_is_whole cd_is_whole ct_is_whole), sl_is_whole⟩) (c_is_whole' : PySem.W.codeIn K cd_is_whole "is_whole" = true) (k_is_whole : PySem.W.keepIn K (.ref f_is_whole) = true)
    (a_line_choices : PySem.W.nsIn K mainGlobals "line_choices" = some (some (.ref f_line_choices))) (l_line_choices : K.lookup f_line_choices = some ⟨oc_line_choices, od_line_choices, .func (PySem.W.fnOf "line_choices" "line_choices" (defArgs s_line_choices) (defBody s_line_choices) (defScope s_line_choices) .none kV_line_choices dc_line_choices pm_line_choices an_line_choices cd_line_choices ct_line_choices), sl_line_choices⟩) (c_line_choices' : PySem.W.codeIn K cd_line_choices "line_choices" = true) (k_line_choices : PySem.W.keepIn K (.ref f_line_choices) = true)
    (a__law_cell : PySem.W.nsIn K mainGlobals "_law_cell" = some (some (.ref f__law_cell))) (l__law_cell : K.lookup f__law_cell = some ⟨oc__law_cell, od__law_cell, .func (PySem.W.fnOf "_law_cell" "_law_cell" (defArgs s__law_cell) (defBody s__law_cell) (defScope s__law_cell) .none kV__law_cell dc__law_cell pm__law_cell an__law_cell cd__law_cell ct__law_cell), sl__law_cell⟩) (c__law_cell' : PySem.W.codeIn K cd__law_cell "_law_cell" = true) (k__law_cell : PySem.W.keepIn K (.ref f__law_cell) = true)
    (a__law_mix : PySem.W.nsIn K mainGlobals "_law_mix" = some (some (.ref f__law_mix))) (l__law_mix : K.lookup f__law_mix = some ⟨oc__law_mix, od__law_mix, .func (PySem.W.fnOf "_law_mix" "_law_mix" (defArgs s__law_mix) (defBody s__law_mix) (defScope s__law_mix) .none kV__law_mix dc__law_mix pm__law_mix an__law_mix cd__law_mix ct__law_mix), sl__law_mix⟩) (c__law_mix' : PySem.W.codeIn K cd__law_mix "_law_mix" = true) (k__law_mix : PySem.W.keepIn K (.ref f__law_mix) = true)
    (a__law_whole : PySem.W.nsIn K mainGlobals "_law_whole" = some (some (.ref f__law_whole))) (l__law_whole : K.lookup f__law_whole = some ⟨oc__law_whole, od__law_whole, .func (PySem.W.fnOf "_law_whole" "_law_whole" (defArgs s__law_whole) (defBody s__law_whole) (defScope s__law_whole) .none kV__law_whole dc__law_whole pm__law_whole an__law_whole cd__law_whole ct__law_whole), sl__law_whole⟩) (c__law_whole' : PySem.W.codeIn K cd__law_whole "_law_whole" = true) (k__law_whole : PySem.W.keepIn K (.ref f__law_whole) = true)
    (a__law_wide_at : PySem.W.nsIn K mainGlobals "_law_wide_at" = some (some (.ref f__law_wide_at))) (l__law_wide_at : K.lookup f__law_wide_at = some ⟨oc__law_wide_at, od__law_wide_at, .func (PySem.W.fnOf "_law_wide_at" "_law_wide_at" (defArgs s__law_wide_at) (defBody s__law_wide_at) (defScope s__law_wide_at) .none kV__law_wide_at dc__law_wide_at pm__law_wide_at an__law_wide_at cd__law_wide_at ct__law_wide_at), sl__law_wide_at⟩) (c__law_wide_at' : PySem.W.codeIn K cd__law_wide_at "_law_wide_at" = true) (k__law_wide_at : PySem.W.keepIn K (.ref f__law_wide_at) = true)
    (a__law_price : PySem.W.nsIn K mainGlobals "_law_price" = some (some (.ref f__law_price))) (l__law_price : K.lookup f__law_price = some ⟨oc__law_price, od__law_price, .func (PySem.W.fnOf "_law_price" "_law_price" (defArgs s__law_price) (defBody s__law_price) (defScope s__law_price) .none kV__law_price dc__law_price pm__law_price an__law_price cd__law_price ct__law_price), sl__law_price⟩) (c__law_price' : PySem.W.codeIn K cd__law_price "_law_price" = true) (k__law_price : PySem.W.keepIn K (.ref f__law_price) = true)
    (a__law_large : PySem.W.nsIn K mainGlobals "_law_large" = some (some (.ref f__law_large))) (l__law_large : K.lookup f__law_large = some ⟨oc__law_large, od__law_large, .func (PySem.W.fnOf "_law_large" "_law_large" (defArgs s__law_large) (defBody s__law_large) (defScope s__law_large) .none kV__law_large dc__law_large pm__law_large an__law_large cd__law_large ct__law_large), sl__law_large⟩) (c__law_large' : PySem.W.codeIn K cd__law_large "_law_large" = true) (k__law_large : PySem.W.keepIn K (.ref f__law_large) = true)
    (a__law_room : PySem.W.nsIn K mainGlobals "_law_room" = some (some (.ref f__law_room))) (l__law_room : K.lookup f__law_room = some ⟨oc__law_room, od__law_room, .func (PySem.W.fnOf "_law_room" "_law_room" (defArgs s__law_room) (defBody s__law_room) (defScope s__law_room) .none kV__law_room dc__law_room pm__law_room an__law_room cd__law_room ct__law_room), sl__law_room⟩) (c__law_room' : PySem.W.codeIn K cd__law_room "_law_room" = true) (k__law_room : PySem.W.keepIn K (.ref f__law_room) = true)
    (a_refuse_too_wide : PySem.W.nsIn K mainGlobals "refuse_too_wide" = some (some (.ref f_refuse_too_wide))) (l_refuse_too_wide : K.lookup f_refuse_too_wide = some ⟨oc_refuse_too_wide, od_refuse_too_wide, .func (PySem.W.fnOf "refuse_too_wide" "refuse_too_wide" (defArgs s_refuse_too_wide) (defBody s_refuse_too_wide) (defScope s_refuse_too_wide) .none kV_refuse_too_wide dc_refuse_too_wide pm_refuse_too_wide an_refuse_too_wide cd_refuse_too_wide ct_refuse_too_wide), sl_refuse_too_wide⟩) (c_refuse_too_wide' : PySem.W.codeIn K cd_refuse_too_wide "refuse_too_wide" = true) (k_refuse_too_wide : PySem.W.keepIn K (.ref f_refuse_too_wide) = true)
    (a__law_widths : PySem.W.nsIn K mainGlobals "_law_widths" = some (some (.ref f__law_widths))) (l__law_widths : K.lookup f__law_widths = some ⟨oc__law_widths, od__law_widths, .func (PySem.W.fnOf "_law_widths" "_law_widths" (defArgs s__law_widths) (defBody s__law_widths) (defScope s__law_widths) .none kV__law_widths dc__law_widths pm__law_widths an__law_widths cd__law_widths ct__law_widths), sl__law_widths⟩) (c__law_widths' : PySem.W.codeIn K cd__law_widths "_law_widths" = true) (k__law_widths : PySem.W.keepIn K (.ref f__law_widths) = true)
    (a_best_lines : PySem.W.nsIn K mainGlobals "best_lines" = some (some (.ref f_best_lines))) (l_best_lines : K.lookup f_best_lines = some ⟨oc_best_lines, od_best_lines, .func (PySem.W.fnOf "best_lines" "best_lines" (defArgs s_best_lines) (defBody s_best_lines) (defScope s_best_lines) .none kV_best_lines dc_best_lines pm_best_lines an_best_lines cd_best_lines ct_best_lines), sl_best_lines⟩) (c_best_lines' : PySem.W.codeIn K cd_best_lines "best_lines" = true) (k_best_lines : PySem.W.keepIn K (.ref f_best_lines) = true)
    (a_line_prices : PySem.W.nsIn K mainGlobals "line_prices" = some (some (.ref f_line_prices))) (l_line_prices : K.lookup f_line_prices = some ⟨oc_line_prices, od_line_prices, .func (PySem.W.fnOf "line_prices" "line_prices" (defArgs s_line_prices) (defBody s_line_prices) (defScope s_line_prices) .none kV_line_prices dc_line_prices pm_line_prices an_line_prices cd_line_prices ct_line_prices), sl_line_prices⟩) (c_line_prices' : PySem.W.codeIn K cd_line_prices "line_prices" = true) (k_line_prices : PySem.W.keepIn K (.ref f_line_prices) = true)
    (a_firsts : PySem.W.nsIn K mainGlobals "firsts" = some (some (.ref f_firsts))) (l_firsts : K.lookup f_firsts = some ⟨oc_firsts, od_firsts, .func (PySem.W.fnOf "firsts" "firsts" (defArgs s_firsts) (defBody s_firsts) (defScope s_firsts) .none kV_firsts dc_firsts pm_firsts an_firsts cd_firsts ct_firsts), sl_firsts⟩) (c_firsts' : PySem.W.codeIn K cd_firsts "firsts" = true) (k_firsts : PySem.W.keepIn K (.ref f_firsts) = true)
    (a__law_refused : PySem.W.nsIn K mainGlobals "_law_refused" = some (some (.ref f__law_refused))) (l__law_refused : K.lookup f__law_refused = some ⟨oc__law_refused, od__law_refused, .func (PySem.W.fnOf "_law_refused" "_law_refused" (defArgs s__law_refused) (defBody s__law_refused) (defScope s__law_refused) .none kV__law_refused dc__law_refused pm__law_refused an__law_refused cd__law_refused ct__law_refused), sl__law_refused⟩) (c__law_refused' : PySem.W.codeIn K cd__law_refused "_law_refused" = true) (k__law_refused : PySem.W.keepIn K (.ref f__law_refused) = true)
    (a__law_by_base : PySem.W.nsIn K mainGlobals "_law_by_base" = some (some (.ref f__law_by_base))) (l__law_by_base : K.lookup f__law_by_base = some ⟨oc__law_by_base, od__law_by_base, .func (PySem.W.fnOf "_law_by_base" "_law_by_base" (defArgs s__law_by_base) (defBody s__law_by_base) (defScope s__law_by_base) .none kV__law_by_base dc__law_by_base pm__law_by_base an__law_by_base cd__law_by_base ct__law_by_base), sl__law_by_base⟩) (c__law_by_base' : PySem.W.codeIn K cd__law_by_base "_law_by_base" = true) (k__law_by_base : PySem.W.keepIn K (.ref f__law_by_base) = true)
    (a_law : PySem.W.nsIn K mainGlobals "law" = some (some (.ref f_law))) (l_law : K.lookup f_law = some ⟨oc_law, od_law, .func (PySem.W.fnOf "law" "law" (defArgs s_law) (defBody s_law) (defScope s_law) .none kV_law dc_law pm_law an_law cd_law ct_law), sl_law⟩) (c_law' : PySem.W.codeIn K cd_law "law" = true) (k_law : PySem.W.keepIn K (.ref f_law) = true)
    (ac_TooWide : PySem.W.nsIn K mainGlobals "TooWide" = some (some (.ref C_TooWide)))
    (xc_TooWide : clsX K C_TooWide = true)
    (kc_TooWide : PySem.W.keepIn K (.ref C_TooWide) = true)
    (v_TooWide : PySem.W.kitCls K (.ref C_TooWide) (.type "ValueError") = some true)
    (ix_TooWide : iniX K C_TooWide = true)
    (na_TooWide : PySem.W.findIn K (.ref C_TooWide) "at" = some none)
    (ga_TooWide : PySem.W.findIn K (.ref C_TooWide) "__getattribute__" = some (some (.builtin "BaseException.__getattribute__")))
    (gh_TooWide : PySem.W.findIn K (.ref C_TooWide) "__getattr__" = some none)
    (sa_TooWide : PySem.W.findIn K (.ref C_TooWide) "__setattr__" = some (some (.builtin "object.__setattr__")))
    (in_TooWide : PySem.W.findIn K (.ref C_TooWide) "__init__" = some (some (.ref f_iTooWide)))
    (l_iTooWide : K.lookup f_iTooWide = some ⟨oc_iTooWide, od_iTooWide, .func (PySem.W.fnOf "__init__" "TooWide.__init__" (defArgs s_TooWide) (defBody s_TooWide) (defScope s_TooWide) .none kV_iTooWide dc_iTooWide pm_iTooWide an_iTooWide cd_iTooWide ct_iTooWide), sl_iTooWide⟩)
    (c_iTooWide : PySem.W.codeIn K cd_iTooWide "TooWide.__init__" = true)
    (k_iTooWide : PySem.W.keepIn K (.ref f_iTooWide) = true)
    (ty_iTooWide : PySem.W.typeIn K (.ref f_iTooWide) = some (.type "function"))
    (ac_BadRoom : PySem.W.nsIn K mainGlobals "BadRoom" = some (some (.ref C_BadRoom)))
    (xc_BadRoom : clsX K C_BadRoom = true)
    (kc_BadRoom : PySem.W.keepIn K (.ref C_BadRoom) = true)
    (i0_BadRoom : PySem.W.findIn K (.ref C_BadRoom) "__init__" = some (some (.builtin "ValueError.__init__")))
    (ac_StaveError : PySem.W.nsIn K mainGlobals "StaveError" = some (some (.ref C_StaveError)))
    (xc_StaveError : clsX K C_StaveError = true)
    (mr_TooWide_TooWide : PySem.W.mroIn K C_TooWide (.ref C_TooWide) = some true)
    (mr_TooWide_StaveError : PySem.W.mroIn K C_TooWide (.ref C_StaveError) = some true)
    (z_isinstance : PySem.W.nsIn K mainGlobals "isinstance" = some none)
    (z_int : PySem.W.nsIn K mainGlobals "int" = some none)
    (z_bool : PySem.W.nsIn K mainGlobals "bool" = some none)
    (z_range : PySem.W.nsIn K mainGlobals "range" = some none)
    (z_len : PySem.W.nsIn K mainGlobals "len" = some none)
    (z_enumerate : PySem.W.nsIn K mainGlobals "enumerate" = some none)
    (z_min : PySem.W.nsIn K mainGlobals "min" = some none)
    (z_ValueError : PySem.W.nsIn K mainGlobals "ValueError" = some none)
    (z_list : PySem.W.nsIn K mainGlobals "list" = some none) :
    ∃ fd : FuncData, (∀ (s : Shared) (v : Value), BindsTo s fd ⟨[v], []⟩ [("_law_script", v)]) ∧ ∀ base : Heap, K.In base → base.Ns mainGlobals mg → FnOk l.prog w K mg base CX0 7 fa fd ["_law_script"] (spD ⟨l.prog, w, K⟩ D_law 1) := by
  have e := hfa.symm.trans (PySem.W.mg_of X G a_law)
  cases e
  have F_is_whole := fun_mk (st := s_is_whole) l_is_whole c_is_whole' k_is_whole
  have b_is_whole := F_is_whole.binds (ps := ["thing"]) fun _ _ _ _ _ _ us hl => match us, hl with | [_], _ => rfl
  have m_is_whole := PySem.W.mg_of X G a_is_whole
  have F_line_choices := fun_mk (st := s_line_choices) l_line_choices c_line_choices' k_line_choices
  have b_line_choices := F_line_choices.binds (ps := ["widths", "room", "first", "best"]) fun _ _ _ _ _ _ us hl => match us, hl with | [_, _, _, _], _ => rfl
  have m_line_choices := PySem.W.mg_of X G a_line_choices
  have F__law_cell := fun_mk (st := s__law_cell) l__law_cell c__law_cell' k__law_cell
  have b__law_cell := F__law_cell.binds (ps := ["_law_script", "_law_k"]) fun _ _ _ _ _ _ us hl => match us, hl with | [_, _], _ => rfl
  have m__law_cell := PySem.W.mg_of X G a__law_cell
  have F__law_mix := fun_mk (st := s__law_mix) l__law_mix c__law_mix' k__law_mix
  have b__law_mix := F__law_mix.binds (ps := ["_law_cell_here", "_law_prime", "_law_many"]) fun _ _ _ _ _ _ us hl => match us, hl with | [_, _, _], _ => rfl
  have m__law_mix := PySem.W.mg_of X G a__law_mix
  have F__law_whole := fun_mk (st := s__law_whole) l__law_whole c__law_whole' k__law_whole
  have b__law_whole := F__law_whole.binds (ps := ["_law_found"]) fun _ _ _ _ _ _ us hl => match us, hl with | [_], _ => rfl
  have m__law_whole := PySem.W.mg_of X G a__law_whole
  have F__law_wide_at := fun_mk (st := s__law_wide_at) l__law_wide_at c__law_wide_at' k__law_wide_at
  have b__law_wide_at := F__law_wide_at.binds (ps := ["_law_widths_here", "_law_room_here"]) fun _ _ _ _ _ _ us hl => match us, hl with | [_, _], _ => rfl
  have m__law_wide_at := PySem.W.mg_of X G a__law_wide_at
  have F__law_price := fun_mk (st := s__law_price) l__law_price c__law_price' k__law_price
  have b__law_price := F__law_price.binds (ps := ["_law_widths_here", "_law_room_here", "_law_found", "_law_first"]) fun _ _ _ _ _ _ us hl => match us, hl with | [_, _, _, _], _ => rfl
  have m__law_price := PySem.W.mg_of X G a__law_price
  have F__law_large := fun_mk (st := s__law_large) l__law_large c__law_large' k__law_large
  have b__law_large := F__law_large.binds (ps := ["_law_script"]) fun _ _ _ _ _ _ us hl => match us, hl with | [_], _ => rfl
  have m__law_large := PySem.W.mg_of X G a__law_large
  have F__law_room := fun_mk (st := s__law_room) l__law_room c__law_room' k__law_room
  have b__law_room := F__law_room.binds (ps := ["_law_script"]) fun _ _ _ _ _ _ us hl => match us, hl with | [_], _ => rfl
  have m__law_room := PySem.W.mg_of X G a__law_room
  have F_refuse_too_wide := fun_mk (st := s_refuse_too_wide) l_refuse_too_wide c_refuse_too_wide' k_refuse_too_wide
  have b_refuse_too_wide := F_refuse_too_wide.binds (ps := ["widths", "room"]) fun _ _ _ _ _ _ us hl => match us, hl with | [_, _], _ => rfl
  have m_refuse_too_wide := PySem.W.mg_of X G a_refuse_too_wide
  have F__law_widths := fun_mk (st := s__law_widths) l__law_widths c__law_widths' k__law_widths
  have b__law_widths := F__law_widths.binds (ps := ["_law_script"]) fun _ _ _ _ _ _ us hl => match us, hl with | [_], _ => rfl
  have m__law_widths := PySem.W.mg_of X G a__law_widths
  have F_best_lines := fun_mk (st := s_best_lines) l_best_lines c_best_lines' k_best_lines
  have b_best_lines := F_best_lines.binds (ps := ["widths", "room"]) fun _ _ _ _ _ _ us hl => match us, hl with | [_, _], _ => rfl
  have m_best_lines := PySem.W.mg_of X G a_best_lines
  have F_line_prices := fun_mk (st := s_line_prices) l_line_prices c_line_prices' k_line_prices
  have b_line_prices := F_line_prices.binds (ps := ["widths", "room"]) fun _ _ _ _ _ _ us hl => match us, hl with | [_, _], _ => rfl
  have m_line_prices := PySem.W.mg_of X G a_line_prices
  have F_firsts := fun_mk (st := s_firsts) l_firsts c_firsts' k_firsts
  have b_firsts := F_firsts.binds (ps := ["widths", "room"]) fun _ _ _ _ _ _ us hl => match us, hl with | [_, _], _ => rfl
  have m_firsts := PySem.W.mg_of X G a_firsts
  have F__law_refused := fun_mk (st := s__law_refused) l__law_refused c__law_refused' k__law_refused
  have b__law_refused := F__law_refused.binds (ps := ["_law_widths_here", "_law_room_here", "_law_way"]) fun _ _ _ _ _ _ us hl => match us, hl with | [_, _, _], _ => rfl
  have m__law_refused := PySem.W.mg_of X G a__law_refused
  have F__law_by_base := fun_mk (st := s__law_by_base) l__law_by_base c__law_by_base' k__law_by_base
  have b__law_by_base := F__law_by_base.binds (ps := ["_law_widths_here", "_law_room_here"]) fun _ _ _ _ _ _ us hl => match us, hl with | [_, _], _ => rfl
  have m__law_by_base := PySem.W.mg_of X G a__law_by_base
  have F_law := fun_mk (st := s_law) l_law c_law' k_law
  have mc_TooWide := PySem.W.mg_of X G ac_TooWide
  have q_TooWide := xc_TooWide
  have g_TooWide : XCls K C_TooWide := ⟨xc_TooWide, kc_TooWide⟩
  have r_TooWide : XGet K C_TooWide := ⟨iniX_of ix_TooWide, ga_TooWide, gh_TooWide, na_TooWide⟩
  have F_iTooWide := fun_mk (st := s_TooWide) l_iTooWide c_iTooWide k_iTooWide
  have j_TooWide : XIni K C_TooWide f_iTooWide "TooWide.__init__" s_TooWide _ := ⟨iniX_of ix_TooWide, sa_TooWide, na_TooWide, in_TooWide, ty_iTooWide, F_iTooWide, ⟨_, _, _, _, rfl⟩, ⟨rfl, rfl, rfl, by decide +kernel, rfl, by decide +kernel, by decide +kernel⟩, ⟨rfl, rfl⟩, F_iTooWide.binds (ps := ["self", "at"]) fun _ _ _ _ _ _ us hl => match us, hl with | [_, _], _ => rfl⟩
  have mc_BadRoom := PySem.W.mg_of X G ac_BadRoom
  have q_BadRoom := xc_BadRoom
  have g_BadRoom : XCls K C_BadRoom := ⟨xc_BadRoom, kc_BadRoom⟩
  have mc_StaveError := PySem.W.mg_of X G ac_StaveError
  have q_StaveError := xc_StaveError
  have b_isinstance := PySem.W.mg_none_of X G z_isinstance
  have b_int := PySem.W.mg_none_of X G z_int
  have b_bool := PySem.W.mg_none_of X G z_bool
  have b_range := PySem.W.mg_none_of X G z_range
  have b_len := PySem.W.mg_none_of X G z_len
  have b_enumerate := PySem.W.mg_none_of X G z_enumerate
  have b_min := PySem.W.mg_none_of X G z_min
  have b_ValueError := PySem.W.mg_none_of X G z_ValueError
  have b_list := PySem.W.mg_none_of X G z_list
  refine ⟨PySem.W.fnOf "law" "law" (defArgs s_law) (defBody s_law) (defScope s_law) .none kV_law dc_law pm_law an_law cd_law ct_law, fun s v => .of_eq rfl, fun base _ _ => ?_⟩
  have G_is_whole := ok_is_whole (P := l.prog) (w := w) (mg := mg) (base := base) F_is_whole b_isinstance b_int b_bool
  have G_line_choices := ok_line_choices (P := l.prog) (w := w) (mg := mg) (base := base) F_line_choices b_range b_len
  have G__law_cell := ok__law_cell (P := l.prog) (w := w) (mg := mg) (base := base) F__law_cell b_len
  have G__law_mix := ok__law_mix (P := l.prog) (w := w) (mg := mg) (base := base) F__law_mix
  have G__law_whole := ok__law_whole (P := l.prog) (w := w) (mg := mg) (base := base) F__law_whole b_isinstance b_int b_bool
  have G__law_wide_at := ok__law_wide_at (P := l.prog) (w := w) (mg := mg) (base := base) F__law_wide_at b_enumerate
  have G__law_price := ok__law_price (P := l.prog) (w := w) (mg := mg) (base := base) F__law_price b_range b_len b_min
  have G__law_large := ok__law_large (P := l.prog) (w := w) (mg := mg) (base := base) F__law_large G__law_cell m__law_cell k__law_cell b__law_cell G__law_mix m__law_mix k__law_mix b__law_mix b_len
  have G__law_room := ok__law_room (P := l.prog) (w := w) (mg := mg) (base := base) F__law_room G__law_cell m__law_cell k__law_cell b__law_cell G__law_mix m__law_mix k__law_mix b__law_mix
  have G_refuse_too_wide := ok_refuse_too_wide (P := l.prog) (w := w) (mg := mg) (base := base) F_refuse_too_wide mc_TooWide g_TooWide j_TooWide b_enumerate
  have G__law_widths := ok__law_widths (P := l.prog) (w := w) (mg := mg) (base := base) F__law_widths G__law_large m__law_large k__law_large b__law_large G__law_cell m__law_cell k__law_cell b__law_cell G__law_mix m__law_mix k__law_mix b__law_mix b_len
  have G_best_lines := ok_best_lines (P := l.prog) (w := w) (mg := mg) (base := base) F_best_lines mc_BadRoom g_BadRoom i0_BadRoom G_is_whole m_is_whole k_is_whole b_is_whole G_refuse_too_wide m_refuse_too_wide k_refuse_too_wide b_refuse_too_wide G_line_choices m_line_choices k_line_choices b_line_choices b_len b_range b_min
  have G_line_prices := ok_line_prices (P := l.prog) (w := w) (mg := mg) (base := base) F_line_prices G_best_lines m_best_lines k_best_lines b_best_lines
  have G_firsts := ok_firsts (P := l.prog) (w := w) (mg := mg) (base := base) F_firsts G_best_lines m_best_lines k_best_lines b_best_lines b_len
  have G__law_refused := ok__law_refused (P := l.prog) (w := w) (mg := mg) (base := base) F__law_refused mc_TooWide q_TooWide g_TooWide r_TooWide mr_TooWide_TooWide G_line_prices m_line_prices k_line_prices b_line_prices G_firsts m_firsts k_firsts b_firsts
  have G__law_by_base := ok__law_by_base (P := l.prog) (w := w) (mg := mg) (base := base) F__law_by_base mc_StaveError q_StaveError mc_TooWide g_TooWide v_TooWide mr_TooWide_StaveError G_line_prices m_line_prices k_line_prices b_line_prices b_isinstance b_ValueError
  exact ok_law (P := l.prog) (w := w) (mg := mg) (base := base) F_law G__law_widths m__law_widths k__law_widths b__law_widths G__law_room m__law_room k__law_room b__law_room G__law_wide_at m__law_wide_at k__law_wide_at b__law_wide_at G__law_refused m__law_refused k__law_refused b__law_refused G__law_whole m__law_whole k__law_whole b__law_whole G__law_by_base m__law_by_base k__law_by_base b__law_by_base G_line_prices m_line_prices k_line_prices b_line_prices G__law_price m__law_price k__law_price b__law_price b_list b_isinstance b_len b_range
theorem walk {l : PySem.W.OpenLaw} {q : Program} {loose : List Str} {XP : (Str → Option Value) → Heap → Prop} {YP : World → Heap → Prop} {d : DefRec} {K : Params → PySem.W.Frag} (hn : l.most = some 63) (hdf : d.params.defaults = [])
    (hY : ∀ (w : World) (h : Heap), YP w h → (K w.params).In h)
    (F : ∀ (w : World) (mg : Str → Option Value) (fa : Addr) (h : Heap), (K w.params).In h → h.Ns mainGlobals mg → mg d.name = some (.ref fa) →
      ∃ fd : FuncData, (∀ (s : Shared) (u : Value), BindsTo s fd ⟨[u], []⟩ [("_law_script", u)]) ∧ ∀ base : Heap, (K w.params).In base → base.Ns mainGlobals mg → FnOk l.prog w (K w.params) mg base CX0 7 fa fd ["_law_script"] (spD ⟨l.prog, w, K w.params⟩ D_law 1)) :
    PySem.W.WalkO q loose XP YP l.row.toRowW d [] (fun f vs => PySem.call f vs) :=
  L2.walk_of (n := 63) (k := 7) (x := "_law_script") (CX := fun _ => CX0) (sp := fun w => spD ⟨l.prog, w, K w.params⟩ D_law 1) hn (by decide) hdf ⟨rfl, by decide, by decide⟩ hY F (fun w H a ns hl _ hS => law_end D_law ns hS (law_true ns hl)) fun _ _ _ _ _ z => z
end My
open PySem PySem.W PyProof.Rows
set_option maxRecDepth 100000 in
set_option maxHeartbeats 0 in
theorem PySem.Challenge.cw_stavemill_k24_prices_of_lines_holds : PySem.Challenge.rw_stavemill_k24_prices_of_lines.Holds := by
  w_on; o_law; k_head; (case hw => w_witness2)
  k_fill
  refine My.walk (l := PySem.Challenge.rw_stavemill_k24_prices_of_lines) rfl rfl (fun w h Y => PySem.W.kIn_of Y) ?F
  case F =>
    intro w mg fa h KX G hmg
    refine' My.all_mk KX G hmg ?a_is_whole ?l_is_whole ?c_is_whole ?k_is_whole ?a_line_choices ?l_line_choices ?c_line_choices ?k_line_choices ?a__law_cell ?l__law_cell ?c__law_cell ?k__law_cell ?a__law_mix ?l__law_mix ?c__law_mix ?k__law_mix ?a__law_whole ?l__law_whole ?c__law_whole ?k__law_whole ?a__law_wide_at ?l__law_wide_at ?c__law_wide_at ?k__law_wide_at ?a__law_price ?l__law_price ?c__law_price ?k__law_price ?a__law_large ?l__law_large ?c__law_large ?k__law_large ?a__law_room ?l__law_room ?c__law_room ?k__law_room ?a_refuse_too_wide ?l_refuse_too_wide ?c_refuse_too_wide ?k_refuse_too_wide ?a__law_widths ?l__law_widths ?c__law_widths ?k__law_widths ?a_best_lines ?l_best_lines ?c_best_lines ?k_best_lines ?a_line_prices ?l_line_prices ?c_line_prices ?k_line_prices ?a_firsts ?l_firsts ?c_firsts ?k_firsts ?a__law_refused ?l__law_refused ?c__law_refused ?k__law_refused ?a__law_by_base ?l__law_by_base ?c__law_by_base ?k__law_by_base ?a_law ?l_law ?c_law ?k_law ?ac_TooWide ?xc_TooWide ?kc_TooWide ?v_TooWide ?ix_TooWide ?na_TooWide ?ga_TooWide ?gh_TooWide ?sa_TooWide ?in_TooWide ?l_iTooWide ?c_iTooWide ?k_iTooWide ?ty_iTooWide ?ac_BadRoom ?xc_BadRoom ?kc_BadRoom ?i0_BadRoom ?ac_StaveError ?xc_StaveError ?mr_TooWide_TooWide ?mr_TooWide_StaveError ?z_isinstance ?z_int ?z_bool ?z_range ?z_len ?z_enumerate ?z_min ?z_ValueError ?z_list
    (case a_is_whole => k_is)
    (case l_is_whole => k_is)
    (case c_is_whole => k_is)
    (case k_is_whole => k_is)
    (case a_line_choices => k_is)
    (case l_line_choices => k_is)
    (case c_line_choices => k_is)
    (case k_line_choices => k_is)
    (case a__law_cell => k_is)
    (case l__law_cell => k_is)
    (case c__law_cell => k_is)
    (case k__law_cell => k_is)
    (case a__law_mix => k_is)
    (case l__law_mix => k_is)
    (case c__law_mix => k_is)
    (case k__law_mix => k_is)
    (case a__law_whole => k_is)
    (case l__law_whole => k_is)
    (case c__law_whole => k_is)
    (case k__law_whole => k_is)
    (case a__law_wide_at => k_is)
    (case l__law_wide_at => k_is)
    (case c__law_wide_at => k_is)
    (case k__law_wide_at => k_is)
    (case a__law_price => k_is)
    (case l__law_price => k_is)
    (case c__law_price => k_is)
    (case k__law_price => k_is)
    (case a__law_large => k_is)
    (case l__law_large => k_is)
    (case c__law_large => k_is)
    (case k__law_large => k_is)
    (case a__law_room => k_is)
    (case l__law_room => k_is)
    (case c__law_room => k_is)
    (case k__law_room => k_is)
    (case a_refuse_too_wide => k_is)
    (case l_refuse_too_wide => k_is)
    (case c_refuse_too_wide => k_is)
    (case k_refuse_too_wide => k_is)
    (case a__law_widths => k_is)
    (case l__law_widths => k_is)
    (case c__law_widths => k_is)
    (case k__law_widths => k_is)
    (case a_best_lines => k_is)
    (case l_best_lines => k_is)
    (case c_best_lines => k_is)
    (case k_best_lines => k_is)
    (case a_line_prices => k_is)
    (case l_line_prices => k_is)
    (case c_line_prices => k_is)
    (case k_line_prices => k_is)
    (case a_firsts => k_is)
    (case l_firsts => k_is)
    (case c_firsts => k_is)
    (case k_firsts => k_is)
    (case a__law_refused => k_is)
    (case l__law_refused => k_is)
    (case c__law_refused => k_is)
    (case k__law_refused => k_is)
    (case a__law_by_base => k_is)
    (case l__law_by_base => k_is)
    (case c__law_by_base => k_is)
    (case k__law_by_base => k_is)
    (case a_law => k_is)
    (case l_law => k_is)
    (case c_law => k_is)
    (case k_law => k_is)
    (case ac_TooWide => k_is)
    (case xc_TooWide => kernel_rfl)
    (case kc_TooWide => k_is)
    (case v_TooWide => kernel_rfl)
    (case ix_TooWide => kernel_rfl)
    (case na_TooWide => kernel_rfl)
    (case ga_TooWide => kernel_rfl)
    (case gh_TooWide => kernel_rfl)
    (case sa_TooWide => kernel_rfl)
    (case in_TooWide => k_is)
    (case l_iTooWide => k_is)
    (case c_iTooWide => k_is)
    (case k_iTooWide => k_is)
    (case ty_iTooWide => kernel_rfl)
    (case ac_BadRoom => k_is)
    (case xc_BadRoom => kernel_rfl)
    (case kc_BadRoom => k_is)
    (case i0_BadRoom => kernel_rfl)
    (case ac_StaveError => k_is)
    (case xc_StaveError => kernel_rfl)
    (case mr_TooWide_TooWide => kernel_rfl)
    (case mr_TooWide_StaveError => kernel_rfl)
    (case z_isinstance => k_is)
    (case z_int => k_is)
    (case z_bool => k_is)
    (case z_range => k_is)
    (case z_len => k_is)
    (case z_enumerate => k_is)
    (case z_min => k_is)
    (case z_ValueError => k_is)
    (case z_list => k_is)
#print axioms PySem.Challenge.cw_stavemill_k24_prices_of_lines_holds