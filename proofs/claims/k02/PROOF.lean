import PyProof.Rows.All
import Wide.All
import OpenK.AllK
import Wide.FinOn
import Lean
import PyProof.EqAt
import PyProof.EqKinds
import PyProof.TupleCall
import PySem.Challenge.RW_worldyard_k02_yards
set_option Elab.async false
set_option linter.all false
set_option maxRecDepth 100000
/-! THE HAND LAYER, for ints, bools, texts, own classes, LISTS and tuples (index, slices, in, append, pop ..), calls, loops. Paste it whole ahead of your own text; what your proof does not reach may be deleted. -/
namespace L2
open PySem PySem.Spec PyProof.Rows

/-- a key: an int or a str -/
abbrev Key := Sum Int Str
def keyIs : Key → Value → Bool
  | .inl k, v => Value.isInt k v
  | .inr x, v => Value.isStrOf x v
def keyH (w : World) : Key → Int
  | .inl k => hashInt k
  | .inr x => hashStr w x
theorem keyIs_shape : ∀ {k : Key} {v : Value}, keyIs k v = true → (∃ i t, k = Sum.inl i ∧ v = Value.int i t) ∨ (∃ x t, k = Sum.inr x ∧ v = Value.str x t)
  | .inl i, v, h => by
    obtain ⟨t, e⟩ := Value.isInt_shape (k := i) (v := v) h
    exact .inl ⟨i, t, rfl, e⟩
  | .inr x, v, h => by
    obtain ⟨t, e⟩ := Value.isStrOf_shape (x := x) (v := v) h
    exact .inr ⟨x, t, rfl, e⟩
theorem keyIs_int (i : Int) (t : Tok) : keyIs (.inl i) (.int i t) = true := by simp [keyIs, Value.isInt]
theorem keyIs_str (x : Str) (t : Tok) : keyIs (.inr x) (.str x t) = true := by simp [keyIs, Value.isStrOf]
theorem key_ll (a b : Int) : decide ((Sum.inl a : Key) = Sum.inl b) = (a == b) := by
  by_cases e : a = b
  · subst e; simp
  · have h : ¬ (Sum.inl a : Key) = Sum.inl b := fun q => e (Sum.inl.inj q)
    rw [decide_eq_false h]
    exact (beq_eq_false_iff_ne.mpr e).symm
theorem key_rr (a b : Str) : decide ((Sum.inr a : Key) = Sum.inr b) = decide (a = b) := by
  by_cases e : a = b
  · subst e; simp
  · have h : ¬ (Sum.inr a : Key) = Sum.inr b := fun q => e (Sum.inr.inj q)
    rw [decide_eq_false h, decide_eq_false e]
theorem key_lr (a : Int) (b : Str) : decide ((Sum.inl a : Key) = Sum.inr b) = false := decide_eq_false (fun q => nomatch q)
theorem key_rl (a : Str) (b : Int) : decide ((Sum.inr a : Key) = Sum.inl b) = false := decide_eq_false (fun q => nomatch q)

def mixKind (prog : Program) (w : World) : PySem.KeyKind prog w Key where
  is := keyIs
  hash := keyH w
  inj := fun v a b ha hb => by
    rcases keyIs_shape ha with ⟨i, t, rfl, rfl⟩ | ⟨x, t, rfl, rfl⟩
    · rcases keyIs_shape hb with ⟨j, u, rfl, e⟩ | ⟨y, u, rfl, e⟩
      · injection e with e1 _; rw [e1]
      · exact nomatch e
    · rcases keyIs_shape hb with ⟨j, u, rfl, e⟩ | ⟨y, u, rfl, e⟩
      · exact nomatch e
      · injection e with e1 _; rw [e1]
  byValue := fun k v h => by
    rcases keyIs_shape h with ⟨i, t, rfl, rfl⟩ | ⟨x, t, rfl, rfl⟩ <;> rfl
  pyHash := fun hv h => by
    rcases keyIs_shape hv with ⟨i, t, rfl, rfl⟩ | ⟨x, t, rfl, rfl⟩
    · exact wpAny_pyHash_int h
    · exact wpAny_pyHash_str h
  eqBool := fun hu hv h => by
    rcases keyIs_shape hu with ⟨i, t, rfl, rfl⟩ | ⟨x, t, rfl, rfl⟩
    · rcases keyIs_shape hv with ⟨j, u, rfl, rfl⟩ | ⟨y, u, rfl, rfl⟩
      · rw [key_ll] at h; exact wpAny_eqBool_int h
      · rw [key_lr] at h; exact SeqAt.EqAt.int_str i t y u _ _ _ _ h
    · rcases keyIs_shape hv with ⟨j, u, rfl, rfl⟩ | ⟨y, u, rfl, rfl⟩
      · rw [key_rl] at h; exact SeqAt.EqAt.str_int x t j u _ _ _ _ h
      · rw [key_rr] at h; exact wpAny_eqBool_str h
  «strs» := fun k x t v h => by
    rcases keyIs_shape h with ⟨i, u, rfl, e⟩ | ⟨y, u, rfl, e⟩
    · exact nomatch e
    · injection e with e1 _
      subst e1
      cases v <;> rfl

theorem mixKind_is (prog : Program) (w : World) (k : Key) (v : Value) : (mixKind prog w).is k v = keyIs k v := rfl
theorem mixKind_int (prog : Program) (w : World) (i : Int) (t : Tok) : (mixKind prog w).is (.inl i) (.int i t) = true := keyIs_int i t
theorem mixKind_str (prog : Program) (w : World) (x : Str) (t : Tok) : (mixKind prog w).is (.inr x) (.str x t) = true := keyIs_str x t
end L2

namespace L2
open PySem PySem.Spec PyProof.Rows

/-- a value, without the heap -/
inductive V where
  | non | bl (b : Bool) | int (i : Int) | str (x : Str) | byt (b : Array UInt8) | flt (b : UInt64) | ref (a : Addr) | ty (n : String)
  deriving DecidableEq

def RelV : V → Value → Prop
  | .non, u => u = Value.none
  | .bl b, u => u = Value.bool b
  | .int i, u => ∃ t, u = Value.int i t
  | .str x, u => ∃ t, u = Value.str x t
  | .byt b, u => ∃ t, u = Value.bytes b t
  | .flt b, u => ∃ t, u = Value.float b t
  | .ref a, u => u = Value.ref a
  | .ty n, u => u = Value.type n

abbrev Vals : List V → List Value → Prop := Paired RelV
theorem Vals.length {xs : List V} {us : List Value} (r : Vals xs us) : xs.length = us.length := Paired.length r
theorem Vals.get : ∀ {xs : List V} {us : List Value} {i : Nat} {x : V}, Vals xs us → xs[i]? = some x → ∃ u, us[i]? = some u ∧ RelV x u
  | _, _, _, _, .nil, e => by simp at e
  | _, _, 0, _, .cons r _, e => by simp at e; subst e; exact ⟨_, rfl, r⟩
  | _, _, i + 1, x, .cons _ t, e => by
    obtain ⟨u, h1, h2⟩ := Vals.get (i := i) (x := x) t (by simpa using e)
    exact ⟨u, by simpa using h1, h2⟩
theorem Vals.set {x : V} {u : Value} (r : RelV x u) : ∀ {xs : List V} {us : List Value} (i : Nat), Vals xs us → Vals (xs.set i x) (us.set i u)
  | _, _, _, .nil => .nil
  | _, _, 0, .cons _ t => .cons r t
  | _, _, i + 1, .cons q t => .cons q (Vals.set r i t)
theorem Vals.append : ∀ {xs ys : List V} {us ws : List Value}, Vals xs us → Vals ys ws → Vals (xs ++ ys) (us ++ ws)
  | _, _, _, _, .nil, s => s
  | _, _, _, _, .cons r t, s => .cons r (Vals.append t s)
theorem Vals.take : ∀ {xs : List V} {us : List Value} (n : Nat), Vals xs us → Vals (xs.take n) (us.take n)
  | _, _, 0, _ => .nil
  | _, _, _ + 1, .nil => .nil
  | _, _, n + 1, .cons r t => .cons r (Vals.take n t)
theorem Vals.drop : ∀ {xs : List V} {us : List Value} (n : Nat), Vals xs us → Vals (xs.drop n) (us.drop n)
  | _, _, 0, r => r
  | _, _, _ + 1, .nil => .nil
  | _, _, n + 1, .cons _ t => Vals.drop n t
theorem Vals.none_of : ∀ {xs : List V} {us : List Value} {i : Nat}, Vals xs us → xs[i]? = none → us[i]? = none := fun {xs us i} r e => by
  have h1 := r.length
  have h2 : xs.length ≤ i := List.getElem?_eq_none_iff.mp e
  exact List.getElem?_eq_none_iff.mpr (by omega)

def RelO : Option V → Option Value → Prop
  | some v, some u => RelV v u
  | none, none => True
  | _, _ => False
def KV {κ : Type} : List (κ × V) → List (κ × Value) → Prop := Paired fun (p : κ × V) (q : κ × Value) => p.1 = q.1 ∧ RelV p.2 q.2

/-- a key of a dict (00_mix): an int or a text -/
def kV : Key → V
  | .inl i => .int i
  | .inr x => .str x

/-- what stands at a tracked address -/
inductive HO where
  /-- a list -/
  | lst (xs : List V)
  /-- a tuple (never changes) -/
  | tup (xs : List V)
  /-- a dict whose keys are ints and texts; one whose keys are tuples of ints and texts (the empty one is both) -/
  | dK (kvs : List (Key × V)) | dT (kvs : List (List Key × V))
  /-- a set of ints: its members, its size -/
  | set (S : Int → Bool) (n : Nat)
  /-- an instance of the class at C, its dict at dx, its attributes -/
  | ins (C dx : Addr) (fs : List (Str × V))
  /-- the dict of the instance at x -/
  | own (x : Addr)
  /-- the dict of an exception -/
  | xd (fs : List (Str × V))
  /-- a bound method, f of x -/
  | met (f x : Addr)
  /-- a range object lo, lo + 1, .. below hi -/
  | rng (lo hi : Int)
  /-- a thing that is known to the object (the script; a dict while a loop walks it): read, never written while it is so -/
  | frz (o : Obj) (u : HO)
  /-- a code object's table -/
  | tbl (ps : Array Value)
  /-- any other thing, by what is true of its one object (a def of one's own: SetO a S n := HO.ext fun h => ..) -/
  | ext (φ : Heap → Prop)

abbrev Hp := Addr → Option HO
def upd (H : Hp) (a : Addr) (o : HO) : Hp := fun b => if b = a then some o else H b
theorem upd_same {H : Hp} {a : Addr} {o : HO} : upd H a o a = some o := by unfold upd; rw [if_pos rfl]
theorem upd_ne {H : Hp} {a b : Addr} {o : HO} (h : b ≠ a) : upd H a o b = H b := by unfold upd; rw [if_neg h]
theorem upd_upd {H : Hp} {a : Addr} {o u : HO} : upd (upd H a o) a u = upd H a u := by
  funext b; unfold upd; split <;> rfl
/-- two objects of different content stand apart -/
theorem ne_of {H : Hp} {a b : Addr} {o u : HO} (h : H a = some o) (h' : H b = some u) (d : o ≠ u) : a ≠ b := by
  intro e; subst e; rw [h] at h'; exact d (Option.some.inj h')
theorem ne_of_none {H : Hp} {a b : Addr} {o : HO} (h : H a = some o) (h' : H b = none) : a ≠ b := by
  intro e; subst e; rw [h] at h'; cases h'

section
variable (P : Program) (w : World)
def ObjOk (H : Hp) (h : Heap) (a : Addr) : HO → Prop
  | .lst xs => xs.length ≤ sizeLine ∧ ∃ (its : List Value) (n : Nat), Vals xs its ∧ h.get? a = some { cls := .type "list", data := .seq its.toArray n }
  | .tup xs => xs.length ≤ sizeLine ∧ ∃ its : List Value, Vals xs its ∧ IsTup h a its.toArray
  | .dK kvs => kvs.length ≤ sizeLine ∧ (a == sysModules) = false ∧ ∃ vs, KV kvs vs ∧ h.DictOf (mixKind P w) a vs
  | .dT kvs => kvs.length ≤ sizeLine ∧ (a == sysModules) = false ∧ ∃ xs : List (List Key × Addr × Value),
      Paired (fun (p : List Key × V) (q : List Key × Addr × Value) => p.1 = q.1 ∧ H q.2.1 = some (.tup (p.1.map kV)) ∧ RelV p.2 q.2.2) kvs xs ∧
      ∃ o es ep, h.get? a = some o ∧ o.ExactDict ∧ o.data = .dict es ep ∧ es.toList = xs.map (entryOfKey (tupleKind (mixKind P w))) ∧ (xs.map (·.1)).Nodup
  | .set S n => h.SetOf (intKind P w) a S n
  | .ins C dx fs => H dx = some (.own a) ∧ fs.length ≤ 1000 ∧ dx ≠ a ∧ h.get? a = some (PySem.W.instObj C dx) ∧
      ∃ mA, h.Ns1 dx mA ∧ (∀ f, RelO (fs.lookup f) (mA f)) ∧ PySem.Within mA (fs.map (·.1))
  | .own _ => ∃ o, h.get? a = some o
  | .xd fs => ∃ mA, h.Ns1 a mA ∧ ∀ f, RelO (fs.lookup f) (mA f)
  | .rng lo hi => ∃ t u v, h.get? a = some { cls := .type "range", data := .fields #[.int lo t, .int hi u, .int 1 v] }
  | .frz o u => h.get? a = some o ∧ ObjOk H h a u
  | .tbl ps => h.get? a = some { cls := .none, data := .fields ps }
  | .met f x => h.get? a = some (PySem.W.methodObj (.ref f) (.ref x))
  | .ext φ => φ h ∧ (∃ o, h.get? a = some o) ∧ ∀ h1 h2 : Heap, φ h1 → (∀ o, h1.get? a = some o → h2.get? a = some o) → φ h2
/-- the abstract heap is held -/
def HOk (H : Hp) (h : Heap) : Prop := ∀ a o, H a = some o → ObjOk P w H h a o
end

section
variable {P : Program} {w : World} {H H' : Hp} {h h' : Heap} {a : Addr} {o : HO}
theorem ObjOk.lt (x : ObjOk P w H h a o) : a < h.objs.size := by
  cases o with
  | lst xs => obtain ⟨_, _, _, _, e⟩ := x; exact Heap.lt_size e
  | tup xs => obtain ⟨_, _, _, p⟩ := x; exact p.lt
  | dK kvs => obtain ⟨_, _, _, _, o, _, _, e, _⟩ := x; exact Heap.lt_size e
  | dT kvs => obtain ⟨_, _, _, _, o, _, _, e, _⟩ := x; exact Heap.lt_size e
  | set S n => obtain ⟨o, _, _, _, e, _⟩ := x; exact Heap.lt_size e
  | ins C dx fs => obtain ⟨_, _, _, e, _⟩ := x; exact Heap.lt_size e
  | own y => obtain ⟨_, e⟩ := x; exact Heap.lt_size e
  | xd fs => obtain ⟨_, ⟨_, _, _, e, _⟩, _⟩ := x; exact Heap.lt_size e
  | rng lo hi => obtain ⟨_, _, _, e⟩ := x; exact Heap.lt_size e
  | frz ob u => obtain ⟨e, _⟩ := x; exact Heap.lt_size e
  | tbl ps => exact Heap.lt_size (show h.get? a = some _ from x)
  | met f y => exact Heap.lt_size (show h.get? a = some _ from x)
  | ext φ => obtain ⟨_, ⟨_, e⟩, _⟩ := x; exact Heap.lt_size e
theorem Paired.mapP {α β : Type} {F G : α → β → Prop} : ∀ {l₁ : List α} {l₂ : List β}, Paired F l₁ l₂ → (∀ a b, F a b → G a b) → Paired G l₁ l₂
  | _, _, .nil, _ => .nil
  | _, _, .cons r t, f => .cons (f _ _ r) (Paired.mapP t f)
theorem Paired.imp' {α β : Type} {F G : α → β → Prop} (f : ∀ a b, F a b → G a b) {l₁ : List α} {l₂ : List β} (r : Paired F l₁ l₂) : Paired G l₁ l₂ := Paired.mapP r f
/-- what an object's description leans on: its own object, its own dict, the tuples -/
theorem ObjOk.stay (x : ObjOk P w H h a o) (k : ∀ b u, (b = a ∨ H b = some (.own a)) → h.get? b = some u → h'.get? b = some u)
    (ho : ∀ b, H b = some (.own a) → H' b = some (.own a)) (ht : ∀ b xs, H b = some (.tup xs) → H' b = some (.tup xs)) : ObjOk P w H' h' a o := by
  induction o with
  | lst xs => obtain ⟨z, its, n, r, e⟩ := x; exact ⟨z, its, n, r, k _ _ (.inl rfl) e⟩
  | tup xs => obtain ⟨z, its, r, ob, e, c⟩ := x; exact ⟨z, its, r, ob, k _ _ (.inl rfl) e, c⟩
  | dK kvs => obtain ⟨z, y, vs, r, ob, es, ep, e, c⟩ := x; exact ⟨z, y, vs, r, ob, es, ep, k _ _ (.inl rfl) e, c⟩
  | dT kvs =>
    obtain ⟨z, y, xs, r, ob, es, ep, e, c⟩ := x
    exact ⟨z, y, xs, Paired.mapP r fun p q z => ⟨z.1, ht _ _ z.2.1, z.2.2⟩, ob, es, ep, k _ _ (.inl rfl) e, c⟩
  | set S n => obtain ⟨ob, es, ep, t, e, c⟩ := x; exact ⟨ob, es, ep, t, k _ _ (.inl rfl) e, c⟩
  | ins C dx fs =>
    obtain ⟨d, z, ne, e, mA, ⟨od, es, ep, e2, c⟩, r⟩ := x
    exact ⟨ho _ d, z, ne, k _ _ (.inl rfl) e, mA, ⟨od, es, ep, k _ _ (.inr d) e2, c⟩, r⟩
  | own y => obtain ⟨ob, e⟩ := x; exact ⟨ob, k _ _ (.inl rfl) e⟩
  | xd fs => obtain ⟨mA, ⟨od, es, ep, e, c⟩, r⟩ := x; exact ⟨mA, ⟨od, es, ep, k _ _ (.inl rfl) e, c⟩, r⟩
  | rng lo hi => obtain ⟨t, u, v, e⟩ := x; exact ⟨t, u, v, k _ _ (.inl rfl) e⟩
  | frz ob u ih => obtain ⟨e, q⟩ := x; exact ⟨k _ _ (.inl rfl) e, ih q⟩
  | tbl ps =>
    have e : h.get? a = some { cls := .none, data := .fields ps } := x
    show h'.get? a = some { cls := .none, data := .fields ps }
    exact k a _ (.inl rfl) e
  | met f y =>
    have e : h.get? a = some (PySem.W.methodObj (.ref f) (.ref y)) := x
    show h'.get? a = some (PySem.W.methodObj (.ref f) (.ref y))
    exact k a _ (.inl rfl) e
  | ext φ => obtain ⟨p, ⟨o, e⟩, st⟩ := x; exact ⟨st _ _ p fun o q => k _ _ (.inl rfl) q, ⟨o, k _ _ (.inl rfl) e⟩, st⟩
theorem HOk.lt (x : HOk P w H h) (e : H a = some o) : a < h.objs.size := (x a o e).lt
theorem HOk.fresh (x : HOk P w H h) (e : h.objs.size ≤ a) : H a = none := by
  cases q : H a with
  | none => rfl
  | some u => exact absurd (Nat.lt_of_lt_of_le (x.lt q) e) (Nat.lt_irrefl _)
/-- every object of the heap is kept -/
theorem HOk.kept (x : HOk P w H h) (k : ∀ b u, h.get? b = some u → h'.get? b = some u) : HOk P w H h' := fun a o e =>
  (x a o e).stay (fun b u _ q => k b u q) (fun _ q => q) fun _ _ q => q
/-- a new object is laid and tracked -/
theorem HOk.laid (x : HOk P w H h) (k : ∀ b u, h.get? b = some u → h'.get? b = some u) (hp : h.objs.size ≤ a) (new : ObjOk P w (upd H a o) h' a o) : HOk P w (upd H a o) h' := fun b u e => by
  have hn := x.fresh hp
  by_cases hb : b = a
  · subst hb; rw [upd_same] at e; cases e; exact new
  · rw [upd_ne hb] at e
    exact (x b u e).stay (fun c v _ q => k c v q) (fun c q => by rw [upd_ne (ne_of_none q hn)]; exact q) fun c xs q => by rw [upd_ne (ne_of_none q hn)]; exact q
end

/-- what may be read as u: it is u, or a known u -/
def Rd (H : Hp) (a : Addr) (u : HO) : Prop := H a = some u ∨ ∃ o, H a = some (.frz o u)
theorem Rd.of {H : Hp} {a : Addr} {u : HO} (h : H a = some u) : Rd H a u := .inl h
theorem Rd.ok {P : Program} {w : World} {H : Hp} {h : Heap} {a : Addr} {u : HO} (r : Rd H a u) (x : HOk P w H h) : ObjOk P w H h a u := by
  rcases r with r | ⟨o, r⟩
  · exact x a u r
  · obtain ⟨_, q⟩ := x a _ r
    exact q
/-- what may be written -/
def Mut : Option HO → Prop
  | some (.lst _) => True
  | some (.dK _) => True
  | some (.dT _) => True
  | some (.set _ _) => True
  | some (.ins _ _ _) => True
  | some (.ext _) => True
  | _ => False
section
variable {P : Program} {w : World} {H : Hp} {h h' : Heap} {x e : Addr} {o' : HO}
/-- the object at e is changed: x itself, or the dict of the instance x -/
theorem HOk.write (ok : HOk P w H h) (mu : Mut (H x)) (he : e = x ∨ H e = some (.own x)) (k : ∀ b u, b ≠ e → h.get? b = some u → h'.get? b = some u) (heo : ∃ u, h'.get? e = some u)
    (new : ObjOk P w (upd H x o') h' x o') : HOk P w (upd H x o') h' := fun b u q => by
  have nown : ∀ c y, H c = some (.own y) → c ≠ x := fun c y r z => by subst z; rw [r] at mu; exact mu
  have ntup : ∀ c xs, H c = some (.tup xs) → c ≠ x := fun c xs r z => by subst z; rw [r] at mu; exact mu
  by_cases hb : b = x
  · subst hb; rw [upd_same] at q; cases q; exact new
  · rw [upd_ne hb] at q
    by_cases hbe : b = e
    · have q' : H b = some (.own x) := by
        rcases he with z | z
        · exact absurd (hbe.trans z) hb
        · rw [hbe]; exact z
      rw [q] at q'; cases q'
      obtain ⟨v, hv⟩ := heo
      exact ⟨v, by rw [hbe]; exact hv⟩
    · refine (ok b u q).stay (fun c v hc r => k c v ?_ r) (fun c r => by rw [upd_ne (nown c b r)]; exact r) fun c xs r => by rw [upd_ne (ntup c xs r)]; exact r
      rcases hc with rfl | hc
      · exact hbe
      · rintro rfl
        rcases he with z | z
        · exact nown c b hc z
        · rw [hc] at z; cases z; exact hb rfl
end

/-! ### kept unless tracked; of the frames at fs (the callers') the slots may change (an exception that passes writes there); of the records at ex (iterators) nothing is said -/
structure Un (fs ex : List Addr) (H H' : Hp) (h h' : Heap) : Prop where
  keep : ∀ b o, h.get? b = some o → H b = none → b ∉ fs → b ∉ ex → h'.get? b = some o
  slot : ∀ b o, h.get? b = some o → H b = none → b ∈ fs → b ∉ ex → ∃ sl, h'.get? b = some { o with slots := sl }
  free : ∀ b o, h.get? b = some o → H b = none → b ∉ ex → H' b = none
  there : ∀ b o, h.get? b = some o → b ∉ ex → ∃ o', h'.get? b = some o'
  tups : ∀ b xs, H b = some (.tup xs) → H' b = some (.tup xs)
  frzs : ∀ b o u, H b = some (.frz o u) → H' b = some (.frz o u)
  tbls : ∀ b ps, H b = some (.tbl ps) → ∃ more, H' b = some (.tbl (ps ++ more))
section
variable {fs fs' ex ex' : List Addr} {H H1 H2 : Hp} {h h1 h2 h' : Heap} {a x e : Addr} {o : HO}
theorem Un.any (u : Un fs ex H H1 h h1) {b : Addr} {ob : Obj} (q : h.get? b = some ob) (n : H b = none) (hx : b ∉ ex) : ∃ sl, h1.get? b = some { ob with slots := sl } := by
  by_cases hb : b ∈ fs
  · exact u.slot b ob q n hb hx
  · exact ⟨ob.slots, u.keep b ob q n hb hx⟩
theorem Un.trans (a : Un fs ex H H1 h h1) (b : Un fs ex H1 H2 h1 h2) : Un fs ex H H2 h h2 where
  keep := fun c ob q n hc hx => b.keep c ob (a.keep c ob q n hc hx) (a.free c ob q n hx) hc hx
  slot := fun c ob q n hc hx => by
    obtain ⟨sl, e1⟩ := a.slot c ob q n hc hx
    obtain ⟨sl', e2⟩ := b.slot c _ e1 (a.free c ob q n hx) hc hx
    exact ⟨sl', e2⟩
  free := fun c ob q n hx => by
    obtain ⟨o', e1⟩ := a.there c ob q hx
    exact b.free c o' e1 (a.free c ob q n hx) hx
  there := fun c ob q hx => by
    obtain ⟨o', e1⟩ := a.there c ob q hx
    exact b.there c o' e1 hx
  tups := fun c xs q => b.tups c xs (a.tups c xs q)
  frzs := fun c ob xs q => b.frzs c ob xs (a.frzs c ob xs q)
  tbls := fun c ps q => by
    obtain ⟨m1, e1⟩ := a.tbls c ps q
    obtain ⟨m2, e2⟩ := b.tbls c _ e1
    exact ⟨m1 ++ m2, by rw [e2, Array.append_assoc]⟩
theorem Un.kept (k : ∀ b u, h.get? b = some u → h'.get? b = some u) : Un fs ex H H h h' :=
  ⟨fun b ob q _ _ _ => k b ob q, fun b ob q _ _ _ => ⟨ob.slots, k b ob q⟩, fun _ _ _ n _ => n, fun b ob q _ => ⟨ob, k b ob q⟩, fun _ _ q => q, fun _ _ _ q => q, fun _ ps q => ⟨#[], by rw [q]; simp⟩⟩
theorem Un.refl : Un fs ex H H h h := Un.kept fun _ _ q => q
theorem Un.laid (k : ∀ b u, h.get? b = some u → h'.get? b = some u) (hp : h.objs.size ≤ a) (hn : H a = none) : Un fs ex H (upd H a o) h h' where
  keep := fun b u q _ _ _ => k b u q
  slot := fun b u q _ _ _ => ⟨u.slots, k b u q⟩
  free := fun b u q n _ => by rw [upd_ne (Nat.ne_of_lt (Nat.lt_of_lt_of_le (Heap.lt_size q) hp))]; exact n
  there := fun b u q _ => ⟨u, k b u q⟩
  tups := fun b xs q => by rw [upd_ne (ne_of_none q hn)]; exact q
  frzs := fun b u xs q => by rw [upd_ne (ne_of_none q hn)]; exact q
  tbls := fun b ps q => ⟨#[], by rw [upd_ne (ne_of_none q hn), q]; simp⟩
theorem Un.write (mu : Mut (H x)) (he : e = x ∨ H e = some (.own x)) (k : ∀ b u, b ≠ e → h.get? b = some u → h'.get? b = some u) (heo : ∃ u, h'.get? e = some u) : Un fs ex H (upd H x o) h h' := by
  have hx : ∀ b, H b = none → b ≠ x := fun b n z => by subst z; rw [n] at mu; exact mu
  have hb : ∀ b, H b = none → b ≠ e := fun b n z => by
    subst z
    rcases he with r | r
    · exact hx b n r
    · rw [n] at r; cases r
  have hm : ∀ b u, H b = some u → ¬ Mut (some u) → b ≠ x := fun b u q nm z => by subst z; rw [q] at mu; exact nm mu
  refine ⟨fun b u q n _ _ => k b u (hb b n) q, fun b u q n _ _ => ⟨u.slots, k b u (hb b n) q⟩, fun b u q n _ => by rw [upd_ne (hx b n)]; exact n, fun b u q _ => ?_,
    fun b xs q => by rw [upd_ne (hm b _ q fun z => z)]; exact q, fun b u xs q => by rw [upd_ne (hm b _ q fun z => z)]; exact q, fun b ps q => ⟨#[], by rw [upd_ne (hm b _ q fun z => z), q]; simp⟩⟩
  by_cases hbe : b = e
  · subst hbe; exact heo
  · exact ⟨u, k b u hbe q⟩
theorem Un.mono (u : Un fs ex H H1 h h1) (hs : ∀ b ∈ fs, b ∈ fs') (hx : ∀ b ∈ ex, b ∈ ex') : Un fs' ex' H H1 h h1 :=
  ⟨fun b ob q n hb he => u.keep b ob q n (fun z => hb (hs b z)) fun z => he (hx b z), fun _ _ q n _ he => u.any q n fun z => he (hx _ z), fun b ob q n he => u.free b ob q n fun z => he (hx b z), fun b ob q he => u.there b ob q fun z => he (hx b z), u.tups, u.frzs, u.tbls⟩
end

/-! ### the heap without what is tracked -/
def trk (h : Heap) (H : Hp) : List Addr := (List.range h.objs.size).filter fun a => (H a).isSome
def hidT (h : Heap) (H : Hp) : Heap := PySem.W.hideAll h (trk h H)
theorem hidT_size (h : Heap) (H : Hp) : (hidT h H).objs.size = h.objs.size := PySem.W.hideAll_size _ _
theorem hidT_get {h : Heap} {H : Hp} {b : Addr} {o : Obj} (e : h.get? b = some o) (n : H b = none) : (hidT h H).get? b = some o :=
  PySem.W.hideAll_get _ e fun hm => by
    have q : (H b).isSome = true := (List.mem_filter.mp hm).2
    rw [n] at q; simp at q
theorem of_hidT {h : Heap} {H : Hp} {b : Addr} {o : Obj} (e : (hidT h H).get? b = some o) : h.get? b = some o ∧ H b = none := by
  have e' : h.get? b = some o := PySem.W.of_hideAll (trk h H) e
  refine ⟨e', ?_⟩
  cases q : H b with
  | none => rfl
  | some x =>
    have hm : b ∈ trk h H := List.mem_filter.mpr ⟨List.mem_range.mpr (Heap.lt_size e'), by simp [q]⟩
    have z : (hidT h H).get? b = none := PySem.W.hideAll_none (trk h H) hm
    rw [z] at e; cases e

/-! ### OpenK's ledger, filled with every new object but one -/
def allNews (g h : Heap) (L : Addr) : List (Addr × Obj) := (List.range h.objs.size).filterMap fun a => if a = L ∨ (g.get? a).isSome = true then none else (h.get? a).map fun o => (a, o)
theorem mem_allNews {g h : Heap} {L a : Addr} {o : Obj} (h1 : a ≠ L) (h2 : g.get? a = none) (h3 : h.get? a = some o) : (a, o) ∈ allNews g h L :=
  List.mem_filterMap.mpr ⟨a, List.mem_range.mpr (Heap.lt_size h3), by simp [h1, h2, h3]⟩
theorem of_mem_allNews {g h : Heap} {L : Addr} {p : Addr × Obj} (hp : p ∈ allNews g h L) : p.1 ≠ L ∧ g.get? p.1 = none ∧ h.get? p.1 = some p.2 := by
  obtain ⟨b, _, e⟩ := List.mem_filterMap.mp hp
  split at e
  · cases e
  · rename_i hn
    cases q : h.get? b with
    | none => rw [q] at e; simp at e
    | some u =>
      rw [q] at e
      simp only [Option.map_some, Option.some.injEq] at e
      subst e
      refine ⟨fun z => hn (.inl z), ?_, q⟩
      show g.get? b = none
      cases r : g.get? b with
      | none => rfl
      | some v => exact (hn (.inr (by simp [r]))).elim
def rest (g h : Heap) (L d : Addr) : List (Addr × Obj) := (allNews g h L).filter fun p => decide (p.1 ≠ d)
theorem rest_ne {g h : Heap} {L d : Addr} : ∀ p ∈ rest g h L d, p.1 ≠ d := fun p hp => of_decide_eq_true (List.mem_filter.mp hp).2
theorem mem_rest {g h : Heap} {L d a : Addr} {o : Obj} (h1 : a ≠ L) (h2 : g.get? a = none) (h3 : h.get? a = some o) (h4 : a ≠ d) : (a, o) ∈ rest g h L d :=
  List.mem_filter.mpr ⟨mem_allNews h1 h2 h3, decide_eq_true h4⟩
theorem news_all {g h : Heap} {L : Addr} : News g L h (allNews g h L) := fun p hp => let ⟨a, b, c⟩ := of_mem_allNews hp; ⟨c, a, b⟩
theorem news_at {g h : Heap} {L d : Addr} {o : Obj} (h1 : d ≠ L) (h2 : g.get? d = none) (h3 : h.get? d = some o) : News g L h ((d, o) :: rest g h L d) := fun p hp => by
  rcases List.mem_cons.mp hp with rfl | hp
  · exact ⟨h3, h1, h2⟩
  · exact news_all p (List.mem_filter.mp hp).1
/-- behind a rule that changed d alone: all else but the frame is kept -/
theorem kept_of_news {g h h' : Heap} {L d : Addr} {m : Str → Option Value} (k : ∀ b o, g.get? b = some o → h.get? b = some o) (F : Fr g L h' m) (N : News g L h' (rest g h L d)) :
    ∀ b o, b ≠ L → b ≠ d → h.get? b = some o → h'.get? b = some o := fun b o h1 h2 e => by
  cases q : g.get? b with
  | some u =>
    have := k b u q
    rw [e] at this; cases this
    exact F.keep b _ q
  | none => exact (N (b, o) (mem_rest h1 q e h2)).1
end L2

namespace L2
open PySem PySem.Spec PyProof.Rows

/-- the module's facts, over the base: the heap at the law's entry without what is tracked there -/
structure Mod (K : PySem.W.Frag) (mg : Str → Option Value) (base : Heap) : Prop where
  kin : K.In base
  glob : base.Ns mainGlobals mg
  blt : ∃ mb, base.Ns builtinsNs mb ∧ ∀ x : Str, x ≠ "__name__" → mb x = bootBuiltins x
  nolimit : base.NoLimit

/-- the context: a def's body (or a comprehension's block) running. base: fixed through the whole law; s₀, H₀: the entry; outer: the frames whose slots others may change (a def's callers); stack: all frames that run;
   ex: iterators that were made ahead of the entry and are walked here (a comprehension's); fn: the names whose cells were made at the entry (a def: all; a comprehension's block: its own); calm: not within an except suite; pn: pins that every state bears; xe: what is wanted of an exception that leaves the code -/
structure Cx where
  prog : Program
  w : World
  K : PySem.W.Frag
  mg : Str → Option Value
  base : Heap
  A : Around
  N : List Str
  s₀ : Shared
  H₀ : Hp
  env : Env
  outer : List Env
  stack : List Env
  ex : List Addr
  fn : Str → Bool
  calm : Bool
  pn : List (Addr × Obj)
  xe : Value → Shared → Prop
/-- the callers' frames -/
def frs (l : List Env) : List Addr := l.filterMap (·.frame)
abbrev Cx.fs (X : Cx) : List Addr := frs X.outer

def Vis (sc : Scope) (x : Str) : Prop := sc.names.lookup x = some .local ∨ sc.names.lookup x = some .cell ∨ sc.names.lookup x = some .free
def Loc (sc : Scope) (x : Str) : Prop := sc.names.lookup x = some .local ∨ sc.names.lookup x = some .cell
def Look (env : Env) (h : Heap) (m : Str → Option Value) (x : Str) (u : Value) : Prop :=
  (env.kindOf x = some .local ∧ m x = some u) ∨ ((env.kindOf x = some .cell ∨ env.kindOf x = some .free) ∧ ∃ c, env.cells.lookup x = some c ∧ h.IsCell c (some u))

structure Cx.Ok (X : Cx) : Prop where
  mod : Mod X.K X.mg X.base
  kind : X.env.scope.kind = .function
  glob : X.env.globals = mainGlobals
  blt : X.env.builtins = builtinsNs
  above : X.s₀.heap.objs.size ≤ X.env.locals
  inj : ∀ x y c, X.env.cells.lookup x = some c → X.env.cells.lookup y = some c → x = y
  has : ∀ x, (X.env.kindOf x = some .cell ∨ X.env.kindOf x = some .free) → ∃ c, X.env.cells.lookup x = some c
  cab : ∀ x c, X.fn x = true → X.env.cells.lookup x = some c → X.s₀.heap.objs.size ≤ c
  hd : X.calm = true → X.A.handled = none
  frames : X.A.frames = some X.stack
  stk : X.stack = X.outer ∨ (X.stack = X.env :: X.outer ∧ X.env.frame = some X.env.locals)
  exf : ∀ b ∈ X.ex, b ≠ X.env.locals ∧ ∀ x c, X.env.cells.lookup x = some c → c ≠ b
  bs : ∀ b o, X.base.get? b = some o → X.s₀.heap.get? b = some o ∧ X.H₀ b = none
  bsz : X.base.objs.size ≤ X.s₀.heap.objs.size
  noex : ∀ b o, X.base.get? b = some o → b ∉ X.ex
  exfs : ∀ b ∈ X.ex, b ∉ X.fs
  funs : X.s₀.heap.FunFrames X.base X.outer
  frf : ∀ b ∈ X.fs, X.H₀ b = none

structure Inv (X : Cx) (pins : List (Addr × Obj)) (σ : List (Option V)) (H : Hp) (s : Shared) : Prop where
  ok : X.Ok
  os : s.os = X.s₀.os
  bare : AllBare s.gens
  base : Un X.fs X.ex X.H₀ H X.s₀.heap s.heap
  loc : ∃ m, s.heap.Ns X.env.locals m ∧ ∀ (i : Nat) (x : Str) (v : V), X.N[i]? = some x → σ[i]? = some (some v) → Vis X.env.scope x → ∃ u, RelV v u ∧ Look X.env s.heap m x u
  cell : ∀ x c, X.env.cells.lookup x = some c → ∃ v, s.heap.IsCell c v
  free : H X.env.locals = none
  freeC : ∀ x c, X.env.cells.lookup x = some c → H c = none
  pin : ∀ p ∈ X.pn ++ pins, s.heap.get? p.1 = some p.2 ∧ H p.1 = none ∧ p.1 ≠ X.env.locals ∧ p.1 ∉ X.fs ∧ ∀ v, p.2.data ≠ .cell v
  hok : HOk X.prog X.w H s.heap
  len : σ.length = X.N.length

section
variable {X : Cx} {pins : List (Addr × Obj)} {σ : List (Option V)} {H H' : Hp} {s : Shared} {h' : Heap}

theorem Cx.Ok.nofr (ok : X.Ok) {b : Addr} {o : Obj} (e : X.base.get? b = some o) : b ∉ X.fs := fun hb => by
  have := (ok.funs.mem hb).1
  rw [e] at this; cases this
theorem Inv.bs (I : Inv X pins σ H s) : ∀ b o, X.base.get? b = some o → s.heap.get? b = some o ∧ H b = none := fun b o e =>
  ⟨I.base.keep b o (I.ok.bs b o e).1 (I.ok.bs b o e).2 (I.ok.nofr e) (I.ok.noex b o e), I.base.free b o (I.ok.bs b o e).1 (I.ok.bs b o e).2 (I.ok.noex b o e)⟩
theorem Inv.bk (I : Inv X pins σ H s) : ∀ b o, X.base.get? b = some o → s.heap.get? b = some o := fun b o e => (I.bs b o e).1
theorem Inv.mod (I : Inv X pins σ H s) : Mod X.K X.mg X.base := I.ok.mod
theorem Inv.kIn (I : Inv X pins σ H s) : X.K.In s.heap := I.ok.mod.kin.keeps I.bk
theorem Inv.nolimit (I : Inv X pins σ H s) : s.heap.NoLimit := I.ok.mod.nolimit.keeps I.bk
/-- the frame over the base: for OpenK's rules (K.In X.base is I.mod.kin) -/
theorem Inv.fr (I : Inv X pins σ H s) : ∃ m, Fr X.base X.env.locals s.heap m :=
  let ⟨m, hn, _⟩ := I.loc
  ⟨m, hn, I.bk, Nat.le_trans I.ok.bsz I.ok.above⟩
theorem Inv.lt (I : Inv X pins σ H s) : X.env.locals < s.heap.objs.size := let ⟨_, hn, _⟩ := I.loc; hn.lt
theorem Inv.sz (I : Inv X pins σ H s) : X.s₀.heap.objs.size ≤ s.heap.objs.size := Nat.le_trans I.ok.above (Nat.le_of_lt I.lt)
theorem Inv.nofs (I : Inv X pins σ H s) {a : Addr} (h : s.heap.objs.size ≤ a) : a ∉ X.fs := fun hb => by
  obtain ⟨_, o, ho, _⟩ := I.ok.funs.mem hb
  exact absurd (Nat.lt_of_lt_of_le (Heap.lt_size ho) (Nat.le_trans I.sz h)) (Nat.lt_irrefl _)
theorem Inv.cne (I : Inv X pins σ H s) : ∀ x c, X.env.cells.lookup x = some c → c ≠ X.env.locals := fun x c e z => by
  obtain ⟨v, o, ho, hd⟩ := I.cell x c e
  obtain ⟨m, ⟨o', es, ep, ho', hd', _⟩, _⟩ := I.loc
  rw [z, ho'] at ho; cases ho; rw [hd'] at hd; cases hd
theorem Inv.funs (I : Inv X pins σ H s) : s.heap.FunFrames X.base X.outer := by
  have all : ∀ (l : List Env), (∀ b ∈ frs l, b ∈ X.fs) → X.s₀.heap.FunFrames X.base l → s.heap.FunFrames X.base l := by
    intro l
    induction l with
    | nil => intro _ _; trivial
    | cons env r ih =>
      intro hs hl
      obtain ⟨hk, ⟨L, o, hf, hn, ho, hd⟩, hr⟩ := hl
      have hL : L ∈ X.fs := hs L (by unfold frs; rw [List.filterMap_cons, hf]; exact List.mem_cons_self)
      obtain ⟨sl, e⟩ := I.base.slot L o ho (I.ok.frf L hL) hL fun z => I.ok.exfs L z hL
      exact ⟨hk, ⟨L, _, hf, hn, e, hd⟩, ih (fun b hb => hs b (by unfold frs; rw [List.filterMap_cons, hf]; exact List.mem_cons_of_mem _ hb)) hr⟩
  exact all X.outer (fun _ hb => hb) I.ok.funs

/-- the frames that run, for a call -/
theorem Inv.stack (I : Inv X pins σ H s) : s.heap.FunFrames X.base X.stack := by
  rcases I.ok.stk with e | ⟨e, hf⟩
  · rw [e]; exact I.funs
  · rw [e]
    obtain ⟨m, hn, _⟩ := I.loc
    refine .cons (by rw [I.ok.kind]; decide) hf hn ?_ I.funs
    exact Heap.get?_none_of_le (Nat.le_trans I.ok.bsz I.ok.above)
theorem Inv.stkSub (I : Inv X pins σ H s) : ∀ b ∈ frs X.stack, b ∈ X.env.locals :: X.fs := fun b hb => by
  rcases I.ok.stk with e | ⟨e, hf⟩
  · rw [e] at hb; exact List.mem_cons_of_mem _ hb
  · rw [e] at hb
    unfold frs at hb
    rw [List.filterMap_cons, hf] at hb
    exact hb
theorem Inv.stkFree (I : Inv X pins σ H s) : ∀ b ∈ frs X.stack, H b = none := fun b hb => by
  rcases List.mem_cons.mp (I.stkSub b hb) with e | hb
  · rw [e]; exact I.free
  · obtain ⟨_, o, ho, _⟩ := I.ok.funs.mem hb
    exact I.base.free b o ho (I.ok.frf b hb) fun z => I.ok.exfs b z hb

/-- THE STEP: the untracked objects but the frame and the records at ch are kept (the callers' frames up to slots), the frame's map is kept, the new abstract heap is held -/
theorem Inv.step {g' : Array GenState} {t' : Nat} {d' : Drawn} {ch : List Addr} (I : Inv X pins σ H s)
    (hch : ∀ b ∈ ch, (b ∈ X.ex ∨ X.s₀.heap.objs.size ≤ b) ∧ b ≠ X.env.locals ∧ (∀ x c, X.env.cells.lookup x = some c → c ≠ b) ∧ ∀ p ∈ X.pn ++ pins, p.1 ≠ b)
    (keep : ∀ b o, b ≠ X.env.locals → b ∉ X.fs → b ∉ ch → s.heap.get? b = some o → H b = none → h'.get? b = some o)
    (slot : ∀ b o, b ≠ X.env.locals → b ∈ X.fs → b ∉ ch → s.heap.get? b = some o → H b = none → ∃ sl, h'.get? b = some { o with slots := sl }) (free : ∀ b o, b ∉ ch → s.heap.get? b = some o → H b = none → H' b = none)
    (there : ∀ b o, b ∉ ch → s.heap.get? b = some o → ∃ o', h'.get? b = some o')
    (tups : ∀ b xs, H b = some (.tup xs) → H' b = some (.tup xs)) (frzs : ∀ b o u, H b = some (.frz o u) → H' b = some (.frz o u)) (tbls : ∀ b ps, H b = some (.tbl ps) → ∃ more, H' b = some (.tbl (ps ++ more)))
    (ns : ∀ m, s.heap.Ns X.env.locals m → h'.Ns X.env.locals m) (hok : HOk X.prog X.w H' h') (hg : AllBare g') :
    Inv X pins σ H' { s with heap := h', gens := g', drawn := d', toks := t' } := by
  have neL : ∀ b o, X.s₀.heap.get? b = some o → b ≠ X.env.locals := fun b o e => Nat.ne_of_lt (Nat.lt_of_lt_of_le (Heap.lt_size e) I.ok.above)
  have neC : ∀ b o, X.s₀.heap.get? b = some o → b ∉ X.ex → b ∉ ch := fun b o e hx hb => by
    rcases (hch b hb).1 with z | z
    · exact hx z
    · exact absurd (Nat.lt_of_lt_of_le (Heap.lt_size e) z) (Nat.lt_irrefl _)
  have cellK : ∀ x c, X.env.cells.lookup x = some c → ∀ v, s.heap.IsCell c v → h'.IsCell c v := fun x c e v ⟨o, ho, hd⟩ => by
    have nch : c ∉ ch := fun z => (hch c z).2.2.1 x c e rfl
    by_cases hc : c ∈ X.fs
    · obtain ⟨sl, q⟩ := slot c o (I.cne x c e) hc nch ho (I.freeC x c e)
      exact ⟨_, q, hd⟩
    · exact ⟨o, keep c o (I.cne x c e) hc nch ho (I.freeC x c e), hd⟩
  refine ⟨I.ok, I.os, hg, ⟨fun b o e n hb hx => ?_, fun b o e n hb hx => ?_, fun b o e n hx => ?_, fun b o e hx => ?_, fun b xs e => tups b xs (I.base.tups b xs e), fun b o xs e => frzs b o xs (I.base.frzs b o xs e), fun b ps e => ?_⟩, ?_, fun x c e => ?_, ?_, fun x c e => ?_, fun p hp => ?_, hok, I.len⟩
  · exact keep b o (neL b o e) hb (neC b o e hx) (I.base.keep b o e n hb hx) (I.base.free b o e n hx)
  · obtain ⟨sl, e1⟩ := I.base.slot b o e n hb hx
    obtain ⟨sl', e2⟩ := slot b _ (neL b o e) hb (neC b o e hx) e1 (I.base.free b o e n hx)
    exact ⟨sl', e2⟩
  · obtain ⟨o', e1⟩ := I.base.there b o e hx
    exact free b o' (neC b o e hx) e1 (I.base.free b o e n hx)
  · obtain ⟨o', e1⟩ := I.base.there b o e hx
    exact there b o' (neC b o e hx) e1
  · obtain ⟨m1, e1⟩ := I.base.tbls b ps e
    obtain ⟨m2, e2⟩ := tbls b _ e1
    exact ⟨m1 ++ m2, by rw [e2, Array.append_assoc]⟩
  · obtain ⟨m, hn, hl⟩ := I.loc
    refine ⟨m, ns m hn, fun i x v e1 e2 e3 => ?_⟩
    obtain ⟨u, r, l⟩ := hl i x v e1 e2 e3
    refine ⟨u, r, ?_⟩
    rcases l with l | ⟨k, c, e, z⟩
    · exact .inl l
    · exact .inr ⟨k, c, e, cellK x c e _ z⟩
  · obtain ⟨v, z⟩ := I.cell x c e
    exact ⟨v, cellK x c e v z⟩
  · obtain ⟨m, ⟨o, _, _, ho, _⟩, _⟩ := I.loc
    exact free _ o (fun z => (hch _ z).2.1 rfl) ho I.free
  · obtain ⟨v, o, ho, hd⟩ := I.cell x c e
    exact free c o (fun z => (hch c z).2.2.1 x c e rfl) ho (I.freeC x c e)
  · obtain ⟨e, n, ne, nf, d⟩ := I.pin p hp
    have nch : p.1 ∉ ch := fun z => (hch p.1 z).2.2.2 p hp rfl
    exact ⟨keep p.1 p.2 ne nf nch e n, free p.1 p.2 nch e n, ne, nf, d⟩
/-- .. where the frame's own object is kept too -/
theorem Inv.un {t' : Nat} (I : Inv X pins σ H s) (u : Un X.fs [] H H' s.heap h') (hok : HOk X.prog X.w H' h') : Inv X pins σ H' { s with heap := h', toks := t' } := by
  obtain ⟨m, ⟨o, es, ep, ho, r⟩, _⟩ := id I.loc
  obtain ⟨sl, hL⟩ := u.any ho I.free (by simp)
  exact I.step (g' := s.gens) (d' := s.drawn) (ch := []) (fun _ z => nomatch z) (fun b o _ hb _ e n => u.keep b o e n hb (by simp)) (fun b o _ hb _ e n => u.slot b o e n hb (by simp)) (fun b o _ e n => u.free b o e n (by simp)) (fun b o _ e => u.there b o e (by simp)) u.tups u.frzs u.tbls (fun m' hm => by
    obtain ⟨o', es', ep', ho', r'⟩ := hm
    rw [ho] at ho'; cases ho'
    exact ⟨_, es', ep', hL, r'⟩) hok I.bare
/-- behind a call (or a comprehension's block): the slots of this frame may have changed too, the records at ch may have turned -/
theorem Inv.call {g' : Array GenState} {t' : Nat} {d' : Drawn} {ch : List Addr} (I : Inv X pins σ H s) (u : Un (frs X.stack) ch H H' s.heap h') (hok : HOk X.prog X.w H' h') (hg : AllBare g')
    (hch : ∀ b ∈ ch, (b ∈ X.ex ∨ X.s₀.heap.objs.size ≤ b) ∧ b ≠ X.env.locals ∧ (∀ x c, X.env.cells.lookup x = some c → c ≠ b) ∧ ∀ p ∈ X.pn ++ pins, p.1 ≠ b) :
    Inv X pins σ H' { s with heap := h', gens := g', drawn := d', toks := t' } := by
  obtain ⟨m, ⟨o, es, ep, ho, r⟩, _⟩ := id I.loc
  obtain ⟨sl, hL⟩ := u.any ho I.free fun z => (hch _ z).2.1 rfl
  exact I.step (ch := ch) hch (fun b o hL hb hc e n => u.keep b o e n (fun z => (List.mem_cons.mp (I.stkSub b z)).elim hL hb) hc) (fun b o _ _ hc e n => u.any e n hc) (fun b o hc e n => u.free b o e n hc) (fun b o hc e => u.there b o e hc) u.tups u.frzs u.tbls (fun m' hm => by
    obtain ⟨o', es', ep', ho', r'⟩ := hm
    rw [ho] at ho'; cases ho'
    exact ⟨_, es', ep', hL, r'⟩) hok hg
/-- an untracked record of ours (an iterator) has turned -/
theorem Inv.turned {t' : Nat} {it : Addr} (I : Inv X pins σ H s) (k : ∀ b o, b ≠ it → s.heap.get? b = some o → h'.get? b = some o) (hn : H it = none) (hL : it ≠ X.env.locals)
    (h1 : it ∈ X.ex ∨ X.s₀.heap.objs.size ≤ it) (h2 : ∀ x c, X.env.cells.lookup x = some c → c ≠ it) (h3 : ∀ p ∈ X.pn ++ pins, p.1 ≠ it) : Inv X pins σ H { s with heap := h', toks := t' } := by
  have nit : ∀ b u, H b = some u → b ≠ it := fun b u e z => by rw [z, hn] at e; cases e
  refine I.step (g' := s.gens) (d' := s.drawn) (ch := [it]) (fun b hb => ?_) (fun b o _ _ hc e _ => k b o (fun z => hc (by simp [z])) e) (fun b o _ _ hc e _ => ⟨o.slots, k b o (fun z => hc (by simp [z])) e⟩) (fun _ _ _ _ n => n)
    (fun b o hc e => ⟨o, k b o (fun z => hc (by simp [z])) e⟩) (fun _ _ e => e) (fun _ _ _ e => e) (fun b ps e => ⟨#[], by rw [e]; simp⟩) (fun m hm => ?_) (fun b u e => ?_) I.bare
  · have e : b = it := by simpa using hb
    subst e
    exact ⟨h1, hL, h2, h3⟩
  · obtain ⟨o, es, ep, ho, r⟩ := hm
    exact ⟨o, es, ep, k _ o (Ne.symm hL) ho, r⟩
  · refine (I.hok b u e).stay (fun c v hc q => k c v ?_ q) (fun _ q => q) fun _ _ q => q
    rcases hc with z | z
    · rw [z]; exact nit b u e
    · exact nit c _ z
theorem Inv.tok (I : Inv X pins σ H s) (t : Nat) : Inv X pins σ H { s with toks := t } := I.un (h' := s.heap) (t' := t) Un.refl I.hok
/-- all objects kept -/
theorem Inv.kept {t' : Nat} (I : Inv X pins σ H s) (k : ∀ b u, s.heap.get? b = some u → h'.get? b = some u) : Inv X pins σ H { s with heap := h', toks := t' } := I.un (Un.kept k) (I.hok.kept k)
/-- a new object laid and tracked -/
theorem Inv.laid {a : Addr} {o : HO} {t' : Nat} (I : Inv X pins σ H s) (k : ∀ b u, s.heap.get? b = some u → h'.get? b = some u) (hp : s.heap.objs.size ≤ a) (new : ObjOk X.prog X.w (upd H a o) h' a o) :
    Inv X pins σ (upd H a o) { s with heap := h', toks := t' } := I.un (Un.laid k hp (I.hok.fresh hp)) (I.hok.laid k hp new)
/-- an object written -/
theorem Inv.write {x e : Addr} {o : HO} {t' : Nat} (I : Inv X pins σ H s) (mu : Mut (H x)) (he : e = x ∨ H e = some (.own x)) (k : ∀ b u, b ≠ e → s.heap.get? b = some u → h'.get? b = some u) (heo : ∃ u, h'.get? e = some u)
    (new : ObjOk X.prog X.w (upd H x o) h' x o) : Inv X pins σ (upd H x o) { s with heap := h', toks := t' } := I.un (Un.write mu he k heo) (I.hok.write mu he k heo new)
/-- forgetting slots, pins -/
theorem Inv.weak {σ' : List (Option V)} (I : Inv X pins σ H s) (hl : σ'.length = σ.length) (w : ∀ (i : Nat) v, σ'[i]? = some (some v) → σ[i]? = some (some v)) : Inv X pins σ' H s :=
  ⟨I.ok, I.os, I.bare, I.base, let ⟨m, hn, hl'⟩ := I.loc; ⟨m, hn, fun i x v e1 e2 e3 => hl' i x v e1 (w i v e2) e3⟩, I.cell, I.free, I.freeC, I.pin, I.hok, hl.trans I.len⟩
theorem Inv.pins_of {pins' : List (Addr × Obj)} (I : Inv X pins σ H s) (h : ∀ p ∈ pins', s.heap.get? p.1 = some p.2 ∧ H p.1 = none ∧ p.1 ≠ X.env.locals ∧ p.1 ∉ X.fs ∧ ∀ v, p.2.data ≠ .cell v) : Inv X pins' σ H s :=
  ⟨I.ok, I.os, I.bare, I.base, I.loc, I.cell, I.free, I.freeC, fun p hp => (List.mem_append.mp hp).elim (fun z => I.pin p (List.mem_append_left _ z)) (h p), I.hok, I.len⟩

theorem nodup_ix {N : List Str} (hN : N.Nodup) {i j : Nat} {x : Str} (a : N[i]? = some x) (b : N[j]? = some x) : i = j := by
  obtain ⟨h1, e1⟩ := List.getElem?_eq_some_iff.mp a
  obtain ⟨h2, e2⟩ := List.getElem?_eq_some_iff.mp b
  exact (List.getElem_inj hN).mp (e1.trans e2.symm)

/-- a name is stored; what changed -/
theorem store_ok2 {M : Model} {A : Around} {E : Value → Shared → Prop} {i : Nat} {x : Str} {v : V} {u : Value} {Q : Unit → Shared → Prop} (I : Inv X pins σ H s) (hN : X.N.Nodup) (hi : X.N[i]? = some x) (hx : Loc X.env.scope x) (r : RelV v u)
    (h : ∀ s', Inv X pins (σ.set i (some v)) H s' → (∃ a, Heap.SameBut a s.heap s'.heap ∧ (a = X.env.locals ∨ X.env.cells.lookup x = some a)) → Q () s') (hf : X.fn x = true ∨ X.env.scope.names.lookup x = some .local := by first | exact .inl rfl | exact .inr rfl | assumption) : wpAny M A (storeName X.env x u) Q E s := by
  obtain ⟨m, hn, hl⟩ := id I.loc
  have hcls : (X.env.scope.kind == .class || (X.env.scope.kind == .module && X.env.locals != X.env.globals)) = false := by rw [I.ok.kind]; rfl
  have hiσ : i < σ.length := by rw [I.len]; exact (List.getElem?_eq_some_iff.mp hi).1
  have cne := I.cne
  have tracked : ∀ {a : Addr} {h' : Heap}, (∃ o, s.heap.get? a = some o ∧ H a = none) → Heap.SameBut a s.heap h' → HOk X.prog X.w H h' := fun {a h'} ha hs b ob e => by
    obtain ⟨_, _, hfree⟩ := ha
    refine (I.hok b ob e).stay (fun c w' hc q => (hs.2 c ?_).trans q) (fun _ q => q) fun _ _ q => q
    rintro rfl
    rcases hc with rfl | hc
    · rw [hfree] at e; cases e
    · rw [hfree] at hc; cases hc
  rcases hx with hk | hk
  · refine wpAny_storeName_local hk hn (fun h' hn' hs => ?_) hcls
    obtain ⟨oL, _, _, hoL, _⟩ := id hn
    refine h _ ⟨I.ok, I.os, I.bare, ⟨fun b o e n hb hx => ?_, fun b o e n hb hx => ?_, I.base.free, fun b o e hx => ?_, I.base.tups, I.base.frzs, I.base.tbls⟩, ⟨_, hn', fun j y v' e1 e2 e3 => ?_⟩, fun y c e => ?_, I.free, I.freeC, fun p hp => ?_, tracked ⟨oL, hoL, I.free⟩ hs, by simpa using I.len⟩ ⟨_, hs, .inl rfl⟩
    · exact (hs.2 b (Nat.ne_of_lt (Nat.lt_of_lt_of_le (Heap.lt_size e) I.ok.above))).trans (I.base.keep b o e n hb hx)
    · obtain ⟨sl, e1⟩ := I.base.slot b o e n hb hx
      exact ⟨sl, (hs.2 b (Nat.ne_of_lt (Nat.lt_of_lt_of_le (Heap.lt_size e) I.ok.above))).trans e1⟩
    · obtain ⟨o', e1⟩ := I.base.there b o e hx
      exact ⟨o', (hs.2 b (Nat.ne_of_lt (Nat.lt_of_lt_of_le (Heap.lt_size e) I.ok.above))).trans e1⟩
    · by_cases hj : j = i
      · subst hj
        rw [hi] at e1; cases e1
        rw [List.getElem?_set_self hiσ] at e2
        cases e2
        exact ⟨u, r, .inl ⟨hk, by simp⟩⟩
      · rw [List.getElem?_set_ne (Ne.symm hj)] at e2
        obtain ⟨u', r', q⟩ := hl j y v' e1 e2 e3
        refine ⟨u', r', ?_⟩
        rcases q with ⟨k, e⟩ | ⟨k, c, e, z⟩
        · refine .inl ⟨k, ?_⟩
          have : y ≠ x := fun e => hj (nodup_ix hN e1 (e ▸ hi))
          simp [this, e]
        · exact .inr ⟨k, c, e, z.sameBut hs (cne y c e)⟩
    · obtain ⟨w', z⟩ := I.cell y c e
      exact ⟨w', z.sameBut hs (cne y c e)⟩
    · obtain ⟨e, n, ne, nf, d⟩ := I.pin p hp
      exact ⟨(hs.2 p.1 ne).trans e, n, ne, nf, d⟩
  · have hfn : X.fn x = true := by
      rcases hf with z | z
      · exact z
      · rw [z] at hk; cases hk
    obtain ⟨c, hc⟩ := I.ok.has x (.inl hk)
    obtain ⟨w', z⟩ := I.cell x c hc
    refine wpAny_storeName_cell I.ok.kind hk hc z (fun h' hc' hs => ?_)
    obtain ⟨oc, hoc, hocd⟩ := id z
    refine h { s with heap := h' } ⟨I.ok, I.os, I.bare, ⟨fun b o e n hb hx => ?_, fun b o e n hb hx => ?_, I.base.free, fun b o e hx => ?_, I.base.tups, I.base.frzs, I.base.tbls⟩, ⟨m, hn.sameBut hs (Ne.symm (cne x c hc)), fun j y v' e1 e2 e3 => ?_⟩, fun y c' e => ?_, I.free, I.freeC, fun p hp => ?_, tracked ⟨oc, hoc, I.freeC x c hc⟩ hs, by simpa using I.len⟩ ⟨c, hs, .inr hc⟩
    · exact (hs.2 b (Nat.ne_of_lt (Nat.lt_of_lt_of_le (Heap.lt_size e) (I.ok.cab x c hfn hc)))).trans (I.base.keep b o e n hb hx)
    · obtain ⟨sl, e1⟩ := I.base.slot b o e n hb hx
      exact ⟨sl, (hs.2 b (Nat.ne_of_lt (Nat.lt_of_lt_of_le (Heap.lt_size e) (I.ok.cab x c hfn hc)))).trans e1⟩
    · obtain ⟨o', e1⟩ := I.base.there b o e hx
      exact ⟨o', (hs.2 b (Nat.ne_of_lt (Nat.lt_of_lt_of_le (Heap.lt_size e) (I.ok.cab x c hfn hc)))).trans e1⟩
    · by_cases hj : j = i
      · subst hj
        rw [hi] at e1; cases e1
        rw [List.getElem?_set_self hiσ] at e2
        cases e2
        exact ⟨u, r, .inr ⟨.inl hk, c, hc, hc'⟩⟩
      · rw [List.getElem?_set_ne (Ne.symm hj)] at e2
        obtain ⟨u', r', q⟩ := hl j y v' e1 e2 e3
        refine ⟨u', r', ?_⟩
        rcases q with q | ⟨k, c', e, z'⟩
        · exact .inl q
        · refine .inr ⟨k, c', e, z'.sameBut hs ?_⟩
          rintro rfl
          exact hj (nodup_ix hN e1 (I.ok.inj _ _ _ e hc ▸ hi))
    · by_cases hcc : c' = c
      · subst hcc; exact ⟨_, hc'⟩
      · obtain ⟨w2, z2⟩ := I.cell y c' e
        exact ⟨w2, z2.sameBut hs hcc⟩
    · obtain ⟨e, n, ne, nf, d⟩ := I.pin p hp
      refine ⟨(hs.2 p.1 ?_).trans e, n, ne, nf, d⟩
      intro q
      rw [q, hoc] at e
      have q' : oc = p.2 := Option.some.inj e
      exact d w' (by rw [← q']; exact hocd)
theorem store_ok {M : Model} {A : Around} {E : Value → Shared → Prop} {i : Nat} {x : Str} {v : V} {u : Value} {Q : Unit → Shared → Prop} (I : Inv X pins σ H s) (hN : X.N.Nodup) (hi : X.N[i]? = some x) (hx : Loc X.env.scope x) (r : RelV v u)
    (h : ∀ s', Inv X pins (σ.set i (some v)) H s' → Q () s') (hf : X.fn x = true ∨ X.env.scope.names.lookup x = some .local := by first | exact .inl rfl | exact .inr rfl | assumption) : wpAny M A (storeName X.env x u) Q E s :=
  store_ok2 I hN hi hx r (fun s' I' _ => h s' I') hf
/-- behind a call or a block, the state as it is -/
theorem Inv.call' {s' : Shared} {ch : List Addr} (I : Inv X pins σ H s) (ho : s'.os = s.os) (u : Un (frs X.stack) ch H H' s.heap s'.heap) (hok : HOk X.prog X.w H' s'.heap) (hg : AllBare s'.gens)
    (hch : ∀ b ∈ ch, (b ∈ X.ex ∨ X.s₀.heap.objs.size ≤ b) ∧ b ≠ X.env.locals ∧ (∀ x c, X.env.cells.lookup x = some c → c ≠ b) ∧ ∀ p ∈ X.pn ++ pins, p.1 ≠ b) : Inv X pins σ H' s' := by
  obtain ⟨h', g', d', t', o'⟩ := s'
  have e : o' = s.os := ho
  subst e
  exact I.call (g' := g') (t' := t') (d' := d') u hok hg hch
end

/-! ### the judgements -/
/-- an exception: its class, its own dict's address (where it has one), the abstract heap behind it -/
abbrev XK := Value → Option Addr → Hp → Prop
abbrev St := List (Option V)
abbrev VK := V → Hp → Prop
/-- an expression's reading; a test's; an argument list's -/
abbrev TE := St → Hp → VK → Prop
abbrev TT := St → Hp → (Bool → Hp → Prop) → Prop
abbrev TA := St → Hp → (List V → Hp → Prop) → Prop
/-- what is wanted behind a statement -/
structure Ends where
  nx : St → Hp → Prop
  rt : VK
  bk : St → Hp → Prop := fun _ _ => False
  ct : St → Hp → Prop := fun _ _ => False
abbrev TS := Ends → St → Hp → Prop

def EP (X : Cx) (pins : List (Addr × Obj)) (σ : St) (Q : VK) (u : Value) (s' : Shared) : Prop := ∃ v H', Inv X pins σ H' s' ∧ RelV v u ∧ Q v H'
def TP (X : Cx) (pins : List (Addr × Obj)) (σ : St) (Q : Bool → Hp → Prop) (b : Bool) (s' : Shared) : Prop := ∃ H', Inv X pins σ H' s' ∧ Q b H'
def AP (X : Cx) (pins : List (Addr × Obj)) (σ : St) (Q : List V → Hp → Prop) (us : List Value) (s' : Shared) : Prop := ∃ vs H', Inv X pins σ H' s' ∧ Vals vs us ∧ Q vs H'
def SP (X : Cx) (pins : List (Addr × Obj)) (D : Ends) (f : Flow) (s' : Shared) : Prop :=
  match f with
  | .next => ∃ σ' H', Inv X pins σ' H' s' ∧ D.nx σ' H'
  | .brk => ∃ σ' H', Inv X pins σ' H' s' ∧ D.bk σ' H'
  | .cont => ∃ σ' H', Inv X pins σ' H' s' ∧ D.ct σ' H'
  | .ret u => ∃ v σ' H', Inv X pins σ' H' s' ∧ RelV v u ∧ D.rt v H'

def PE (X : Cx) (e : Expr) (t : TE) : Prop :=
  ∀ (pins : List (Addr × Obj)) (s : Shared) (σ : St) (H : Hp) (Q : VK), Inv X pins σ H s → t σ H Q → wpAny (model X.prog X.w) X.A (eval e X.env) (EP X pins σ Q) X.xe s
def PT (X : Cx) (e : Expr) (t : TT) : Prop :=
  ∀ (pins : List (Addr × Obj)) (s : Shared) (σ : St) (H : Hp) (Q : Bool → Hp → Prop), Inv X pins σ H s → t σ H Q → wpAny (model X.prog X.w) X.A (isTrue e X.env (eval e X.env)) (TP X pins σ Q) X.xe s
/-- a test whatever its 'whole' is (and, or) -/
def PW (X : Cx) (e : Expr) (t : TT) : Prop :=
  ∀ (whole : Sem Value) (pins : List (Addr × Obj)) (s : Shared) (σ : St) (H : Hp) (Q : Bool → Hp → Prop), Inv X pins σ H s → t σ H Q → wpAny (model X.prog X.w) X.A (isTrue e X.env whole) (TP X pins σ Q) X.xe s
theorem PW.pt {X : Cx} {e : Expr} {t : TT} (h : PW X e t) : PT X e t := h _
/-- an argument list (no star), from the left -/
def PA (X : Cx) (es : List Expr) (t : TA) : Prop :=
  ∀ (pos : Pos) (pins : List (Addr × Obj)) (s : Shared) (σ : St) (H : Hp) (Q : List V → Hp → Prop), Inv X pins σ H s → t σ H Q → wpAny (model X.prog X.w) X.A (spliced (backTo pos (starEach es X.env))) (AP X pins σ Q) X.xe s
def PS (X : Cx) (st : Stmt) (t : TS) : Prop :=
  ∀ (pins : List (Addr × Obj)) (s : Shared) (σ : St) (H : Hp) (D : Ends), Inv X pins σ H s → t D σ H → wpAny (model X.prog X.w) X.A (exec st X.env) (SP X pins D) X.xe s
def PSs (X : Cx) (st : List Stmt) (t : TS) : Prop :=
  ∀ (pins : List (Addr × Obj)) (s : Shared) (σ : St) (H : Hp) (D : Ends), Inv X pins σ H s → t D σ H → wpAny (model X.prog X.w) X.A (execs st X.env) (SP X pins D) X.xe s
/-- weaken the end -/
theorem thn {α : Type} {t : Sem α} {Q Q' : α → Shared → Prop} {M : Model} {A : Around} {E : Value → Shared → Prop} {s : Shared} (h : wpAny M A t Q E s) (hQ : ∀ a s, Q a s → Q' a s) : wpAny M A t Q' E s := wpAny_mono h hQ fun _ _ x => x
end L2

namespace L2
open PySem PySem.Spec PyProof.Rows
section
variable {X : Cx}

/-- two expressions in a row -/
theorem bin {a b : Expr} {ta tb : TE} (ha : PE X a ta) (hb : PE X b tb) {pins : List (Addr × Obj)} {s : Shared} {σ : St} {H : Hp} {R : V → V → Hp → Prop} (I : Inv X pins σ H s) (h : ta σ H fun x H1 => tb σ H1 fun y H2 => R x y H2)
    {α : Type} {Q : α → Shared → Prop} {f : Value → Value → Sem α}
    (hf : ∀ v u s2 x y H2, Inv X pins σ H2 s2 → RelV x v → RelV y u → R x y H2 → wpAny (model X.prog X.w) X.A (f v u) Q X.xe s2) :
    wpAny (model X.prog X.w) X.A (eval a X.env) (fun v s₁ => wpAny (model X.prog X.w) X.A (eval b X.env) (fun u s₂ => wpAny (model X.prog X.w) X.A (f v u) Q X.xe s₂) X.xe s₁) X.xe s := by
  refine thn (ha pins s σ H _ I h) fun v s1 ⟨x, H1, I1, r1, q1⟩ => ?_
  refine thn (hb pins s1 σ H1 _ I1 q1) fun u s2 ⟨y, H2, I2, r2, q2⟩ => ?_
  exact hf v u s2 x y H2 I2 r1 r2 q2

/-! ### names and constants -/
def tVar (i : Nat) : TE := fun σ H Q => ∃ v, σ[i]? = some (some v) ∧ Q v H
def tC (v : V) : TE := fun _ H Q => Q v H
theorem pe_var {i : Nat} {x : Str} {pos : Pos} (hN : X.N[i]? = some x) (hv : Vis X.env.scope x) (hd : (x == ("__debug__" : Str)) = false := by decide) (hcd : (x == ("__classdict__" : Str)) = false := by decide) : PE X (.Name x pos) (tVar i) := by
  intro pins s σ H Q I h
  obtain ⟨v, e, h⟩ := h
  obtain ⟨m, hn, hl⟩ := I.loc
  obtain ⟨u, r, l⟩ := hl i x v hN e hv
  have fin : EP X pins σ Q u s := ⟨v, H, I, r, h⟩
  rcases l with ⟨hk, hm⟩ | ⟨hk, c, hc, hcell⟩
  · exact wpAny_Name (wpAny_loadName_local I.ok.kind hk hn hm fin) hd
  · rcases hk with hk | hk
    · exact wpAny_Name (wpAny_loadName_cell I.ok.kind hk hc hcell fin) hd
    · exact wpAny_Name (wpAny_loadName_free I.ok.kind hk hc hcell fin hcd) hd
theorem pe_int {i j pos} : PE X (.Constant (.int i) j pos) (tC (.int i)) := fun _ _ _ H _ I h => wpAny_Constant_int ⟨.int i, H, I.tok _, ⟨_, rfl⟩, h⟩
theorem pe_bl {b j pos} : PE X (.Constant (.bool b) j pos) (tC (.bl b)) := fun _ _ _ H _ I h => Constant_bool ⟨.bl b, H, I, rfl, h⟩
theorem pe_non {j pos} : PE X (.Constant .none j pos) (tC .non) := fun _ _ _ H _ I h => Constant_none ⟨.non, H, I, rfl, h⟩
theorem pe_str {x j pos} : PE X (.Constant (.str x) j pos) (tC (.str x)) := fun _ _ _ H _ I h => Calls.Constant_str ⟨.str x, H, I.tok _, ⟨_, rfl⟩, h⟩

/-- a global name of the def -/
def Gl (X : Cx) (x : Str) : Prop := X.env.kindOf x = some .globalImplicit
theorem ld_glob {E : Value → Shared → Prop} {pins : List (Addr × Obj)} {s : Shared} {σ : St} {H : Hp} {x : Str} {u : Value} {pos : Pos} {Q : Value → Shared → Prop} (I : Inv X pins σ H s) (hg : Gl X x) (hm : X.mg x = some u) (h : Q u s)
    (hd : (x == ("__debug__" : Str)) = false := by decide) : wpAny (model X.prog X.w) X.A (eval (.Name x pos) X.env) Q E s :=
  Calls.Name_function_global I.ok.kind hg (Calls.loadGlobal_global (by rw [I.ok.glob]; exact I.mod.glob.keeps I.bk) hm h) hd
theorem ld_blt {E : Value → Shared → Prop} {pins : List (Addr × Obj)} {s : Shared} {σ : St} {H : Hp} {x : Str} {u : Value} {pos : Pos} {Q : Value → Shared → Prop} (I : Inv X pins σ H s) (hg : Gl X x) (hm : X.mg x = none) (hv : bootBuiltins x = some u) (h : Q u s)
    (hn : x ≠ "__name__" := by decide) (hd : (x == ("__debug__" : Str)) = false := by decide) : wpAny (model X.prog X.w) X.A (eval (.Name x pos) X.env) Q E s := by
  obtain ⟨mb, h1, h2⟩ := I.mod.blt
  exact Calls.Name_function_global I.ok.kind hg (Calls.loadGlobal_builtin (by rw [I.ok.glob]; exact I.mod.glob.keeps I.bk) hm (by rw [I.ok.blt]; exact h1.keeps I.bk) ((h2 x hn).trans hv) h) hd
/-- a module's constant, a class, a function, as a value -/
theorem pe_glob {x : Str} {v : V} {u : Value} {pos : Pos} (hg : Gl X x) (hm : X.mg x = some u) (r : RelV v u) (hd : (x == ("__debug__" : Str)) = false := by decide) : PE X (.Name x pos) (tC v) :=
  fun _ _ _ H _ I h => ld_glob I hg hm ⟨v, H, I, r, h⟩ hd
theorem pe_bltn {x : Str} {v : V} {u : Value} {pos : Pos} (hg : Gl X x) (hm : X.mg x = none) (hv : bootBuiltins x = some u) (r : RelV v u) (hn : x ≠ "__name__" := by decide) (hd : (x == ("__debug__" : Str)) = false := by decide) : PE X (.Name x pos) (tC v) :=
  fun _ _ _ H _ I h => ld_blt I hg hm hv ⟨v, H, I, r, h⟩ hn hd

/-! ### arithmetic -/
/-- two ints -/
def t2I (ta tb : TE) (k : Int → Int → Hp → Prop) : St → Hp → Prop := fun σ H => ta σ H fun x H1 => tb σ H1 fun y H2 => ∃ i j, x = .int i ∧ y = .int j ∧ k i j H2
def tAdd (ta tb : TE) : TE := fun σ H Q => t2I ta tb (fun i j H2 => Q (.int (i + j)) H2) σ H
def tSub (ta tb : TE) : TE := fun σ H Q => t2I ta tb (fun i j H2 => Q (.int (i - j)) H2) σ H
/-- the left factor below 2^64 -/
def tMul (ta tb : TE) : TE := fun σ H Q => t2I ta tb (fun i j H2 => (-(2 ^ 64) < i ∧ i < 2 ^ 64) ∧ Q (.int (i * j)) H2) σ H
variable {a b : Expr} {ta tb : TE} {pos : Pos}
theorem pe_add (ha : PE X a ta) (hb : PE X b tb) : PE X (.BinOp a .Add b pos) (tAdd ta tb) := by
  intro pins s σ H Q I h
  refine wpAny_BinOp (bin ha hb I h fun v u s2 x y H2 I2 rx ry q => ?_)
  obtain ⟨i, j, rfl, rfl, q⟩ := q
  obtain ⟨t, rfl⟩ := rx
  obtain ⟨t', rfl⟩ := ry
  exact add_int ⟨.int _, H2, I2.tok _, ⟨_, rfl⟩, q⟩
theorem pe_sub (ha : PE X a ta) (hb : PE X b tb) : PE X (.BinOp a .Sub b pos) (tSub ta tb) := by
  intro pins s σ H Q I h
  refine wpAny_BinOp (bin ha hb I h fun v u s2 x y H2 I2 rx ry q => ?_)
  obtain ⟨i, j, rfl, rfl, q⟩ := q
  obtain ⟨t, rfl⟩ := rx
  obtain ⟨t', rfl⟩ := ry
  exact sub_int ⟨.int _, H2, I2.tok _, ⟨_, rfl⟩, q⟩
theorem pe_mul (ha : PE X a ta) (hb : PE X b tb) : PE X (.BinOp a .Mult b pos) (tMul ta tb) := by
  intro pins s σ H Q I h
  refine wpAny_BinOp (bin ha hb I h fun v u s2 x y H2 I2 rx ry q => ?_)
  obtain ⟨i, j, rfl, rfl, ⟨q1, q2⟩, q⟩ := q
  obtain ⟨t, rfl⟩ := rx
  obtain ⟨t', rfl⟩ := ry
  exact mul_int ⟨.int _, H2, I2.tok _, ⟨_, rfl⟩, q⟩ (.of_left (intBits_le_64 q1 q2))

/-! ### comparisons -/
def PC (X : Cx) (op : CmpOp) (a b : Expr) (t : TE) : Prop :=
  ∀ (pins : List (Addr × Obj)) (s : Shared) (σ : St) (H : Hp) (Q : VK), Inv X pins σ H s → t σ H Q →
    wpAny (model X.prog X.w) X.A (eval a X.env) (fun v s₁ => wpAny (model X.prog X.w) X.A (eval b X.env) (fun u s₂ => wpAny (model X.prog X.w) X.A (compareOp op v u) (EP X pins σ Q) X.xe s₂) X.xe s₁) X.xe s
theorem nobehind (b : Expr) {op : CmpOp} (h : op ≠ .In) (h2 : op ≠ .NotIn) : behindInMarks op b = false := by
  have e1 : (op == CmpOp.In) = false := by cases op <;> first | rfl | exact absurd rfl h
  have e2 : (op == CmpOp.NotIn) = false := by cases op <;> first | rfl | exact absurd rfl h2
  cases b <;> simp [behindInMarks, e1, e2]
def tCmp (p : Int → Int → Bool) (ta tb : TE) : TE := fun σ H Q => t2I ta tb (fun i j H2 => Q (.bl (p i j)) H2) σ H
abbrev tLt : TE → TE → TE := tCmp fun i j => decide (i < j)
abbrev tLe : TE → TE → TE := tCmp fun i j => decide (i ≤ j)
abbrev tGt : TE → TE → TE := tCmp fun i j => decide (j < i)
abbrev tGe : TE → TE → TE := tCmp fun i j => decide (j ≤ i)
abbrev tEqI : TE → TE → TE := tCmp fun i j => decide (i = j)
abbrev tNeI : TE → TE → TE := tCmp fun i j => !decide (i = j)
/-- a comparison of two ints, by its rule -/
theorem pc_int {op : CmpOp} {p : Int → Int → Bool} (ha : PE X a ta) (hb : PE X b tb)
    (rule : ∀ (i j : Int) (t u : Tok) (Q : Value → Shared → Prop) (s : Shared), Q (.bool (p i j)) s → wpAny (model X.prog X.w) X.A (compareOp op (.int i t) (.int j u)) Q X.xe s) : PC X op a b (tCmp p ta tb) := by
  intro pins s σ H Q I h
  refine bin ha hb I h fun v u s2 x y H2 I2 rx ry q => ?_
  obtain ⟨i, j, rfl, rfl, q⟩ := q
  obtain ⟨t, rfl⟩ := rx
  obtain ⟨t', rfl⟩ := ry
  exact rule i j t t' _ s2 ⟨.bl _, H2, I2, rfl, q⟩
theorem pc_lt (ha : PE X a ta) (hb : PE X b tb) : PC X .Lt a b (tLt ta tb) := pc_int ha hb fun _ _ _ _ _ _ h => lt_int h
theorem pc_le (ha : PE X a ta) (hb : PE X b tb) : PC X .LtE a b (tLe ta tb) := pc_int ha hb fun _ _ _ _ _ _ h => le_int h
theorem pc_gt (ha : PE X a ta) (hb : PE X b tb) : PC X .Gt a b (tGt ta tb) := pc_int ha hb fun _ _ _ _ _ _ h => gt_int h
theorem pc_ge (ha : PE X a ta) (hb : PE X b tb) : PC X .GtE a b (tGe ta tb) := pc_int ha hb fun _ _ _ _ _ _ h => ge_int h
theorem pc_eqI (ha : PE X a ta) (hb : PE X b tb) : PC X .Eq a b (tEqI ta tb) := pc_int ha hb fun _ _ _ _ _ _ h => eq_int (by rw [Bool.beq_eq_decide_eq]; exact h)
theorem pc_neI (ha : PE X a ta) (hb : PE X b tb) : PC X .NotEq a b (tNeI ta tb) := pc_int ha hb fun _ _ _ _ _ _ h => ne_int (by rw [bne, Bool.beq_eq_decide_eq]; exact h)
/-- is None -/
def tIsN (ta : TE) : TE := fun σ H Q => ta σ H fun x H1 => Q (.bl (decide (x = .non))) H1
def tNotN (ta : TE) : TE := fun σ H Q => ta σ H fun x H1 => Q (.bl (!decide (x = .non))) H1
theorem RelV.none_iff {x : V} {v : Value} (r : RelV x v) : (v == Value.none) = decide (x = .non) := by
  cases x with
  | non => cases r; rfl
  | bl _ => cases r; rfl
  | int _ => obtain ⟨t, rfl⟩ := r; rfl
  | str _ => obtain ⟨t, rfl⟩ := r; rfl
  | byt _ => obtain ⟨t, rfl⟩ := r; rfl
  | flt _ => obtain ⟨t, rfl⟩ := r; rfl
  | ref _ => cases r; rfl
  | ty _ => cases r; rfl
theorem pc_isN {j pos'} (ha : PE X a ta) : PC X .Is a (.Constant .none j pos') (tIsN ta) := by
  intro pins s σ H Q I h
  refine thn (ha pins s σ H _ I h) fun v s1 ⟨x, H1, I1, r1, q1⟩ => ?_
  exact Constant_none (is_none_gen ⟨.bl _, H1, I1, by rw [r1.none_iff]; rfl, q1⟩)
theorem pc_notN {j pos'} (ha : PE X a ta) : PC X .IsNot a (.Constant .none j pos') (tNotN ta) := by
  intro pins s σ H Q I h
  refine thn (ha pins s σ H _ I h) fun v s1 ⟨x, H1, I1, r1, q1⟩ => ?_
  exact Constant_none (isnot_none_gen ⟨.bl _, H1, I1, by rw [r1.none_iff]; rfl, q1⟩)
/-- a comparison as a value, as a test -/
def tB (t : TE) : TT := fun σ H Q => t σ H fun x H1 => ∃ c, x = .bl c ∧ Q c H1
theorem pe_cmp {op : CmpOp} {t : TE} (h : PC X op a b t) (h1 : behindInMarks op b = false := by first | exact nobehind _ (by decide) (by decide) | rfl) : PE X (.Compare a [op] [b] pos) t := fun pins s σ H Q I hw => wpAny_Compare1 (h pins s σ H Q I hw) h1
theorem pt_cmp {op : CmpOp} {t : TE} (h : PC X op a b t) (h1 : behindInMarks op b = false := by first | exact nobehind _ (by decide) (by decide) | rfl) : PT X (.Compare a [op] [b] pos) (tB t) := by
  intro pins s σ H Q I hw
  refine wpAny_isTrue_Compare1 (thn (h pins s σ H _ I hw) fun v s1 h1 => thn h1 fun u s2 h2 => thn h2 fun c s3 ⟨x, H1, I1, r1, q1⟩ => ?_) h1
  obtain ⟨d, rfl, q⟩ := q1
  cases r1
  exact wpAny_truthy_bool ⟨H1, I1, q⟩
/-- an expression whose value is a bool, as a test -/
theorem pt_val {e : Expr} {t : TE} (h : PE X e t) (he : ∀ whole, isTrue e X.env whole = (do let v ← whole; standAt e.pos; holding [v] (truthy v)) := by intro _; rfl) : PT X e (tB t) := by
  intro pins s σ H Q I hw
  refine isTrue_plain (thn (h pins s σ H _ I hw) fun v s1 ⟨x, H1, I1, r1, q1⟩ => ?_) (he _)
  obtain ⟨d, rfl, q⟩ := q1
  cases r1
  exact wpAny_truthy_bool ⟨H1, I1, q⟩

/-! ### and, or, not -/
variable {tA tB' : TT} {rest : List Expr}
def tAnd (t u : TT) : TT := fun σ H Q => t σ H fun c H1 => if c = true then u σ H1 Q else Q false H1
def tOr (t u : TT) : TT := fun σ H Q => t σ H fun c H1 => if c = true then Q true H1 else u σ H1 Q
def tNot (t : TT) : TT := fun σ H Q => t σ H fun c H1 => Q (!c) H1
theorem pw_and1 (ha : PT X a tA) : PW X (.BoolOp .And [a] pos) tA := by
  intro wh pins s σ H Q I h
  refine isTrue_and (thn (ha pins s σ H Q I h) fun c s1 e => ?_)
  cases c with
  | true => exact isTrue_and_nil e
  | false => exact e
theorem pw_or1 (ha : PT X a tA) : PW X (.BoolOp .Or [a] pos) tA := by
  intro wh pins s σ H Q I h
  refine isTrue_or (thn (ha pins s σ H Q I h) fun c s1 e => ?_)
  cases c with
  | false => exact isTrue_or_nil e
  | true => exact e
theorem pw_and (ha : PT X a tA) (hb : PW X (.BoolOp .And (b :: rest) pos) tB') : PW X (.BoolOp .And (a :: b :: rest) pos) (tAnd tA tB') := by
  intro wh pins s σ H Q I h
  refine isTrue_and (thn (ha pins s σ H _ I h) fun c s1 ⟨H1, I1, q1⟩ => ?_)
  cases c with
  | true => exact hb wh pins s1 σ H1 Q I1 q1
  | false => exact ⟨H1, I1, q1⟩
theorem pw_or (ha : PT X a tA) (hb : PW X (.BoolOp .Or (b :: rest) pos) tB') : PW X (.BoolOp .Or (a :: b :: rest) pos) (tOr tA tB') := by
  intro wh pins s σ H Q I h
  refine isTrue_or (thn (ha pins s σ H _ I h) fun c s1 ⟨H1, I1, q1⟩ => ?_)
  cases c with
  | true => exact ⟨H1, I1, q1⟩
  | false => exact hb wh pins s1 σ H1 Q I1 q1
theorem pt_not (ha : PT X a tA) : PT X (.UnaryOp .Not a pos) (tNot tA) := by
  intro pins s σ H Q I h
  exact isTrue_not (ha pins s σ H (fun c H1 => Q (!c) H1) I h)
/-- .. as values (bools) -/
def tAndV (ta tb : TE) : TE := fun σ H Q => ta σ H fun x H1 => ∃ c, x = .bl c ∧ if c = true then tb σ H1 Q else Q (.bl false) H1
def tOrV (ta tb : TE) : TE := fun σ H Q => ta σ H fun x H1 => ∃ c, x = .bl c ∧ if c = true then Q (.bl true) H1 else tb σ H1 Q
def tNotV (ta : TE) : TE := fun σ H Q => ta σ H fun x H1 => ∃ c, x = .bl c ∧ Q (.bl (!c)) H1
theorem pe_one {op} {t : TE} (h : PE X a t) : PE X (.BoolOp op [a] pos) t := fun pins s σ H Q I hw => BoolOp_one (h pins s σ H Q I hw)
theorem pe_and (ha : PE X a ta) (hb : PE X (.BoolOp .And (b :: rest) pos) tb) : PE X (.BoolOp .And (a :: b :: rest) pos) (tAndV ta tb) := by
  intro pins s σ H Q I h
  refine BoolOp_and (thn (ha pins s σ H _ I h) fun v s1 ⟨x, H1, I1, r1, q1⟩ => ?_)
  obtain ⟨c, rfl, q1⟩ := q1
  cases r1
  refine wpAny_truthy_bool ?_
  cases c with
  | true => exact hb pins s1 σ H1 Q I1 q1
  | false => exact ⟨.bl false, H1, I1, rfl, q1⟩
theorem pe_or (ha : PE X a ta) (hb : PE X (.BoolOp .Or (b :: rest) pos) tb) : PE X (.BoolOp .Or (a :: b :: rest) pos) (tOrV ta tb) := by
  intro pins s σ H Q I h
  refine BoolOp_or (thn (ha pins s σ H _ I h) fun v s1 ⟨x, H1, I1, r1, q1⟩ => ?_)
  obtain ⟨c, rfl, q1⟩ := q1
  cases r1
  refine wpAny_truthy_bool ?_
  cases c with
  | false => exact hb pins s1 σ H1 Q I1 q1
  | true => exact ⟨.bl true, H1, I1, rfl, q1⟩
theorem pe_not (ha : PE X a ta) : PE X (.UnaryOp .Not a pos) (tNotV ta) := by
  intro pins s σ H Q I h
  refine UnaryOp_ (thn (ha pins s σ H _ I h) fun v s1 ⟨x, H1, I1, r1, q1⟩ => ?_)
  obtain ⟨c, rfl, q1⟩ := q1
  cases r1
  exact not_of (wpAny_truthy_bool ⟨.bl (!c), H1, I1, rfl, q1⟩)
/-- a if t else b -/
def tIf (t : TT) (ta tb : TE) : TE := fun σ H Q => t σ H fun c H1 => if c = true then ta σ H1 Q else tb σ H1 Q
theorem pe_ifExp {c : Expr} (hc : PT X c tA) (ha : PE X a ta) (hb : PE X b tb) : PE X (.IfExp c a b pos) (tIf tA ta tb) := by
  intro pins s σ H Q I h
  refine wpAny_IfExp (thn (hc pins s σ H _ I h) fun d s1 ⟨H1, I1, q1⟩ => ?_)
  cases d with
  | true => exact ha pins s1 σ H1 Q I1 q1
  | false => exact hb pins s1 σ H1 Q I1 q1
end
end L2

namespace L2
open PySem PySem.Spec PyProof.Rows

/-! ### a list, a tuple that is read: tracked, frozen, or an object of the module -/
def SqL (K : PySem.W.Frag) (H : Hp) (a : Addr) (xs : List V) : Prop :=
  Rd H a (.lst xs) ∨
    ∃ (o : Obj) (its : Array Value) (n : Nat), K.lookup a = some o ∧ o.cls = .type "list" ∧ o.dict = none ∧ o.data = .seq its n ∧ its.size ≤ sizeLine ∧ Vals xs its.toList
def SqT (K : PySem.W.Frag) (H : Hp) (a : Addr) (xs : List V) : Prop :=
  Rd H a (.tup xs) ∨
    ∃ (o : Obj) (its : Array Value) (n : Nat), K.lookup a = some o ∧ o.cls = .type "tuple" ∧ o.data = .seq its n ∧ its.size ≤ sizeLine ∧ Vals xs its.toList
def absV : Value → Option V
  | .none => some .non
  | .bool b => some (.bl b)
  | .int i _ => some (.int i)
  | .str x _ => some (.str x)
  | .bytes b _ => some (.byt b)
  | .float b _ => some (.flt b)
  | .ref a => some (.ref a)
  | .type n => some (.ty n)
  | _ => none
theorem RelV.abs {x : V} {u : Value} (r : RelV x u) : absV u = some x := by
  cases x with
  | non => cases r; rfl
  | bl _ => cases r; rfl
  | int _ => obtain ⟨t, rfl⟩ := r; rfl
  | str _ => obtain ⟨t, rfl⟩ := r; rfl
  | byt _ => obtain ⟨t, rfl⟩ := r; rfl
  | flt _ => obtain ⟨t, rfl⟩ := r; rfl
  | ref _ => cases r; rfl
  | ty _ => cases r; rfl
theorem RelV.inj {x y : V} {u : Value} (r : RelV x u) (q : RelV y u) : x = y := Option.some.inj (r.abs.symm.trans q.abs)
theorem Vals.inj : ∀ {xs ys : List V} {us : List Value}, Vals xs us → Vals ys us → xs = ys
  | _, _, _, .nil, .nil => rfl
  | _, _, _, .cons r t, .cons r' t' => by rw [r.inj r', Vals.inj t t']
section
variable {X : Cx} {pins : List (Addr × Obj)} {σ : St} {H : Hp} {s : Shared} {a : Addr} {xs ys : List V}
theorem SqL.of {K : PySem.W.Frag} (h : H a = some (.lst xs)) : SqL K H a xs := .inl (.inl h)
theorem SqT.of {K : PySem.W.Frag} (h : H a = some (.tup xs)) : SqT K H a xs := .inl (.inl h)
theorem Inv.list (I : Inv X pins σ H s) (h : SqL X.K H a xs) : ∃ its : List Value, Vals xs its ∧ PlainL s.heap a its.toArray ∧ xs.length ≤ sizeLine := by
  rcases h with h | ⟨o, its, n, hk, hc, hd, hs, hz, r⟩
  · obtain ⟨z, its, n, r, e⟩ := h.ok I.hok
    exact ⟨its, r, ⟨_, n, e, rfl, rfl, rfl⟩, z⟩
  · refine ⟨its.toList, r, ⟨o, n, I.kIn a o hk, hc, hd, by simpa using hs⟩, ?_⟩
    have e := r.length
    simp only [Array.length_toList] at e
    omega
theorem Inv.tuple (I : Inv X pins σ H s) (h : SqT X.K H a xs) : ∃ its : List Value, Vals xs its ∧ IsTup s.heap a its.toArray ∧ xs.length ≤ sizeLine := by
  rcases h with h | ⟨o, its, n, hk, hc, hs, hz, r⟩
  · obtain ⟨z, its, r, p⟩ := h.ok I.hok
    exact ⟨its, r, p, z⟩
  · refine ⟨its.toList, r, ⟨o, I.kIn a o hk, hc, n, by simpa using hs⟩, ?_⟩
    have e := r.length
    simp only [Array.length_toList] at e
    omega
theorem Inv.list_inj (I : Inv X pins σ H s) (h : SqL X.K H a xs) (h' : SqL X.K H a ys) : xs = ys := by
  obtain ⟨its, r, ⟨o, n, e, _, _, d⟩, _⟩ := I.list h
  obtain ⟨its', r', ⟨o', n', e', _, _, d'⟩, _⟩ := I.list h'
  rw [e] at e'; cases e'
  rw [d] at d'
  injection d' with d1 _
  have : its = its' := by simpa using congrArg Array.toList d1
  subst this
  exact r.inj r'
theorem Inv.tuple_inj (I : Inv X pins σ H s) (h : SqT X.K H a xs) (h' : SqT X.K H a ys) : xs = ys := by
  obtain ⟨its, r, ⟨o, e, _, n, d⟩, _⟩ := I.tuple h
  obtain ⟨its', r', ⟨o', e', _, n', d'⟩, _⟩ := I.tuple h'
  rw [e] at e'; cases e'
  rw [d] at d'
  injection d' with d1 _
  have : its = its' := by simpa using congrArg Array.toList d1
  subst this
  exact r.inj r'
end

/-! ### another wish about exceptions -/
abbrev Cx.wish (X : Cx) (E : Value → Shared → Prop) : Cx := { X with xe := E }
/-- no exception leaves -/
abbrev Cx.nox (X : Cx) : Cx := X.wish fun _ _ => False
theorem Cx.Ok.wish {X : Cx} (ok : X.Ok) (E : Value → Shared → Prop) : (X.wish E).Ok :=
  ⟨ok.mod, ok.kind, ok.glob, ok.blt, ok.above, ok.inj, ok.has, ok.cab, ok.hd, ok.frames, ok.stk, ok.exf, ok.bs, ok.bsz, ok.noex, ok.exfs, ok.funs, ok.frf⟩
theorem Cx.Ok.unwish {X : Cx} {E : Value → Shared → Prop} (ok : (X.wish E).Ok) : X.Ok :=
  ⟨ok.mod, ok.kind, ok.glob, ok.blt, ok.above, ok.inj, ok.has, ok.cab, ok.hd, ok.frames, ok.stk, ok.exf, ok.bs, ok.bsz, ok.noex, ok.exfs, ok.funs, ok.frf⟩
section
variable {X : Cx} {pins : List (Addr × Obj)} {σ : St} {H : Hp} {s : Shared} {E : Value → Shared → Prop}
theorem Inv.wish (I : Inv X pins σ H s) (E : Value → Shared → Prop) : Inv (X.wish E) pins σ H s := ⟨I.ok.wish E, I.os, I.bare, I.base, I.loc, I.cell, I.free, I.freeC, I.pin, I.hok, I.len⟩
theorem Inv.unwish (I : Inv (X.wish E) pins σ H s) : Inv X pins σ H s := ⟨I.ok.unwish, I.os, I.bare, I.base, I.loc, I.cell, I.free, I.freeC, I.pin, I.hok, I.len⟩
theorem SP.unwish {D : Ends} {f : Flow} {s' : Shared} (h : SP (X.wish E) pins D f s') : SP X pins D f s' := by
  cases f with
  | next => obtain ⟨σ', H', I, q⟩ := h; exact ⟨σ', H', I.unwish, q⟩
  | brk => obtain ⟨σ', H', I, q⟩ := h; exact ⟨σ', H', I.unwish, q⟩
  | cont => obtain ⟨σ', H', I, q⟩ := h; exact ⟨σ', H', I.unwish, q⟩
  | ret u => obtain ⟨v, σ', H', I, r, q⟩ := h; exact ⟨v, σ', H', I.unwish, r, q⟩
theorem PE.nox {e : Expr} {t : TE} (h : PE X.nox e t) : PE X e t := fun pins s σ H Q I hw =>
  wpAny_mono (h pins s σ H Q (I.wish _) hw) (fun _ _ ⟨v, H', I', r, q⟩ => ⟨v, H', I'.unwish, r, q⟩) fun _ _ z => False.elim z
theorem PT.nox {e : Expr} {t : TT} (h : PT X.nox e t) : PT X e t := fun pins s σ H Q I hw =>
  wpAny_mono (h pins s σ H Q (I.wish _) hw) (fun _ _ ⟨H', I', q⟩ => ⟨H', I'.unwish, q⟩) fun _ _ z => False.elim z
theorem PSs.nox {st : List Stmt} {t : TS} (h : PSs X.nox st t) : PSs X st t := fun pins s σ H D I hw =>
  wpAny_mono (h pins s σ H D (I.wish _) hw) (fun _ _ q => q.unwish) fun _ _ z => False.elim z
end

/-! ### blocks and small statements -/
section
variable {X : Cx} {st : Stmt} {rest : List Stmt} {t u : TS} {e : Expr} {te : TE} {pos : Pos}
def tNext : TS := fun D σ H => D.nx σ H
def tSeq (t u : TS) : TS := fun D σ H => t { D with nx := u D } σ H
theorem pss_nil : PSs X [] tNext := fun _ _ σ H _ I h => wpAny_execs_nil ⟨σ, H, I, h⟩
theorem pss_cons (h1 : PS X st t) (h2 : PSs X rest u) : PSs X (st :: rest) (tSeq t u) := by
  intro pins s σ H D I h
  refine wpAny_execs_cons (thn (h1 pins s σ H { D with nx := u D } I h) fun f s1 q => ?_)
  cases f with
  | next =>
    obtain ⟨σ', H', I', q⟩ := q
    exact h2 pins s1 σ' H' D I' q
  | ret v => exact q
  | brk => exact q
  | cont => exact q
theorem pss_one (h1 : PS X st t) : PSs X [st] t := by
  intro pins s σ H D I h
  refine wpAny_execs_cons (thn (h1 pins s σ H D I h) fun f s1 q => ?_)
  cases f with
  | next => exact wpAny_execs_nil q
  | ret v => exact q
  | brk => exact q
  | cont => exact q
def tBreak : TS := fun D σ H => D.bk σ H
def tCont : TS := fun D σ H => D.ct σ H
theorem ps_pass : PS X (.Pass pos) tNext := fun _ _ σ H _ I h => wpAny_Pass ⟨σ, H, I, h⟩
theorem ps_break : PS X (.Break pos) tBreak := fun _ _ σ H _ I h => wpAny_Break ⟨σ, H, I, h⟩
theorem ps_continue : PS X (.Continue pos) tCont := fun _ _ σ H _ I h => wpAny_Continue ⟨σ, H, I, h⟩
/-- in a def's body nothing is shown -/
theorem Inv.quiet {pins : List (Addr × Obj)} {σ : St} {H : Hp} {s : Shared} (I : Inv X pins σ H s) : interactive X.env = false := by simp [interactive, I.ok.kind]
/-- a docstring -/
theorem ps_doc {x j pos pos'} : PS X (.Expr (.Constant (.str x) j pos) pos') tNext := fun _ s σ H _ I h => wpAny_Expr (Calls.Constant_str (show SP X _ _ .next { s with toks := s.toks + 1 } from ⟨σ, H, I.tok _, h⟩)) I.quiet
/-- an expression whose value is dropped -/
def tDrop (te : TE) : TS := fun D σ H => te σ H fun _ H1 => D.nx σ H1
theorem ps_expr (he : PE X e te) (hs : swapsWith e none pos.line X.env = pure false := by rfl) : PS X (.Expr e pos) (tDrop te) := by
  intro pins s σ H D I h
  exact wpAny_Expr_any (thn (he pins s σ H _ I h) fun v s1 ⟨x, H1, I1, r1, q1⟩ => ⟨σ, H1, I1, q1⟩) I.quiet hs
def tRet (te : TE) : TS := fun D σ H => te σ H D.rt
theorem ps_ret (he : PE X e te) : PS X (.Return (some e) pos) (tRet te) := by
  intro pins s σ H D I h
  exact wpAny_Return_some (thn (he pins s σ H _ I h) fun v s1 ⟨x, H1, I1, r1, q1⟩ => ⟨x, σ, H1, I1, r1, q1⟩)
def tRetN : TS := fun D _ H => D.rt .non H
theorem ps_retN : PS X (.Return none pos) tRetN := fun _ _ σ H _ I h => wpAny_Return_none ⟨.non, σ, H, I, rfl, h⟩
def tIfS (c : TT) (t u : TS) : TS := fun D σ H => c σ H fun b H1 => if b = true then t D σ H1 else u D σ H1
theorem ps_if {c : Expr} {a b : List Stmt} {tc : TT} (hc : PT X c tc) (ha : PSs X a t) (hb : PSs X b u) : PS X (.If c a b pos) (tIfS tc t u) := by
  intro pins s σ H D I h
  refine wpAny_If (thn (hc pins s σ H _ I h) fun d s1 ⟨H1, I1, q1⟩ => ?_)
  cases d with
  | true => exact ha pins s1 σ H1 D I1 q1
  | false => exact hb pins s1 σ H1 D I1 q1
/-- code that the proof never comes to -/
def tNever : TS := fun _ _ _ => False
theorem ps_never : PS X st tNever := fun _ _ _ _ _ _ h => h.elim
theorem pss_never {sts : List Stmt} : PSs X sts tNever := fun _ _ _ _ _ _ h => h.elim
end

/-! ### targets -/
abbrev TG := V → St → Hp → (St → Hp → Prop) → Prop
abbrev TGs := List V → St → Hp → (St → Hp → Prop) → Prop
def PG (X : Cx) (target : Expr) (t : TG) : Prop :=
  ∀ (pins : List (Addr × Obj)) (s : Shared) (σ : St) (H : Hp) (v : V) (u : Value) (Q : St → Hp → Prop), Inv X pins σ H s → RelV v u → t v σ H Q →
    wpAny (model X.prog X.w) X.A (assign target X.env u) (fun _ s' => ∃ σ' H', Inv X pins σ' H' s' ∧ Q σ' H') X.xe s
/-- several targets, one after another -/
def PGs (X : Cx) (ts : List Expr) (t : TGs) : Prop :=
  ∀ (pins : List (Addr × Obj)) (s : Shared) (σ : St) (H : Hp) (vs : List V) (us : List Value) (Q : St → Hp → Prop), Inv X pins σ H s → Vals vs us → t vs σ H Q →
    wpAny (model X.prog X.w) X.A (assignInOrder ((assignEach ts X.env).map (·.2)) us) (fun _ s' => ∃ σ' H', Inv X pins σ' H' s' ∧ Q σ' H') X.xe s
/-- o[i] = v, by values -/
abbrev TSet := V → V → V → Hp → (Hp → Prop) → Prop
def PSet (X : Cx) (t : TSet) : Prop :=
  ∀ (pins : List (Addr × Obj)) (s : Shared) (σ : St) (H : Hp) (o i v : V) (ov iv u : Value) (Q : Hp → Prop), Inv X pins σ H s → RelV o ov → RelV i iv → RelV v u → t o i v H Q →
    wpAny (model X.prog X.w) X.A (setItem ov iv u) (fun _ s' => ∃ H', Inv X pins σ H' s' ∧ Q H') X.xe s
/-- a op= b, by values -/
abbrev TIp := V → V → Hp → VK → Prop
def PIp (X : Cx) (op : Operator) (t : TIp) : Prop :=
  ∀ (pins : List (Addr × Obj)) (s : Shared) (σ : St) (H : Hp) (x y : V) (v u : Value) (Q : VK), Inv X pins σ H s → RelV x v → RelV y u → t x y H Q →
    wpAny (model X.prog X.w) X.A (inplaceOp op v u) (EP X pins σ Q) X.xe s
section
variable {X : Cx} {pos : Pos}
def gName (i : Nat) : TG := fun v σ H Q => Q (σ.set i (some v)) H
theorem pg_name {i : Nat} {x : Str} (hN : X.N.Nodup) (hi : X.N[i]? = some x) (hx : Loc X.env.scope x) (hf : X.fn x = true ∨ X.env.scope.names.lookup x = some .local := by first | exact .inl rfl | exact .inr rfl | assumption) : PG X (.Name x pos) (gName i) := by
  intro pins s σ H v u Q I r h
  exact wpAny_assign_Name (store_ok I hN hi hx r (fun s' I' => ⟨_, H, I', h⟩) hf)
def gNil : TGs := fun vs σ H Q => vs = [] ∧ Q σ H
def gCons (t : TG) (u : TGs) : TGs := fun vs σ H Q => ∃ v r, vs = v :: r ∧ t v σ H fun σ' H' => u r σ' H' Q
theorem pgs_nil : PGs X [] gNil := by
  intro pins s σ H vs us Q I r h
  obtain ⟨e, h⟩ := h
  subst e
  cases r
  exact assignInOrder_nil ⟨σ, H, I, h⟩
theorem pgs_cons {e : Expr} {es : List Expr} {t : TG} {u : TGs} (h1 : PG X e t) (h2 : PGs X es u)
    (hs : (assignEach (e :: es) X.env).map (·.2) = assign e X.env :: (assignEach es X.env).map (·.2) := by rfl) : PGs X (e :: es) (gCons t u) := by
  intro pins s σ H vs us Q I r h
  obtain ⟨v, vr, e1, h⟩ := h
  subst e1
  cases r with
  | cons r rr =>
    rw [hs]
    refine assignInOrder_cons (thn (h1 pins s σ H _ _ _ I r h) fun _ s1 ⟨σ1, H1, I1, q1⟩ => ?_)
    exact h2 pins s1 σ1 H1 _ _ Q I1 rr q1
/-- (a, b, ..) = a tuple of that length -/
def gTup (K : PySem.W.Frag) (n : Nat) (t : TGs) : TG := fun v σ H Q => ∃ a xs, v = .ref a ∧ SqT K H a xs ∧ xs.length = n ∧ t xs σ H Q
theorem pg_tup {es : List Expr} {k : Nat} {t : TGs} {n : Nat} (hc : X.calm = true) (h : PGs X es t)
    (hn : (assignEach es X.env).length = n := by rfl) (hst : (assignEach es X.env).findIdx? (·.1) = none := by rfl) : PG X (.Tuple es k pos) (gTup X.K n t) := by
  intro pins s σ H v u Q I r hw
  obtain ⟨a, xs, e1, hq, hl, hw⟩ := hw
  subst e1
  cases r
  obtain ⟨its, rv, ht, hz⟩ := I.tuple hq
  refine assign_Tuple_tuple (I.ok.hd hc) ht (by simp [hn, ← hl, rv.length]) hst fun h' hx => ?_
  have I1 : Inv X pins σ H { s with heap := h' } := I.kept (t' := s.toks) fun b o e => hx b o (Nat.ne_of_lt (Heap.lt_size e)) e
  exact h pins _ σ H xs _ Q I1 (by simpa using rv) hw
/-- o[i] = .. -/
def gSub (to ti : TE) (t : TSet) : TG := fun v σ H Q => to σ H fun o H1 => ti σ H1 fun i H2 => t o i v H2 fun H3 => Q σ H3
theorem pg_sub {o i : Expr} {to ti : TE} {t : TSet} (ho : PE X o to) (hi : PE X i ti) (hs : PSet X t)
    (ha : ∀ v, assign (.Subscript o i pos) X.env v = (do
      let ov ← holding [v] (eval o X.env)
      let iv ← holding [v, ov] (eval i X.env)
      standAt pos
      holding [v, ov, iv] (setItem ov iv v)
      release [v, ov, iv] []) := by intro _; rfl) : PG X (.Subscript o i pos) (gSub to ti t) := by
  intro pins s σ H v u Q I r h
  rw [ha]
  refine wpAny_bind (wpAny_holding (thn (ho pins s σ H _ I h) fun ov s1 ⟨x, H1, I1, r1, q1⟩ => ?_))
  refine wpAny_bind (wpAny_holding (thn (hi pins s1 σ H1 _ I1 q1) fun iv s2 ⟨y, H2, I2, r2, q2⟩ => ?_))
  refine wpAny_bind (wpAny_standAt (wpAny_bind (wpAny_holding (thn (hs pins s2 σ H2 x y v ov iv u _ I2 r1 r2 r q2) fun _ s3 ⟨H3, I3, q3⟩ => ?_))))
  exact wpAny_release ⟨σ, H3, I3, q3⟩
/-- target = value -/
def tAsg (te : TE) (g : TG) : TS := fun D σ H => te σ H fun x H1 => g x σ H1 D.nx
theorem ps_asg {tg e : Expr} {te : TE} {g : TG} (he : PE X e te) (hg : PG X tg g) (hs : swapsWithSole [tg] e pos.line X.env = pure false := by rfl) (hw : swappedStores [tg] e X.env = pure none := by rfl)
    (h1 : (assignEach [tg] X.env).map (·.2) = [assign tg X.env] := by rfl) : PS X (.Assign [tg] e pos) (tAsg te g) := by
  intro pins s σ H D I h
  refine wpAny_Assign_stores (thn (he pins s σ H _ I h) fun v s1 ⟨x, H1, I1, r1, q1⟩ => ?_) hs hw
  rw [h1]
  exact thn (hg pins s1 σ H1 x v _ I1 r1 q1) fun _ s2 q => q
/-- name = value -/
theorem ps_set {i : Nat} {x : Str} {e : Expr} {te : TE} {pos' : Pos} (hN : X.N.Nodup) (hi : X.N[i]? = some x) (hx : Loc X.env.scope x) (he : PE X e te) (hs : swapsWith e (some (.Name x pos')) pos.line X.env = pure false := by rfl) (hf : X.fn x = true ∨ X.env.scope.names.lookup x = some .local := by first | exact .inl rfl | exact .inr rfl | assumption) :
    PS X (.Assign [.Name x pos'] e pos) (tAsg te (gName i)) := by
  intro pins s σ H D I h
  refine wpAny_Assign_Name (thn (he pins s σ H _ I h) fun v s1 ⟨y, H1, I1, r1, q1⟩ => ?_) hs
  exact store_ok I1 hN hi hx r1 (fun s2 I2 => ⟨_, H1, I2, q1⟩) hf
/-- a, b = x, y with plain local names: stored from the right; the pair itself is not tracked (the opening rows as in PyProof/Rows/TupAssign.lean:23) -/
def tPar (i j : Nat) (ta : TA) : TS := fun D σ H => ta σ H fun vs H1 => ∃ v w, vs = [v, w] ∧ D.nx ((σ.set i (some v)).set j (some w)) H1
theorem ps_par {i j : Nat} {x y : Str} {a b : Expr} {ta : TA} {px py pt : Pos} {kt k2 pt2} (hc : X.calm = true) (hN : X.N.Nodup) (hi : X.N[i]? = some x) (hj : X.N[j]? = some y) (hij : i ≠ j)
    (hx : X.env.scope.names.lookup x = some .local) (hy : X.env.scope.names.lookup y = some .local) (ha : PA X [a, b] ta)
    (hw : swappedStores [.Tuple [.Name x px, .Name y py] kt pt] (.Tuple [a, b] k2 pt2) X.env = pure (some [x, y]))
    (hs : swapsWithSole [.Tuple [.Name x px, .Name y py] kt pt] (.Tuple [a, b] k2 pt2) pos.line X.env = pure false := by rfl) :
    PS X (.Assign [.Tuple [.Name x px, .Name y py] kt pt] (.Tuple [a, b] k2 pt2) pos) (tPar i j ta) := by
  intro pins s σ H D I h
  rw [exec_Assign_arm]
  refine wpAny_bind (wpAny_standAt ?_)
  rw [hs]
  refine wpAny_bind (wpAny_pure ?_)
  rw [if_neg (by decide)]
  refine wpAny_bind (Tuple_ (thn (ha _ pins s σ H _ I h) fun us s1 ⟨vs, H1, I1, r1, q1⟩ => ?_))
  obtain ⟨v, w, e1, q1⟩ := q1
  subst e1
  obtain ⟨u1, u2, rfl, rv, rw'⟩ : ∃ u1 u2, us = [u1, u2] ∧ RelV v u1 ∧ RelV w u2 := by
    cases r1 with
    | cons p q =>
      cases q with
      | cons p' q' =>
        cases q'
        exact ⟨_, _, rfl, p, p'⟩
  refine wpAny_newObj_type ?_ (by show 2 ≤ sizeLine; decide)
  have I2 : Inv X pins σ H1 { s1 with heap := s1.heap.push { cls := .type "tuple", data := .seq [u1, u2].toArray } } := I1.kept (t' := s1.toks) fun b o e => Heap.get?_push_of_some _ e
  rw [hw]
  refine wpAny_bind (wpAny_pure ?_)
  show wpAny (model X.prog X.w) X.A (do rule "assign.swapped-stores"; let items ← unpackItems (.ref s1.heap.objs.size) 2 none; assignInOrder [fun v => bindName X.env y v, fun v => bindName X.env x v] items.reverse; pure Flow.next) _ _ _
  refine wpAny_bind (wpAny_rule (wpAny_bind (unpackItems_tuple (items := #[u1, u2]) (I.ok.hd hc) (IsTup.new s1.heap _) fun h' hx' => ?_)))
  have I3 := I2.kept (h' := h') (t' := s1.toks) fun b o e => hx' b o (Nat.ne_of_lt (Heap.lt_size e)) e
  show wpAny _ _ (assignInOrder [fun v => bindName X.env y v, fun v => bindName X.env x v] [u2, u1] >>= fun _ => pure Flow.next) _ _ _
  refine wpAny_bind (assignInOrder_cons (wpAny_bindName (store_ok I3 hN hj (.inl hy) rw' (fun s2 I4 => ?_) (.inr hy))))
  refine assignInOrder_cons (wpAny_bindName (store_ok I4 hN hi (.inl hx) rv (fun s3 I5 => assignInOrder_nil (wpAny_pure ?_)) (.inr hx)))
  rw [List.set_comm _ _ (Ne.symm hij)] at I5
  exact ⟨_, H1, I5, q1⟩
/-- name op= e -/
def tAug (i : Nat) (te : TE) (ti : TIp) : TS := fun D σ H => ∃ x, σ[i]? = some (some x) ∧ te σ H fun y H1 => ti x y H1 fun z H2 => D.nx (σ.set i (some z)) H2
theorem ps_aug {i : Nat} {x : Str} {e : Expr} {te : TE} {op : Operator} {ti : TIp} {pos' : Pos} (hN : X.N.Nodup) (hi : X.N[i]? = some x) (hx : Loc X.env.scope x) (he : PE X e te) (ho : PIp X op ti) (hf : X.fn x = true ∨ X.env.scope.names.lookup x = some .local := by first | exact .inl rfl | exact .inr rfl | assumption) :
    PS X (.AugAssign (.Name x pos') op e pos) (tAug i te ti) := by
  intro pins s σ H D I h
  obtain ⟨v, e1, h⟩ := h
  obtain ⟨m, hn, hl⟩ := I.loc
  have vis : Vis X.env.scope x := by rcases hx with k | k; exact .inl k; exact .inr (.inl k)
  obtain ⟨u, r, l⟩ := hl i x v hi e1 vis
  refine wpAny_AugAssign_Name ?_
  have go : wpAny (model X.prog X.w) X.A (eval e X.env) (fun w s₂ => wpAny (model X.prog X.w) X.A (inplaceOp op u w) (fun r s₃ => wpAny (model X.prog X.w) X.A (storeName X.env x r) (fun _ => SP X pins D .next) X.xe s₃) X.xe s₂) X.xe s := by
    refine thn (he pins s σ H _ I h) fun w s1 ⟨y, H1, I1, r1, q1⟩ => ?_
    refine thn (ho pins s1 σ H1 v y u w _ I1 r r1 q1) fun z s2 ⟨zv, H2, I2, r2, q2⟩ => ?_
    exact store_ok I2 hN hi hx r2 (fun s3 I3 => ⟨_, H2, I3, q2⟩) hf
  rcases l with ⟨hk, hm⟩ | ⟨hk, c, hc, hcell⟩
  · exact wpAny_loadName_local I.ok.kind hk hn hm go
  · rcases hk with hk | hk
    · exact wpAny_loadName_cell I.ok.kind hk hc hcell go
    · rcases hx with k | k
      · have : X.env.scope.names.lookup x = some .free := hk
        rw [k] at this; cases this
      · have : X.env.scope.names.lookup x = some .free := hk
        rw [k] at this; cases this
/-- o[i] op= e -/
def tAugS (to ti te : TE) (tget : V → V → Hp → VK → Prop) (tip : TIp) (tset : TSet) : TS := fun D σ H => to σ H fun o H1 => ti σ H1 fun i H2 => tget o i H2 fun x H3 => te σ H3 fun y H4 => tip x y H4 fun z H5 => tset o i z H5 fun H6 => D.nx σ H6
/-- o[i], by values -/
def PGet (X : Cx) (t : V → V → Hp → VK → Prop) : Prop :=
  ∀ (pins : List (Addr × Obj)) (s : Shared) (σ : St) (H : Hp) (o i : V) (ov iv : Value) (Q : VK), Inv X pins σ H s → RelV o ov → RelV i iv → t o i H Q →
    wpAny (model X.prog X.w) X.A (getItem ov iv) (EP X pins σ Q) X.xe s
theorem ps_augS {o i e : Expr} {to ti te : TE} {tget : V → V → Hp → VK → Prop} {tip : TIp} {tset : TSet} {op : Operator} {tpos : Pos} (ho : PE X o to) (hi : PE X i ti) (hg : PGet X tget) (he : PE X e te) (hp : PIp X op tip) (hs : PSet X tset)
    (ha : ∀ ov iv new, augStore i ov iv new = (do holding [new, ov, iv] (setItem ov iv new); release [new, ov, iv] []; pure .next) := by intros; rfl) : PS X (.AugAssign (.Subscript o i tpos) op e pos) (tAugS to ti te tget tip tset) := by
  intro pins s σ H D I h
  refine wpAny_AugAssign_SubscriptAny (thn (ho pins s σ H _ I h) fun ov s1 ⟨x1, H1, I1, r1, q1⟩ => ?_) ha
  refine thn (hi pins s1 σ H1 _ I1 q1) fun iv s2 ⟨x2, H2, I2, r2, q2⟩ => ?_
  refine thn (hg pins s2 σ H2 x1 x2 ov iv _ I2 r1 r2 q2) fun old s3 ⟨x3, H3, I3, r3, q3⟩ => ?_
  refine thn (he pins s3 σ H3 _ I3 q3) fun v s4 ⟨x4, H4, I4, r4, q4⟩ => ?_
  refine thn (hp pins s4 σ H4 x3 x4 old v _ I4 r3 r4 q4) fun new s5 ⟨x5, H5, I5, r5, q5⟩ => ?_
  exact thn (hs pins s5 σ H5 x1 x2 x5 ov iv new _ I5 r1 r2 r5 q5) fun _ s6 ⟨H6, I6, q6⟩ => ⟨σ, H6, I6, q6⟩
/-- ints -/
def ipI (f : Int → Int → Int) : TIp := fun x y H Q => ∃ i j, x = .int i ∧ y = .int j ∧ Q (.int (f i j)) H
theorem ip_add : PIp X .Add (ipI fun i j => i + j) := by
  intro pins s σ H x y v u Q I r1 r2 h
  obtain ⟨i, j, e1, e2, q⟩ := h
  subst e1; subst e2
  obtain ⟨t, rfl⟩ := r1
  obtain ⟨t', rfl⟩ := r2
  exact iadd_int ⟨.int _, H, I.tok _, ⟨_, rfl⟩, q⟩
theorem ip_sub : PIp X .Sub (ipI fun i j => i - j) := by
  intro pins s σ H x y v u Q I r1 r2 h
  obtain ⟨i, j, e1, e2, q⟩ := h
  subst e1; subst e2
  obtain ⟨t, rfl⟩ := r1
  obtain ⟨t', rfl⟩ := r2
  exact isub_int ⟨.int _, H, I.tok _, ⟨_, rfl⟩, q⟩
end

/-! ### while -/
section
variable {X : Cx} {pos : Pos}
/-- the invariant W with its measure -/
def tWhile (c : TT) (tb : TS) : TS := fun D σ H => ∃ W : Nat → St → Hp → Prop, (∃ m, W m σ H) ∧ ∀ m σ H, W m σ H →
  c σ H fun b H1 => if b = true then ∃ N : St → Hp → Prop, (∀ σ' H', N σ' H' → ∃ m', m' < m ∧ W m' σ' H') ∧ tb { D with nx := N, ct := N, bk := D.nx } σ H1 else D.nx σ H1
theorem ps_while {c : Expr} {body : List Stmt} {tc : TT} {tb : TS} (hp : PassesOwn (model X.prog X.w) X.A X.env X.xe) (hc : PT X c tc) (hb : PSs X body tb) : PS X (.While c body [] pos) (tWhile tc tb) := by
  intro pins s σ H D I h
  obtain ⟨W, ⟨m0, w0⟩, turn⟩ := h
  refine wpAny_While (codeAny_whileLoop (fun n s' => ∃ σ' H', Inv X pins σ' H' s' ∧ W n σ' H') ?_ m0 ⟨σ, H, I, w0⟩)
  rintro n s1 ⟨σ1, H1, I1, w1⟩
  refine wpAny_passesOwn hp (thn (hc pins s1 σ1 H1 _ I1 (turn n σ1 H1 w1)) fun b s2 ⟨H2, I2, q2⟩ => ?_)
  cases b with
  | true =>
    obtain ⟨N, hN, q2⟩ := q2
    rw [if_pos rfl]
    refine wpAny_passesOwn hp (thn (hb pins s2 σ1 H2 _ I2 q2) fun f s3 q3 => ?_)
    cases f with
    | next =>
      obtain ⟨σ3, H3, I3, n3⟩ := q3
      obtain ⟨m', hm, w3⟩ := hN σ3 H3 n3
      exact ⟨m', hm, σ3, H3, I3, w3⟩
    | cont =>
      obtain ⟨σ3, H3, I3, n3⟩ := q3
      obtain ⟨m', hm, w3⟩ := hN σ3 H3 n3
      exact ⟨m', hm, σ3, H3, I3, w3⟩
    | brk => exact q3
    | ret v => exact q3
  | false =>
    rw [if_neg Bool.false_ne_true]
    exact wpAny_execs_nil ⟨σ1, H2, I2, q2⟩
end

/-! ### what a loop or a comprehension walks -/
/-- at turn i: it yields x (the heap may grow), or it stops -/
structure It where
  go : Nat → Hp → Prop
  yld : Nat → Hp → V → Hp → Prop
  stop : Nat → Hp → Prop
/-- the iterator's own objects may turn: they are not the frame's, not pinned, younger than the entry (or a comprehension's own) -/
def FpOk (X : Cx) (pins : List (Addr × Obj)) (H : Hp) (b : Addr) : Prop :=
  H b = none ∧ b ≠ X.env.locals ∧ b ∉ X.fs ∧ (b ∈ X.ex ∨ X.s₀.heap.objs.size ≤ b) ∧ (∀ x c, X.env.cells.lookup x = some c → c ≠ b) ∧ ∀ p ∈ X.pn ++ pins, p.1 ≠ b
theorem Inv.fpOk {X : Cx} {pins : List (Addr × Obj)} {σ : St} {H H' : Hp} {s : Shared} {b : Addr} (I : Inv X pins σ H s) (hb : s.heap.objs.size ≤ b) (hn : H' b = none) : FpOk X pins H' b := by
  refine ⟨hn, Nat.ne_of_gt (Nat.lt_of_lt_of_le I.lt hb), I.nofs hb, .inr (Nat.le_trans I.sz hb), fun x c e z => ?_, fun p hp z => ?_⟩
  · obtain ⟨v, q⟩ := I.cell x c e
    exact absurd (Nat.lt_of_lt_of_le q.lt (by rw [z]; exact hb)) (Nat.lt_irrefl _)
  · exact absurd (Nat.lt_of_lt_of_le (Heap.lt_size (I.pin p hp).1) (by rw [z]; exact hb)) (Nat.lt_irrefl _)
structure Turn (P : Program) (w : World) (K : PySem.W.Frag) (tg : Expr) (J : It) (fp : List Addr) (it : Addr) (tn : Nat → Heap → Prop) : Prop where
  mem : it ∈ fp
  obj : ∀ i h, tn i h → ∀ b ∈ fp, ∃ o, h.get? b = some o ∧ ∀ v, o.data ≠ .cell v
  keep : ∀ i h h', tn i h → (∀ b ∈ fp, ∀ o, h.get? b = some o → h'.get? b = some o) → tn i h'
  item : ∀ (X : Cx), X.prog = P → X.w = w → X.K = K → X.calm = true → ∀ (i : Nat) (pins : List (Addr × Obj)) (s : Shared) (σ : St) (H : Hp) (E : Value → Shared → Prop), Inv X pins σ H s → (∀ b ∈ fp, FpOk X pins H b) → tn i s.heap → J.go i H →
    wpAny (model P w) X.A (pyNext (.ref it)) (fun r s1 => ∃ u, r = some u ∧
      wpAny (model P w) X.A (letOwnedTupleGo tg (.ref it) u) (fun _ s2 => ∃ x H', Inv X pins σ H' s2 ∧ RelV x u ∧ J.yld i H x H' ∧ tn (i + 1) s2.heap ∧ ∀ b ∈ fp, H' b = none) E s1) E s
  done : ∀ (X : Cx), X.prog = P → X.w = w → X.K = K → X.calm = true → ∀ (i : Nat) (pins : List (Addr × Obj)) (s : Shared) (σ : St) (H : Hp) (E : Value → Shared → Prop), Inv X pins σ H s → (∀ b ∈ fp, FpOk X pins H b) → tn i s.heap → J.stop i H →
    wpAny (model P w) X.A (pyNext (.ref it)) (fun r s1 => r = none ∧ Inv X pins σ H s1) E s
  self : ∀ (A : Around) (i : Nat) (s : Shared) (Q : Value → Shared → Prop) (E : Value → Shared → Prop), tn i s.heap → Q (.ref it) s → wpAny (model P w) A (pyIter (.ref it)) Q E s
abbrev TI := St → Hp → (It → Hp → Prop) → Prop
/-- an iterator has come -/
def PIE (X : Cx) (pins : List (Addr × Obj)) (σ : St) (tg : Expr) (R : It → Hp → Prop) (itv : Value) (s2 : Shared) : Prop :=
  ∃ (it : Addr) (fp : List Addr) (tn : Nat → Heap → Prop) (J : It) (H' : Hp), itv = .ref it ∧ Inv X pins σ H' s2 ∧ Turn X.prog X.w X.K tg J fp it tn ∧ tn 0 s2.heap ∧ (∀ b ∈ fp, FpOk X pins H' b) ∧ R J H'
def PI (X : Cx) (tg iter : Expr) (wi : TI) : Prop :=
  ∀ (pins : List (Addr × Obj)) (s : Shared) (σ : St) (H : Hp) (R : It → Hp → Prop), Inv X pins σ H s → wi σ H R →
    wpAny (model X.prog X.w) X.A (eval iter X.env) (fun v s1 => wpAny (model X.prog X.w) X.A (pyIter v) (PIE X pins σ tg R) X.xe s1) X.xe s

/-- the step ahead of the store is nothing for an iterator that keeps no tuple -/
theorem go_of {M : Model} {A : Around} {E : Value → Shared → Prop} {s : Shared} {tg : Expr} {it : Addr} {u : Value} {o : Obj} {n : String} {vs : Array Value} {Q : Unit → Shared → Prop} (ho : s.heap.get? it = some o) (hc : o.cls = .type n) (hd : o.data = .fields vs)
    (hn : ["enumerate", "zip", "dict_itemiterator", "dict_reverseitemiterator", "odict_iterator", "itertools.zip_longest", "itertools.pairwise"].contains n = false) (hQ : Q () s) : wpAny M A (letOwnedTupleGo tg (.ref it) u) Q E s := by
  unfold letOwnedTupleGo
  cases tg <;> first
    | exact wpAny_pure hQ
    | (cases u <;> first
        | exact wpAny_pure hQ
        | (refine wpAny_bind (wpAny_load ho ?_)
           rw [hc, hd]
           show wpAny M A (if (["enumerate", "zip", "dict_itemiterator", "dict_reverseitemiterator", "odict_iterator", "itertools.zip_longest", "itertools.pairwise"].contains n && vs[0]? == some (rawInt _)) = true then _ else _) Q E s
           rw [if_neg (by intro h; rw [hn, Bool.false_and] at h; cases h)]
           exact wpAny_pure hQ))

/-- the list at a, as it stands at each turn (a loop may append to it) -/
def Itl (K : PySem.W.Frag) (a : Addr) : It :=
  ⟨fun i H => ∃ xs x, SqL K H a xs ∧ xs[i]? = some x, fun i H x H' => H' = H ∧ ∀ xs, SqL K H a xs → xs[i]? = some x, fun i H => ∃ xs, SqL K H a xs ∧ xs.length ≤ i⟩
def Itt (K : PySem.W.Frag) (a : Addr) : It :=
  ⟨fun i H => ∃ xs x, SqT K H a xs ∧ xs[i]? = some x, fun i H x H' => H' = H ∧ ∀ xs, SqT K H a xs → xs[i]? = some x, fun i H => ∃ xs, SqT K H a xs ∧ xs.length ≤ i⟩
/-- lo, lo + 1, .. (n of them) -/
def Itr (lo : Int) (n : Nat) : It := ⟨fun i _ => i < n, fun i H x H' => H' = H ∧ x = .int (lo + i), fun i _ => n ≤ i⟩
theorem turn_list {P : Program} {w : World} {K : PySem.W.Frag} {tg : Expr} (a it : Addr) : Turn P w K tg (Itl K a) [it] it (fun i h => h.IsListIter it a i) where
  mem := by simp
  obj := fun i h st b hb => by
    have e : b = it := by simpa using hb
    subst e
    obtain ⟨o, e, c, d⟩ := st
    exact ⟨o, e, fun v z => by rw [d] at z; cases z⟩
  keep := fun i h h' st k => st.at fun o e => k it (by simp) o e
  item := by
    intro X hP hw hK hc i pins s σ H E I hf st hg
    subst hP hw hK
    obtain ⟨xs, x, hq, hx⟩ := hg
    obtain ⟨its, rv, p, hz⟩ := I.list hq
    obtain ⟨u, hu, ru⟩ := rv.get hx
    obtain ⟨f0, f1, f2, f3, f4, f5⟩ := hf it (by simp)
    refine wpAny_pyNext_list_item st p.isList (x := u) (by simpa using hu) fun h' st' sb => ?_
    have I1 : Inv X pins σ H { s with heap := h' } := I.turned (t' := s.toks) (fun b o hb e => (sb.2 b hb).trans e) f0 f1 f3 f4 f5
    obtain ⟨o, e, c, d⟩ := id st'
    exact ⟨u, rfl, go_of (s := { s with heap := h' }) e c d (by decide) ⟨x, H, I1, ru, ⟨rfl, fun ys hy => by rw [I.list_inj hy hq]; exact hx⟩, st', fun b hb => (hf b hb).1⟩⟩
  done := by
    intro X hP hw hK hc i pins s σ H E I hf st hg
    subst hP hw hK
    obtain ⟨xs, hq, hx⟩ := hg
    obtain ⟨its, rv, p, hz⟩ := I.list hq
    obtain ⟨f0, f1, f2, f3, f4, f5⟩ := hf it (by simp)
    have hl := rv.length
    exact wpAny_pyNext_list_end (I.ok.hd hc) st p.isList (by simp; omega) fun h' eb => ⟨rfl, I.turned (t' := s.toks) (fun b o hb e => eb b o hb e) f0 f1 f3 f4 f5⟩
  self := fun _ _ _ _ _ st h => wpAny_pyIter_listiter st h
theorem turn_tuple {P : Program} {w : World} {K : PySem.W.Frag} {tg : Expr} (a it : Addr) : Turn P w K tg (Itt K a) [it] it (fun i h => h.IsTupleIter it a i) where
  mem := by simp
  obj := fun i h st b hb => by
    have e : b = it := by simpa using hb
    subst e
    obtain ⟨o, e, c, d⟩ := st
    exact ⟨o, e, fun v z => by rw [d] at z; cases z⟩
  keep := fun i h h' st k => st.at fun o e => k it (by simp) o e
  item := by
    intro X hP hw hK hc i pins s σ H E I hf st hg
    subst hP hw hK
    obtain ⟨xs, x, hq, hx⟩ := hg
    obtain ⟨its, rv, p, hz⟩ := I.tuple hq
    obtain ⟨u, hu, ru⟩ := rv.get hx
    obtain ⟨f0, f1, f2, f3, f4, f5⟩ := hf it (by simp)
    refine wpAny_pyNext_tuple_item st (show s.heap.IsTuple a its.toArray from p) (x := u) (by simpa using hu) fun h' st' sb => ?_
    have I1 : Inv X pins σ H { s with heap := h' } := I.turned (t' := s.toks) (fun b o hb e => (sb.2 b hb).trans e) f0 f1 f3 f4 f5
    obtain ⟨o, e, c, d⟩ := id st'
    exact ⟨u, rfl, go_of (s := { s with heap := h' }) e c d (by decide) ⟨x, H, I1, ru, ⟨rfl, fun ys hy => by rw [I.tuple_inj hy hq]; exact hx⟩, st', fun b hb => (hf b hb).1⟩⟩
  done := by
    intro X hP hw hK hc i pins s σ H E I hf st hg
    subst hP hw hK
    obtain ⟨xs, hq, hx⟩ := hg
    obtain ⟨its, rv, p, hz⟩ := I.tuple hq
    obtain ⟨f0, f1, f2, f3, f4, f5⟩ := hf it (by simp)
    have hl := rv.length
    exact wpAny_pyNext_tuple_end (I.ok.hd hc) st (show s.heap.IsTuple a its.toArray from p) (by simp; omega) fun h' eb => ⟨rfl, I.turned (t' := s.toks) (fun b o hb e => eb b o hb e) f0 f1 f3 f4 f5⟩
  self := fun _ _ _ _ _ st h => wpAny_pyIter_tupleiter st h
theorem turn_range {P : Program} {w : World} {K : PySem.W.Frag} {tg : Expr} (it : Addr) (lo : Int) (n : Nat) : Turn P w K tg (Itr lo n) [it] it (fun i h => IsRangeIter h it (lo + (i : Nat) * 1) ((n : Int) - (i : Nat)) 1) where
  mem := by simp
  obj := fun i h st b hb => by
    have e : b = it := by simpa using hb
    subst e
    exact ⟨_, st, fun v z => by
      have z' : Data.fields _ = Data.cell v := z
      cases z'⟩
  keep := fun i h h' st k => k it (by simp) _ st
  item := by
    intro X hP hw hK hc i pins s σ H E I hf st hg
    subst hP hw hK
    obtain ⟨f0, f1, f2, f3, f4, f5⟩ := hf it (by simp)
    have W := Walks.range (prog := X.prog) (w := X.w) (I.ok.hd hc) it lo 1 n
    refine W.item i s _ _ hg st fun v h' tk hv st' kk => ?_
    obtain ⟨t, rfl⟩ := hv
    have I1 : Inv X pins σ H { s with heap := h', toks := tk } := I.turned (fun b o hb e => kk b o (by simpa using hb) e) f0 f1 f3 f4 f5
    refine ⟨_, rfl, go_of (s := { s with heap := h', toks := tk }) (n := "range_iterator") st' rfl rfl (by decide) ⟨.int (lo + i), H, I1, ⟨t, ?_⟩, ⟨rfl, rfl⟩, st', fun b hb => (hf b hb).1⟩⟩
    rw [Int.mul_one]
  done := by
    intro X hP hw hK hc i pins s σ H E I hf st hg
    subst hP hw hK
    obtain ⟨f0, f1, f2, f3, f4, f5⟩ := hf it (by simp)
    exact wpAny_pyNext_range_end (I.ok.hd hc) st (by have : n ≤ i := hg; omega) fun h' eb => ⟨rfl, I.turned (t' := s.toks) (fun b o hb e => eb b o hb e) f0 f1 f3 f4 f5⟩
  self := fun _ _ _ _ _ st h => wpAny_pyIter_rangeiter st h
end L2

namespace L2
open PySem PySem.Spec PyProof.Rows
section
variable {X : Cx} {tg : Expr}
def iList (K : PySem.W.Frag) (tl : TE) : TI := fun σ H R => tl σ H fun x H1 => ∃ a, x = .ref a ∧ (∃ xs, SqL K H1 a xs) ∧ R (Itl K a) H1
def iTup (K : PySem.W.Frag) (tl : TE) : TI := fun σ H R => tl σ H fun x H1 => ∃ a, x = .ref a ∧ (∃ xs, SqT K H1 a xs) ∧ R (Itt K a) H1
theorem pi_list {l : Expr} {tl : TE} (hl : PE X l tl) : PI X tg l (iList X.K tl) := by
  intro pins s σ H R I h
  refine thn (hl pins s σ H _ I h) fun v s1 ⟨x, H1, I1, r1, q1⟩ => ?_
  obtain ⟨a, e, ⟨xs, hq⟩, q⟩ := q1
  subst e
  cases r1
  obtain ⟨its, rv, p, hz⟩ := I1.list hq
  refine wpAny_pyIter_list p.isList ?_
  refine ⟨s1.heap.objs.size, [s1.heap.objs.size], _, _, H1, rfl, I1.kept (t' := s1.toks) fun b o e => Heap.get?_push_of_some _ e, turn_list a _, ⟨_, Heap.get?_push_size _ rfl, rfl, rfl⟩, fun b hb => ?_, q⟩
  have e : b = s1.heap.objs.size := by simpa using hb
  subst e
  exact I1.fpOk (Nat.le_refl _) (I1.hok.fresh (Nat.le_refl _))
theorem pi_tup {l : Expr} {tl : TE} (hl : PE X l tl) : PI X tg l (iTup X.K tl) := by
  intro pins s σ H R I h
  refine thn (hl pins s σ H _ I h) fun v s1 ⟨x, H1, I1, r1, q1⟩ => ?_
  obtain ⟨a, e, ⟨xs, hq⟩, q⟩ := q1
  subst e
  cases r1
  obtain ⟨its, rv, p, hz⟩ := I1.tuple hq
  refine wpAny_pyIter_tuple (show s1.heap.IsTuple a its.toArray from p) ?_
  refine ⟨s1.heap.objs.size, [s1.heap.objs.size], _, _, H1, rfl, I1.kept (t' := s1.toks) fun b o e => Heap.get?_push_of_some _ e, turn_tuple a _, ⟨_, Heap.get?_push_size _ rfl, rfl, rfl⟩, fun b hb => ?_, q⟩
  have e : b = s1.heap.objs.size := by simpa using hb
  subst e
  exact I1.fpOk (Nat.le_refl _) (I1.hok.fresh (Nat.le_refl _))
/-- a range object just made, walked -/
theorem range_it {pins : List (Addr × Obj)} {σ : St} {H : Hp} {s : Shared} {R : It → Hp → Prop} {E : Value → Shared → Prop} {lo hi : Int} {t u v : Tok} {tk : Nat} (I : Inv X pins σ H s) (h1 : -(2 ^ 62) ≤ lo) (h2 : lo < 2 ^ 62) (h3 : -(2 ^ 62) ≤ hi) (h4 : hi < 2 ^ 62)
    (q : R (Itr lo (hi - lo).toNat) H) : wpAny (model X.prog X.w) X.A (pyIter (.ref s.heap.objs.size)) (PIE X pins σ tg R) E { s with heap := s.heap.push { cls := .type "range", data := .fields #[.int lo t, .int hi u, .int 1 v] }, toks := tk } := by
  refine wpAny_pyIter_range (IsRange.new ..) (small_one h1 h2 h3 h4) ?_
  have I1 : Inv X pins σ H { s with heap := s.heap.push { cls := .type "range", data := .fields #[.int lo t, .int hi u, .int 1 v] }, toks := tk } := I.kept fun b o e => Heap.get?_push_of_some _ e
  refine ⟨(s.heap.push { cls := .type "range", data := .fields #[.int lo t, .int hi u, .int 1 v] }).objs.size, [(s.heap.push { cls := .type "range", data := .fields #[.int lo t, .int hi u, .int 1 v] }).objs.size], _, _, H, rfl,
    I1.kept (t' := tk) fun b o e => Heap.get?_push_of_some _ e, turn_range _ lo (hi - lo).toNat, ?_, fun b hb => ?_, q⟩
  · have e1 : lo + ((0 : Nat) : Int) * 1 = lo := by simp
    have e2 : (((hi - lo).toNat : Nat) : Int) - ((0 : Nat) : Int) = Builtin.Range.rangeSize lo hi 1 := by rw [rangeSize_one]; split <;> omega
    show IsRangeIter _ _ (lo + ((0 : Nat) : Int) * 1) ((((hi - lo).toNat : Nat) : Int) - ((0 : Nat) : Int)) 1
    rw [e1, e2]
    exact Heap.get?_push_size _ rfl
  · have e : b = (s.heap.push { cls := .type "range", data := .fields #[.int lo t, .int hi u, .int 1 v] }).objs.size := by simpa using hb
    subst e
    exact I1.fpOk (Nat.le_refl _) (I1.hok.fresh (Nat.le_refl _))
def iRng1 (ta : TA) : TI := fun σ H R => ta σ H fun vs H1 => ∃ j : Int, vs = [.int j] ∧ -(2 ^ 62) ≤ j ∧ j < 2 ^ 62 ∧ R (Itr 0 j.toNat) H1
def iRng2 (ta : TA) : TI := fun σ H R => ta σ H fun vs H1 => ∃ i j : Int, vs = [.int i, .int j] ∧ (-(2 ^ 62) ≤ i ∧ i < 2 ^ 62 ∧ -(2 ^ 62) ≤ j ∧ j < 2 ^ 62) ∧ R (Itr i (j - i).toNat) H1
theorem pi_range1 {a : Expr} {ta : TA} {p pos : Pos} (hg : Gl X "range") (hm : X.mg "range" = none) (ha : PA X [a] ta) (hs : starEach [a] X.env = [(false, eval a X.env)] := by rfl) : PI X tg (.Call (.Name "range" p) [a] [] pos) (iRng1 ta) := by
  intro pins s σ H R I h
  refine Call_ (ld_blt I hg hm boot_range (PyProof.Rows.callWith_type1 (thn (ha pos pins s σ H _ I h) fun us s1 ⟨vs, H1, I1, r1, q1⟩ => ?_) hs rfl))
  obtain ⟨j, e, q1, q2, q⟩ := q1
  subst e
  cases r1 with
  | cons r rr =>
    cases rr
    obtain ⟨t, rfl⟩ := r
    exact call_range_1 (range_it I1 (by omega) (by omega) q1 q2 (by simpa using q))
theorem pi_range2 {a b : Expr} {ta : TA} {p pos : Pos} (hg : Gl X "range") (hm : X.mg "range" = none) (ha : PA X [a, b] ta) (hs : starEach [a, b] X.env = [(false, eval a X.env), (false, eval b X.env)] := by rfl) (hs2 : starEach [b] X.env = [(false, eval b X.env)] := by rfl) :
    PI X tg (.Call (.Name "range" p) [a, b] [] pos) (iRng2 ta) := by
  intro pins s σ H R I h
  refine Call_ (ld_blt I hg hm boot_range (PyProof.Rows.callWith_type1 (thn (ha pos pins s σ H _ I h) fun us s1 ⟨vs, H1, I1, r1, q1⟩ => ?_) (by rw [hs, hs2]) (by rw [hs2]; rfl)))
  obtain ⟨i, j, e, ⟨q1, q2, q3, q4⟩, q⟩ := q1
  subst e
  cases r1 with
  | cons r rr =>
    cases rr with
    | cons r' rr =>
      cases rr
      obtain ⟨t, rfl⟩ := r
      obtain ⟨t', rfl⟩ := r'
      exact call_range_2 (range_it I1 q1 q2 q3 q4 q)

/-! ### for -/
/-- W: the invariant by the turn and a measure; N: what the body is to reach -/
def tFor (wi : TI) (g : TG) (tb : TS) : TS := fun D σ H => wi σ H fun J H1 => ∃ W : Nat → Nat → St → Hp → Prop, (∃ m, W 0 m σ H1) ∧ ∀ i m σ H, W i m σ H →
  (J.stop i H ∧ D.nx σ H) ∨ (J.go i H ∧ ∃ N : St → Hp → Prop, (∀ σ' H', N σ' H' → ∃ m', m' < m ∧ W (i + 1) m' σ' H') ∧ ∀ x H', J.yld i H x H' → g x σ H' fun σ2 H2 => tb { D with nx := N, ct := N, bk := D.nx } σ2 H2)
/-- the records at fp as they stand -/
def pinsAt (fp : List Addr) (h : Heap) : List (Addr × Obj) := fp.filterMap fun b => (h.get? b).map fun o => (b, o)
theorem mem_pinsAt {fp : List Addr} {h : Heap} {b : Addr} {o : Obj} (hb : b ∈ fp) (e : h.get? b = some o) : (b, o) ∈ pinsAt fp h := List.mem_filterMap.mpr ⟨b, hb, by rw [e]; rfl⟩
theorem of_pinsAt {fp : List Addr} {h : Heap} {p : Addr × Obj} (hp : p ∈ pinsAt fp h) : p.1 ∈ fp ∧ h.get? p.1 = some p.2 := by
  obtain ⟨b, hb, e⟩ := List.mem_filterMap.mp hp
  cases q : h.get? b with
  | none => rw [q] at e; cases e
  | some o =>
    rw [q] at e
    have e' : (b, o) = p := Option.some.inj e
    subst e'
    exact ⟨hb, q⟩
theorem Inv.pinned {pins : List (Addr × Obj)} {σ : St} {H : Hp} {s : Shared} {fp : List Addr} (I : Inv X pins σ H s) (hf : ∀ b ∈ fp, FpOk X pins H b) (ho : ∀ b ∈ fp, ∃ o, s.heap.get? b = some o ∧ ∀ v, o.data ≠ .cell v) : Inv X (pins ++ pinsAt fp s.heap) σ H s :=
  I.pins_of fun p hp => (List.mem_append.mp hp).elim (fun z => I.pin p (List.mem_append_right _ z)) fun z => by
    obtain ⟨hb, e⟩ := of_pinsAt z
    obtain ⟨f0, f1, f2, _⟩ := hf p.1 hb
    obtain ⟨o, e', d⟩ := ho p.1 hb
    rw [e] at e'; cases e'
    exact ⟨e, f0, f1, f2, d⟩
theorem Inv.unpinned {pins pl : List (Addr × Obj)} {σ : St} {H : Hp} {s : Shared} (I : Inv X (pins ++ pl) σ H s) : Inv X pins σ H s := I.pins_of fun p hp => I.pin p (List.mem_append_right _ (List.mem_append_left _ hp))
theorem ps_for {iter : Expr} {body : List Stmt} {wi : TI} {g : TG} {tb : TS} {pos : Pos} (hp : PassesOwn (model X.prog X.w) X.A X.env X.xe) (hc : X.calm = true) (hi : PI X tg iter wi) (hg : PG X tg g) (hb : PSs X body tb)
    (hs : ∀ x, foldedSetIterable iter X.env x = pure x := by intro _; rfl) : PS X (.For tg iter body [] pos) (tFor wi g tb) := by
  intro pins s σ H D I h
  refine wpAny_For (thn (hi pins s σ H _ I h) fun v s1 h1 => thn h1 fun itv s2 h2 => ?_) hs
  obtain ⟨it, fp, tn, J, H2, e, I2, T, st2, f2, W, ⟨m0, w0⟩, turn⟩ := h2
  subst e
  -- what stays true of the iterator's objects through the loop
  have stat : ∀ {H' : Hp}, (∀ b ∈ fp, H' b = none) → ∀ b ∈ fp, FpOk X pins H' b := fun hn b hb => ⟨hn b hb, (f2 b hb).2⟩
  refine codeAny_forLoop_any (fun n s' => ∃ i σ' H', Inv X pins σ' H' s' ∧ tn i s'.heap ∧ (∀ b ∈ fp, H' b = none) ∧ W i n σ' H') ?_ m0 ⟨0, σ, H2, I2, st2, fun b hb => (f2 b hb).1, w0⟩
  rintro n s3 ⟨i, σ3, H3, I3, st3, fr3, w3⟩
  rcases turn i n σ3 H3 w3 with ⟨stop, qn⟩ | ⟨go, N, hN, step⟩
  · refine wpAny_passesOwn hp (thn (T.done X rfl rfl rfl hc i pins s3 σ3 H3 X.xe I3 (stat fr3) st3 stop) fun r s4 ⟨hr, I4⟩ => ?_)
    subst hr
    exact wpAny_execs_nil ⟨σ3, H3, I4, qn⟩
  · refine wpAny_passesOwn hp (thn (T.item X rfl rfl rfl hc i pins s3 σ3 H3 X.xe I3 (stat fr3) st3 go) fun r s4 ⟨u, hr, h4⟩ => ?_)
    subst hr
    refine wpAny_passesOwn hp (thn h4 fun _ s5 ⟨x, H5, I5, r5, y5, st5, fr5⟩ => ?_)
    have I5' := I5.pinned (stat fr5) (T.obj _ _ st5)
    refine wpAny_passesOwn hp (thn (hg _ s5 σ3 H5 x u _ I5' r5 (step x H5 y5)) fun _ s6 ⟨σ6, H6, I6, q6⟩ => ?_)
    refine wpAny_passesOwn hp (thn (hb _ s6 σ6 H6 _ I6 q6) fun f s7 q7 => ?_)
    have again : ∀ {σ7 : St} {H7 : Hp}, Inv X (pins ++ pinsAt fp s5.heap) σ7 H7 s7 → N σ7 H7 → ∃ m, m < n ∧ ∃ i σ' H', Inv X pins σ' H' s7 ∧ tn i s7.heap ∧ (∀ b ∈ fp, H' b = none) ∧ W i m σ' H' := fun {σ7 H7} I7 n7 => by
      obtain ⟨m', hm, w7⟩ := hN σ7 H7 n7
      refine ⟨m', hm, i + 1, σ7, H7, I7.unpinned, T.keep _ _ _ st5 fun b hb o e => (I7.pin (b, o) (List.mem_append_right _ (List.mem_append_right _ (mem_pinsAt hb e)))).1, fun b hb => ?_, w7⟩
      obtain ⟨o, e, d⟩ := T.obj _ _ st5 b hb
      exact (I7.pin (b, o) (List.mem_append_right _ (List.mem_append_right _ (mem_pinsAt hb e)))).2.1
    cases f with
    | next => obtain ⟨σ7, H7, I7, n7⟩ := q7; exact again I7 n7
    | cont => obtain ⟨σ7, H7, I7, n7⟩ := q7; exact again I7 n7
    | brk => obtain ⟨σ7, H7, I7, q7⟩ := q7; exact ⟨σ7, H7, I7.unpinned, q7⟩
    | ret v => obtain ⟨x7, σ7, H7, I7, r7, q7⟩ := q7; exact ⟨x7, σ7, H7, I7.unpinned, r7, q7⟩
end

/-! ### the forms one uses -/
/-- over a list that the body leaves as it is -/
theorem for_list {K : PySem.W.Frag} {a : Addr} {xs : List V} {g : TG} {tb : TS} {D : Ends} {σ : St} {H : Hp} (Pv : Nat → St → Hp → Prop) (h0 : Pv 0 σ H) (hl : ∀ i σ H, i ≤ xs.length → Pv i σ H → SqL K H a xs)
    (hs : ∀ i x σ H, xs[i]? = some x → Pv i σ H → g x σ H fun σ2 H2 => tb { D with nx := Pv (i + 1), ct := Pv (i + 1), bk := D.nx } σ2 H2) (hd : ∀ σ H, Pv xs.length σ H → D.nx σ H) :
    ∃ W : Nat → Nat → St → Hp → Prop, (∃ m, W 0 m σ H) ∧ ∀ i m σ H, W i m σ H →
      ((Itl K a).stop i H ∧ D.nx σ H) ∨ ((Itl K a).go i H ∧ ∃ N : St → Hp → Prop, (∀ σ' H', N σ' H' → ∃ m', m' < m ∧ W (i + 1) m' σ' H') ∧ ∀ x H', (Itl K a).yld i H x H' → g x σ H' fun σ2 H2 => tb { D with nx := N, ct := N, bk := D.nx } σ2 H2) := by
  refine ⟨fun i m σ H => m = xs.length - i ∧ i ≤ xs.length ∧ Pv i σ H, ⟨xs.length, by simp, Nat.zero_le _, h0⟩, ?_⟩
  rintro i m σ H ⟨rfl, hi, p⟩
  have q := hl i σ H hi p
  by_cases hlt : i < xs.length
  · refine .inr ⟨⟨xs, xs[i], q, by simp [hlt]⟩, Pv (i + 1), fun σ' H' p' => ⟨xs.length - (i + 1), by omega, rfl, hlt, p'⟩, fun x H' y => ?_⟩
    obtain ⟨e, y⟩ := y
    subst e
    exact hs i x σ _ (y xs q) p
  · have e : i = xs.length := by omega
    subst e
    exact .inl ⟨⟨xs, q, Nat.le_refl _⟩, hd σ H p⟩
theorem for_tup {K : PySem.W.Frag} {a : Addr} {xs : List V} {g : TG} {tb : TS} {D : Ends} {σ : St} {H : Hp} (Pv : Nat → St → Hp → Prop) (h0 : Pv 0 σ H) (hl : ∀ i σ H, i ≤ xs.length → Pv i σ H → SqT K H a xs)
    (hs : ∀ i x σ H, xs[i]? = some x → Pv i σ H → g x σ H fun σ2 H2 => tb { D with nx := Pv (i + 1), ct := Pv (i + 1), bk := D.nx } σ2 H2) (hd : ∀ σ H, Pv xs.length σ H → D.nx σ H) :
    ∃ W : Nat → Nat → St → Hp → Prop, (∃ m, W 0 m σ H) ∧ ∀ i m σ H, W i m σ H →
      ((Itt K a).stop i H ∧ D.nx σ H) ∨ ((Itt K a).go i H ∧ ∃ N : St → Hp → Prop, (∀ σ' H', N σ' H' → ∃ m', m' < m ∧ W (i + 1) m' σ' H') ∧ ∀ x H', (Itt K a).yld i H x H' → g x σ H' fun σ2 H2 => tb { D with nx := N, ct := N, bk := D.nx } σ2 H2) := by
  refine ⟨fun i m σ H => m = xs.length - i ∧ i ≤ xs.length ∧ Pv i σ H, ⟨xs.length, by simp, Nat.zero_le _, h0⟩, ?_⟩
  rintro i m σ H ⟨rfl, hi, p⟩
  have q := hl i σ H hi p
  by_cases hlt : i < xs.length
  · refine .inr ⟨⟨xs, xs[i], q, by simp [hlt]⟩, Pv (i + 1), fun σ' H' p' => ⟨xs.length - (i + 1), by omega, rfl, hlt, p'⟩, fun x H' y => ?_⟩
    obtain ⟨e, y⟩ := y
    subst e
    exact hs i x σ _ (y xs q) p
  · have e : i = xs.length := by omega
    subst e
    exact .inl ⟨⟨xs, q, Nat.le_refl _⟩, hd σ H p⟩
theorem for_range {lo : Int} {n : Nat} {g : TG} {tb : TS} {D : Ends} {σ : St} {H : Hp} (Pv : Nat → St → Hp → Prop) (h0 : Pv 0 σ H)
    (hs : ∀ i σ H, i < n → Pv i σ H → g (.int (lo + i)) σ H fun σ2 H2 => tb { D with nx := Pv (i + 1), ct := Pv (i + 1), bk := D.nx } σ2 H2) (hd : ∀ σ H, Pv n σ H → D.nx σ H) :
    ∃ W : Nat → Nat → St → Hp → Prop, (∃ m, W 0 m σ H) ∧ ∀ i m σ H, W i m σ H →
      ((Itr lo n).stop i H ∧ D.nx σ H) ∨ ((Itr lo n).go i H ∧ ∃ N : St → Hp → Prop, (∀ σ' H', N σ' H' → ∃ m', m' < m ∧ W (i + 1) m' σ' H') ∧ ∀ x H', (Itr lo n).yld i H x H' → g x σ H' fun σ2 H2 => tb { D with nx := N, ct := N, bk := D.nx } σ2 H2) := by
  refine ⟨fun i m σ H => m = n - i ∧ i ≤ n ∧ Pv i σ H, ⟨n, by simp, Nat.zero_le _, h0⟩, ?_⟩
  rintro i m σ H ⟨rfl, hi, p⟩
  by_cases hlt : i < n
  · refine .inr ⟨hlt, Pv (i + 1), fun σ' H' p' => ⟨n - (i + 1), by omega, rfl, hlt, p'⟩, fun x H' y => ?_⟩
    obtain ⟨e, y⟩ := y
    subst e y
    exact hs i σ _ hlt p
  · have e : i = n := by omega
    subst e
    exact .inl ⟨Nat.le_refl _, hd σ H p⟩
/-- while, by a word and a measure of the state -/
theorem while_by {c : TT} {tb : TS} {D : Ends} {σ : St} {H : Hp} (Pv : St → Hp → Prop) (μ : St → Hp → Nat) (h0 : Pv σ H)
    (hs : ∀ σ H, Pv σ H → c σ H fun b H1 => if b = true then tb { D with nx := fun σ' H' => Pv σ' H' ∧ μ σ' H' < μ σ H, ct := fun σ' H' => Pv σ' H' ∧ μ σ' H' < μ σ H, bk := D.nx } σ H1 else D.nx σ H1)
    (mono : ∀ σ H Q Q', (∀ b H1, Q b H1 → Q' b H1) → c σ H Q → c σ H Q') : tWhile c tb D σ H := by
  refine ⟨fun m σ H => m = μ σ H ∧ Pv σ H, ⟨_, rfl, h0⟩, ?_⟩
  rintro m σ H ⟨rfl, p⟩
  refine mono σ H _ _ (fun b H1 q => ?_) (hs σ H p)
  cases b with
  | true => exact ⟨_, fun σ' H' ⟨p', l⟩ => ⟨_, l, rfl, p'⟩, q⟩
  | false => exact q
end L2

namespace L2
open PySem PySem.Spec PyProof.Rows

abbrev R2 := V → V → Hp → VK → Prop
/-- a two-place operation on values: f is binaryOp op, inplaceOp op or compareOp op -/
def OpR (X : Cx) (f : Value → Value → Sem Value) (r : R2) : Prop :=
  ∀ (pins : List (Addr × Obj)) (s : Shared) (σ : St) (H : Hp) (x y : V) (v u : Value) (Q : VK), Inv X pins σ H s → RelV x v → RelV y u → r x y H Q →
    wpAny (model X.prog X.w) X.A (f v u) (EP X pins σ Q) X.xe s
/-- a one-place operation -/
def UnR (X : Cx) (f : Value → Sem Value) (r : V → Hp → VK → Prop) : Prop :=
  ∀ (pins : List (Addr × Obj)) (s : Shared) (σ : St) (H : Hp) (x : V) (v : Value) (Q : VK), Inv X pins σ H s → RelV x v → r x H Q →
    wpAny (model X.prog X.w) X.A (f v) (EP X pins σ Q) X.xe s
/-- a call of a value that is known (a builtin, a type) with values -/
def CallR (X : Cx) (f : Value) (r : List V → Hp → VK → Prop) : Prop :=
  ∀ (pins : List (Addr × Obj)) (s : Shared) (σ : St) (H : Hp) (xs : List V) (us : List Value) (Q : VK), Inv X pins σ H s → Vals xs us → r xs H Q →
    wpAny (model X.prog X.w) X.A (call f us) (EP X pins σ Q) X.xe s
/-- a value's truth -/
def TruR (X : Cx) (r : V → Hp → (Bool → Hp → Prop) → Prop) : Prop :=
  ∀ (pins : List (Addr × Obj)) (s : Shared) (σ : St) (H : Hp) (x : V) (v : Value) (Q : Bool → Hp → Prop), Inv X pins σ H s → RelV x v → r x H Q →
    wpAny (model X.prog X.w) X.A (truthy v) (TP X pins σ Q) X.xe s

def tOp (r : R2) (ta tb : TE) : TE := fun σ H Q => ta σ H fun x H1 => tb σ H1 fun y H2 => r x y H2 Q
def tUn (r : V → Hp → VK → Prop) (ta : TE) : TE := fun σ H Q => ta σ H fun x H1 => r x H1 Q
/-- ints in, under C, and a value out -/
def rI (C : Int → Int → Prop) (g : Int → Int → V) : R2 := fun x y H Q => ∃ i j, x = .int i ∧ y = .int j ∧ C i j ∧ Q (g i j) H
def rI0 (g : Int → Int → V) : R2 := fun x y H Q => ∃ i j, x = .int i ∧ y = .int j ∧ Q (g i j) H
def rU (g : Int → V) : V → Hp → VK → Prop := fun x H Q => ∃ i, x = .int i ∧ Q (g i) H

section
variable {X : Cx} {a b c : Expr} {ta tb tc : TE} {pos : Pos}

theorem binT (ha : PE X a ta) (hb : PE X b tb) {pins : List (Addr × Obj)} {s : Shared} {σ : St} {H : Hp} {R : V → V → Hp → Prop} (I : Inv X pins σ H s)
    (h : ta σ H fun x H1 => tb σ H1 fun y H2 => R x y H2) {Q : Value → Shared → Prop} {f : Value → Value → Sem Value}
    (hf : ∀ v u s2 x y H2, Inv X pins σ H2 s2 → RelV x v → RelV y u → R x y H2 → wpAny (model X.prog X.w) X.A (f v u) Q X.xe s2) :
    wpAny (model X.prog X.w) X.A (eval a X.env) (fun v s₁ => wpAny (model X.prog X.w) X.A (eval b X.env) (fun u s₂ => wpAny (model X.prog X.w) X.A (f v u) Q X.xe s₂) X.xe s₁) X.xe s := by
  refine thn (ha pins s σ H _ I h) fun v s1 ⟨x, H1, I1, r1, q1⟩ => ?_
  refine thn (hb pins s1 σ H1 _ I1 q1) fun u s2 ⟨y, H2, I2, r2, q2⟩ => ?_
  exact hf v u s2 x y H2 I2 r1 r2 q2

theorem pe_op {op : Operator} {r : R2} (ho : OpR X (binaryOp op) r) (ha : PE X a ta) (hb : PE X b tb) : PE X (.BinOp a op b pos) (tOp r ta tb) := by
  intro pins s σ H Q I h
  exact wpAny_BinOp (binT ha hb I h fun v u s2 x y H2 I2 rx ry q => ho pins s2 σ H2 x y v u Q I2 rx ry q)
theorem pe_un {op : UnaryOp} {r : V → Hp → VK → Prop} (ho : UnR X (unaryOp op) r) (ha : PE X a ta) : PE X (.UnaryOp op a pos) (tUn r ta) := by
  intro pins s σ H Q I h
  exact UnaryOp_ (thn (ha pins s σ H _ I h) fun v s1 ⟨x, H1, I1, r1, q1⟩ => ho pins s1 σ H1 x v Q I1 r1 q1)
/-- a op= e at a name: the name's slot i -/
theorem augR {op : Operator} {r : R2} (ho : OpR X (inplaceOp op) r) {pins : List (Addr × Obj)} {s : Shared} {σ : St} {H : Hp} {x y : V} {v u : Value} {Q : VK} (I : Inv X pins σ H s)
    (rx : RelV x v) (ry : RelV y u) (q : r x y H Q) : wpAny (model X.prog X.w) X.A (inplaceOp op v u) (EP X pins σ Q) X.xe s := ho pins s σ H x y v u Q I rx ry q

/-! ### ints -/
theorem opI {f : Value → Value → Sem Value} {C : Int → Int → Prop} {g : Int → Int → Int}
    (rule : ∀ (i j : Int) (t u : Tok) (s : Shared) (Q : Value → Shared → Prop) (E : Value → Shared → Prop), C i j → Q (.int (g i j) s.toks) { s with toks := s.toks + 1 } → wpAny (model X.prog X.w) X.A (f (.int i t) (.int j u)) Q E s) :
    OpR X f (rI C fun i j => .int (g i j)) := by
  intro pins s σ H x y v u Q I rx ry h
  obtain ⟨i, j, rfl, rfl, hc, q⟩ := h
  obtain ⟨t, rfl⟩ := rx
  obtain ⟨t', rfl⟩ := ry
  exact rule i j t t' s _ _ hc ⟨.int (g i j), H, I.tok _, ⟨_, rfl⟩, q⟩
theorem opI0 {f : Value → Value → Sem Value} {g : Int → Int → Int}
    (rule : ∀ (i j : Int) (t u : Tok) (s : Shared) (Q : Value → Shared → Prop) (E : Value → Shared → Prop), Q (.int (g i j) s.toks) { s with toks := s.toks + 1 } → wpAny (model X.prog X.w) X.A (f (.int i t) (.int j u)) Q E s) :
    OpR X f (rI0 fun i j => .int (g i j)) := by
  intro pins s σ H x y v u Q I rx ry h
  obtain ⟨i, j, rfl, rfl, q⟩ := h
  obtain ⟨t, rfl⟩ := rx
  obtain ⟨t', rfl⟩ := ry
  exact rule i j t t' s _ _ ⟨.int (g i j), H, I.tok _, ⟨_, rfl⟩, q⟩
theorem opB0 {f : Value → Value → Sem Value} {g : Int → Int → Bool}
    (rule : ∀ (i j : Int) (t u : Tok) (s : Shared) (Q : Value → Shared → Prop) (E : Value → Shared → Prop), Q (.bool (g i j)) s → wpAny (model X.prog X.w) X.A (f (.int i t) (.int j u)) Q E s) :
    OpR X f (rI0 fun i j => .bl (g i j)) := by
  intro pins s σ H x y v u Q I rx ry h
  obtain ⟨i, j, rfl, rfl, q⟩ := h
  obtain ⟨t, rfl⟩ := rx
  obtain ⟨t', rfl⟩ := ry
  exact rule i j t t' s _ _ ⟨.bl (g i j), H, I, rfl, q⟩

def CDiv (i j : Int) : Prop := 0 < j ∧ j < 1073741824
def CDivN (i j : Int) : Prop := j ≠ 0 ∧ j.natAbs < 1073741824
def CPow (i j : Int) : Prop := 0 ≤ j ∧ j ≤ 1000000 ∧ i.natAbs < 2 ^ 64
def CMul (i j : Int) : Prop := (-(2 ^ 64) < i ∧ i < 2 ^ 64) ∨ (-(2 ^ 64) < j ∧ j < 2 ^ 64)
theorem CMul.ok {i j : Int} (h : CMul i j) : IntMulOk i j := by
  rcases h with ⟨h1, h2⟩ | ⟨h1, h2⟩
  · exact .of_left (intBits_le_64 h1 h2)
  · exact .of_right (intBits_le_64 h1 h2)
theorem two_pow_nn (k : Nat) : (0 : Int) ≤ 2 ^ k := by
  rw [two_pow_cast]
  exact Int.natCast_nonneg _

theorem op_add : OpR X (binaryOp .Add) (rI0 fun i j => .int (i + j)) := opI0 fun _ _ _ _ _ _ _ q => add_int q
theorem op_sub : OpR X (binaryOp .Sub) (rI0 fun i j => .int (i - j)) := opI0 fun _ _ _ _ _ _ _ q => sub_int q
theorem op_mul : OpR X (binaryOp .Mult) (rI CMul fun i j => .int (i * j)) := opI fun _ _ _ _ _ _ _ hc q => mul_int q hc.ok
/-- // by a positive divisor -/
theorem op_fdiv : OpR X (binaryOp .FloorDiv) (rI CDiv fun i j => .int (i / j)) := opI fun i j _ _ _ _ _ hc q => by
  have h1 : (0 : Int) < j := hc.1
  have h2 : j < 1073741824 := hc.2
  exact floordiv_int (by omega) (by rw [Int.fdiv_eq_ediv_of_nonneg i (by omega)]; exact q) (.inl (PyProof.noPylong_small (by omega)))
theorem op_fdivN : OpR X (binaryOp .FloorDiv) (rI CDivN fun i j => .int (i.fdiv j)) := opI fun _ _ _ _ _ _ _ hc q => floordiv_int hc.1 q (.inl (PyProof.noPylong_small hc.2))
/-- % by a positive divisor of any size -/
theorem op_mod : OpR X (binaryOp .Mod) (rI (fun _ j => 0 < j) fun i j => .int (i % j)) := opI fun i j _ _ _ _ _ hc q => by
  have h1 : (0 : Int) < j := hc
  exact mod_int' (by omega) (by rw [Int.fmod_eq_emod_of_nonneg i (by omega)]; exact q)
theorem op_modN : OpR X (binaryOp .Mod) (rI (fun _ j => j ≠ 0) fun i j => .int (i.fmod j)) := opI fun _ _ _ _ _ _ _ hc q => mod_int' hc q
theorem op_pow : OpR X (binaryOp .Pow) (rI CPow fun i j => .int (i ^ j.toNat)) := opI fun _ _ _ _ _ _ _ hc q => pow_int_small hc.1 hc.2.1 hc.2.2 q
theorem op_shl : OpR X (binaryOp .LShift) (rI CPow fun i j => .int (i * 2 ^ j.toNat)) := opI fun _ _ _ _ _ _ _ hc q => lshift_int_small hc.1 hc.2.1 hc.2.2 q
theorem op_shr : OpR X (binaryOp .RShift) (rI (fun _ j => 0 ≤ j) fun i j => .int (i / 2 ^ j.toNat)) := opI fun i j _ _ _ _ _ hc q =>
  rshift_int hc (by rw [Int.fdiv_eq_ediv_of_nonneg i (two_pow_nn _)]; exact q)
theorem op_and : OpR X (binaryOp .BitAnd) (rI0 fun i j => .int (Builtin.bitAnd i j)) := opI0 fun _ _ _ _ _ _ _ q => and_int q
theorem op_or : OpR X (binaryOp .BitOr) (rI0 fun i j => .int (Builtin.bitOr i j)) := opI0 fun _ _ _ _ _ _ _ q => or_int q
theorem op_xor : OpR X (binaryOp .BitXor) (rI0 fun i j => .int (Builtin.bitXor i j)) := opI0 fun _ _ _ _ _ _ _ q => xor_int q

theorem iop_add : OpR X (inplaceOp .Add) (rI0 fun i j => .int (i + j)) := opI0 fun _ _ _ _ _ _ _ q => iadd_int q
theorem iop_sub : OpR X (inplaceOp .Sub) (rI0 fun i j => .int (i - j)) := opI0 fun _ _ _ _ _ _ _ q => isub_int q
theorem iop_mul : OpR X (inplaceOp .Mult) (rI CMul fun i j => .int (i * j)) := opI fun _ _ _ _ _ _ _ hc q => imul_int q hc.ok
theorem iop_fdiv : OpR X (inplaceOp .FloorDiv) (rI CDiv fun i j => .int (i / j)) := opI fun i j _ _ _ _ _ hc q => by
  have h1 : (0 : Int) < j := hc.1
  have h2 : j < 1073741824 := hc.2
  exact ifloordiv_int (by omega) (by rw [Int.fdiv_eq_ediv_of_nonneg i (by omega)]; exact q) (.inl (PyProof.noPylong_small (by omega)))
theorem iop_mod : OpR X (inplaceOp .Mod) (rI (fun _ j => 0 < j) fun i j => .int (i % j)) := opI fun i j _ _ _ _ _ hc q => by
  have h1 : (0 : Int) < j := hc
  exact imod_int (by omega) (by rw [Int.fmod_eq_emod_of_nonneg i (by omega)]; exact q)
theorem iop_shl : OpR X (inplaceOp .LShift) (rI CPow fun i j => .int (i * 2 ^ j.toNat)) := opI fun _ _ _ _ _ _ _ hc q => ilshift_int_small hc.1 hc.2.1 hc.2.2 q
theorem iop_shr : OpR X (inplaceOp .RShift) (rI (fun _ j => 0 ≤ j) fun i j => .int (i / 2 ^ j.toNat)) := opI fun i j _ _ _ _ _ hc q =>
  irshift_int hc (by rw [Int.fdiv_eq_ediv_of_nonneg i (two_pow_nn _)]; exact q)
theorem iop_and : OpR X (inplaceOp .BitAnd) (rI0 fun i j => .int (Builtin.bitAnd i j)) := opI0 fun _ _ _ _ _ _ _ q => iand_int q
theorem iop_or : OpR X (inplaceOp .BitOr) (rI0 fun i j => .int (Builtin.bitOr i j)) := opI0 fun _ _ _ _ _ _ _ q => ior_int q
theorem iop_xor : OpR X (inplaceOp .BitXor) (rI0 fun i j => .int (Builtin.bitXor i j)) := opI0 fun _ _ _ _ _ _ _ q => ixor_int q

theorem unI {f : Value → Sem Value} {g : Int → Int}
    (rule : ∀ (i : Int) (t : Tok) (s : Shared) (Q : Value → Shared → Prop) (E : Value → Shared → Prop), Q (.int (g i) s.toks) { s with toks := s.toks + 1 } → wpAny (model X.prog X.w) X.A (f (.int i t)) Q E s) :
    UnR X f (rU fun i => .int (g i)) := by
  intro pins s σ H x v Q I rx h
  obtain ⟨i, rfl, q⟩ := h
  obtain ⟨t, rfl⟩ := rx
  exact rule i t s _ _ ⟨.int (g i), H, I.tok _, ⟨_, rfl⟩, q⟩
theorem un_neg : UnR X (unaryOp .USub) (rU fun i => .int (-i)) := unI fun _ _ _ _ _ q => neg_int q
theorem un_inv : UnR X (unaryOp .Invert) (rU fun i => .int (Builtin.bitNot i)) := unI fun _ _ _ _ _ q => invert_int q

/-! ### bools among ints: n += (a < b) -/
theorem op_add_ib : OpR X (binaryOp .Add) (fun x y H Q => ∃ i k, x = .int i ∧ y = .bl k ∧ Q (.int (i + b2i k)) H) := by
  intro pins s σ H x y v u Q I rx ry h
  obtain ⟨i, k, rfl, rfl, q⟩ := h
  obtain ⟨t, rfl⟩ := rx
  cases ry
  exact add_int_bool ⟨.int (i + b2i k), H, I.tok _, ⟨_, rfl⟩, q⟩
end

/-! ### comparisons -/
/-- the scalars that == tells apart as data does -/
def scal : V → V → Bool
  | .non, .non => true | .non, .int _ => true | .int _, .non => true | .non, .bl _ => true | .bl _, .non => true | .non, .str _ => true | .str _, .non => true
  | .int _, .int _ => true | .bl _, .bl _ => true | .str _, .str _ => true | .byt _, .byt _ => true
  | .int _, .str _ => true | .str _, .int _ => true | .bl _, .str _ => true | .str _, .bl _ => true
  | _, _ => false
def rEq : R2 := fun x y H Q => scal x y = true ∧ Q (.bl (decide (x = y))) H
def rNe : R2 := fun x y H Q => scal x y = true ∧ Q (.bl (!decide (x = y))) H

theorem dec_int {i j : Int} : decide (V.int i = V.int j) = (i == j) := by
  rw [Bool.eq_iff_iff]
  simp
theorem dec_bl {i j : Bool} : decide (V.bl i = V.bl j) = (i == j) := by
  rw [Bool.eq_iff_iff]
  simp
theorem dec_str {i j : Str} : decide (V.str i = V.str j) = (i == j) := by
  rw [Bool.eq_iff_iff]
  simp
theorem dec_byt {i j : Array UInt8} : decide (V.byt i = V.byt j) = (i.toList == j.toList) := by
  rw [Bool.eq_iff_iff]
  cases i
  cases j
  simp

section
variable {X : Cx} {a b c : Expr} {ta tb tc : TE} {pos : Pos}
theorem fin_bl {pins : List (Addr × Obj)} {σ : St} {H : Hp} {s : Shared} {Q : VK} {k k' : Bool} (I : Inv X pins σ H s) (q : Q (.bl k) H) (e : k = k') : EP X pins σ Q (.bool k') s := by
  subst e
  exact ⟨.bl k, H, I, rfl, q⟩
theorem op_eq : OpR X (compareOp .Eq) rEq := by
  intro pins s σ H x y v u Q I rx ry h
  obtain ⟨hs, q⟩ := h
  cases x with
  | non =>
    cases rx
    cases y with
    | non => cases ry; exact PySem.EqNone.eq_none_none (fin_bl I q (by simp))
    | bl j => cases ry; exact PySem.EqNone.eq_none_bool (fin_bl I q (by simp))
    | int j => obtain ⟨t', rfl⟩ := ry; exact PySem.EqNone.eq_none_int (fin_bl I q (by simp))
    | str j => obtain ⟨t', rfl⟩ := ry; exact PySem.EqNone.eq_none_str (fin_bl I q (by simp))
    | _ => exact absurd (show false = true from hs) Bool.false_ne_true
  | bl i =>
    cases rx
    cases y with
    | non => cases ry; exact PySem.EqNone.eq_bool_none (fin_bl I q (by simp))
    | bl j => cases ry; exact eq_bool (fin_bl I q dec_bl)
    | str j => obtain ⟨t', rfl⟩ := ry; exact PySem.EqMixed.eq_bool_str (fin_bl I q (by simp))
    | _ => exact absurd (show false = true from hs) Bool.false_ne_true
  | int i =>
    obtain ⟨t, rfl⟩ := rx
    cases y with
    | non => cases ry; exact PySem.EqNone.eq_int_none (fin_bl I q (by simp))
    | int j => obtain ⟨t', rfl⟩ := ry; exact eq_int (fin_bl I q dec_int)
    | str j => obtain ⟨t', rfl⟩ := ry; exact PySem.EqMixed.eq_int_str (fin_bl I q (by simp))
    | _ => exact absurd (show false = true from hs) Bool.false_ne_true
  | str i =>
    obtain ⟨t, rfl⟩ := rx
    cases y with
    | non => cases ry; exact PySem.EqNone.eq_str_none (fin_bl I q (by simp))
    | bl j => cases ry; exact PySem.EqMixed.eq_str_bool (fin_bl I q (by simp))
    | int j => obtain ⟨t', rfl⟩ := ry; exact PySem.EqMixed.eq_str_int (fin_bl I q (by simp))
    | str j => obtain ⟨t', rfl⟩ := ry; exact eq_str (fin_bl I q dec_str)
    | _ => exact absurd (show false = true from hs) Bool.false_ne_true
  | byt i =>
    obtain ⟨t, rfl⟩ := rx
    cases y with
    | byt j => obtain ⟨t', rfl⟩ := ry; exact PySem.W.eq_bytes (fin_bl I q dec_byt)
    | _ => exact absurd (show false = true from hs) Bool.false_ne_true
  | _ => cases y <;> exact absurd (show false = true from hs) Bool.false_ne_true
theorem op_ne : OpR X (compareOp .NotEq) rNe := by
  intro pins s σ H x y v u Q I rx ry h
  obtain ⟨hs, q⟩ := h
  cases x with
  | non =>
    cases rx
    cases y with
    | non => cases ry; exact PySem.EqNone.ne_none_none (fin_bl I q (by simp))
    | bl j => cases ry; exact PySem.EqNone.ne_none_bool (fin_bl I q (by simp))
    | int j => obtain ⟨t', rfl⟩ := ry; exact PySem.EqNone.ne_none_int (fin_bl I q (by simp))
    | str j => obtain ⟨t', rfl⟩ := ry; exact PySem.EqNone.ne_none_str (fin_bl I q (by simp))
    | _ => exact absurd (show false = true from hs) Bool.false_ne_true
  | bl i =>
    cases rx
    cases y with
    | non => cases ry; exact PySem.EqNone.ne_bool_none (fin_bl I q (by simp))
    | bl j => cases ry; exact ne_bool (fin_bl I q (congrArg not dec_bl))
    | str j => obtain ⟨t', rfl⟩ := ry; exact PySem.EqMixed.ne_bool_str (fin_bl I q (by simp))
    | _ => exact absurd (show false = true from hs) Bool.false_ne_true
  | int i =>
    obtain ⟨t, rfl⟩ := rx
    cases y with
    | non => cases ry; exact PySem.EqNone.ne_int_none (fin_bl I q (by simp))
    | int j => obtain ⟨t', rfl⟩ := ry; exact ne_int (fin_bl I q (congrArg not dec_int))
    | str j => obtain ⟨t', rfl⟩ := ry; exact PySem.EqMixed.ne_int_str (fin_bl I q (by simp))
    | _ => exact absurd (show false = true from hs) Bool.false_ne_true
  | str i =>
    obtain ⟨t, rfl⟩ := rx
    cases y with
    | non => cases ry; exact PySem.EqNone.ne_str_none (fin_bl I q (by simp))
    | bl j => cases ry; exact PySem.EqMixed.ne_str_bool (fin_bl I q (by simp))
    | int j => obtain ⟨t', rfl⟩ := ry; exact PySem.EqMixed.ne_str_int (fin_bl I q (by simp))
    | str j => obtain ⟨t', rfl⟩ := ry; exact ne_str (fin_bl I q (congrArg not dec_str))
    | _ => exact absurd (show false = true from hs) Bool.false_ne_true
  | byt i =>
    obtain ⟨t, rfl⟩ := rx
    cases y with
    | byt j => obtain ⟨t', rfl⟩ := ry; exact PySem.W.ne_bytes (fin_bl I q (congrArg not dec_byt))
    | _ => exact absurd (show false = true from hs) Bool.false_ne_true
  | _ => cases y <;> exact absurd (show false = true from hs) Bool.false_ne_true

theorem op_lt : OpR X (compareOp .Lt) (rI0 fun i j => .bl (decide (i < j))) := opB0 fun _ _ _ _ _ _ _ q => lt_int q
theorem op_le : OpR X (compareOp .LtE) (rI0 fun i j => .bl (decide (i ≤ j))) := opB0 fun _ _ _ _ _ _ _ q => le_int q
theorem op_gt : OpR X (compareOp .Gt) (rI0 fun i j => .bl (decide (j < i))) := opB0 fun _ _ _ _ _ _ _ q => gt_int q
theorem op_ge : OpR X (compareOp .GtE) (rI0 fun i j => .bl (decide (j ≤ i))) := opB0 fun _ _ _ _ _ _ _ q => ge_int q
theorem op_lt_str : OpR X (compareOp .Lt) (fun x y H Q => ∃ i j, x = .str i ∧ y = .str j ∧ Q (.bl (decide (i.cps.toList < j.cps.toList))) H) := by
  intro pins s σ H x y v u Q I rx ry h
  obtain ⟨i, j, rfl, rfl, q⟩ := h
  obtain ⟨t, rfl⟩ := rx
  obtain ⟨t', rfl⟩ := ry
  exact lt_str (fin_bl I q rfl)
/-- the one string within the other -/
theorem op_in_str : OpR X (compareOp .In) (fun x y H Q => ∃ i j, x = .str i ∧ y = .str j ∧ Q (.bl (!(Builtin.Str.occurrences j i 0 j.length 1).isEmpty)) H) := by
  intro pins s σ H x y v u Q I rx ry h
  obtain ⟨i, j, rfl, rfl, q⟩ := h
  obtain ⟨t, rfl⟩ := rx
  obtain ⟨t', rfl⟩ := ry
  exact in_str (fin_bl I q rfl)

/-- is None, is not None: the right side a value none -/
theorem op_isN : OpR X (compareOp .Is) (fun x y H Q => y = .non ∧ Q (.bl (decide (x = .non))) H) := by
  intro pins s σ H x y v u Q I rx ry h
  obtain ⟨rfl, q⟩ := h
  cases ry
  refine is_none_gen (fin_bl I q ?_)
  cases x <;> first
    | (cases rx; rfl)
    | (obtain ⟨t, rfl⟩ := rx; rfl)
theorem op_notN : OpR X (compareOp .IsNot) (fun x y H Q => y = .non ∧ Q (.bl (!decide (x = .non))) H) := by
  intro pins s σ H x y v u Q I rx ry h
  obtain ⟨rfl, q⟩ := h
  cases ry
  refine isnot_none_gen (fin_bl I q ?_)
  cases x <;> first
    | (cases rx; rfl)
    | (obtain ⟨t, rfl⟩ := rx; rfl)

theorem op_notin_str : OpR X (compareOp .NotIn) (fun x y H Q => ∃ i j, x = .str i ∧ y = .str j ∧ Q (.bl (!(!(Builtin.Str.occurrences j i 0 j.length 1).isEmpty))) H) := by
  intro pins s σ H x y v u Q I rx ry h
  obtain ⟨i, j, rfl, rfl, q⟩ := h
  obtain ⟨t, rfl⟩ := rx
  obtain ⟨t', rfl⟩ := ry
  exact notIn_str (fin_bl I q rfl)
/-- is, is not of two objects that are tracked lists or instances -/
def isObj : HO → Bool
  | .lst _ => true
  | .ins _ _ _ => true
  | _ => false
theorem obj_there {pins : List (Addr × Obj)} {s : Shared} {σ : St} {H : Hp} {a : Addr} {o : HO} (I : Inv X pins σ H s) (h : H a = some o) (p : isObj o = true) : ∃ ob, s.heap.get? a = some ob ∧ ob.cls ≠ .type "tuple" := by
  cases o with
  | lst xs =>
    obtain ⟨_, its, n, _, e⟩ : xs.length ≤ sizeLine ∧ ∃ (its : List Value) (n : Nat), Vals xs its ∧ s.heap.get? a = some { cls := .type "list", data := .seq its.toArray n } := I.hok a _ h
    exact ⟨_, e, (by show Value.type "list" ≠ .type "tuple"; decide +kernel)⟩
  | ins C dx fs =>
    have x := I.hok a _ h
    obtain ⟨_, _, _, e, _⟩ := x
    exact ⟨_, e, (by show Value.ref C ≠ .type "tuple"; exact fun z => by cases z)⟩
  | _ => exact absurd (show false = true from p) Bool.false_ne_true
theorem op_is_ref : OpR X (compareOp .Is) (fun x y H Q => ∃ a b oa ob, x = .ref a ∧ y = .ref b ∧ H a = some oa ∧ isObj oa = true ∧ H b = some ob ∧ isObj ob = true ∧ Q (.bl (decide (a = b))) H) := by
  intro pins s σ H x y v u Q I rx ry h
  obtain ⟨a, b, oa, ob, rfl, rfl, ha, pa, hb, pb, q⟩ := h
  cases rx
  cases ry
  obtain ⟨o1, e1, n1⟩ := obj_there I ha pa
  obtain ⟨o2, e2, _⟩ := obj_there I hb pb
  by_cases z : a = b
  · subst z
    exact wpAny_is_ref_self (fin_bl I q (by simp))
  · exact wpAny_is_ref_other z e1 e2 n1 (fin_bl I q (by simp [z]))
theorem op_isnot_ref : OpR X (compareOp .IsNot) (fun x y H Q => ∃ a b oa ob, x = .ref a ∧ y = .ref b ∧ H a = some oa ∧ isObj oa = true ∧ H b = some ob ∧ isObj ob = true ∧ Q (.bl (!decide (a = b))) H) := by
  intro pins s σ H x y v u Q I rx ry h
  obtain ⟨a, b, oa, ob, rfl, rfl, ha, pa, hb, pb, q⟩ := h
  cases rx
  cases ry
  obtain ⟨o1, e1, n1⟩ := obj_there I ha pa
  obtain ⟨o2, e2, _⟩ := obj_there I hb pb
  by_cases z : a = b
  · subst z
    exact wpAny_isNot_ref_self (fin_bl I q (by simp))
  · exact wpAny_isNot_ref_other z e1 e2 n1 (fin_bl I q (by simp [z]))

/-- two rules for one operation: by cases -/
theorem OpR.or {f : Value → Value → Sem Value} {r r' : R2} (h : OpR X f r) (h' : OpR X f r') : OpR X f (fun x y H Q => r x y H Q ∨ r' x y H Q) := by
  intro pins s σ H x y v u Q I rx ry q
  rcases q with q | q
  · exact h pins s σ H x y v u Q I rx ry q
  · exact h' pins s σ H x y v u Q I rx ry q

theorem nomark (b : Expr) {op : CmpOp} (h : op ≠ .In := by decide) (h2 : op ≠ .NotIn := by decide) : behindInMarks op b = false := by
  have e1 : (op == CmpOp.In) = false := by cases op <;> first | rfl | exact absurd rfl h
  have e2 : (op == CmpOp.NotIn) = false := by cases op <;> first | rfl | exact absurd rfl h2
  cases b <;> simp [behindInMarks, e1, e2]
/-- a comparison as a value; hm: nomark b, or (for in, not in) by with_unfolding_all rfl -/
theorem pe_cmpR {op : CmpOp} {r : R2} (ho : OpR X (compareOp op) r) (ha : PE X a ta) (hb : PE X b tb) (hm : behindInMarks op b = false) : PE X (.Compare a [op] [b] pos) (tOp r ta tb) := by
  intro pins s σ H Q I h
  exact wpAny_Compare1 (binT ha hb I h fun v u s2 x y H2 I2 rx ry q => ho pins s2 σ H2 x y v u Q I2 rx ry q) hm
/-- a reading of a value as a test -/
def tTest (t : TE) : TT := fun σ H Q => t σ H fun x H' => ∃ k, x = .bl k ∧ Q k H'
theorem pt_cmpR {op : CmpOp} {r : R2} (ho : OpR X (compareOp op) r) (ha : PE X a ta) (hb : PE X b tb) (hm : behindInMarks op b = false) : PT X (.Compare a [op] [b] pos) (tTest (tOp r ta tb)) := by
  intro pins s σ H Q I h
  refine wpAny_isTrue_Compare1 (thn (ha pins s σ H _ I h) fun v s1 ⟨x, H1, I1, r1, q1⟩ => thn (hb pins s1 σ H1 _ I1 q1) fun u s2 ⟨y, H2, I2, r2, q2⟩ =>
    thn (ho pins s2 σ H2 x y v u _ I2 r1 r2 q2) fun c s3 ⟨z, H3, I3, r3, k, e, q3⟩ => ?_) hm
  subst e
  cases r3
  exact wpAny_truthy_bool ⟨H3, I3, q3⟩
/-- a op1 b op2 c -/
def tChain (r r' : R2) (ta tb tc : TE) : TE := fun σ H Q => ta σ H fun x H1 => tb σ H1 fun y H2 => r x y H2 fun z H3 => ∃ k, z = .bl k ∧
  (if k = true then tc σ H3 fun w' H4 => r' y w' H4 Q else Q (.bl false) H3)
theorem pe_chain {op op' : CmpOp} {r r' : R2} (ho : OpR X (compareOp op) r) (ho' : OpR X (compareOp op') r') (ha : PE X a ta) (hb : PE X b tb) (hc : PE X c tc)
    (hm : lastMarks [op, op'] [b, c] = false := by with_unfolding_all rfl) : PE X (.Compare a [op, op'] [b, c] pos) (tChain r r' ta tb tc) := by
  intro pins s σ H Q I h
  refine Compare_chain (thn (ha pins s σ H _ I h) fun v s1 ⟨x, H1, I1, r1, q1⟩ => chain_link (thn (hb pins s1 σ H1 _ I1 q1) fun u s2 ⟨y, H2, I2, r2, q2⟩ =>
    thn (ho pins s2 σ H2 x y v u _ I2 r1 r2 q2) fun d s3 ⟨z, H3, I3, r3, k, e, q3⟩ => ?_)) hm
  subst e
  cases r3
  refine wpAny_truthy_bool ?_
  cases k with
  | false => exact ite_ff ⟨.bl false, H3, I3, rfl, q3⟩
  | true => exact ite_tt (chain_last (thn (hc pins s3 σ H3 _ I3 q3) fun w' s4 ⟨z', H4, I4, r4, q4⟩ => ho' pins s4 σ H4 y z' u w' Q I4 r2 r4 q4))
theorem pt_chain {op op' : CmpOp} {r r' : R2} (ho : OpR X (compareOp op) r) (ho' : OpR X (compareOp op') r') (ha : PE X a ta) (hb : PE X b tb) (hc : PE X c tc)
    (hm : lastMarks [op, op'] [b, c] = false := by with_unfolding_all rfl) : PT X (.Compare a [op, op'] [b, c] pos) (tTest (tChain r r' ta tb tc)) := by
  intro pins s σ H Q I h
  refine isTrue_chain (thn (ha pins s σ H _ I h) fun v s1 ⟨x, H1, I1, r1, q1⟩ => test_link (thn (hb pins s1 σ H1 _ I1 q1) fun u s2 ⟨y, H2, I2, r2, q2⟩ =>
    thn (ho pins s2 σ H2 x y v u _ I2 r1 r2 q2) fun d s3 ⟨z, H3, I3, r3, k, e, q3⟩ => ?_)) hm
  subst e
  cases r3
  refine wpAny_truthy_bool ?_
  cases k with
  | false =>
    obtain ⟨k', e', q'⟩ := q3
    cases e'
    exact ite_ff ⟨H3, I3, q'⟩
  | true =>
    refine ite_tt (test_last (thn (hc pins s3 σ H3 _ I3 q3) fun w' s4 ⟨z', H4, I4, r4, q4⟩ => thn (ho' pins s4 σ H4 y z' u w' _ I4 r2 r4 q4) fun d' s5 ⟨z2, H5, I5, r5, k2, e2, q5⟩ => ?_))
    subst e2
    cases r5
    exact wpAny_truthy_bool ⟨H5, I5, q5⟩

/-! ### truth -/
/-- a value's truth by the abstract heap -/
def TruV (K : PySem.W.Frag) (x : V) (H : Hp) (k : Bool) : Prop :=
  match x with
  | .non => k = false
  | .bl b => k = b
  | .int i => k = (i != 0)
  | .str y => y.length ≤ sizeLine ∧ k = ((y.length : Int) != 0)
  | .byt y => y.size ≤ sizeLine ∧ k = ((y.size : Int) != 0)
  | .ref p => (∃ xs, SqL K H p xs ∧ k = !xs.isEmpty) ∨ (∃ xs, SqT K H p xs ∧ k = !xs.isEmpty) ∨ ∃ kvs, H p = some (.dK kvs) ∧ k = !kvs.isEmpty
  | _ => False
theorem isEmpty_kv {κ : Type} {kvs : List (κ × V)} {vs : List (κ × Value)} (r : KV kvs vs) : (!vs.isEmpty) = !kvs.isEmpty := by
  cases r <;> rfl
theorem isEmpty_of {xs : List V} {its : List Value} (r : Vals xs its) : (!its.toArray.isEmpty) = !xs.isEmpty := by
  cases r <;> simp
theorem line63 : (sizeLine : Nat) < 2 ^ 63 := by rw [sizeLine_eq]; decide
theorem tru_ok : TruR X (fun x H Q => ∃ k, TruV X.K x H k ∧ Q k H) := by
  intro pins s σ H x v Q I rx h
  obtain ⟨k, e, q⟩ := h
  have hl := line63
  have hs : sizeLine = 16777216 := sizeLine_eq
  cases x with
  | non =>
    cases rx
    have e' : k = false := e
    subst e'
    exact truthy_none ⟨H, I, q⟩
  | bl b =>
    cases rx
    have e' : k = b := e
    subst e'
    exact wpAny_truthy_bool ⟨H, I, q⟩
  | int i =>
    obtain ⟨t, rfl⟩ := rx
    have e' : k = (i != 0) := e
    subst e'
    exact PySem.P.truthy_int ⟨H, I, q⟩
  | str y =>
    obtain ⟨t, rfl⟩ := rx
    obtain ⟨hy, e'⟩ : y.length ≤ sizeLine ∧ k = ((y.length : Int) != 0) := e
    subst e'
    exact PySem.P.truthy_str (by omega) ⟨H, I.tok _, q⟩
  | byt y =>
    obtain ⟨t, rfl⟩ := rx
    obtain ⟨hy, e'⟩ : y.size ≤ sizeLine ∧ k = ((y.size : Int) != 0) := e
    subst e'
    exact PySem.W.truthy_bytes (by omega) ⟨H, I.tok _, q⟩
  | ref p =>
    cases rx
    have e' : (∃ xs, SqL X.K H p xs ∧ k = !xs.isEmpty) ∨ (∃ xs, SqT X.K H p xs ∧ k = !xs.isEmpty) ∨ ∃ kvs, H p = some (.dK kvs) ∧ k = !kvs.isEmpty := e
    rcases e' with ⟨xs, hx, e'⟩ | ⟨xs, hx, e'⟩ | ⟨kvs, hx, e'⟩
    · subst e'
      obtain ⟨its, r, pl, hz⟩ := I.list hx
      have hlen := r.length
      exact wpAny_truthy_list pl.isList (by simp only [List.size_toArray]; omega) ⟨H, I.tok _, by rw [isEmpty_of r]; exact q⟩
    · subst e'
      obtain ⟨its, r, pl, hz⟩ := I.tuple hx
      have hlen := r.length
      exact truthy_tuple pl (by simp only [List.size_toArray]; omega) ⟨H, I.tok _, by rw [isEmpty_of r]; exact q⟩
    · subst e'
      obtain ⟨hz, hS, vs, r, m⟩ : kvs.length ≤ sizeLine ∧ (p == sysModules) = false ∧ ∃ vs, KV kvs vs ∧ s.heap.DictOf (mixKind X.prog X.w) p vs := I.hok p _ hx
      have hlen : kvs.length = vs.length := Paired.length r
      exact wpAny_truthy_dict hS m (by omega) ⟨H, I.tok _, by rw [isEmpty_kv r]; exact q⟩
  | _ => exact (show False from e).elim
/-- any expression whose test is its value's truth (a name, a call, a subscript, a field ..: he by fun _ => rfl) -/
theorem pt_truth (ha : PE X a ta) (he : ∀ whole, isTrue a X.env whole = (do let v ← whole; standAt a.pos; holding [v] (truthy v))) :
    PT X a (fun σ H Q => ta σ H fun x H' => ∃ k, TruV X.K x H' k ∧ Q k H') := by
  intro pins s σ H Q I h
  exact isTrue_plain (thn (ha pins s σ H _ I h) fun v s1 ⟨x, H1, I1, r1, q1⟩ => tru_ok pins s1 σ H1 x v Q I1 r1 q1) (he _)

/-! ### strs and bytes -/
theorem pe_byt {x : List UInt8} {k : Nat} : PE X (.Constant (.bytes x) k pos) (fun _ H Q => Q (.byt x.toArray) H) := fun _ _ _ H _ I h => PySem.W.Constant_bytes ⟨.byt x.toArray, H, I.tok _, ⟨_, rfl⟩, h⟩
theorem op_add_str : OpR X (binaryOp .Add) (fun x y H Q => ∃ i j, x = .str i ∧ y = .str j ∧ i.length + j.length ≤ sizeLine ∧ Q (.str (i ++ j)) H) := by
  intro pins s σ H x y v u Q I rx ry h
  obtain ⟨i, j, rfl, rfl, hz, q⟩ := h
  obtain ⟨t, rfl⟩ := rx
  obtain ⟨t', rfl⟩ := ry
  exact add_str (fun t' tk => ⟨.str (i ++ j), H, I.tok _, ⟨_, rfl⟩, q⟩) hz
theorem iop_add_str : OpR X (inplaceOp .Add) (fun x y H Q => ∃ i j, x = .str i ∧ y = .str j ∧ i.length + j.length ≤ sizeLine ∧ Q (.str (i ++ j)) H) := by
  intro pins s σ H x y v u Q I rx ry h
  obtain ⟨i, j, rfl, rfl, hz, q⟩ := h
  obtain ⟨t, rfl⟩ := rx
  obtain ⟨t', rfl⟩ := ry
  exact iadd_str (fun t' tk => ⟨.str (i ++ j), H, I.tok _, ⟨_, rfl⟩, q⟩) hz
theorem op_add_byt : OpR X (binaryOp .Add) (fun x y H Q => ∃ i j, x = .byt i ∧ y = .byt j ∧ i.size + j.size ≤ 16777216 ∧ Q (.byt (i ++ j)) H) := by
  intro pins s σ H x y v u Q I rx ry h
  obtain ⟨i, j, rfl, rfl, hz, q⟩ := h
  obtain ⟨t, rfl⟩ := rx
  obtain ⟨t', rfl⟩ := ry
  exact PySem.W.KBy.add_bytes hz (fun t' tk => ⟨.byt (i ++ j), H, I.tok _, ⟨_, rfl⟩, q⟩)

def PlainIxT (b : Expr) : Prop := ∀ o i, subscripted b false o i = operate [o, i] (getItem o i)
/-- s[i], 0 ≤ i < len -/
theorem pe_item_str (ha : PE X a ta) (hb : PE X b tb) (hs : PlainIxT b) :
    PE X (.Subscript a b pos) (tOp (fun x y H Q => ∃ z i c, x = .str z ∧ y = .int i ∧ 0 ≤ i ∧ i < 2 ^ 63 ∧ i < z.length ∧ z.cps[i.toNat]? = some c ∧ Q (.str ⟨#[c]⟩) H) ta tb) := by
  intro pins s σ H Q I h
  refine Subscript_ (binT ha hb I h fun v u s2 x y H2 I2 rx ry q => ?_)
  obtain ⟨z, i, c, rfl, rfl, h0, h63, h1, hc, q⟩ := q
  obtain ⟨t, rfl⟩ := rx
  obtain ⟨t', rfl⟩ := ry
  have e : seqIndex? i z.length = some i.toNat := PySem.StrLaws.seqIndex_nonneg h0 h1
  exact tail_any (typeIs_str s2 z t) slot_str_getitem.lookup (getItem_str (c := c) (by
    have e1 : decide (i < -(2 ^ 63 : Int)) = false := decide_eq_false (by omega)
    have e2 : decide (i ≥ 2 ^ 63) = false := decide_eq_false (by omega)
    rw [e1, e2] <;> rfl) (by rw [e]; exact hc) ⟨.str ⟨#[c]⟩, H2, I2.tok _, ⟨_, rfl⟩, q⟩) (hs _ _)
/-- b[i], 0 ≤ i < len -/
theorem pe_item_byt (ha : PE X a ta) (hb : PE X b tb) (hs : PlainIxT b) :
    PE X (.Subscript a b pos) (tOp (fun x y H Q => ∃ (z : List UInt8) (i : Int), x = .byt z.toArray ∧ y = .int i ∧ z.length ≤ sizeLine ∧ 0 ≤ i ∧ i < z.length ∧ Q (.int ((z.getD i.toNat 0).toNat : Nat)) H) ta tb) := by
  intro pins s σ H Q I h
  refine Subscript_ (binT ha hb I h fun v u s2 x y H2 I2 rx ry q => ?_)
  obtain ⟨z, i, rfl, rfl, hz, h0, h1, q⟩ := q
  obtain ⟨t, rfl⟩ := rx
  obtain ⟨t', rfl⟩ := ry
  have hl : sizeLine = 16777216 := sizeLine_eq
  exact tail_any (PySem.W.typeIs_bytes s2 z.toArray t) PySem.W.FB.slot_bytes_getitem.lookup (PySem.W.getItem_bytes (by omega) h0 h1 ⟨.int ((z.getD i.toNat 0).toNat : Nat), H2, I2.tok _, ⟨_, rfl⟩, q⟩) (hs _ _)

/-! ### scalar builtins, by CallR -/
theorem vals1 {x : V} {us : List Value} (r : Vals [x] us) : ∃ u, us = [u] ∧ RelV x u := by
  cases r with
  | cons r1 r2 => cases r2; exact ⟨_, rfl, r1⟩
theorem vals2 {x y : V} {us : List Value} (r : Vals [x, y] us) : ∃ u w', us = [u, w'] ∧ RelV x u ∧ RelV y w' := by
  cases r with
  | cons r1 r2 =>
    cases r2 with
    | cons r3 r4 => cases r4; exact ⟨_, _, rfl, r1, r3⟩
theorem call_abs : CallR X (.builtin "abs") (fun xs H Q => ∃ i, xs = [.int i] ∧ Q (.int (if i < 0 then -i else i)) H) := by
  intro pins s σ H xs us Q I r h
  obtain ⟨i, rfl, q⟩ := h
  obtain ⟨u, rfl, t, rfl⟩ := vals1 r
  exact call_abs_int fun u tk => ⟨.int (if i < 0 then -i else i), H, I.tok _, ⟨_, rfl⟩, q⟩
theorem call_max2 (hc : X.calm = true) : CallR X (.builtin "max") (fun xs H Q => ∃ i j, xs = [.int i, .int j] ∧ Q (.int (if j > i then j else i)) H) := by
  intro pins s σ H xs us Q I r h
  obtain ⟨i, j, rfl, q⟩ := h
  obtain ⟨u, w', rfl, ⟨t, rfl⟩, ⟨t', rfl⟩⟩ := vals2 r
  refine max_two_ints (I.ok.hd hc) fun h' tk k => ⟨_, H, I.kept k, ?_, q⟩
  by_cases hj : j > i
  · rw [if_pos hj, if_pos hj]; exact ⟨_, rfl⟩
  · rw [if_neg hj, if_neg hj]; exact ⟨_, rfl⟩
theorem call_min2 (hc : X.calm = true) : CallR X (.builtin "min") (fun xs H Q => ∃ i j, xs = [.int i, .int j] ∧ Q (.int (if j < i then j else i)) H) := by
  intro pins s σ H xs us Q I r h
  obtain ⟨i, j, rfl, q⟩ := h
  obtain ⟨u, w', rfl, ⟨t, rfl⟩, ⟨t', rfl⟩⟩ := vals2 r
  refine min_two_ints (I.ok.hd hc) fun h' tk k => ⟨_, H, I.kept k, ?_, q⟩
  by_cases hj : j < i
  · rw [if_pos hj, if_pos hj]; exact ⟨_, rfl⟩
  · rw [if_neg hj, if_neg hj]; exact ⟨_, rfl⟩
theorem call_int1 : CallR X (.type "int") (fun xs H Q => (∃ i, xs = [.int i] ∧ Q (.int i) H) ∨ ∃ k, xs = [.bl k] ∧ Q (.int (if k then 1 else 0)) H) := by
  intro pins s σ H xs us Q I r h
  rcases h with ⟨i, rfl, q⟩ | ⟨k, rfl, q⟩
  · obtain ⟨u, rfl, t, rfl⟩ := vals1 r
    exact call_int_int ⟨.int i, H, I, ⟨_, rfl⟩, q⟩
  · obtain ⟨u, rfl, r1⟩ := vals1 r
    cases r1
    exact call_int_bool ⟨.int (if k then 1 else 0), H, I.tok _, ⟨_, rfl⟩, q⟩
theorem call_bool1 : CallR X (.type "bool") (fun xs H Q => (∃ i, xs = [.int i] ∧ Q (.bl (i != 0)) H) ∨ ∃ k, xs = [.bl k] ∧ Q (.bl k) H) := by
  intro pins s σ H xs us Q I r h
  rcases h with ⟨i, rfl, q⟩ | ⟨k, rfl, q⟩
  · obtain ⟨u, rfl, t, rfl⟩ := vals1 r
    exact call_bool_int ⟨.bl (i != 0), H, I, rfl, q⟩
  · obtain ⟨u, rfl, r1⟩ := vals1 r
    cases r1
    exact call_bool_bool ⟨.bl k, H, I, rfl, q⟩
theorem call_str_int : CallR X (.type "str") (fun xs H Q => ∃ i, xs = [.int i] ∧ i.natAbs.log2 < 1920 ∧ Q (.str (toString i)) H) := by
  intro pins s σ H xs us Q I r h
  obtain ⟨i, rfl, hz, q⟩ := h
  obtain ⟨u, rfl, t, rfl⟩ := vals1 r
  exact PySem.P.str_of_int hz ⟨.str _, H, I.tok _, ⟨_, rfl⟩, q⟩
theorem call_ord : CallR X (.builtin "ord") (fun xs H Q => ∃ x, xs = [.str x] ∧ x.length = 1 ∧ Q (.int (x.cps.getD 0 0 : Nat)) H) := by
  intro pins s σ H xs us Q I r h
  obtain ⟨x, rfl, hz, q⟩ := h
  obtain ⟨u, rfl, t, rfl⟩ := vals1 r
  exact ord_of_one hz ⟨.int _, H, I.tok _, ⟨_, rfl⟩, q⟩
theorem call_chr : CallR X (.builtin "chr") (fun xs H Q => ∃ i, xs = [.int i] ∧ 0 ≤ i ∧ i ≤ 1114111 ∧ Q (.str ⟨#[i.toNat]⟩) H) := by
  intro pins s σ H xs us Q I r h
  obtain ⟨i, rfl, h0, h1, q⟩ := h
  obtain ⟨u, rfl, t, rfl⟩ := vals1 r
  exact chr_of_range h0 h1 ⟨.str _, H, I.tok _, ⟨_, rfl⟩, q⟩
/-- len of a str, a bytes, a list, a tuple -/
def LenV (K : PySem.W.Frag) (x : V) (H : Hp) (n : Nat) : Prop :=
  match x with
  | .str y => y.length ≤ sizeLine ∧ n = y.length
  | .byt y => y.size ≤ sizeLine ∧ n = y.size
  | .ref p => (∃ xs, SqL K H p xs ∧ n = xs.length) ∨ ∃ xs, SqT K H p xs ∧ n = xs.length
  | _ => False
theorem call_len : CallR X (.builtin "len") (fun xs H Q => ∃ x n, xs = [x] ∧ LenV X.K x H n ∧ Q (.int n) H) := by
  intro pins s σ H xs us Q I r h
  obtain ⟨x, n, rfl, e, q⟩ := h
  obtain ⟨u, rfl, rx⟩ := vals1 r
  have hl := line63
  have hs : sizeLine = 16777216 := sizeLine_eq
  cases x with
  | str y =>
    obtain ⟨t, rfl⟩ := rx
    obtain ⟨hy, e'⟩ : y.length ≤ sizeLine ∧ n = y.length := e
    subst e'
    exact len_str (by omega) ⟨.int _, H, I.tok _, ⟨_, rfl⟩, q⟩
  | byt y =>
    obtain ⟨t, rfl⟩ := rx
    obtain ⟨hy, e'⟩ : y.size ≤ sizeLine ∧ n = y.size := e
    subst e'
    exact PySem.W.len_bytes (by omega) ⟨.int _, H, I.tok _, ⟨_, rfl⟩, q⟩
  | ref p =>
    cases rx
    have e' : (∃ xs, SqL X.K H p xs ∧ n = xs.length) ∨ ∃ xs, SqT X.K H p xs ∧ n = xs.length := e
    rcases e' with ⟨xs, hx, e'⟩ | ⟨xs, hx, e'⟩
    · subst e'
      obtain ⟨its, r', pl, hz⟩ := I.list hx
      have hlen := r'.length
      exact Calls.call_len_list pl.isList (by simp only [List.size_toArray]; omega) ⟨.int xs.length, H, I.tok _, ⟨_, by simp only [List.size_toArray]; rw [hlen]⟩, q⟩
    · subst e'
      obtain ⟨its, r', pl, hz⟩ := I.tuple hx
      have hlen := r'.length
      exact len_tuple pl (by simp only [List.size_toArray]; omega) ⟨.int xs.length, H, I.tok _, ⟨_, by simp only [List.size_toArray]; rw [hlen]⟩, q⟩
  | _ => exact (show False from e).elim
/-- divmod: a new tuple -/
theorem call_divmod : CallR X (.builtin "divmod") (fun xs H Q => ∃ i j, xs = [.int i, .int j] ∧ CDiv i j ∧ ∀ p, H p = none → Q (.ref p) (upd H p (.tup [.int (i / j), .int (i % j)]))) := by
  intro pins s σ H xs us Q I r h
  obtain ⟨i, j, rfl, ⟨h1, h2⟩, q⟩ := h
  obtain ⟨u, w', rfl, ⟨t, rfl⟩, ⟨t', rfl⟩⟩ := vals2 r
  refine divmod_int (by omega) ?_ (.inl (PyProof.noPylong_small (by omega)))
  rw [Int.fdiv_eq_ediv_of_nonneg i (by omega), Int.fmod_eq_emod_of_nonneg i (by omega)]
  have hn : H s.heap.objs.size = none := I.hok.fresh (Nat.le_refl _)
  refine ⟨.ref s.heap.objs.size, _, ?_, rfl, q _ hn⟩
  refine I.laid (fun b o e => Heap.get?_push_of_some _ e) (Nat.le_refl _) ⟨by simp only [List.length_cons, List.length_nil]; rw [sizeLine_eq]; decide, [.int (i / j) s.toks, .int (i % j) (s.toks + 1)], .cons ⟨_, rfl⟩ (.cons ⟨_, rfl⟩ .nil), ?_⟩
  exact ⟨_, Heap.get?_push_size s.heap rfl, rfl, 0, rfl⟩
end
end L2

namespace L2
open PySem PySem.Spec PyProof.Rows

/-! ### an instance, its attributes a map -/
structure ObjM (h : Heap) (x dx C : Addr) (mA : Str → Option Value) : Prop where
  obj : h.get? x = some (PySem.W.instObj C dx)
  ns : h.Ns1 dx mA
  ne : dx ≠ x

theorem lookIn_ns {h : Heap} {dx : Addr} {mA : Str → Option Value} (n : h.Ns1 dx mA) : ∃ od, h.get? dx = some od ∧ ∀ name, PySem.W.lookIn name od = some (mA name) := by
  obtain ⟨o, es, ep, ho, hd, hk, _, hm⟩ := n
  refine ⟨o, ho, fun name => ?_⟩
  have e := hm name
  unfold nsFind findBy at e
  rw [← Array.find?_toList] at e
  unfold PySem.W.lookIn
  rw [hd]
  dsimp only
  split
  · rename_i y q
    rw [q] at e
    exact congrArg some e
  · rename_i q
    rw [q] at e
    have a : es.toList.any (·.refKey) = false := by
      rw [List.any_eq_false]
      intro y hy
      obtain ⟨z, t, hkey⟩ := hk y (Array.mem_toList_iff.mp hy)
      simp [DictEntry.refKey, hkey]
    have a' : ¬ es.toList.any (·.refKey) = true := by rw [a]; exact Bool.false_ne_true
    rw [if_neg a']
    exact congrArg some e

theorem ObjM.look {h : Heap} {x dx C : Addr} {mA : Str → Option Value} (I : ObjM h x dx C mA) : ∃ od, PySem.W.InstAt h x (PySem.W.instObj C dx) C (some od) ∧ ∀ name, PySem.W.lookIn name od = some (mA name) :=
  let ⟨od, ho, hl⟩ := lookIn_ns I.ns
  ⟨od, ⟨I.obj, rfl, rfl, ho⟩, hl⟩

section
variable {prog : Program} {w : World} {A : Around} {E : Value → Shared → Prop} {s : Shared} {K : PySem.W.Frag} {x dx C f : Addr} {mA : Str → Option Value} {name : Str} {v : Value}

theorem get_map {expr : Bool} {Q : Value → Shared → Prop} (X : K.In s.heap) (I : ObjM s.heap x dx C mA) (hg : PySem.W.plainGet K C name = true) (hh : PySem.W.hasDictIn K C = true)
    (ha : PySem.W.findIn K (.ref C) name = some none) (hv : mA name = some v) (hv' : PySem.W.handedIn v = true) (h : Q v { s with toks := s.toks + 1 }) :
    wpAny (model prog w) A (getAttr (.ref x) name expr) Q E s := by
  obtain ⟨od, J, hl⟩ := I.look
  exact PySem.W.get_value X J (PySem.W.plainGet_of hg).1 (PySem.W.findObj_own hh ha rfl (by rw [hl, hv])) hv' h

theorem get_const {expr : Bool} {a : Value} {Q : Value → Shared → Prop} (X : K.In s.heap) (I : ObjM s.heap x dx C mA) (hg : PySem.W.plainGet K C name = true) (hh : PySem.W.hasDictIn K C = true)
    (ha : PySem.W.findIn K (.ref C) name = some (some a)) (hn : PySem.W.specialIn K a "__get__" = some none) (hc : PySem.W.copiedNames.contains name = false) (hv : mA name = none) (hv' : PySem.W.handedIn a = true)
    (h : Q a { s with toks := s.toks + 1 }) : wpAny (model prog w) A (getAttr (.ref x) name expr) Q E s := by
  obtain ⟨od, J, hl⟩ := I.look
  exact PySem.W.get_value X J (PySem.W.plainGet_of hg).1 (PySem.W.findObj_cls hh ha hn hv' hc (by rw [hl, hv])) hv' h

theorem get_meth {pl : Sem Bool} {Q : Value × List Value → Shared → Prop} (X : K.In s.heap) (I : ObjM s.heap x dx C mA) (hg : PySem.W.plainGet K C name = true)
    (hf : PySem.W.findIn K (.ref C) name = some (some (.ref f))) (ht : PySem.W.isFn K (.ref f) = true) (hv : mA name = none) (h : Q (.ref f, [.ref x]) s) :
    wpAny (model prog w) A (getMethod (.ref x) name pl) Q E s := by
  obtain ⟨od, J, hl⟩ := I.look
  exact PySem.W.method_fn X J (PySem.W.plainGet_of hg).1 (PySem.W.plainGet_of hg).2 hf (beq_iff_eq.mp ht) (by show (PySem.W.lookIn name od).map (·.isSome) = some false; rw [hl, hv]; rfl) h

theorem set_map {ns : List Str} {Q : Unit → Shared → Prop} (X : K.In s.heap) (I : ObjM s.heap x dx C mA)
    (hs : PySem.W.findIn K (.ref C) "__setattr__" = some (some (.builtin "object.__setattr__"))) (hp : PySem.W.plainOver K C = true) (ht : PySem.W.takerIn K C name = some none) (hh : PySem.W.hasDictIn K C = true)
    (hw : PySem.Within mA ns) (hsz : ns.length ≤ sizeLine)
    (h : ∀ h', ObjM h' x dx C (fun y => if y = name then some v else mA y) → Heap.SameBut dx s.heap h' → Q () { s with heap := h', toks := s.toks + 2 }) :
    wpAny (model prog w) A (setAttr (.ref x) name v) Q E s := by
  obtain ⟨od, J, hl⟩ := I.look
  refine PySem.W.set_plain X J hs (PySem.W.osa_open (s := { s with toks := s.toks + 1 }) (r := none) X J hp ht fun b => ?_)
  obtain ⟨cd, hc, hd'⟩ := PySem.W.any_some hh
  have hx : s.heap.get? x = some ⟨.ref C, some dx, .plain, #[]⟩ := I.obj
  refine wpAny_bind (wpAny_pure (wpAny_bind (wpAny_bind (wpAny_loadPart hx (wpAny_bind (PySem.W.Looks.here (s := { s with toks := s.toks + 1 }) (PySem.W.looks_clsIn X hc) ?_))))))
  rw [hd']
  refine wpAny_pure (a := some dx) (wpAny_bind (wpAny_pure (wpAny_bind ?_)))
  refine wpAny_nsSet1 (s := { s with toks := s.toks + 1 }) I.ns fun h' hn2 hs2 => ?_
  obtain ⟨oD, esD, epD, hoD, hdD, hcD⟩ := hn2.count (PySem.Within.cons name v hw)
  refine wpAny_bind (wpAny_lookBehind hoD (by rw [hdD]; exact pastItsLine_dict (Nat.le_trans hcD (by rw [List.length_cons]; omega))) ?_)
  exact wpAny_pure (h _ ⟨(hs2.2 _ (Ne.symm I.ne)).trans I.obj, hn2, I.ne⟩ hs2)

/-- C(..): the dict at the heap's end, the instance behind it; then its __init__ -/
theorem make_map {R : Result → Shared → Prop} {vs : List Value} {kw : List (Str × Value)} (X : K.In s.heap) (hm : PySem.W.makesIn K C = true)
    (hi : PySem.W.findIn K (.ref C) "__init__" = some (some (.ref f))) (hf : PySem.W.typeIn K (.ref f) = some (.type "function"))
    (h : codeAny (model prog w) (A.under (.builtin "type.__call__" ⟨.ref C :: vs, kw⟩)) (.call (.ref f) ⟨.ref (s.heap.objs.size + 1) :: vs, kw⟩) (PySem.W.InitBack (s.heap.objs.size + 1) R)
      { s with heap := (s.heap.push PySem.W.emptyDict).push (PySem.W.instObj C s.heap.objs.size) }) :
    codeAny (model prog w) A (.call (.ref C) ⟨vs, kw⟩) R s := by
  obtain ⟨hh, g, d, t, os⟩ := s
  exact PySem.W.make_core (PySem.W.makes_of X hm) (PySem.W.looks_findIn X hi) (fun self => PySem.W.bind_fn X self hf) (.inl rfl) h
/-- C() where there is no __init__ but object's -/
theorem make_map0 {R : Result → Shared → Prop} (X : K.In s.heap) (hm : PySem.W.makesIn K C = true)
    (hi : PySem.W.findIn K (.ref C) "__init__" = some (some (.builtin "object.__init__")))
    (hb : ∀ self, PySem.W.Looks (model prog w) s.heap (bindSpecial (.builtin "object.__init__") self) (.builtin "object.__init__", [self]))
    (h : codeAny (model prog w) (A.under (.builtin "type.__call__" ⟨[.ref C], []⟩)) (.call (.builtin "object.__init__") ⟨[.ref (s.heap.objs.size + 1)], []⟩) (PySem.W.InitBack (s.heap.objs.size + 1) R)
      { s with heap := (s.heap.push PySem.W.emptyDict).push (PySem.W.instObj C s.heap.objs.size) }) :
    codeAny (model prog w) A (.call (.ref C) ⟨[], []⟩) R s := by
  obtain ⟨hh, g, d, t, os⟩ := s
  exact PySem.W.make_core (PySem.W.makes_of X hm) (PySem.W.looks_findIn X hi) hb (.inr ⟨rfl, rfl⟩) h
end

/-! ### the attributes as a list of pairs -/
def putF (f : Str) (v : V) : List (Str × V) → List (Str × V)
  | [] => [(f, v)]
  | (g, x) :: r => if g = f then (g, v) :: r else (g, x) :: putF f v r
theorem lookup_putF (f g : Str) (v : V) : ∀ fs : List (Str × V), (putF f v fs).lookup g = if g = f then some v else fs.lookup g
  | [] => by
    show List.lookup g [(f, v)] = _
    by_cases h : g = f
    · have hb : (g == f) = true := beq_iff_eq.mpr h
      simp only [List.lookup, hb, if_pos h]
    · have hb : (g == f) = false := beq_eq_false_iff_ne.mpr h
      simp only [List.lookup, hb, if_neg h]
  | (k, x) :: r => by
    have ih := lookup_putF f g v r
    rw [show putF f v ((k, x) :: r) = (if k = f then (k, v) :: r else (k, x) :: putF f v r) from rfl]
    by_cases hk : k = f
    · rw [if_pos hk]
      by_cases h : g = k
      · have hb : (g == k) = true := beq_iff_eq.mpr h
        simp only [List.lookup, hb, if_pos (h.trans hk)]
      · have hb : (g == k) = false := beq_eq_false_iff_ne.mpr h
        simp only [List.lookup, hb, if_neg (fun e : g = f => h (e.trans hk.symm))]
    · rw [if_neg hk]
      by_cases h : g = k
      · have hb : (g == k) = true := beq_iff_eq.mpr h
        simp only [List.lookup, hb, if_neg (fun e : g = f => hk (h.symm.trans e))]
      · have hb : (g == k) = false := beq_eq_false_iff_ne.mpr h
        simp only [List.lookup, hb]
        exact ih
theorem keys_putF (f : Str) (v : V) : ∀ fs : List (Str × V), f ∈ (putF f v fs).map (·.1) ∧ ∀ g, g ∈ fs.map (·.1) → g ∈ (putF f v fs).map (·.1)
  | [] => ⟨by simp [putF], fun g h => by simp at h⟩
  | (k, x) :: r => by
    obtain ⟨i1, i2⟩ := keys_putF f v r
    rw [show putF f v ((k, x) :: r) = (if k = f then (k, v) :: r else (k, x) :: putF f v r) from rfl]
    by_cases hk : k = f
    · rw [if_pos hk]
      subst hk
      exact ⟨by simp, fun g h => by simpa using h⟩
    · rw [if_neg hk]
      refine ⟨?_, fun g h => ?_⟩
      · rw [List.map_cons]
        exact List.mem_cons_of_mem _ i1
      · rw [List.map_cons] at h ⊢
        rcases List.mem_cons.mp h with e | e
        · exact List.mem_cons.mpr (.inl e)
        · exact List.mem_cons_of_mem _ (i2 g e)
theorem length_putF (f : Str) (v : V) : ∀ fs : List (Str × V), (putF f v fs).length ≤ fs.length + 1
  | [] => by simp [putF]
  | (k, x) :: r => by
    have ih := length_putF f v r
    rw [show putF f v ((k, x) :: r) = (if k = f then (k, v) :: r else (k, x) :: putF f v r) from rfl]
    by_cases hk : k = f
    · rw [if_pos hk, List.length_cons, List.length_cons]; omega
    · rw [if_neg hk, List.length_cons, List.length_cons]; omega

theorem RelO.some_of {v : V} {o : Option Value} (r : RelO (some v) o) : ∃ u, o = some u ∧ RelV v u := by
  cases o with
  | none => exact (show False from r).elim
  | some u => exact ⟨u, rfl, r⟩
theorem RelO.none_of {o : Option Value} (r : RelO none o) : o = none := by
  cases o with
  | none => rfl
  | some u => exact (show False from r).elim
theorem handed_of {v : V} {u : Value} (r : RelV v u) : PySem.W.handedIn u = true := by
  cases v with
  | non => cases (show u = Value.none from r); rfl
  | bl b => cases (show u = Value.bool b from r); rfl
  | int i => obtain ⟨t, e⟩ := (show ∃ t, u = Value.int i t from r); cases e; rfl
  | str x => obtain ⟨t, e⟩ := (show ∃ t, u = Value.str x t from r); cases e; rfl
  | byt b => obtain ⟨t, e⟩ := (show ∃ t, u = Value.bytes b t from r); cases e; rfl
  | flt b => obtain ⟨t, e⟩ := (show ∃ t, u = Value.float b t from r); cases e; rfl
  | ref a => cases (show u = Value.ref a from r); rfl
  | ty n => cases (show u = Value.type n from r); rfl

section
variable {P : Program} {w : World} {H H' : Hp} {h h' : Heap} {a C dx : Addr} {fs fs' : List (Str × V)}
theorem ins_get (hok : HOk P w H h) (e : H a = some (.ins C dx fs)) : ∃ mA, ObjM h a dx C mA ∧ (∀ f, RelO (fs.lookup f) (mA f)) ∧ PySem.Within mA (fs.map (·.1)) ∧ fs.length ≤ 1000 ∧ H dx = some (.own a) := by
  obtain ⟨d, z, ne, ob, mA, n, r, q⟩ := (show ObjOk P w H h a (.ins C dx fs) from hok a _ e)
  exact ⟨mA, ⟨ob, n, ne⟩, r, q, z, d⟩
end

/-! ### what of the text a class must have -/
structure Cls (K : PySem.W.Frag) (C : Addr) : Prop where
  pg : PySem.W.plainGet K C Str.empty = true
  hd : PySem.W.hasDictIn K C = true
  po : PySem.W.plainOver K C = true
  sa : PySem.W.findIn K (.ref C) "__setattr__" = some (some (.builtin "object.__setattr__"))
theorem Cls.get {K : PySem.W.Frag} {C : Addr} (c : Cls K C) (f : Str) : PySem.W.plainGet K C f = true := c.pg
/-- no class of it has the name -/
def NoAttr (K : PySem.W.Frag) (C : Addr) (f : Str) : Prop := PySem.W.findIn K (.ref C) f = some none
theorem NoAttr.taker {K : PySem.W.Frag} {C : Addr} {f : Str} (n : NoAttr K C f) : PySem.W.takerIn K C f = some none := by
  unfold PySem.W.takerIn
  rw [show PySem.W.findIn K (.ref C) f = some none from n]
  rfl
/-- a constant of the class -/
structure Con (K : PySem.W.Frag) (C : Addr) (f : Str) (v : V) (u : Value) : Prop where
  at_ : PySem.W.findIn K (.ref C) f = some (some u)
  rel : RelV v u
  get : PySem.W.specialIn K u "__get__" = some none
  cp : PySem.W.copiedNames.contains f = false
/-- a method: a plain def of the class or of one above it -/
structure Meth (K : PySem.W.Frag) (C : Addr) (m : Str) (f : Addr) : Prop where
  at_ : PySem.W.findIn K (.ref C) m = some (some (.ref f))
  fn : PySem.W.isFn K (.ref f) = true
  kp : PySem.W.keepIn K (.ref f) = true

section
variable {X : Cx} {pins : List (Addr × Obj)} {σ : St} {H : Hp} {s : Shared} {a C dx : Addr} {fs : List (Str × V)} {f : Str} {v : V} {A : Around} {E : Value → Shared → Prop}

theorem getattr_ok {b : Bool} {Q : Value → Shared → Prop} (I : Inv X pins σ H s) (e : H a = some (.ins C dx fs)) (c : Cls X.K C) (n : NoAttr X.K C f) (l : fs.lookup f = some v)
    (h : ∀ u s', Inv X pins σ H s' → RelV v u → Q u s') : wpAny (model X.prog X.w) A (getAttr (.ref a) f b) Q E s := by
  obtain ⟨mA, O, r, _, _, _⟩ := ins_get I.hok e
  obtain ⟨u, hu, ru⟩ := RelO.some_of (v := v) (o := mA f) (by rw [← l]; exact r f)
  exact get_map I.kIn O (c.get f) c.hd n hu (handed_of ru) (h u _ (I.tok _) ru)

theorem getcon_ok {b : Bool} {u : Value} {Q : Value → Shared → Prop} (I : Inv X pins σ H s) (e : H a = some (.ins C dx fs)) (c : Cls X.K C) (k : Con X.K C f v u) (l : fs.lookup f = none)
    (h : ∀ s', Inv X pins σ H s' → Q u s') : wpAny (model X.prog X.w) A (getAttr (.ref a) f b) Q E s := by
  obtain ⟨mA, O, r, _, _, _⟩ := ins_get I.hok e
  have hn : mA f = none := RelO.none_of (by rw [← l]; exact r f)
  exact get_const I.kIn O (c.get f) c.hd k.at_ k.get k.cp hn (handed_of k.rel) (h _ (I.tok _))

theorem getmeth_ok {m : Str} {g : Addr} {pl : Sem Bool} {Q : Value × List Value → Shared → Prop} (I : Inv X pins σ H s) (e : H a = some (.ins C dx fs)) (c : Cls X.K C) (k : Meth X.K C m g) (l : fs.lookup m = none)
    (h : Q (.ref g, [.ref a]) s) : wpAny (model X.prog X.w) A (getMethod (.ref a) m pl) Q E s := by
  obtain ⟨mA, O, r, _, _, _⟩ := ins_get I.hok e
  have hn : mA m = none := RelO.none_of (by rw [← l]; exact r m)
  exact get_meth I.kIn O (c.get m) k.at_ k.fn hn h

theorem setattr_ok {y : V} {u : Value} {Q : Unit → Shared → Prop} (I : Inv X pins σ H s) (e : H a = some (.ins C dx fs)) (c : Cls X.K C) (n : NoAttr X.K C f) (hl : fs.length < 1000) (ry : RelV y u)
    (h : ∀ s', Inv X pins σ (upd H a (.ins C dx (putF f y fs))) s' → Q () s') : wpAny (model X.prog X.w) A (setAttr (.ref a) f u) Q E s := by
  obtain ⟨mA, O, r, wi, _, ho⟩ := ins_get I.hok e
  have hz : (fs.map (·.1)).length ≤ sizeLine := by rw [List.length_map, sizeLine_eq]; omega
  refine set_map I.kIn O c.sa c.po n.taker c.hd wi hz fun h' O' sb => h _ ?_
  have hd : ∃ o, h'.get? dx = some o := let ⟨o, _, _, e', _⟩ := O'.ns; ⟨o, e'⟩
  refine I.write (x := a) (e := dx) (by rw [e]; exact True.intro) (.inr ho) (fun b q hb z => (sb.2 b hb).trans z) hd ?_
  refine ⟨by rw [upd_ne O.ne]; exact ho, ?_, O.ne, O'.obj, _, O'.ns, fun g => ?_, fun g hg => ?_⟩
  · have := length_putF f y fs; omega
  · show RelO ((putF f y fs).lookup g) (if g = f then some u else mA g)
    rw [lookup_putF]
    by_cases q : g = f
    · rw [if_pos q, if_pos q]; exact ry
    · rw [if_neg q, if_neg q]; exact r g
  · by_cases q : g = f
    · rw [q]; exact (keys_putF f y fs).1
    · refine (keys_putF f y fs).2 g (wi g fun z => hg ?_)
      show (if g = f then some u else mA g) = none
      rw [if_neg q]; exact z

/-- a new instance, tracked, without attributes -/
theorem Inv.made (I : Inv X pins σ H s) : Inv X pins σ (upd (upd H s.heap.objs.size (.own (s.heap.objs.size + 1))) (s.heap.objs.size + 1) (.ins C s.heap.objs.size []))
    { s with heap := (s.heap.push PySem.W.emptyDict).push (PySem.W.instObj C s.heap.objs.size) } := by
  have e1 : (s.heap.push PySem.W.emptyDict).get? s.heap.objs.size = some PySem.W.emptyDict := Heap.get?_push_size s.heap rfl
  have e2 : ((s.heap.push PySem.W.emptyDict).push (PySem.W.instObj C s.heap.objs.size)).get? (s.heap.objs.size + 1) = some (PySem.W.instObj C s.heap.objs.size) := by
    have := Heap.get?_push_size (s.heap.push PySem.W.emptyDict) (o := PySem.W.instObj C s.heap.objs.size) rfl
    rwa [Heap.size_push] at this
  have e3 : (s.heap.push PySem.W.emptyDict).Ns s.heap.objs.size (fun _ => none) := ⟨PySem.W.emptyDict, #[], _, e1, rfl, (fun e he => absurd he (by simp)), fun _ => rfl⟩
  have I1 := I.laid (a := s.heap.objs.size) (o := .own (s.heap.objs.size + 1)) (h' := s.heap.push PySem.W.emptyDict) (t' := s.toks) (fun b u q => Heap.get?_push_of_some _ q) (Nat.le_refl _) ⟨_, e1⟩
  refine I1.laid (a := s.heap.objs.size + 1) (o := .ins C s.heap.objs.size []) (t' := s.toks) (fun b u q => Heap.get?_push_of_some _ q) (Nat.le_of_eq (Heap.size_push _ _)) ?_
  have ne : s.heap.objs.size ≠ s.heap.objs.size + 1 := Nat.ne_of_lt (Nat.lt_succ_self _)
  refine ⟨by rw [upd_ne ne, upd_same], Nat.zero_le _, ne, e2, fun _ => none, (Heap.Ns1.of_empty e3).at fun o q => Heap.get?_push_of_some _ q, fun _ => True.intro, fun y hy => absurd rfl hy⟩

/-- e.f where nothing but the object is asked: through attributeBase (super) and the last hold -/
theorem attr_of {prog : Program} {w : World} {env : Env} {e : Expr} {f : Str} {pos : Pos} {s : Shared} {Q : Value → Shared → Prop} (hb : attributeBase e f env (eval e env) = eval e env)
    (h : wpAny (model prog w) A (eval e env) (fun o s₁ => wpAny (model prog w) A (getAttr o f true) Q E s₁) E s) : wpAny (model prog w) A (eval (.Attribute e f pos) env) Q E s :=
  Attribute_any_ h (by rw [arm_eval_Attribute, hb])
end

/-! ### readings and rules -/
/-- e.f, an attribute of the instance -/
def tFld (K : PySem.W.Frag) (ta : TE) (f : Str) : TE := fun σ H Q => ta σ H fun x H1 => ∃ a C dx fs v, x = .ref a ∧ H1 a = some (.ins C dx fs) ∧ Cls K C ∧ NoAttr K C f ∧ fs.lookup f = some v ∧ Q v H1
/-- e.f, a constant of the class -/
def tCon (K : PySem.W.Frag) (ta : TE) (f : Str) : TE := fun σ H Q => ta σ H fun x H1 => ∃ a C dx fs v u, x = .ref a ∧ H1 a = some (.ins C dx fs) ∧ Cls K C ∧ Con K C f v u ∧ fs.lookup f = none ∧ Q v H1
/-- e.f = value -/
def sFld (K : PySem.W.Frag) (ta tv : TE) (f : Str) : TS := fun D σ H => tv σ H fun y H1 => ta σ H1 fun x H2 => ∃ a C dx fs, x = .ref a ∧ H2 a = some (.ins C dx fs) ∧ Cls K C ∧ NoAttr K C f ∧ fs.length < 1000 ∧
  D.nx σ (upd H2 a (.ins C dx (putF f y fs)))
/-- an augmented operator on two values -/
def InOp (X : Cx) (op : Operator) (rd : V → V → Hp → VK → Prop) : Prop :=
  ∀ (pins : List (Addr × Obj)) (s : Shared) (σ : St) (H : Hp) (x y : V) (u v : Value) (Q : VK), Inv X pins σ H s → RelV x u → RelV y v → rd x y H Q → wpAny (model X.prog X.w) X.A (inplaceOp op u v) (EP X pins σ Q) X.xe s
/-- e.f op= value -/
def sFldAug (K : PySem.W.Frag) (ta tv : TE) (rd : V → V → Hp → VK → Prop) (f : Str) : TS := fun D σ H => ta σ H fun x H1 => ∃ a C dx fs v, x = .ref a ∧ H1 a = some (.ins C dx fs) ∧ Cls K C ∧ NoAttr K C f ∧ fs.lookup f = some v ∧
  tv σ H1 fun y H2 => rd v y H2 fun z H3 => ∃ dx' fs', H3 a = some (.ins C dx' fs') ∧ fs'.length < 1000 ∧ D.nx σ (upd H3 a (.ins C dx' (putF f z fs')))

section
variable {X : Cx} {o e value : Expr} {f : Str} {pos pos' tpos : Pos} {ta tv : TE}
theorem pe_fld (he : PE X e ta) (hb : attributeBase e f X.env (eval e X.env) = eval e X.env) : PE X (.Attribute e f pos) (tFld X.K ta f) := by
  intro pins s σ H Q I h
  refine attr_of hb (thn (he pins s σ H _ I h) fun u s1 ⟨x, H1, I1, rx, a, C, dx, fs, v, ex, ea, c, n, l, q⟩ => ?_)
  subst ex
  obtain rfl : u = Value.ref a := rx
  exact getattr_ok I1 ea c n l fun u' s2 I2 ru => ⟨v, H1, I2, ru, q⟩
theorem pe_con (he : PE X e ta) (hb : attributeBase e f X.env (eval e X.env) = eval e X.env) : PE X (.Attribute e f pos) (tCon X.K ta f) := by
  intro pins s σ H Q I h
  refine attr_of hb (thn (he pins s σ H _ I h) fun u s1 ⟨x, H1, I1, rx, a, C, dx, fs, v, u0, ex, ea, c, k, l, q⟩ => ?_)
  subst ex
  obtain rfl : u = Value.ref a := rx
  exact getcon_ok I1 ea c k l fun s2 I2 => ⟨v, H1, I2, k.rel, q⟩
theorem ps_fld (ha : PE X o ta) (hv : PE X value tv) (hs : swapsWith value (some (.Attribute o f pos')) pos.line X.env = pure false) : PS X (.Assign [.Attribute o f pos'] value pos) (sFld X.K ta tv f) := by
  intro pins s σ H D I h
  refine plainObj_wpAny_Assign_Attribute (thn (hv pins s σ H _ I h) fun u s1 ⟨y, H1, I1, ry, q⟩ => thn (ha pins s1 σ H1 _ I1 q) fun ov s2 ⟨x, H2, I2, rx, a, C, dx, fs, ex, ea, c, n, l, q2⟩ => ?_) hs
  subst ex
  obtain rfl : ov = Value.ref a := rx
  exact setattr_ok I2 ea c n l ry fun s3 I3 => ⟨σ, _, I3, q2⟩
theorem ps_fldaug {op : Operator} {rd : V → V → Hp → VK → Prop} (ha : PE X o ta) (hv : PE X value tv) (hop : InOp X op rd) : PS X (.AugAssign (.Attribute o f tpos) op value pos) (sFldAug X.K ta tv rd f) := by
  intro pins s σ H D I h
  refine wpAny_AugAssign_AttributeAny (thn (ha pins s σ H _ I h) fun ov s1 ⟨x, H1, I1, rx, a, C, dx, fs, v, ex, ea, c, n, l, q⟩ => ?_)
  subst ex
  obtain rfl : ov = Value.ref a := rx
  refine getattr_ok I1 ea c n l fun u s2 I2 ru => thn (hv pins s2 σ H1 _ I2 q) fun w3 s3 ⟨y, H2, I3, ry, q3⟩ => thn (hop pins s3 σ H2 v y u w3 _ I3 ru ry q3) fun w4 s4 ⟨z, H3, I4, rz, dx', fs', ea', l', q4⟩ => ?_
  exact setattr_ok I4 ea' c n l' rz fun s5 I5 => ⟨σ, _, I5, q4⟩
def rAdd : V → V → Hp → VK → Prop := fun x y H Q => ∃ i j, x = .int i ∧ y = .int j ∧ Q (.int (i + j)) H
def rSub : V → V → Hp → VK → Prop := fun x y H Q => ∃ i j, x = .int i ∧ y = .int j ∧ Q (.int (i - j)) H
theorem in_add : InOp X .Add rAdd := by
  rintro pins s σ H x y u v Q I rx ry ⟨i, j, rfl, rfl, q⟩
  obtain ⟨t, rfl⟩ := (show ∃ t, u = Value.int i t from rx)
  obtain ⟨t', rfl⟩ := (show ∃ t', v = Value.int j t' from ry)
  exact PyProof.Rows.iadd_int ⟨.int (i + j), H, I.tok _, ⟨_, rfl⟩, q⟩
theorem in_sub : InOp X .Sub rSub := by
  rintro pins s σ H x y u v Q I rx ry ⟨i, j, rfl, rfl, q⟩
  obtain ⟨t, rfl⟩ := (show ∃ t, u = Value.int i t from rx)
  obtain ⟨t', rfl⟩ := (show ∃ t', v = Value.int j t' from ry)
  exact PyProof.Rows.isub_int ⟨.int (i - j), H, I.tok _, ⟨_, rfl⟩, q⟩

/-- what is between an instance and its method: the tree of a method call -/
theorem methcall_of {pl : Sem Bool} {m : Str} {apos : Pos} {args : List Expr} {pins : List (Addr × Obj)} {s : Shared} {σ : St} {H : Hp} {Q : Value → Shared → Prop} {te : TE} (he : PE X e te) (I : Inv X pins σ H s)
    (h : te σ H fun x H1 => ∃ a C dx fs g, x = .ref a ∧ H1 a = some (.ins C dx fs) ∧ Cls X.K C ∧ Meth X.K C m g ∧ fs.lookup m = none ∧
      ∀ s1, Inv X pins σ H1 s1 → wpAny (model X.prog X.w) X.A (callWith pos (.ref g) [.ref a] (backTo pos (starEach args X.env)) (backToKw pos (keywordEach [] X.env))) Q X.xe s1)
    (ht : eval (.Call (.Attribute e m apos) args [] pos) X.env = (do
      let ov ← eval e X.env
      standAt apos.atName
      let (f, first) ← holding [ov] (getMethod ov m pl)
      callWith pos f first (backTo pos (starEach args X.env)) (backToKw pos (keywordEach [] X.env)))) :
    wpAny (model X.prog X.w) X.A (eval (.Call (.Attribute e m apos) args [] pos) X.env) Q X.xe s := by
  refine PySem.W.methodCall_KW (pl := pl) (thn (he pins s σ H _ I h) fun u s1 ⟨x, H1, I1, rx, a, C, dx, fs, g, ex, ea, c, k, l, q⟩ => ?_) ht
  subst ex
  obtain rfl : u = Value.ref a := rx
  exact getmeth_ok I1 ea c k l (q s1 I1)
end

/-! ### isinstance -/
section
variable {X : Cx} {pins : List (Addr × Obj)} {σ : St} {H : Hp} {s : Shared} {A : Around} {E : Value → Shared → Prop} {Q : Value → Shared → Prop} {c : Value} {b : Bool}
/-- the type of a value, as the fragment's deciders take it; for an instance its class -/
inductive TyOf (K : PySem.W.Frag) (H : Hp) : V → Value → Prop where
  | non : TyOf K H .non (.type "NoneType")
  | bl (x : Bool) : TyOf K H (.bl x) (.type "bool")
  | int (i : Int) : TyOf K H (.int i) (.type "int")
  | str (x : Str) : TyOf K H (.str x) (.type "str")
  | flt (x : UInt64) : TyOf K H (.flt x) (.type "float")
  | lst {a : Addr} {xs : List V} (e : H a = some (.lst xs)) : TyOf K H (.ref a) (.type "list")
  | frz {a : Addr} {o : Obj} {xs : List V} (e : H a = some (.frz o (.lst xs))) : TyOf K H (.ref a) (.type "list")
  | tup {a : Addr} {xs : List V} (e : H a = some (.tup xs)) : TyOf K H (.ref a) (.type "tuple")
  | dK {a : Addr} {kvs : List (Key × V)} (e : H a = some (.dK kvs)) : TyOf K H (.ref a) (.type "dict")
  | dT {a : Addr} {kvs : List (List Key × V)} (e : H a = some (.dT kvs)) : TyOf K H (.ref a) (.type "dict")
  | ins {a C dx : Addr} {fs : List (Str × V)} (e : H a = some (.ins C dx fs)) (cl : Cls K C) (ha : PySem.W.findIn K (.ref C) "__class__" = some (some (.builtin "object.__class__")))
      (hn : PySem.W.specialIn K (.builtin "object.__class__") "__get__" = some (some (.builtin "getset_descriptor.__get__"))) (htk : PySem.W.takesIn K (.builtin "object.__class__") = some true)
      (hm : PySem.W.mroIn K C (.type "object") = some true) : TyOf K H (.ref a) (.ref C)
/-- isinstance(x, c) for one class c, a built-in or an own one: kitOne's answer -/
theorem isinst_ok {x : V} {u t : Value} (I : Inv X pins σ H s) (rx : RelV x u) (ty : TyOf X.K H x t) (e : PySem.W.kitOne X.K t c = some b) (h : ∀ tk, Q (.bool b) { s with toks := tk }) :
    wpAny (model X.prog X.w) A (call (.builtin "isinstance") [u, c]) Q E s := by
  cases ty with
  | non => cases (show u = Value.none from rx); exact PySem.W.kia_one PySem.W.kitx_none I.kIn True.intro e (fun z => nomatch z) h
  | bl y => cases (show u = Value.bool y from rx); exact PySem.W.kia_one PySem.W.kitx_bool I.kIn True.intro e (fun z => nomatch z) h
  | int i => obtain ⟨t, q⟩ := (show ∃ t, u = Value.int i t from rx); cases q; exact PySem.W.kia_one PySem.W.kitx_int I.kIn True.intro e (fun z => nomatch z) h
  | str y => obtain ⟨t, q⟩ := (show ∃ t, u = Value.str y t from rx); cases q; exact PySem.W.kia_one PySem.W.kitx_str I.kIn True.intro e (fun z => nomatch z) h
  | flt y => obtain ⟨t, q⟩ := (show ∃ t, u = Value.float y t from rx); cases q; exact PySem.W.kia_one PySem.W.kitx_float I.kIn True.intro e (fun z => nomatch z) h
  | @lst a xs ea =>
    cases (show u = Value.ref a from rx)
    obtain ⟨_, _, n, _, h1⟩ := (show ObjOk X.prog X.w H s.heap a (.lst xs) from I.hok a _ ea)
    exact PySem.W.kia_one PySem.W.kitx_list I.kIn ⟨_, h1, rfl⟩ e (fun z => nomatch z) h
  | @frz a ob xs ea =>
    cases (show u = Value.ref a from rx)
    obtain ⟨_, _, _, n, _, h1⟩ := (show ObjOk X.prog X.w H s.heap a (.frz ob (.lst xs)) from I.hok a _ ea)
    exact PySem.W.kia_one PySem.W.kitx_list I.kIn ⟨_, h1, rfl⟩ e (fun z => nomatch z) h
  | @tup a xs ea =>
    cases (show u = Value.ref a from rx)
    obtain ⟨_, _, _, p⟩ := (show ObjOk X.prog X.w H s.heap a (.tup xs) from I.hok a _ ea)
    obtain ⟨o, h1, h2, _⟩ := p
    exact PySem.W.kia_one PySem.W.kitx_tuple I.kIn ⟨o, h1, h2⟩ e (fun z => nomatch z) h
  | @dK a kvs ea =>
    cases (show u = Value.ref a from rx)
    obtain ⟨_, _, vs, _, p⟩ := (show ObjOk X.prog X.w H s.heap a (.dK kvs) from I.hok a _ ea)
    obtain ⟨o, es, ep, h1, h2, _⟩ := p
    exact PySem.W.kia_one PySem.W.kitx_dict I.kIn ⟨o, h1, h2.1⟩ e (fun z => nomatch z) h
  | @dT a kvs ea =>
    cases (show u = Value.ref a from rx)
    obtain ⟨_, _, xs, _, o, es, ep, h1, h2, _⟩ := (show ObjOk X.prog X.w H s.heap a (.dT kvs) from I.hok a _ ea)
    exact PySem.W.kia_one PySem.W.kitx_dict I.kIn ⟨o, h1, h2.1⟩ e (fun z => nomatch z) h
  | @ins a C dx fs ea cl ha hn htk hm =>
    cases (show u = Value.ref a from rx)
    obtain ⟨mA, O, _⟩ := ins_get I.hok ea
    obtain ⟨od, J, _⟩ := O.look
    exact PySem.W.kia_one (PySem.W.kitx_own (cl.get _) cl.hd ha hn htk hm) I.kIn J e (fun z => nomatch z) h
end
end L2

namespace L2
open PySem PySem.Spec PyProof.Rows

/-! ### room -/
structure Room (k : Nat) (A : Around) : Prop where
  hd : A.handled = none
  dp : A.depth + 3 * k + 5 < recursionLimit
  un : A.units + 16 * k + 200 < cLine
theorem Room.mono {j k : Nat} {A : Around} (r : Room k A) (h : j ≤ k) : Room j A := ⟨r.hd, by have := r.dp; omega, by have := r.un; omega⟩
theorem Room.deeper {k : Nat} {A : Around} (r : Room (k + 1) A) (env : Env) : Room k (A.deeper env) :=
  ⟨r.hd, by have := r.dp; show A.depth + 1 + 3 * k + 5 < _; omega, by have := r.un; show A.units + 3 + 16 * k + 200 < _; omega⟩
theorem Room.in1 {k : Nat} {A : Around} (r : Room (k + 1) A) : Room k A.in1 :=
  ⟨r.hd, by have := r.dp; show A.depth + 3 * k + 5 < _; omega, by have := r.un; show A.units + 1 + 16 * k + 200 < _; omega⟩
theorem make_depth {A : Around} {C : Addr} {us : List Value} {kw : List (Str × Value)} : (A.under (.builtin "type.__call__" ⟨.ref C :: us, kw⟩)).depth = A.depth + 1 := by
  first | rfl | simp [Around.under, Code.weight, Code.isCreation, Code.isGuard, Code.isCaller, Code.frames, Code.isFrame, guardIds]
theorem make_units {A : Around} {C : Addr} {us : List Value} {kw : List (Str × Value)} : (A.under (.builtin "type.__call__" ⟨.ref C :: us, kw⟩)).units = A.units + 1 := by
  first | rfl | simp [Around.under, Code.cUnits, Code.frames, Code.isFrame]
theorem Room.make {k : Nat} {A : Around} (r : Room (k + 1) A) (C : Addr) (us : List Value) (kw : List (Str × Value)) : Room k (A.under (.builtin "type.__call__" ⟨.ref C :: us, kw⟩)) :=
  ⟨r.hd, by have := r.dp; rw [make_depth]; omega, by have := r.un; rw [make_units]; omega⟩
theorem Room.depth {k : Nat} {A : Around} (r : Room k A) : A.depth < recursionLimit := by have := r.dp; omega
theorem Room.units {k : Nat} {A : Around} (r : Room k A) : A.units + 64 < cLine := by have := r.un; omega
theorem Room.units0 {k : Nat} {A : Around} (r : Room k A) : A.units < cLine := by have := r.un; omega

/-! ### argument lists and displays -/
def tNil : TA := fun _ H Q => Q [] H
def tCons (ta : TE) (tr : TA) : TA := fun σ H Q => ta σ H fun x H1 => tr σ H1 fun xs H2 => Q (x :: xs) H2
section
variable {X : Cx} {e : Expr} {es : List Expr} {te : TE} {t : TA} {pos : Pos}
theorem pa_nil : PA X [] tNil := fun _ _ _ _ H Q I h => Calls.spliced_nil ⟨[], H, I, .nil, h⟩
theorem pa_cons (ha : PE X e te) (hr : PA X es t) (hs : starEach (e :: es) X.env = (false, eval e X.env) :: starEach es X.env := by rfl) : PA X (e :: es) (tCons te t) := by
  intro pos pins s σ H Q I h
  rw [hs]
  show wpAny _ _ (spliced ((false, eval e X.env) :: backTo pos (starEach es X.env))) _ _ s
  refine Calls.spliced_cons (thn (ha pins s σ H _ I h) fun u s1 ⟨x, H1, I1, r1, q1⟩ => ?_)
  exact thn (hr pos pins s1 σ H1 _ I1 q1) fun us s2 ⟨xs, H2, I2, r2, q2⟩ => ⟨x :: xs, H2, I2, .cons r1 r2, q2⟩

/-- a tuple, a list of written items -/
def tTup (t : TA) : TE := fun σ H Q => t σ H fun xs H1 => xs.length ≤ sizeLine ∧ ∀ p, H1 p = none → Q (.ref p) (upd H1 p (.tup xs))
def tLst (t : TA) : TE := fun σ H Q => t σ H fun xs H1 => xs.length ≤ sizeLine ∧ ∀ p, H1 p = none → Q (.ref p) (upd H1 p (.lst xs))
theorem pe_tup {x1} (h : PA X es t) : PE X (.Tuple es x1 pos) (tTup t) := by
  intro pins s σ H Q I hq
  refine wpAny_Tuple_spliced (thn (h pos pins s σ H _ I hq) fun us s1 ⟨xs, H1, I1, r, z, q⟩ => ⟨by rw [← r.length]; exact z, ?_⟩)
  have hf : H1 s1.heap.objs.size = none := I1.hok.fresh (Nat.le_refl _)
  refine ⟨.ref s1.heap.objs.size, upd H1 s1.heap.objs.size (.tup xs), I1.laid (t' := s1.toks) (fun b u e => Heap.get?_push_of_some _ e) (Nat.le_refl _) ?_, rfl, q _ hf⟩
  exact ⟨z, us, r, ⟨_, Heap.get?_push_size _ rfl, rfl, _, rfl⟩⟩
theorem pe_lst (h : PA X es t) : PE X (.List es pos) (tLst t) := by
  intro pins s σ H Q I hq
  refine wpAny_List_spliced (thn (h pos pins s σ H _ I hq) fun us s1 ⟨xs, H1, I1, r, z, q⟩ => ⟨by rw [← r.length]; exact z, ?_⟩)
  have hf : H1 s1.heap.objs.size = none := I1.hok.fresh (Nat.le_refl _)
  refine ⟨.ref s1.heap.objs.size, upd H1 s1.heap.objs.size (.lst xs), I1.laid (t' := s1.toks) (fun b u e => Heap.get?_push_of_some _ e) (Nat.le_refl _) ?_, rfl, q _ hf⟩
  exact ⟨z, us, 0, r, Heap.get?_push_size _ rfl⟩
end

/-! ### what a def promises -/
/-- a def's promise: the bound arguments in the parameters' order, the heap, the wanted end, the wanted exception -/
abbrev Sp := List V → Hp → VK → XK → Prop
/-- how an exception lies behind a call (file 08 gives it): the callers' frames, abstract heap and state ahead of the call, the wish, the exception, the state -/
abbrev CXT := List Env → Hp → Shared → XK → Value → Shared → Prop

/-- the state at a call -/
structure Env0 (P : Program) (w : World) (K : PySem.W.Frag) (mg : Str → Option Value) (base : Heap) (A : Around) (outer : List Env) (s : Shared) (H : Hp) : Prop where
  frames : A.frames = some outer
  mod : Mod K mg base
  bs : ∀ b o, base.get? b = some o → s.heap.get? b = some o ∧ H b = none
  bsz : base.objs.size ≤ s.heap.objs.size
  funs : s.heap.FunFrames base outer
  frf : ∀ b ∈ frs outer, H b = none
  hok : HOk P w H s.heap
  bare : AllBare s.gens
/-- a call's end -/
def CE (outer : List Env) (P : Program) (w : World) (H : Hp) (s : Shared) (Q : VK) (u : Value) (s' : Shared) : Prop :=
  ∃ v H', s'.os = s.os ∧ AllBare s'.gens ∧ Un (frs outer) [] H H' s.heap s'.heap ∧ HOk P w H' s'.heap ∧ RelV v u ∧ Q v H'
def CR (CX : CXT) (outer : List Env) (P : Program) (w : World) (H : Hp) (s : Shared) (Q : VK) (E : XK) (r : Result) (s' : Shared) : Prop :=
  match r with
  | .ok (.ret u) => CE outer P w H s Q u s'
  | .ok _ => False
  | .error e => CX outer H s E e s'
structure FnOk (P : Program) (w : World) (K : PySem.W.Frag) (mg : Str → Option Value) (base : Heap) (CX : CXT) (k : Nat) (f : Addr) (fd : FuncData) (ps : List Str) (sp : Sp) : Prop where
  len : ∀ vs H Q E, sp vs H Q E → vs.length = ps.length
  run : ∀ (A : Around) (outer : List Env) (s : Shared) (H : Hp) (args : Args) (us : List Value) (vs : List V) (Q : VK) (E : XK), Room k A → Env0 P w K mg base A outer s H → BindsTo s fd args (ps.zip us) → Vals vs us → sp vs H Q E →
    codeAny (model P w) A (.call (.ref f) args) (CR CX outer P w H s Q E) s
theorem FnOk.mono {P : Program} {w : World} {K : PySem.W.Frag} {mg : Str → Option Value} {base : Heap} {CX : CXT} {j k : Nat} {f : Addr} {fd : FuncData} {ps : List Str} {sp : Sp} (F : FnOk P w K mg base CX j f fd ps sp) (h : j ≤ k) :
    FnOk P w K mg base CX k f fd ps sp := ⟨F.len, fun A outer s H args us vs Q E hr => F.run A outer s H args us vs Q E (hr.mono h)⟩
/-- a weaker promise -/
theorem FnOk.imp {P : Program} {w : World} {K : PySem.W.Frag} {mg : Str → Option Value} {base : Heap} {CX : CXT} {k : Nat} {f : Addr} {fd : FuncData} {ps : List Str} {sp sp' : Sp} (F : FnOk P w K mg base CX k f fd ps sp)
    (h : ∀ vs H Q E, sp' vs H Q E → sp vs H Q E) : FnOk P w K mg base CX k f fd ps sp' :=
  ⟨fun vs H Q E q => F.len vs H Q E (h _ _ _ _ q), fun A outer s H args us vs Q E hr he hb hv hs => F.run A outer s H args us vs Q E hr he hb hv (h _ _ _ _ hs)⟩

theorem Env0.make {P : Program} {w : World} {K : PySem.W.Frag} {mg : Str → Option Value} {base : Heap} {A : Around} {outer : List Env} {s : Shared} {H : Hp} (e : Env0 P w K mg base A outer s H) (C : Addr) (us : List Value) (kw : List (Str × Value)) :
    Env0 P w K mg base (A.under (.builtin "type.__call__" ⟨.ref C :: us, kw⟩)) outer s H := ⟨by first | exact e.frames | (simpa [Around.under, Code.envs, Code.isFrame, pushEnvs] using e.frames), e.mod, e.bs, e.bsz, e.funs, e.frf, e.hok, e.bare⟩
theorem Env0.in1 {P : Program} {w : World} {K : PySem.W.Frag} {mg : Str → Option Value} {base : Heap} {A : Around} {outer : List Env} {s : Shared} {H : Hp} (e : Env0 P w K mg base A outer s H) :
    Env0 P w K mg base A.in1 outer s H := ⟨e.frames, e.mod, e.bs, e.bsz, e.funs, e.frf, e.hok, e.bare⟩

section
variable {X : Cx} {pins : List (Addr × Obj)} {σ : St} {H : Hp} {s s' : Shared}
/-- from a body: what a callee wants -/
theorem Inv.env0 (I : Inv X pins σ H s) : Env0 X.prog X.w X.K X.mg X.base X.A X.stack s H :=
  ⟨I.ok.frames, I.ok.mod, I.bs, Nat.le_trans I.ok.bsz I.sz, I.stack, I.stkFree, I.hok, I.bare⟩
/-- behind a call -/
theorem Inv.after {Q : VK} {u : Value} (I : Inv X pins σ H s) (h : CE X.stack X.prog X.w H s Q u s') : EP X pins σ Q u s' := by
  obtain ⟨v, H', os, bare, un, hok, r, q⟩ := h
  obtain ⟨hh, g, d, t, os'⟩ := s'
  obtain rfl : os' = s.os := os
  exact ⟨v, H', I.call (h' := hh) (g' := g) (d' := d) (t' := t) (ch := []) un hok bare (fun b z => absurd z (by simp)), r, q⟩
end

/-! ### calls -/
/-- f(..): the written arguments, then the defaults dvs; E: what is wanted of an exception -/
def tCall (sp : Sp) (dvs : List V) (E : XK) (t : TA) : TE := fun σ H Q => t σ H fun vs H1 => sp (vs ++ dvs) H1 Q E
/-- o.m(..) of an instance of the class at C -/
def tMeth (C : Addr) (m : Str) (sp : Sp) (dvs : List V) (E : XK) (ta : TE) (t : TA) : TE := fun σ H Q => ta σ H fun x H1 => ∃ a dx fs, x = .ref a ∧ H1 a = some (.ins C dx fs) ∧ fs.lookup m = none ∧
  t σ H1 fun vs H2 => sp (x :: (vs ++ dvs)) H2 Q E
/-- C(..): a new instance and its dict, then __init__ -/
def tMake (C : Addr) (sp : Sp) (dvs : List V) (E : XK) (t : TA) : TE := fun σ H Q => t σ H fun vs H1 => ∀ x dx, H1 x = none → H1 dx = none → dx ≠ x →
  sp (.ref x :: (vs ++ dvs)) (upd (upd H1 dx (.own x)) x (.ins C dx [])) (fun v H2 => v = .non ∧ Q (.ref x) H2) E

/-- how the parameters are bound: us the positional arguments, kw the keywords' values by name, ds the defaults that fill up -/
def Binds (K : PySem.W.Frag) (fd : FuncData) (ps : List Str) (ds : List Value) : Prop :=
  ∀ (s : Shared) (us : List Value), K.In s.heap → (us ++ ds).length = ps.length → BindsTo s fd ⟨us, []⟩ (ps.zip (us ++ ds))
/-- every parameter is given -/
theorem Binds.all {K : PySem.W.Frag} {fd : FuncData} {ps : List Str} (h : ∀ us : List Value, us.length = ps.length → bindArgs fd ⟨us, []⟩ = pure (ps.zip us)) : Binds K fd ps [] := fun s us _ hl => by
  rw [List.append_nil] at hl ⊢
  exact .of_eq (h us hl)

/-- an exception of a callee reaches what this body wants of exceptions -/
def Passes (CX : CXT) (X : Cx) (E : XK) : Prop := ∀ (pins : List (Addr × Obj)) (σ : St) (H : Hp) (s : Shared) (e : Value) (s' : Shared), Inv X pins σ H s → CX X.stack H s E e s' → X.xe e s'

section
variable {X : Cx} {CX : CXT} {k : Nat} {f C : Addr} {fd : FuncData} {ps : List Str} {sp : Sp} {dvs : List V} {ds : List Value} {E : XK} {x m : Str} {p pos apos : Pos} {e o : Expr} {es : List Expr} {ta : TE} {t : TA}

/-- the callee runs -/
theorem run_fn {pins : List (Addr × Obj)} {σ : St} {H : Hp} {s : Shared} {Q : VK} {us : List Value} {vs : List V} (F : FnOk X.prog X.w X.K X.mg X.base CX k f fd ps sp) (hr : Room k X.A) (hb : Binds X.K fd ps ds) (hd : Vals dvs ds) (hx : Passes CX X E)
    (I : Inv X pins σ H s) (r : Vals vs us) (h : sp (vs ++ dvs) H Q E) : wpAny (model X.prog X.w) X.A (call (.ref f) us) (EP X pins σ Q) X.xe s := by
  have r2 : Vals (vs ++ dvs) (us ++ ds) := r.append hd
  have hl : (us ++ ds).length = ps.length := by rw [← r2.length]; exact F.len _ _ _ _ h
  refine wpAny_call (codeAny_mono (F.run X.A X.stack s H ⟨us, []⟩ (us ++ ds) (vs ++ dvs) Q E hr I.env0 (hb s us I.kIn hl) r2 h) fun r s' hq => ?_)
  cases r with
  | error e => exact hx pins σ H s e s' I hq
  | ok fl =>
    cases fl with
    | ret u => exact I.after hq
    | next => exact False.elim hq
    | brk => exact False.elim hq
    | cont => exact False.elim hq

theorem pe_call (F : FnOk X.prog X.w X.K X.mg X.base CX k f fd ps sp) (hr : Room k X.A) (hg : Gl X x) (hm : X.mg x = some (.ref f)) (hk : PySem.W.keepIn X.K (.ref f) = true) (hb : Binds X.K fd ps ds) (hd : Vals dvs ds) (hx : Passes CX X E)
    (ha : PA X (e :: es) t) (hdb : (x == ("__debug__" : Str)) = false := by decide) (he : starEach (e :: es) X.env = (false, eval e X.env) :: starEach es X.env := by rfl) (hpl : (backTo pos (starEach es X.env)).any (·.1) = false := by rfl) :
    PE X (.Call (.Name x p) (e :: es) [] pos) (tCall sp dvs E t) := by
  intro pins s σ H Q I h
  refine wpAny_Call_Name_kw (ld_glob I hg hm ?_ hdb)
  refine PySem.W.callWith_K (h₀ := X.base) I.ok.mod.kin hk (thn (ha pos pins s σ H _ I h) fun us s1 ⟨vs, H1, I1, r, q⟩ => ⟨I1.kIn, ?_⟩) he hpl
  exact run_fn F hr hb hd hx I1 r q
theorem pe_call0 (F : FnOk X.prog X.w X.K X.mg X.base CX k f fd ps sp) (hr : Room k X.A) (hg : Gl X x) (hm : X.mg x = some (.ref f)) (hk : PySem.W.keepIn X.K (.ref f) = true) (hb : Binds X.K fd ps ds) (hd : Vals dvs ds) (hx : Passes CX X E)
    (hdb : (x == ("__debug__" : Str)) = false := by decide) : PE X (.Call (.Name x p) [] [] pos) (tCall sp dvs E tNil) := by
  intro pins s σ H Q I h
  refine wpAny_Call_Name_kw (ld_glob I hg hm ?_ hdb)
  exact PySem.W.callWith_K0 I.kIn hk (run_fn (us := []) F hr hb hd hx I .nil h)

/-- o.m(e, ..) -/
theorem pe_meth {pl : Sem Bool} (he : PE X o ta) (c : Cls X.K C) (hm : Meth X.K C m f) (F : FnOk X.prog X.w X.K X.mg X.base CX k f fd ps sp) (hr : Room k X.A) (hb : Binds X.K fd ps ds) (hd : Vals dvs ds) (hx : Passes CX X E) (ha : PA X (e :: es) t)
    (hst : starEach (e :: es) X.env = (false, eval e X.env) :: starEach es X.env := by rfl) (hpl : (backTo pos (starEach es X.env)).any (·.1) = false := by rfl)
    (ht : eval (.Call (.Attribute o m apos) (e :: es) [] pos) X.env = (do
      let ov ← eval o X.env
      standAt apos.atName
      let (f, first) ← holding [ov] (getMethod ov m pl)
      callWith pos f first (backTo pos (starEach (e :: es) X.env)) (backToKw pos (keywordEach [] X.env))) := by rfl) :
    PE X (.Call (.Attribute o m apos) (e :: es) [] pos) (tMeth C m sp dvs E ta t) := by
  intro pins s σ H Q I h
  refine PySem.W.methodCall_KW (pl := pl) (thn (he pins s σ H _ I h) fun u s1 ⟨x, H1, I1, rx, a, dx, fs, ex, ea, l, q⟩ => ?_) ht
  subst ex
  obtain rfl : u = Value.ref a := rx
  refine getmeth_ok I1 ea c hm l ?_
  refine PySem.W.callWith_K (first := [.ref a]) (h₀ := X.base) I.ok.mod.kin hm.kp (thn (ha pos pins s1 σ H1 _ I1 q) fun us s2 ⟨vs, H2, I2, r, q2⟩ => ⟨I2.kIn, ?_⟩) hst hpl
  exact run_fn (us := .ref a :: us) (vs := .ref a :: vs) F hr hb hd hx I2 (.cons rfl r) q2
/-- o.m() -/
theorem pe_meth0 {pl : Sem Bool} (he : PE X o ta) (c : Cls X.K C) (hm : Meth X.K C m f) (F : FnOk X.prog X.w X.K X.mg X.base CX k f fd ps sp) (hr : Room k X.A) (hb : Binds X.K fd ps ds) (hd : Vals dvs ds) (hx : Passes CX X E)
    (ht : eval (.Call (.Attribute o m apos) [] [] pos) X.env = (do
      let ov ← eval o X.env
      standAt apos.atName
      let (f, first) ← holding [ov] (getMethod ov m pl)
      callWith pos f first (backTo pos (starEach [] X.env)) (backToKw pos (keywordEach [] X.env))) := by rfl) :
    PE X (.Call (.Attribute o m apos) [] [] pos) (tMeth C m sp dvs E ta tNil) := by
  intro pins s σ H Q I h
  refine PySem.W.methodCall_KW (pl := pl) (thn (he pins s σ H _ I h) fun u s1 ⟨x, H1, I1, rx, a, dx, fs, ex, ea, l, q⟩ => ?_) ht
  subst ex
  obtain rfl : u = Value.ref a := rx
  refine getmeth_ok I1 ea c hm l ?_
  exact PySem.W.callWith_K0 (first := [.ref a]) I1.kIn hm.kp (run_fn (us := [.ref a]) (vs := [.ref a]) F hr hb hd hx I1 (.cons rfl .nil) q)

/-- what a class must have to be made -/
structure Mk (K : PySem.W.Frag) (C f : Addr) : Prop where
  makes : PySem.W.makesIn K C = true
  init : PySem.W.findIn K (.ref C) "__init__" = some (some (.ref f))
  fn : PySem.W.isFn K (.ref f) = true
  kp : PySem.W.keepIn K (.ref C) = true

theorem run_make {pins : List (Addr × Obj)} {σ : St} {H : Hp} {s : Shared} {Q : VK} {us : List Value} {vs : List V} (M : Mk X.K C f) (F : FnOk X.prog X.w X.K X.mg X.base CX k f fd ps sp) (hr : Room (k + 1) X.A) (hb : Binds X.K fd ps ds) (hd : Vals dvs ds)
    (hx : Passes CX X E) (I : Inv X pins σ H s) (r : Vals vs us)
    (h : ∀ x dx, H x = none → H dx = none → dx ≠ x → sp (.ref x :: (vs ++ dvs)) (upd (upd H dx (.own x)) x (.ins C dx [])) (fun v H2 => v = .non ∧ Q (.ref x) H2) E) :
    wpAny (model X.prog X.w) X.A (call (.ref C) us) (EP X pins σ Q) X.xe s := by
  have hq := h (s.heap.objs.size + 1) s.heap.objs.size (I.hok.fresh (Nat.le_succ _)) (I.hok.fresh (Nat.le_refl _)) (Nat.ne_of_lt (Nat.lt_succ_self _))
  have I2 := Inv.made (C := C) I
  have r2 : Vals (V.ref (s.heap.objs.size + 1) :: (vs ++ dvs)) (Value.ref (s.heap.objs.size + 1) :: (us ++ ds)) := .cons rfl (r.append hd)
  have hl : (Value.ref (s.heap.objs.size + 1) :: us ++ ds).length = ps.length := by
    have e := r2.length
    rw [F.len _ _ _ _ hq] at e
    exact e.symm
  refine wpAny_call (make_map (f := f) I.kIn M.makes M.init (beq_iff_eq.mp M.fn) (codeAny_mono (F.run _ X.stack _ _ ⟨Value.ref (s.heap.objs.size + 1) :: us, []⟩ (Value.ref (s.heap.objs.size + 1) :: (us ++ ds)) _ _ E (hr.make C us [])
    (I2.env0.make C us []) (hb _ (Value.ref (s.heap.objs.size + 1) :: us) I2.kIn hl) r2 hq) fun r s' hq' => ?_))
  cases r with
  | error e => exact hx pins σ _ _ e s' I2 hq'
  | ok fl =>
    cases fl with
    | ret u =>
      obtain ⟨v, H', I3, rv, ev, q3⟩ := I2.after hq'
      subst ev
      exact ⟨rv, ⟨V.ref (s.heap.objs.size + 1), H', I3, rfl, q3⟩⟩
    | next => exact False.elim hq'
    | brk => exact False.elim hq'
    | cont => exact False.elim hq'
theorem pe_make (M : Mk X.K C f) (F : FnOk X.prog X.w X.K X.mg X.base CX k f fd ps sp) (hr : Room (k + 1) X.A) (hg : Gl X x) (hm : X.mg x = some (.ref C)) (hb : Binds X.K fd ps ds) (hd : Vals dvs ds) (hx : Passes CX X E)
    (ha : PA X (e :: es) t) (hdb : (x == ("__debug__" : Str)) = false := by decide) (he : starEach (e :: es) X.env = (false, eval e X.env) :: starEach es X.env := by rfl) (hpl : (backTo pos (starEach es X.env)).any (·.1) = false := by rfl) :
    PE X (.Call (.Name x p) (e :: es) [] pos) (tMake C sp dvs E t) := by
  intro pins s σ H Q I h
  refine wpAny_Call_Name_kw (ld_glob I hg hm ?_ hdb)
  refine PySem.W.callWith_K (h₀ := X.base) I.ok.mod.kin M.kp (thn (ha pos pins s σ H _ I h) fun us s1 ⟨vs, H1, I1, r, q⟩ => ⟨I1.kIn, ?_⟩) he hpl
  exact run_make M F hr hb hd hx I1 r q
theorem pe_make0 (M : Mk X.K C f) (F : FnOk X.prog X.w X.K X.mg X.base CX k f fd ps sp) (hr : Room (k + 1) X.A) (hg : Gl X x) (hm : X.mg x = some (.ref C)) (hb : Binds X.K fd ps ds) (hd : Vals dvs ds) (hx : Passes CX X E)
    (hdb : (x == ("__debug__" : Str)) = false := by decide) : PE X (.Call (.Name x p) [] [] pos) (tMake C sp dvs E tNil) := by
  intro pins s σ H Q I h
  refine wpAny_Call_Name_kw (ld_glob I hg hm ?_ hdb)
  exact PySem.W.callWith_K0 I.kIn M.kp (run_make (us := []) M F hr hb hd hx I .nil h)
end

/-! ### keywords -/
/-- the values of the keywords, from the left -/
def PK (X : Cx) (kws : List Keyword) (t : TA) : Prop :=
  ∀ (pos : Pos) (pins : List (Addr × Obj)) (s : Shared) (σ : St) (H : Hp) (Q : List V → Hp → Prop), Inv X pins σ H s → t σ H Q → wpAny (model X.prog X.w) X.A (evalAll ((backToKw pos (keywordEach kws X.env)).map (·.2))) (AP X pins σ Q) X.xe s
section
variable {X : Cx} {CX : CXT} {k : Nat} {f C : Addr} {fd : FuncData} {ps ks : List Str} {sp : Sp} {E : XK} {x m : Str} {p pos apos kpos : Pos} {e o : Expr} {es : List Expr} {kws : List Keyword} {te ta : TE} {t tk : TA} {nm : Option Str}
theorem pk_nil : PK X [] tNil := fun _ _ _ _ H Q I h => wpAny_evalAll_nil ⟨[], H, I, .nil, h⟩
theorem pk_cons (ha : PE X e te) (hr : PK X kws t) : PK X (⟨nm, e, kpos⟩ :: kws) (tCons te t) := by
  intro pos pins s σ H Q I h
  show wpAny _ _ (evalAll ((do let v ← eval e X.env; standAt pos; pure v) :: (backToKw pos (keywordEach kws X.env)).map (·.2))) _ _ s
  refine wpAny_evalAll_cons (wpAny_bind (thn (ha pins s σ H _ I h) fun u s1 ⟨x, H1, I1, r1, q1⟩ => wpAny_bind (wpAny_standAt (wpAny_pure ?_))))
  exact thn (hr pos pins s1 σ H1 _ I1 q1) fun us s2 ⟨xs, H2, I2, r2, q2⟩ => ⟨x :: xs, H2, I2, .cons r1 r2, q2⟩

/-- how a call with keywords binds: g puts the positional values us and the keywords' values ws (names ks) in the parameters' order, defaults among them -/
structure KBinds (K : PySem.W.Frag) (fd : FuncData) (ps ks : List Str) (g : List Value → List Value → List Value) (gV : List V → List V → List V) : Prop where
  to : ∀ (s : Shared) (us ws : List Value), K.In s.heap → (g us ws).length = ps.length → BindsTo s fd ⟨us, ks.zip ws⟩ (ps.zip (g us ws))
  rel : ∀ {vs : List V} {us : List Value} {zs : List V} {ws : List Value}, Vals vs us → Vals zs ws → Vals (gV vs zs) (g us ws)
def tCallK (sp : Sp) (gV : List V → List V → List V) (E : XK) (t tk : TA) : TE := fun σ H Q => t σ H fun vs H1 => tk σ H1 fun zs H2 => sp (gV vs zs) H2 Q E
variable {g : List Value → List Value → List Value} {gV : List V → List V → List V}
theorem run_fnk {pins : List (Addr × Obj)} {σ : St} {H : Hp} {s : Shared} {Q : VK} {us ws : List Value} {vs zs : List V} (F : FnOk X.prog X.w X.K X.mg X.base CX k f fd ps sp) (hr : Room k X.A) (hb : KBinds X.K fd ps ks g gV) (hx : Passes CX X E)
    (I : Inv X pins σ H s) (r : Vals vs us) (rz : Vals zs ws) (h : sp (gV vs zs) H Q E) : wpAny (model X.prog X.w) X.A (call (.ref f) us (ks.zip ws)) (EP X pins σ Q) X.xe s := by
  have r2 := hb.rel r rz
  have hl : (g us ws).length = ps.length := by rw [← r2.length]; exact F.len _ _ _ _ h
  refine wpAny_call (codeAny_mono (F.run X.A X.stack s H ⟨us, ks.zip ws⟩ (g us ws) (gV vs zs) Q E hr I.env0 (hb.to s us ws I.kIn hl) r2 h) fun r s' hq => ?_)
  cases r with
  | error e => exact hx pins σ H s e s' I hq
  | ok fl =>
    cases fl with
    | ret u => exact I.after hq
    | next => exact False.elim hq
    | brk => exact False.elim hq
    | cont => exact False.elim hq
/-- f(e, .., k = v, ..) -/
theorem pe_callK (F : FnOk X.prog X.w X.K X.mg X.base CX k f fd ps sp) (hr : Room k X.A) (hg : Gl X x) (hm : X.mg x = some (.ref f)) (hk : PySem.W.keepIn X.K (.ref f) = true) (hb : KBinds X.K fd ps ks g gV) (hx : Passes CX X E)
    (ha : PA X (e :: es) t) (hkw : PK X kws tk) (hall : (backToKw pos (keywordEach kws X.env)).all (·.1.isSome) = true := by rfl) (hks : (backToKw pos (keywordEach kws X.env)).filterMap (·.1) = ks := by rfl)
    (hdb : (x == ("__debug__" : Str)) = false := by decide) (he : starEach (e :: es) X.env = (false, eval e X.env) :: starEach es X.env := by rfl)
    (hpl : ((backTo pos (starEach (e :: es) X.env)).any (·.1) || (backToKw pos (keywordEach kws X.env)).any (·.1.isNone)) = false := by rfl) :
    PE X (.Call (.Name x p) (e :: es) kws pos) (tCallK sp gV E t tk) := by
  intro pins s σ H Q I h
  refine wpAny_Call_Name_kw (ld_glob I hg hm ?_ hdb)
  refine PySem.W.callWith_KW (h₀ := X.base) I.ok.mod.kin hk hall (thn (ha pos pins s σ H _ I h) fun us s1 ⟨vs, H1, I1, r, q⟩ => ?_) hpl he
  refine thn (hkw pos pins s1 σ H1 _ I1 q) fun ws s2 ⟨zs, H2, I2, rz, q2⟩ => ⟨I2.kIn, ?_⟩
  rw [hks]
  exact run_fnk F hr hb hx I2 r rz q2
end

/-! ### a def's body keeps its promise -/
/-- names: the parameters first -/
structure FnScope (N P : List Str) (sc : Scope) : Prop where
  kind : sc.kind = .function
  co : sc.isCoroutine = false
  gen : sc.isGenerator = false
  nd : N.Nodup
  pre : N.take P.length = P
  par : ∀ x ∈ P, sc.names.lookup x = some .local ∨ sc.names.lookup x = some .cell
  nofree : ∀ y ∈ sc.names, y.2 ≠ .free

theorem bindL_out {kindOf : Str → Option NameKind} {x : Str} : ∀ {binds : List (Str × Value)} {m : Str → Option Value}, (∀ v, (x, v) ∉ binds) → bindL kindOf binds m x = m x
  | [], _, _ => rfl
  | (n, v) :: r, m, h => by
    unfold bindL
    rw [bindL_out fun w hw => h w (List.mem_cons_of_mem _ hw)]
    split
    · have : x ≠ n := by rintro rfl; exact h v List.mem_cons_self
      simp [this]
    · rfl
theorem bindC_out {kindOf : Str → Option NameKind} {x : Str} : ∀ {binds : List (Str × Value)} {m : Str → Option Value}, (∀ v, (x, v) ∉ binds) → bindC kindOf binds m x = m x
  | [], _, _ => rfl
  | (n, v) :: r, m, h => by
    unfold bindC
    rw [bindC_out fun w hw => h w (List.mem_cons_of_mem _ hw)]
    split
    · rfl
    · have : x ≠ n := by rintro rfl; exact h v List.mem_cons_self
      simp [this]
theorem bindL_get {kindOf : Str → Option NameKind} {x : Str} {v : Value} : ∀ {P : List Str} {vs : List Value} {i : Nat} {m : Str → Option Value}, P.Nodup → P[i]? = some x → vs[i]? = some v → kindOf x = some .local →
    bindL kindOf (P.zip vs) m x = some v
  | [], _, _, _, _, h, _, _ => by simp at h
  | _ :: _, [], _, _, _, _, h, _ => by simp at h
  | p :: P, w :: vs, 0, m, nd, h1, h2, hk => by
    simp at h1 h2; subst h1; subst h2
    show bindL kindOf ((p, w) :: P.zip vs) m p = _
    unfold bindL
    rw [bindL_out fun v hv => (List.nodup_cons.mp nd).1 (List.of_mem_zip hv).1, if_pos hk]
    simp
  | p :: P, w :: vs, i + 1, m, nd, h1, h2, hk => by
    show bindL kindOf ((p, w) :: P.zip vs) m x = _
    unfold bindL
    exact bindL_get (i := i) (List.nodup_cons.mp nd).2 (by simpa using h1) (by simpa using h2) hk
theorem bindC_get {kindOf : Str → Option NameKind} {x : Str} {v : Value} : ∀ {P : List Str} {vs : List Value} {i : Nat} {m : Str → Option Value}, P.Nodup → P[i]? = some x → vs[i]? = some v → kindOf x ≠ some .local →
    bindC kindOf (P.zip vs) m x = some v
  | [], _, _, _, _, h, _, _ => by simp at h
  | _ :: _, [], _, _, _, _, h, _ => by simp at h
  | p :: P, w :: vs, 0, m, nd, h1, h2, hk => by
    simp at h1 h2; subst h1; subst h2
    show bindC kindOf ((p, w) :: P.zip vs) m p = _
    unfold bindC
    rw [bindC_out fun v hv => (List.nodup_cons.mp nd).1 (List.of_mem_zip hv).1, if_neg hk]
    simp
  | p :: P, w :: vs, i + 1, m, nd, h1, h2, hk => by
    show bindC kindOf ((p, w) :: P.zip vs) m x = _
    unfold bindC
    exact bindC_get (i := i) (List.nodup_cons.mp nd).2 (by simpa using h1) (by simpa using h2) hk

/-- the names' values at the entry -/
def start (N : List Str) (vs : List V) : St := vs.map some ++ List.replicate (N.length - vs.length) none

/-- the context of a def's body, at its entry; an exception leaves the frame, then lies as CX says -/
def cxOf (CX : CXT) (P : Program) (w : World) (K : PySem.W.Frag) (mg : Str → Option Value) (base : Heap) (N : List Str) (qual : Str) (scope : Scope) (f : Addr) (cd : Value) (A : Around) (outer : List Env) (s : Shared) (H : Hp) (E : XK) : Cx where
  prog := P
  w := w
  K := K
  mg := mg
  base := base
  A := A.deeper (envOfC qual scope s.heap.objs.size f cd)
  N := N
  s₀ := s
  H₀ := H
  env := envOfC qual scope s.heap.objs.size f cd
  outer := outer
  stack := envOfC qual scope s.heap.objs.size f cd :: outer
  ex := []
  calm := true
  fn := fun _ => true
  pn := []
  xe := fun e s' => wpAny (model P w) (A.deeper (envOfC qual scope s.heap.objs.size f cd)) (leaving (envOfC qual scope s.heap.objs.size f cd) e) (fun _ s'' => CX outer H s E e s'') (fun e' s'' => CX outer H s E e' s'') s'

theorem cell_has {sc : Scope} {n : Nat} {x : Str} (h : sc.names.lookup x = some .cell) : ∃ c, (cellsFrom n sc.names []).lookup x = some c := by
  have q := PySem.W.cellsFrom_some sc.names n [] (.inl h)
  exact Option.isSome_iff_exists.mp q

theorem inv_start {CX : CXT} {P : Program} {w : World} {K : PySem.W.Frag} {mg : Str → Option Value} {base : Heap} {N ps : List Str} {qual : Str} {scope : Scope} {f : Addr} {cd : Value} {A : Around} {outer : List Env} {s s1 : Shared} {H : Hp} {E : XK} {us : List Value} {vs : List V}
    (S : FnScope N ps scope) (hd : A.handled = none) (e0 : Env0 P w K mg base A outer s H) (hl : vs.length = ps.length) (r : Vals vs us)
    (x : InCallC s s.heap.objs.size (bindL (envOfC qual scope s.heap.objs.size f cd).kindOf (ps.zip us) fun _ => none) (cellsFrom (s.heap.objs.size + 1) scope.names []) (bindC (envOfC qual scope s.heap.objs.size f cd).kindOf (ps.zip us) fun _ => none) s1) :
    Inv (cxOf CX P w K mg base N qual scope f cd A outer s H E) [] (start N vs) H s1 := by
  have hpl : ps.length ≤ N.length := by have := congrArg List.length S.pre; rw [List.length_take] at this; omega
  obtain ⟨h1, tk, rfl, hk⟩ := x.done
  have noA : ∀ b : Addr, b ∉ (cxOf CX P w K mg base N qual scope f cd A outer s H E).ex := fun b z => absurd (show b ∈ ([] : List Addr) from z) (by simp)
  refine ⟨⟨e0.mod, S.kind, rfl, rfl, Nat.le_refl _, fun y z c h1 h2 => ?_, fun y hy => ?_, fun y c _ h => ?_, fun _ => hd, Around.frames_deeper e0.frames, .inr ⟨rfl, rfl⟩, fun b z => absurd z (noA b), e0.bs, e0.bsz, fun b _ _ => noA b, fun b z => absurd z (noA b), e0.funs, e0.frf⟩,
    rfl, e0.bare, Un.kept hk, ⟨_, x.toInCall.ns, fun i y v h1 h2 h3 => ?_⟩, fun y c h => ⟨_, x.cell y c h⟩, e0.hok.fresh (Nat.le_refl _), fun y c h => ?_, fun p hp => absurd (show p ∈ ([] : List (Addr × Obj)) from hp) (by simp), e0.hok.kept hk, ?_⟩
  · exact name_of_addr x.apart (PySem.mem_of_lookup h1) (PySem.mem_of_lookup h2)
  · have hy : scope.names.lookup y = some .cell ∨ scope.names.lookup y = some .free := hy
    rcases hy with hy | hy
    · exact cell_has hy
    · exact absurd rfl (S.nofree _ (PySem.mem_of_lookup hy))
  · exact Nat.le_of_lt (x.above y c (PySem.mem_of_lookup h))
  · have hi : i < vs.length := by
      unfold start at h2
      by_cases hi : i < vs.length
      · exact hi
      · rw [List.getElem?_append_right (by simpa using hi)] at h2
        rw [List.getElem?_replicate] at h2
        split at h2 <;> cases h2
    have ha : vs[i]? = some v := by
      unfold start at h2
      rw [List.getElem?_append_left (by simpa using hi), List.getElem?_map] at h2
      cases e : vs[i]? with
      | none => rw [e] at h2; cases h2
      | some a => rw [e] at h2; cases h2; rfl
    obtain ⟨u, hu, rv⟩ := r.get ha
    have hp : ps[i]? = some y := by
      rw [← S.pre, List.getElem?_take_of_lt (by omega)]; exact h1
    have ndP : ps.Nodup := by rw [← S.pre]; exact S.nd.sublist (List.take_sublist _ _)
    refine ⟨u, rv, ?_⟩
    rcases S.par y (List.mem_of_getElem? hp) with k | k
    · exact .inl ⟨k, bindL_get ndP hp hu k⟩
    · obtain ⟨c, e⟩ := cell_has (n := s.heap.objs.size + 1) k
      refine .inr ⟨.inl k, c, e, ?_⟩
      have q := x.cell y c e
      rw [bindC_get ndP hp hu (by show scope.names.lookup y ≠ _; rw [k]; decide)] at q
      exact q
  · exact e0.hok.fresh (Nat.le_of_lt (x.above y c (PySem.mem_of_lookup h)))
  · unfold start
    show _ = N.length
    rw [List.length_append, List.length_map, List.length_replicate]
    omega

/-- THE RULE: a def (or a method) of the text, by its body. The body's reading t is chosen for each entry; it is run at the parameters' values -/
theorem fn_of {CX : CXT} {P : Program} {w : World} {K : PySem.W.Frag} {mg : Str → Option Value} {base : Heap} {k : Nat} {f : Addr} {name qual : Str} {params : Arguments} {body : List Stmt} {scope : Scope} {dV kV doc pm cdv ct oc : Value} {an od : Option Addr}
    {osl : Array (Option Value)} {N ps : List Str} {sp : Sp} (lk : K.lookup f = some ⟨oc, od, .func (PySem.W.fnOf name qual params body scope dV kV doc pm an cdv ct), osl⟩) (hcd : PySem.W.codeIn K cdv qual = true) (S : FnScope N ps scope)
    (len : ∀ vs H Q E, sp vs H Q E → vs.length = ps.length)
    (hbody : ∀ (A : Around) (outer : List Env) (s : Shared) (H : Hp) (vs : List V) (Q : VK) (E : XK), Room k (A.deeper (envOfC qual scope s.heap.objs.size f cdv)) → sp vs H Q E →
      ∃ t, PSs (cxOf CX P w K mg base N qual scope f cdv A outer s H E) body t ∧ t { nx := fun _ H' => Q .non H', rt := Q } (start N vs) H) :
    FnOk P w K mg base CX (k + 1) f (PySem.W.fnOf name qual params body scope dV kV doc pm an cdv ct) ps sp := by
  refine ⟨len, fun A outer s H args us vs Q E hr e0 hb r hsp => ?_⟩
  have hl := len _ _ _ _ hsp
  have KX : K.In s.heap := e0.mod.kin.keeps fun b o e => (e0.bs b o e).1
  have lim : s.heap.NoLimit := e0.mod.nolimit.keeps fun b o e => (e0.bs b o e).1
  have hkind : ∀ y ∈ ps.zip us, scope.names.lookup y.1 = some .local ∨ (scope.names.lookup y.1 = some .cell ∧ ((cellsFrom (s.heap.objs.size + 1) scope.names []).lookup y.1).isSome = true) := fun ⟨n, v⟩ hy => by
    rcases S.par n (List.of_mem_zip hy).1 with q | q
    · exact .inl q
    · exact .inr ⟨q, PySem.W.cellsFrom_some _ _ _ (.inl q)⟩
  refine codeAny_call_function hr.depth (KX _ _ lk) rfl S.co S.gen rfl (PySem.W.codeRec_of KX hcd) (hb _ _ _ _ ?_)
  refine wpAny_newFunctionEnv_cells S.kind hkind fun env he s1 x => ?_
  subst he
  refine ⟨lim.keeps x.toInCall.keep, codeAny_func ?_⟩
  obtain ⟨t, ht, hq⟩ := hbody A outer s H vs Q E (hr.deeper _) hsp
  have I : Inv (cxOf CX P w K mg base N qual scope f cdv A outer s H E) [] (start N vs) H s1 := inv_start S hr.hd e0 hl r x
  refine wpAny_mono (ht [] s1 (start N vs) H _ I hq) (fun fl s' hs => ?_) fun e s' hs => hs
  have fin : ∀ {σ' : St} {H' : Hp} {v : V} {u : Value}, Inv (cxOf CX P w K mg base N qual scope f cdv A outer s H E) [] σ' H' s' → RelV v u → Q v H' → CE outer P w H s Q u s' :=
    fun {σ' H' v u} J rv q => ⟨v, H', J.os, J.bare, J.base, J.hok, rv, q⟩
  cases fl with
  | ret u =>
    obtain ⟨v, σ', H', J, rv, q⟩ := hs
    exact fin J rv q
  | next =>
    obtain ⟨σ', H', J, q⟩ := hs
    exact fin (v := V.non) (u := Value.none) J rfl q
  | brk =>
    obtain ⟨_, _, _, q⟩ := hs
    exact False.elim q
  | cont =>
    obtain ⟨_, _, _, q⟩ := hs
    exact False.elim q
end L2

namespace L2
open PySem PySem.Spec PyProof.Rows
section
variable {X : Cx} {x : Str} {p pos : Pos} {e : Expr} {es : List Expr} {t : TA} {id T : String} {r : List V → Hp → VK → Prop}

def tCB (r : List V → Hp → VK → Prop) (t : TA) : TE := fun σ H Q => t σ H fun vs H1 => r vs H1 Q
/-- f(e, ..), f a built-in function -/
theorem pe_callB (hc : CallR X (.builtin id) r) (hg : Gl X x) (hm : X.mg x = none) (hv : bootBuiltins x = some (.builtin id)) (ha : PA X (e :: es) t) (hn : x ≠ "__name__" := by decide) (hdb : (x == ("__debug__" : Str)) = false := by decide)
    (he : starEach (e :: es) X.env = (false, eval e X.env) :: starEach es X.env := by rfl) (hpl : (backTo pos (starEach es X.env)).any (·.1) = false := by rfl) : PE X (.Call (.Name x p) (e :: es) [] pos) (tCB r t) := by
  intro pins s σ H Q I h
  refine wpAny_Call_Name_kw (ld_blt I hg hm hv ?_ hn hdb)
  exact PyProof.Rows.callWith_builtin1 (thn (ha pos pins s σ H _ I h) fun us s1 ⟨vs, H1, I1, r1, q1⟩ => hc pins s1 σ H1 vs us Q I1 r1 q1) he hpl
/-- T(e, ..), T a built-in type -/
theorem pe_callTy (hc : CallR X (.type T) r) (hg : Gl X x) (hm : X.mg x = none) (hv : bootBuiltins x = some (.type T)) (ha : PA X (e :: es) t) (hn : x ≠ "__name__" := by decide) (hdb : (x == ("__debug__" : Str)) = false := by decide)
    (he : starEach (e :: es) X.env = (false, eval e X.env) :: starEach es X.env := by rfl) (hpl : (backTo pos (starEach es X.env)).any (·.1) = false := by rfl) : PE X (.Call (.Name x p) (e :: es) [] pos) (tCB r t) := by
  intro pins s σ H Q I h
  refine wpAny_Call_Name_kw (ld_blt I hg hm hv ?_ hn hdb)
  exact PyProof.Rows.callWith_type1 (thn (ha pos pins s σ H _ I h) fun us s1 ⟨vs, H1, I1, r1, q1⟩ => hc pins s1 σ H1 vs us Q I1 r1 q1) he hpl
/-- T() -/
theorem pe_callTy0 (hc : CallR X (.type T) r) (hg : Gl X x) (hm : X.mg x = none) (hv : bootBuiltins x = some (.type T)) (hn : x ≠ "__name__" := by decide) (hdb : (x == ("__debug__" : Str)) = false := by decide) :
    PE X (.Call (.Name x p) [] [] pos) (tCB r tNil) := by
  intro pins s σ H Q I h
  refine wpAny_Call_Name_kw (ld_blt I hg hm hv ?_ hn hdb)
  exact PyProof.Rows.callWith_type0 (hc pins s σ H [] [] Q I .nil h)
end
end L2

namespace HT
open PySem PyProof.Rows

/-- t < u of tuples of ints -/
def lexLt : List Int → List Int → Bool
  | [], [] => false
  | [], _ :: _ => true
  | _ :: _, [] => false
  | x :: xs, y :: ys => if x = y then lexLt xs ys else decide (x < y)
theorem lexLt_cons (x y : Int) (xs ys : List Int) : lexLt (x :: xs) (y :: ys) = if x = y then lexLt xs ys else decide (x < y) := rfl
theorem lexLt_nil_nil : lexLt [] [] = false := rfl
theorem lexLt_nil_cons (y : Int) (ys : List Int) : lexLt [] (y :: ys) = true := rfl
theorem lexLt_cons_nil (x : Int) (xs : List Int) : lexLt (x :: xs) [] = false := rfl

theorem eqAt_int (A : Around) (s : Shared) (a : Int) (t : Tok) (c : Int) (u : Tok) : ∃ e, SeqAt.EqAt A s (.int a t) (.int c u) e ∧ (e = true ↔ a = c) :=
  ⟨(a == c), SeqAt.EqAt.int_int a t c u, by simp⟩
theorem rcLt_int (A : Around) (s : Shared) (a : Int) (t : Tok) (c : Int) (u : Tok) (prog : Program) (w : World) (E : Value → Shared → Prop) (Q : Value → Shared → Prop) (h : Q (.bool (decide (a < c))) s) :
    wpAny (model prog w) A (richCompare .Lt (.int a t) (.int c u)) Q E s :=
  (PyProof.Rows.lt_int h : wpAny (model prog w) A (compareOp .Lt (.int a t) (.int c u)) Q E s)

section
open PySem.SeqAt
open PySem.AutoSeq1 (wpAny_loadPart')
open PySem.MeetsSeq PySem.MeetsSeq2 PySem.MeetsSeq3

theorem tuple_lt_ints (l b : Addr) (items items2 : Array Value) (n n2 : Nat) (dd dd2 : Option Addr) (sl sl2 : Array (Option Value)) (ns ms : List Int) (hi : IntsAre items.toList ns) (hj : IntsAre items2.toList ms) :
    Meets (Builtin.«tuple.__lt__» ⟨[.ref l, .ref b], []⟩)
      (fun _ R s => s.heap.get? l = some { cls := .type "tuple", dict := dd, data := .seq items n, slots := sl } ∧ s.heap.get? b = some { cls := .type "tuple", dict := dd2, data := .seq items2 n2, slots := sl2 } ∧
        R (.ok (.ret (.bool (lexLt ns ms)))) s) :=
  .of_wp fun prog w A R s h => by
    obtain ⟨hp, g, d, tk, os⟩ := s; obtain ⟨hl, hb, h⟩ := h
    have f2 := AutoSeq1.sub_tuple_tuple
    have z1 : items.size = ns.length := by rw [← hi.length]; simp
    have z2 : items2.size = ms.length := by rw [← hj.length]; simp
    wp_walk using wpAny_loadPart' hl, wpAny_loadPart' hb, wpAny_forIn_list _ (fun rest b s' => b.1 = none ∧ s' = ⟨hp, g, d, tk, os⟩ ∧ ∃ (vs ws : List Value) (ns' ms' : List Int), rest = vs.zip ws ∧
      IntsAre vs ns' ∧ IntsAre ws ms' ∧ ns'.length + items2.size = ms'.length + items.size ∧ R (.ok (.ret (.bool (lexLt ns' ms')))) ⟨hp, g, d, tk, os⟩) _
    case turn =>
      rintro ⟨y, x⟩ rest b s' ⟨hb', rfl, vs, ws, ns', ms', hz, hvi, hwi, hlen, hR⟩
      cases hvi with
      | nil => rw [List.zip_nil_left] at hz; cases hz
      | cons a t hvi' =>
        cases hwi with
        | nil => rw [List.zip_nil_right] at hz; cases hz
        | cons c u hwi' =>
          rw [List.zip_cons_cons] at hz
          injection hz with hyx hrest
          injection hyx with hy hx
          subst hy hx
          rw [lexLt_cons] at hR
          simp only [List.length_cons] at hlen
          obtain ⟨e, he, hiff⟩ := eqAt_int A.in1 ⟨hp, g, d, tk, os⟩ a t c u
          refine wpAny_bind (he prog w _ _ ?_)
          cases e with
          | true =>
            rw [if_pos (hiff.mp rfl)] at hR
            wp_walk
            exact ⟨rfl, rfl, _, _, _, _, hrest, hvi', hwi', by omega, hR⟩
          | false =>
            rw [if_neg (fun q => absurd (hiff.mpr q) Bool.false_ne_true)] at hR
            have hri := rcLt_int A.in1 ⟨hp, g, d, tk, os⟩ a t c u prog w
            wp_walk using hri
            exact ⟨_, rfl, by simpa using hR⟩
    case fin =>
      rintro ⟨b1, b2⟩ s' ⟨hb', rfl, vs, ws, ns', ms', hz, hvi, hwi, hlen, hR⟩
      simp only at hb'
      subst hb'
      have hv : lexLt ns' ms' = decide (items.size < items2.size) := by
        cases hvi with
        | nil =>
          cases hwi with
          | nil =>
            simp only [List.length_nil] at hlen
            rw [lexLt_nil_nil]
            exact (decide_eq_false (by omega)).symm
          | cons c u hw =>
            simp only [List.length_nil, List.length_cons] at hlen
            rw [lexLt_nil_cons]
            exact (decide_eq_true (by omega)).symm
        | cons a t hv =>
          cases hwi with
          | nil =>
            simp only [List.length_nil, List.length_cons] at hlen
            rw [lexLt_cons_nil]
            exact (decide_eq_false (by omega)).symm
          | cons c u hw =>
            rw [List.zip_cons_cons] at hz
            cases hz
      rw [hv] at hR
      wp_walk
      exact ⟨_, rfl, by simpa [Builtin.Tuple.tupleCompareSizes] using hR⟩
    case h =>
      exact ⟨rfl, rfl, items.toList, items2.toList, ns, ms, rfl, hi, hj, by omega, h⟩
end

section
variable {prog : Program} {w : World} {A : Around} {E : Value → Shared → Prop} {s : Shared}

theorem lt_tupInts {l b : Addr} {items items2 : Array Value} {ns ms : List Int} {Q : Value → Shared → Prop} (hl : IsTup s.heap l items) (hb : IsTup s.heap b items2) (hi : IntsAre items.toList ns) (hj : IntsAre items2.toList ms)
    (hu : A.units < cLine) (h : Q (.bool (lexLt ns ms)) s) : wpAny (model prog w) A (compareOp .Lt (.ref l) (.ref b)) Q E s := by
  obtain ⟨⟨cls, dd, data, sl⟩, ho, hc, n, hd⟩ := id hl
  obtain ⟨⟨cls2, dd2, data2, sl2⟩, ho2, hc2, n2, hd2⟩ := id hb
  simp only at hc hd hc2 hd2
  subst hc hd hc2 hd2
  exact richCompare_meets_room (op := .Lt) ⟨_, ho, rfl⟩ ⟨_, ho2, rfl⟩ PySem.F.slot_tuple_lt PySem.F.entry_tuple_lt (PySem.F.args_tuple_lt_2 _ _) (tuple_lt_ints l b items items2 n n2 dd dd2 sl sl2 ns ms hi hj)
    ⟨ho, ho2, show Value.bool (lexLt ns ms) ≠ Value.notImplemented ∧ Q (.bool (lexLt ns ms)) s from ⟨(fun x => nomatch x), h⟩⟩ hu

/-- t + u, t not empty -/
theorem cat_tup {t b : Addr} {vs ws : List Value} {Q : Value → Shared → Prop} (ht : IsTup s.heap t vs.toArray) (hb : IsTup s.heap b ws.toArray) (hv : vs ≠ [])
    (h1 : ws = [] → Q (.ref t) s) (h2 : ws ≠ [] → Q (.ref s.heap.objs.size) { s with heap := s.heap.push { cls := .type "tuple", data := .seq (vs ++ ws).toArray } })
    (hsz : vs.length + ws.length ≤ sizeLine) : wpAny (model prog w) A (binaryOp .Add (.ref t) (.ref b)) Q E s := by
  obtain ⟨⟨cls, dd, data, sl⟩, ho, hc, n, hd⟩ := id ht
  obtain ⟨⟨cls2, dd2, data2, sl2⟩, ho2, hc2, n2, hd2⟩ := id hb
  simp only at hc hd hc2 hd2
  subst hc hd hc2 hd2
  have e : vs.toArray ++ ws.toArray = (vs ++ ws).toArray := by simp
  by_cases hw : ws = []
  · exact concat_meets ⟨_, ho, rfl⟩ ⟨_, ho2, rfl⟩ noFill_tuple_add seq_tuple_add PySem.F.slot_tuple_add PySem.F.entry_tuple_add (PySem.F.args_tuple_add_2 _ _)
      (tuple_addW1 t b vs.toArray ws.toArray n n2 dd dd2 sl sl2 (by simpa using hv) (by simp [hw])) ⟨ho, ho2, h1 hw⟩
  · refine concat_meets ⟨_, ho, rfl⟩ ⟨_, ho2, rfl⟩ noFill_tuple_add seq_tuple_add PySem.F.slot_tuple_add PySem.F.entry_tuple_add (PySem.F.args_tuple_add_2 _ _)
      (tuple_addW2 t b vs.toArray ws.toArray n n2 dd dd2 sl sl2 (by simpa using hv) (by simpa using hw) (by rw [List.size_toArray, List.size_toArray]; exact hsz)) ⟨ho, ho2, ?_⟩
    rw [e]
    exact h2 hw

/-! ### t[a:b], not the whole -/
/-- a slice's bound as a place among n (d where it is left out) -/
def sIx (n d : Nat) : Option Int → Nat
  | none => d
  | some v => if v < 0 then (v + (n : Int)).toNat else min v.toNat n
theorem sIx_none (n d : Nat) : sIx n d none = d := rfl
theorem sIx_nat (n d k : Nat) : sIx n d (some (k : Int)) = min k n := by
  show (if (k : Int) < 0 then ((k : Int) + (n : Int)).toNat else min (k : Int).toNat n) = min k n
  rw [if_neg (by omega), Int.toNat_natCast]
theorem sIx_le (n d : Nat) (hd : d ≤ n) (o : Option Int) : sIx n d o ≤ n := by
  cases o with
  | none => exact hd
  | some v =>
    show (if v < 0 then (v + (n : Int)).toNat else min v.toNat n) ≤ n
    by_cases hv : v < 0
    · rw [if_pos hv]; omega
    · rw [if_neg hv]; exact Nat.min_le_right _ _
theorem clip_eq (v : Int) (n d : Nat) : (if v < 0 then max (v + (n : Int)) 0 else min v (n : Int)) = ((sIx n d (some v) : Nat) : Int) := by
  show (if v < 0 then max (v + (n : Int)) 0 else min v (n : Int)) = (((if v < 0 then (v + (n : Int)).toNat else min v.toNat n) : Nat) : Int)
  by_cases hv : v < 0
  · simp only [if_pos hv]; omega
  · simp only [if_neg hv]; omega
theorem adjust_gen (lo hi : Option Int) (n : Nat) : Builtin.Slice.sliceAdjust lo hi 1 (n : Int) = (((sIx n 0 lo : Nat) : Int), ((sIx n n hi : Nat) : Int)) := by
  have h1 : ¬ ((1 : Int) < 0) := by omega
  unfold Builtin.Slice.sliceAdjust
  simp only [h1, if_false]
  refine Prod.ext ?_ ?_
  · cases lo with
    | none => rfl
    | some v => exact clip_eq v n 0
  · cases hi with
    | none => rfl
    | some v => exact clip_eq v n n
theorem places_gen (i j : Nat) : Builtin.Slice.slicePlaces (i : Int) (j : Int) 1 = j - i := by
  unfold Builtin.Slice.slicePlaces
  have h1 : (1 : Int) > 0 := by omega
  simp only [h1, if_true, Int.ediv_one]
  split <;> omega
theorem slicePart_ {v : Value} {o : Option Int} {Q : Option Int → Shared → Prop} (p : IsPart v o) (h : Q o s) : wpAny (model prog w) A (Builtin.Slice.slicePartIndex v) Q E s := by
  cases p with
  | none => exact slicePart_none h
  | int i t => exact slicePart_int h
theorem sliceApplied_gen {sl : Addr} {vl vu : Value} {lo hi : Option Int} {n : Nat} {Q : Int × Int × Nat → Shared → Prop} (hs : s.heap.IsSliceOf sl vl vu .none) (pl : IsPart vl lo) (pu : IsPart vu hi)
    (h : Q (((sIx n 0 lo : Nat) : Int), 1, sIx n n hi - sIx n 0 lo) s) : wpAny (model prog w) A (Builtin.Slice.sliceApplied (.ref sl) (pure (n : Int))) Q E s := by
  obtain ⟨os, hos, hcs, hds⟩ := id hs
  unfold Builtin.Slice.sliceApplied Builtin.Slice.sliceFields
  refine wpAny_bind (wpAny_bind (wpAny_field hos hds (x := vl) rfl (wpAny_bind (wpAny_field hos hds (x := vu) rfl (wpAny_bind (wpAny_field hos hds (x := .none) rfl (wpAny_pure ?_)))))))
  refine wpAny_bind (slicePart_none ?_)
  show wpAny _ _ (if ((1 : Int) == 0) = true then _ else _) _ _ s
  rw [if_neg (by decide)]
  refine wpAny_bind (slicePart_ pl (wpAny_bind (slicePart_ pu (wpAny_bind (wpAny_pure ?_)))))
  show wpAny _ _ (match Builtin.Slice.sliceAdjust lo hi 1 (n : Int) with | (lo, hi) => pure (lo, (1 : Int), Builtin.Slice.slicePlaces lo hi 1)) _ _ s
  rw [adjust_gen lo hi n]
  show wpAny _ _ (pure (((sIx n 0 lo : Nat) : Int), (1 : Int), Builtin.Slice.slicePlaces ((sIx n 0 lo : Nat) : Int) ((sIx n n hi : Nat) : Int) 1)) _ _ s
  rw [places_gen]
  exact wpAny_pure h
theorem pick_gen (xs : Array Value) (i k : Nat) : ((List.range k).filterMap fun (m : Nat) => xs[((i : Int) + (m : Int) * 1).toNat]?).toArray = ((xs.toList.drop i).take k).toArray := by
  have e : (fun (m : Nat) => xs[((i : Int) + (m : Int) * 1).toNat]?) = fun m => xs[i + m]? := by
    funext m
    have : ((i : Int) + (m : Int) * 1).toNat = i + m := by omega
    rw [this]
  rw [e]
  have := pick_run xs i k
  rw [List.filterMap_map] at this
  have e2 : ((fun x => xs[x]?) ∘ fun x => i + x) = fun m => xs[i + m]? := rfl
  rw [e2] at this
  rw [this]

theorem getItem_tuple_cut {t sl : Addr} {items : Array Value} {vl vu : Value} {lo hi : Option Int} {Q : Value → Shared → Prop} (ht : IsTup s.heap t items) (hs : s.heap.IsSliceOf sl vl vu .none) (pl : IsPart vl lo) (pu : IsPart vu hi)
    (hw : ¬ (sIx items.size 0 lo = 0 ∧ sIx items.size items.size hi = items.size))
    (h : Q (.ref s.heap.objs.size) { s with heap := s.heap.push { cls := .type "tuple", data := .seq ((items.toList.drop (sIx items.size 0 lo)).take (sIx items.size items.size hi - sIx items.size 0 lo)).toArray } })
    (hsz : items.size ≤ sizeLine) : wpAny (model prog w) A (getItem (.ref t) (.ref sl)) Q E s := by
  have htake : sizeOk (.seq ((items.toList.drop (sIx items.size 0 lo)).take (sIx items.size items.size hi - sIx items.size 0 lo)).toArray) := by
    show ((items.toList.drop (sIx items.size 0 lo)).take (sIx items.size items.size hi - sIx items.size 0 lo)).toArray.size ≤ sizeLine
    rw [List.size_toArray, List.length_take, List.length_drop, Array.length_toList]
    omega
  have hj : sIx items.size items.size hi ≤ items.size := sIx_le _ _ (Nat.le_refl _) hi
  obtain ⟨os, hos, hcs, hds⟩ := id hs
  have hTs : s.TypeIs (.ref sl) "slice" := ⟨os, hos, hcs⟩
  unfold getItem
  try with_reducible refine wpAny_holding ?_
  first | refine wpAny_bind (wpAny_pure ?_) | skip
  refine wpAny_bind (wpAny_sequenceKey ht.typeIs (by decide) ?_)
  refine wpAny_bind (wpAny_callSpecial?_slot (name := Str.ofString "__getitem__") ht.typeIs PyProof.Rows.slot_tuple_getitem
    (wpAny_call_entry PyProof.Rows.slot_tuple_getitem ht.typeIs entry_tuple_getitem ?_ (args_tuple_getitem _ _)))
  show wpAny _ _ (Builtin.Tuple.tupleItemsOf (.ref t) >>= _) _ _ s
  refine wpAny_bind (tupleItemsOf_ ht ?_)
  refine wpAny_bind (wpAny_typeOf hTs ?_)
  rw [if_pos (by decide)]
  refine wpAny_bind (sliceApplied_gen hs pl pu ?_)
  have hno : ¬ ((((sIx items.size 0 lo : Nat) : Int) == 0 && (1 : Int) == 1 && (sIx items.size items.size hi - sIx items.size 0 lo) == items.size) = true) := by
    intro q
    rw [Bool.and_eq_true, Bool.and_eq_true] at q
    have q1 : ((sIx items.size 0 lo : Nat) : Int) = 0 := eq_of_beq q.1.1
    have q2 : sIx items.size items.size hi - sIx items.size 0 lo = items.size := eq_of_beq q.2
    exact hw ⟨by omega, by omega⟩
  show wpAny _ _ (if (((sIx items.size 0 lo : Nat) : Int) == 0 && (1 : Int) == 1 && (sIx items.size items.size hi - sIx items.size 0 lo) == items.size) = true then _ else _) _ _ s
  rw [if_neg hno, pick_gen]
  first
    | exact wpAny_bind (m := Builtin.Tuple.tupleExact _) (wpAny_newObj_type (wpAny_pure ⟨_, rfl, wpAny_pure h⟩) htake)
    | exact wpAny_bind (m := Builtin.Tuple.tupleExact _) (wpAny_newObj_type (wpAny_bind (wpAny_pure (wpAny_pure ⟨_, rfl, wpAny_pure h⟩))) htake)
    | exact wpAny_bind (wpAny_bind (m := Builtin.Tuple.tupleExact _) (wpAny_newObj_type (wpAny_pure (wpAny_pure ⟨_, rfl, wpAny_pure h⟩)) htake))
    | exact wpAny_bind (wpAny_bind (m := Builtin.Tuple.tupleExact _) (wpAny_newObj_type (wpAny_pure ⟨_, rfl, wpAny_pure h⟩) htake))
end
end HT

namespace L2
open PySem PySem.Spec PyProof.Rows

/-! ### the parts of a slice -/
abbrev TO := St → Hp → (Option Int → Hp → Prop) → Prop
/-- a slice's part (left out, or an int) -/
def PO (X : Cx) (e : Option Expr) (t : TO) : Prop :=
  ∀ (pins : List (Addr × Obj)) (s : Shared) (σ : St) (H : Hp) (Q : Option Int → Hp → Prop), Inv X pins σ H s → t σ H Q →
    wpAny (model X.prog X.w) X.A (evalPart e X.env) (fun u s' => ∃ o H', Inv X pins σ H' s' ∧ IsPart u o ∧ Q o H') X.xe s
def tNoPart : TO := fun _ H Q => Q none H
def tPart (t : TE) : TO := fun σ H Q => t σ H fun x H1 => ∃ i, x = .int i ∧ Q (some i) H1

theorem intsAre_of {ns : List Int} : ∀ {us : List Value}, Vals (ns.map V.int) us → IntsAre us ns := by
  induction ns with
  | nil => intro us r; rw [List.map_nil] at r; cases r; exact .nil
  | cons n ns ih =>
    intro us r
    rw [List.map_cons] at r
    cases r with
    | cons r1 r2 =>
      obtain ⟨t, e⟩ := r1
      subst e
      exact .cons n t (ih r2)

section
variable {X : Cx} {e : Expr} {te : TE} {lo hi : Option Expr} {tl th : TO} {pos p2 : Pos}

theorem po_none : PO X none tNoPart := by
  intro pins s σ H Q I h
  rw [evalPart_none]
  exact wpAny_pure ⟨none, H, I, .none, h⟩
theorem po_some (h : PE X e te) : PO X (some e) (tPart te) := by
  intro pins s σ H Q I hw
  rw [evalPart_some]
  refine thn (h pins s σ H _ I hw) fun u s1 ⟨x, H1, I1, r1, q1⟩ => ?_
  obtain ⟨i, rfl, q⟩ := q1
  obtain ⟨t, rfl⟩ := r1
  exact ⟨some i, H1, I1, .int i t, q⟩

/-- what a slice of a value is, by values: the slice object stands at sl -/
def SlR (X : Cx) (r : V → Option Int → Option Int → Hp → VK → Prop) : Prop :=
  ∀ (pins : List (Addr × Obj)) (s : Shared) (σ : St) (H : Hp) (x : V) (v vl vu : Value) (lo hi : Option Int) (sl : Addr) (Q : VK), Inv X pins σ H s → RelV x v → s.heap.IsSliceOf sl vl vu .none → IsPart vl lo → IsPart vu hi → r x lo hi H Q →
    ∃ T id, typeLookup (.type T) "__getitem__" = pure (some (.builtin id)) ∧ s.TypeIs v T ∧ wpAny (model X.prog X.w) X.A (getItem v (.ref sl)) (EP X pins σ Q) X.xe s
theorem SlR.or {r r' : V → Option Int → Option Int → Hp → VK → Prop} (h : SlR X r) (h' : SlR X r') : SlR X (fun x lo hi H Q => r x lo hi H Q ∨ r' x lo hi H Q) := by
  intro pins s σ H x v vl vu lo hi sl Q I rx hs pl pu q
  rcases q with q | q
  · exact h pins s σ H x v vl vu lo hi sl Q I rx hs pl pu q
  · exact h' pins s σ H x v vl vu lo hi sl Q I rx hs pl pu q
def tSl (r : V → Option Int → Option Int → Hp → VK → Prop) (te : TE) (tl th : TO) : TE := fun σ H Q => te σ H fun x H1 => tl σ H1 fun l H2 => th σ H2 fun u H3 => r x l u H3 Q
/-- a[lo:hi], any a -/
theorem pe_slice {r : V → Option Int → Option Int → Hp → VK → Prop} (hr : SlR X r) (he : PE X e te) (hl : PO X lo tl) (hu : PO X hi th) : PE X (.Subscript e (.Slice lo hi none p2) pos) (tSl r te tl th) := by
  intro pins s σ H Q I h
  refine Subscript_ (thn (he pins s σ H _ I h) fun v s1 ⟨x, H1, I1, r1, q1⟩ => ?_)
  refine wpAny_Slice (thn (hl pins s1 σ H1 _ I1 q1) fun vl s2 ⟨l, H2, I2, pl, q2⟩ => thn (hu pins s2 σ H2 _ I2 q2) fun vu s3 ⟨u, H3, I3, pu, q3⟩ => ?_)
  rw [evalPart_none]
  refine wpAny_pure ?_
  have I4 : Inv X pins σ H3 { s3 with heap := s3.heap.push { cls := .type "slice", data := .fields #[vl, vu, .none] } } := I3.kept (t' := s3.toks) fun b ob q => Heap.get?_push_of_some _ q
  obtain ⟨T, id, hT, ht, hg⟩ := hr pins { s3 with heap := s3.heap.push { cls := .type "slice", data := .fields #[vl, vu, .none] } } σ H3 x v vl vu l u s3.heap.objs.size Q I4 r1 (Heap.IsSliceOf.new ..) pl pu q3
  show wpAny (model X.prog X.w) X.A (subscriptTail e (.Slice lo hi none p2) v (.ref s3.heap.objs.size)) (EP X pins σ Q) X.xe { s3 with heap := s3.heap.push { cls := .type "slice", data := .fields #[vl, vu, .none] } }
  exact tail_any (ops := [.ref s3.heap.objs.size, v]) ht hT hg (by with_unfolding_all rfl)

/-- the items of xs[lo:hi] -/
def cutV (xs : List V) (lo hi : Option Int) : List V := (xs.drop (HT.sIx xs.length 0 lo)).take (HT.sIx xs.length xs.length hi - HT.sIx xs.length 0 lo)
theorem cutV_length (xs : List V) (lo hi : Option Int) : (cutV xs lo hi).length ≤ xs.length := by
  unfold cutV
  rw [List.length_take, List.length_drop]
  omega
/-- t[lo:hi], not the whole of it (the whole would be t itself) -/
def rSlT (K : PySem.W.Frag) : V → Option Int → Option Int → Hp → VK → Prop := fun x lo hi H Q => ∃ a xs, x = .ref a ∧ SqT K H a xs ∧
  ¬ (HT.sIx xs.length 0 lo = 0 ∧ HT.sIx xs.length xs.length hi = xs.length) ∧ ∀ p, H p = none → Q (.ref p) (upd H p (.tup (cutV xs lo hi)))
theorem sl_tup : SlR X (rSlT X.K) := by
  intro pins s σ H x v vl vu lo hi sl Q I rx hs pl pu h
  obtain ⟨a, xs, rfl, hx, hw, q⟩ := h
  cases rx
  obtain ⟨its, r, ht, hz⟩ := I.tuple hx
  have hlen : its.toArray.size = xs.length := by rw [List.size_toArray]; exact r.length.symm
  refine ⟨"tuple", _, PyProof.Rows.slot_tuple_getitem.lookup, ht.typeIs, ?_⟩
  refine HT.getItem_tuple_cut ht hs pl pu (by rw [hlen]; exact hw) ?_ (by rw [hlen]; exact hz)
  rw [hlen]
  refine ⟨.ref s.heap.objs.size, _, I.laid (t' := s.toks) (o := .tup (cutV xs lo hi)) (fun b ob q => Heap.get?_push_of_some _ q) (Nat.le_refl _) ?_, rfl, q _ (I.hok.fresh (Nat.le_refl _))⟩
  exact ⟨Nat.le_trans (cutV_length xs lo hi) hz, _, (r.drop (HT.sIx xs.length 0 lo)).take (HT.sIx xs.length xs.length hi - HT.sIx xs.length 0 lo), IsTup.new _ _⟩

/-! ### t < u, t + u -/
def rLtT (K : PySem.W.Frag) : R2 := fun x y H Q => ∃ a b ns ms, x = .ref a ∧ y = .ref b ∧ SqT K H a (ns.map V.int) ∧ SqT K H b (ms.map V.int) ∧ Q (.bl (HT.lexLt ns ms)) H
theorem op_ltT (hu : X.A.units < cLine) : OpR X (compareOp .Lt) (rLtT X.K) := by
  intro pins s σ H x y v u Q I rx ry h
  obtain ⟨a, b, ns, ms, rfl, rfl, ha, hb, q⟩ := h
  cases rx
  cases ry
  obtain ⟨its, r1, p1, _⟩ := I.tuple ha
  obtain ⟨its2, r2, p2, _⟩ := I.tuple hb
  have i1 : IntsAre its.toArray.toList ns := intsAre_of r1
  have i2 : IntsAre its2.toArray.toList ms := intsAre_of r2
  exact HT.lt_tupInts p1 p2 i1 i2 hu ⟨.bl (HT.lexLt ns ms), H, I, rfl, q⟩
/-- t + u, t not empty: u empty gives t itself -/
def rCatT (K : PySem.W.Frag) : R2 := fun x y H Q => ∃ a b xs ys, x = .ref a ∧ y = .ref b ∧ SqT K H a xs ∧ SqT K H b ys ∧ xs ≠ [] ∧ xs.length + ys.length ≤ sizeLine ∧
  (ys = [] → Q (.ref a) H) ∧ (ys ≠ [] → ∀ p, H p = none → Q (.ref p) (upd H p (.tup (xs ++ ys))))
theorem Vals.nil_iff {xs : List V} {us : List Value} (r : Vals xs us) : us = [] ↔ xs = [] := by
  cases r with
  | nil => simp
  | cons _ _ => simp
theorem op_catT : OpR X (binaryOp .Add) (rCatT X.K) := by
  intro pins s σ H x y v u Q I rx ry h
  obtain ⟨a, b, xs, ys, rfl, rfl, ha, hb, hx, hz, q1, q2⟩ := h
  cases rx
  cases ry
  obtain ⟨its, r1, p1, _⟩ := I.tuple ha
  obtain ⟨its2, r2, p2, _⟩ := I.tuple hb
  refine HT.cat_tup p1 p2 (fun z => hx (r1.nil_iff.mp z)) (fun z => ⟨.ref a, H, I, rfl, q1 (r2.nil_iff.mp z)⟩) (fun z => ?_) (by rw [← r1.length, ← r2.length]; exact hz)
  refine ⟨.ref s.heap.objs.size, _, I.laid (t' := s.toks) (o := .tup (xs ++ ys)) (fun b ob q => Heap.get?_push_of_some _ q) (Nat.le_refl _) ?_, rfl, q2 (fun w => z (r2.nil_iff.mpr w)) _ (I.hok.fresh (Nat.le_refl _))⟩
  exact ⟨by rw [List.length_append]; exact hz, _, r1.append r2, IsTup.new _ _⟩
/-- tuple(t) -/
theorem call_tupleT : CallR X (.type "tuple") (fun xs H Q => ∃ a ys, xs = [.ref a] ∧ SqT X.K H a ys ∧ Q (.ref a) H) := by
  intro pins s σ H xs us Q I r h
  obtain ⟨a, ys, rfl, ha, q⟩ := h
  obtain ⟨u, rfl, ru⟩ := vals1 r
  cases ru
  obtain ⟨its, _, p1, _⟩ := I.tuple ha
  exact call_tuple_same (items := its.toArray) p1 ⟨.ref a, H, I, rfl, q⟩
end
end L2

namespace L2
open PySem PySem.Spec PyProof.Rows

/-! ### places -/
/-- the place that an index of any sign means -/
def ixN (n : Nat) (i : Int) : Option Nat := if 0 ≤ i then (if i < n then some i.toNat else none) else if -(n : Int) ≤ i then some (i + n).toNat else none
def atI {α : Type} (xs : List α) (i : Int) : Option α := (ixN xs.length i).bind fun j => xs[j]?
theorem ixN_seq {n : Nat} {i : Int} {j : Nat} (h : ixN n i = some j) : seqIndex? i n = some j ∧ j < n ∧ -(n : Int) ≤ i ∧ i < n := by
  unfold ixN at h
  by_cases h0 : 0 ≤ i
  · rw [if_pos h0] at h
    by_cases h1 : i < n
    · rw [if_pos h1] at h
      have e : i.toNat = j := Option.some.inj h
      exact ⟨by rw [seqIndex_of h0 h1, e], by omega, by omega, h1⟩
    · rw [if_neg h1] at h; cases h
  · rw [if_neg h0] at h
    by_cases h1 : -(n : Int) ≤ i
    · rw [if_pos h1] at h
      have e : (i + n).toNat = j := Option.some.inj h
      exact ⟨by rw [seqIndex_neg (by omega) h1, e], by omega, h1, by omega⟩
    · rw [if_neg h1] at h; cases h
theorem atI_get {α : Type} {xs : List α} {i : Int} {v : α} (h : atI xs i = some v) : ∃ j, seqIndex? i xs.length = some j ∧ xs[j]? = some v ∧ j < xs.length ∧ -(xs.length : Int) ≤ i ∧ i < xs.length := by
  unfold atI at h
  cases e : ixN xs.length i with
  | none => rw [e] at h; cases h
  | some j =>
    rw [e] at h
    obtain ⟨h1, h2, h3, h4⟩ := ixN_seq e
    exact ⟨j, h1, h, h2, h3, h4⟩
theorem atI_nat {α : Type} {xs : List α} {j : Nat} {v : α} (h : xs[j]? = some v) : atI xs (j : Int) = some v := by
  have hj : j < xs.length := (List.getElem?_eq_some_iff.mp h).1
  have e : ixN xs.length (j : Int) = some j := by
    unfold ixN
    rw [if_pos (by omega), if_pos (by omega)]; simp
  unfold atI; rw [e]; exact h
theorem atI_last {α : Type} (xs : List α) (v : α) : atI (xs ++ [v]) (-1) = some v := by
  have hl : (xs ++ [v]).length = xs.length + 1 := by simp
  have e : ixN (xs ++ [v]).length (-1) = some xs.length := by
    unfold ixN
    rw [hl, if_neg (by decide), if_pos (by omega)]
    congr 1
    omega
  unfold atI
  rw [e]
  show (xs ++ [v])[xs.length]? = some v
  simp

/-! ### what may be subscripted -/
/-- what stands as an index of a plain subscript -/
def PlainIx (b : Expr) : Prop := ∀ o i, subscripted b false o i = operate [o, i] (getItem o i)
/-- a subscript by values -/
def IxR (X : Cx) (r : R2) : Prop :=
  ∀ (value slice : Expr) (pins : List (Addr × Obj)) (s : Shared) (σ : St) (H : Hp) (x y : V) (v u : Value) (Q : VK), Inv X pins σ H s → RelV x v → RelV y u → r x y H Q →
    subscripted slice false v u = operate [v, u] (getItem v u) → wpAny (model X.prog X.w) X.A (subscriptTail value slice v u) (EP X pins σ Q) X.xe s
/-- a call of a builtin's method by values: the receiver, the arguments -/
def MtR (X : Cx) (id : String) (r : V → List V → Hp → VK → Prop) : Prop :=
  ∀ (pins : List (Addr × Obj)) (s : Shared) (σ : St) (H : Hp) (x : V) (xs : List V) (v : Value) (us : List Value) (Q : VK), Inv X pins σ H s → RelV x v → Vals xs us → r x xs H Q →
    wpAny (model X.prog X.w) X.A (call (.builtin id) (v :: us)) (EP X pins σ Q) X.xe s
section
variable {X : Cx} {a b : Expr} {ta tb : TE} {pos : Pos}
theorem IxR.or {r r' : R2} (h : IxR X r) (h' : IxR X r') : IxR X (fun x y H Q => r x y H Q ∨ r' x y H Q) := by
  intro value slice pins s σ H x y v u Q I rx ry q hs
  rcases q with q | q
  · exact h value slice pins s σ H x y v u Q I rx ry q hs
  · exact h' value slice pins s σ H x y v u Q I rx ry q hs
theorem MtR.or {id : String} {r r' : V → List V → Hp → VK → Prop} (h : MtR X id r) (h' : MtR X id r') : MtR X id (fun x xs H Q => r x xs H Q ∨ r' x xs H Q) := by
  intro pins s σ H x xs v us Q I rx rs q
  rcases q with q | q
  · exact h pins s σ H x xs v us Q I rx rs q
  · exact h' pins s σ H x xs v us Q I rx rs q
/-- a[b] -/
theorem pe_ix {r : R2} (hr : IxR X r) (ha : PE X a ta) (hb : PE X b tb) (hs : PlainIx b) : PE X (.Subscript a b pos) (tOp r ta tb) := by
  intro pins s σ H Q I h
  exact Subscript_ (binT ha hb I h fun v u s2 x y H2 I2 rx ry q => hr a b pins s2 σ H2 x y v u Q I2 rx ry q (hs _ _))

def rIxL (K : PySem.W.Frag) : R2 := fun x y H Q => ∃ p xs i v, x = .ref p ∧ y = .int i ∧ SqL K H p xs ∧ atI xs i = some v ∧ Q v H
def rIxT (K : PySem.W.Frag) : R2 := fun x y H Q => ∃ p xs i v, x = .ref p ∧ y = .int i ∧ SqT K H p xs ∧ atI xs i = some v ∧ Q v H
def rIxS : R2 := fun x y H Q => ∃ z i c, x = .str z ∧ y = .int i ∧ z.length ≤ sizeLine ∧ atI z.cps.toList i = some c ∧ Q (.str ⟨#[c]⟩) H
theorem ix_list : IxR X (rIxL X.K) := by
  intro value slice pins s σ H x y v u Q I rx ry h hs
  obtain ⟨p, xs, i, z, rfl, rfl, hq, he, q⟩ := h
  cases rx
  obtain ⟨t, rfl⟩ := ry
  obtain ⟨its, r, pl, hz⟩ := I.list hq
  obtain ⟨j, h1, h2, h3, h4, h5⟩ := atI_get he
  obtain ⟨w, ew, rw'⟩ := r.get h2
  have hl := r.length
  have hn := line63
  have fin : EP X pins σ Q w s := ⟨z, H, I, rw', q⟩
  by_cases h0 : 0 ≤ i
  · have hj : i.toNat = j := by
      rw [seqIndex_of h0 h5] at h1
      exact Option.some.inj h1
    exact item_listR pl.isList h0 (by omega) (by rw [hj]; simpa using ew) fin hs
  · have hj : (i + (its.toArray.size : Int)).toNat = j := by
      rw [seqIndex_neg (by omega) h4] at h1
      rw [List.size_toArray, ← hl]
      exact Option.some.inj h1
    exact subscriptTail_builtinR (x := w) pl.isList.typeIs slot_list_getitem.lookup
      (wpAny_getItem_list_neg (Q := fun r s' => r = w ∧ EP X pins σ Q r s') pl.isList (by omega) (by rw [List.size_toArray] <;> omega) (by omega) (by rw [hj]; simpa using ew) ⟨rfl, fin⟩) hs
theorem ix_tup : IxR X (rIxT X.K) := by
  intro value slice pins s σ H x y v u Q I rx ry h hs
  obtain ⟨p, xs, i, z, rfl, rfl, hq, he, q⟩ := h
  cases rx
  obtain ⟨t, rfl⟩ := ry
  obtain ⟨its, r, pl, hz⟩ := I.tuple hq
  obtain ⟨j, h1, h2, h3, h4, h5⟩ := atI_get he
  obtain ⟨w, ew, rw'⟩ := r.get h2
  have hl := r.length
  have hn := line63
  have fin : EP X pins σ Q w s := ⟨z, H, I, rw', q⟩
  exact subscriptTail_builtinR (x := w) pl.typeIs slot_tuple_getitem.lookup
    (getItem_tuple (j := j) (Q := fun r s' => r = w ∧ EP X pins σ Q r s') pl (by omega) (by omega) (by rw [List.size_toArray, ← hl]; exact h1) (by simpa using ew) ⟨rfl, fin⟩) hs
theorem ix_str : IxR X rIxS := by
  intro value slice pins s σ H x y v u Q I rx ry h hs
  obtain ⟨z, i, c, rfl, rfl, hz, he, q⟩ := h
  obtain ⟨t, rfl⟩ := rx
  obtain ⟨t', rfl⟩ := ry
  obtain ⟨j, h1, h2, h3, h4, h5⟩ := atI_get he
  have hl : z.cps.toList.length = z.length := by simp [Str.length]
  rw [hl] at h1 h4 h5
  have hn := line63
  exact tail_any (typeIs_str s z t) slot_str_getitem.lookup (getItem_str (c := c) (by
    have e1 : decide (i < -(2 ^ 63 : Int)) = false := decide_eq_false (by omega)
    have e2 : decide (i ≥ 2 ^ 63) = false := decide_eq_false (by omega)
    rw [e1, e2, Bool.or_false]) (by rw [h1]; simpa using h2) ⟨.str ⟨#[c]⟩, H, I.tok _, ⟨_, rfl⟩, q⟩) hs
/-- list, tuple or str -/
def rIx (K : PySem.W.Frag) : R2 := fun x y H Q => rIxL K x y H Q ∨ rIxT K x y H Q ∨ rIxS x y H Q
theorem ix_seq : IxR X (rIx X.K) := ix_list.or (ix_tup.or ix_str)

/-! ### xs[i] = v, any sign -/
/-- the list's object behind a store -/
theorem mapSeq_set (its : List Value) (n j : Nat) (u : Value) : Obj.mapSeq (·.setIfInBounds j u) { cls := .type "list", data := .seq its.toArray n } = { cls := .type "list", data := .seq (its.set j u).toArray n } := by
  simp [Obj.mapSeq]
theorem Inv.lst {pins : List (Addr × Obj)} {σ : St} {H : Hp} {s : Shared} {p : Addr} {xs : List V} (I : Inv X pins σ H s) (h : H p = some (.lst xs)) :
    ∃ (its : List Value) (n : Nat), Vals xs its ∧ s.heap.get? p = some { cls := .type "list", data := .seq its.toArray n } ∧ xs.length ≤ sizeLine := by
  obtain ⟨z, its, n, r, e⟩ := I.hok p _ h
  exact ⟨its, n, r, e, z⟩
/-- the list at p is written by an update of its object -/
theorem Inv.lstUpd {pins : List (Addr × Obj)} {σ : St} {H : Hp} {s : Shared} {p : Addr} {xs ys : List V} {its its' : List Value} {n n' : Nat} {f : Obj → Obj} (I : Inv X pins σ H s) (h : H p = some (.lst xs))
    (ho : s.heap.get? p = some { cls := .type "list", data := .seq its.toArray n }) (hf : f { cls := .type "list", data := .seq its.toArray n } = { cls := .type "list", data := .seq its'.toArray n' }) (r : Vals ys its') (hz : ys.length ≤ sizeLine) (t : Nat) :
    Inv X pins σ (upd H p (.lst ys)) { s with heap := s.heap.update p f, toks := t } := by
  have e : (s.heap.update p f).get? p = some { cls := .type "list", data := .seq its'.toArray n' } := by
    rw [Heap.get?_update_self f ho (by rw [hf] <;> rfl), hf]
  refine I.write (x := p) (e := p) (by rw [h]; trivial) (.inl rfl) (fun b u hb q => (Heap.get?_update_other _ _ (Ne.symm hb)).trans q) ⟨_, e⟩ ?_
  exact ⟨hz, its', n', r, e⟩
def rSetL : V → V → V → Hp → (Hp → Prop) → Prop := fun o i v H Q => ∃ p xs k j, o = .ref p ∧ i = .int k ∧ H p = some (.lst xs) ∧ ixN xs.length k = some j ∧ Q (upd H p (.lst (xs.set j v)))
theorem set_list : PSet X rSetL := by
  intro pins s σ H o i v ov iv u Q I ro ri rv h
  obtain ⟨p, xs, k, j, rfl, rfl, hp, hj, q⟩ := h
  cases ro
  obtain ⟨t, rfl⟩ := ri
  obtain ⟨its, n, r, ho, hz⟩ := I.lst hp
  obtain ⟨h1, h2, h3, h4⟩ := ixN_seq hj
  have hl := r.length
  have hn := line63
  have I' : Inv X pins σ (upd H p (.lst (xs.set j v))) { s with heap := s.heap.update p (Obj.mapSeq (·.setIfInBounds j u)) } :=
    I.lstUpd hp ho (mapSeq_set its n j u) (r.set rv j) (by rw [List.length_set]; exact hz) s.toks
  by_cases h0 : 0 ≤ k
  · have hk : k.toNat = j := by
      rw [seqIndex_of h0 h4] at h1
      exact Option.some.inj h1
    exact PySem.W.ki_setAt ho h0 (by omega) (by rw [List.size_toArray, ← hl]; exact h4) (by rw [hk]; exact ⟨_, I', q⟩)
  · have hk : (k + (its.toArray.size : Int)).toNat = j := by
      rw [seqIndex_neg (by omega) h3] at h1
      rw [List.size_toArray, ← hl]
      exact Option.some.inj h1
    exact PySem.W.ki_setBack ho (by omega) (by rw [List.size_toArray, ← hl]; exact h3) (by omega) (by rw [hk]; exact ⟨_, I', q⟩)

/-! ### slices -/
theorem slice_bounds (lo hi : Option Int) (n : Nat) : (sliceBounds lo hi none n).1 = ((HT.sIx n 0 lo : Nat) : Int) ∧ (sliceBounds lo hi none n).2.1 = ((HT.sIx n n hi : Nat) : Int) ∧ (sliceBounds lo hi none n).2.2 = 1 := by
  refine ⟨?_, ?_, rfl⟩
  · cases lo with
    | none => simp [sliceBounds, HT.sIx]
    | some i =>
      simp only [sliceBounds, HT.sIx, Option.getD_none, show (1 : Int) > 0 by decide, if_true]
      by_cases h : i < 0
      · simp only [h, if_true] <;> omega
      · simp only [h, if_false] <;> omega
  · cases hi with
    | none => simp [sliceBounds, HT.sIx]
    | some i =>
      simp only [sliceBounds, HT.sIx, Option.getD_none, show (1 : Int) > 0 by decide, if_true]
      by_cases h : i < 0
      · simp only [h, if_true] <;> omega
      · simp only [h, if_false] <;> omega
theorem slicePick_cut (its : List Value) (lo hi : Option Int) : slicePick its.toArray lo hi none = ((its.drop (HT.sIx its.length 0 lo)).take (HT.sIx its.length its.length hi - HT.sIx its.length 0 lo)).toArray := by
  obtain ⟨h1, h2, h3⟩ := slice_bounds lo hi its.toArray.size
  unfold slicePick
  rw [h1, h2, h3]
  simp only [sliceRange_one, pick_run, List.size_toArray] <;> rfl
/-- xs[lo:hi] of a list: a new list -/
def rSlL (K : PySem.W.Frag) : V → Option Int → Option Int → Hp → VK → Prop := fun x lo hi H Q => ∃ a xs, x = .ref a ∧ SqL K H a xs ∧ ∀ p, H p = none → Q (.ref p) (upd H p (.lst (cutV xs lo hi)))
theorem sl_list : SlR X (rSlL X.K) := by
  intro pins s σ H x v vl vu lo hi sl Q I rx hs pl pu h
  obtain ⟨a, xs, rfl, hx, q⟩ := h
  cases rx
  obtain ⟨its, r, ht, hz⟩ := I.list hx
  have hlen := r.length
  refine ⟨"list", _, slot_list_getitem.lookup, ht.isList.typeIs, ?_⟩
  refine wpAny_getItem_list_slice ht.isList hs pl pu .none (by simp) ?_ (by rw [List.size_toArray] <;> omega)
  rw [slicePick_cut, ← hlen]
  refine ⟨.ref s.heap.objs.size, _, I.laid (t' := s.toks) (o := .lst (cutV xs lo hi)) (fun b ob q => Heap.get?_push_of_some _ q) (Nat.le_refl _) ?_, rfl, q _ (I.hok.fresh (Nat.le_refl _))⟩
  exact ⟨Nat.le_trans (cutV_length xs lo hi) hz, _, 0, (r.drop (HT.sIx xs.length 0 lo)).take (HT.sIx xs.length xs.length hi - HT.sIx xs.length 0 lo), Heap.get?_push_size _ rfl⟩

/-! ### in, not in: flat items -/
def flatV : V → Bool
  | .non => true
  | .bl _ => true
  | .int _ => true
  | .str _ => true
  | _ => false
/-- == of flat values -/
def eqV : V → V → Bool
  | .non, .non => true
  | .bl a, .bl b => a == b
  | .bl a, .int b => (if a then 1 else 0) == b
  | .int a, .bl b => a == (if b then 1 else 0)
  | .int a, .int b => a == b
  | .str a, .str b => a == b
  | _, _ => false
theorem eqAt_V {A : Around} {s : Shared} {y x : V} {u v : Value} (ry : RelV y u) (rx : RelV x v) (fy : flatV y = true) (fx : flatV x = true) : SeqAt.EqAt A s u v (eqV y x) := by
  cases y with
  | non =>
    cases ry
    cases x with
    | non => cases rx; exact SeqAt.EqAt.same _
    | bl b => cases rx; exact SeqAt.EqAt.none_bool b
    | int b => obtain ⟨t, rfl⟩ := rx; exact SeqAt.EqAt.none_int b t
    | str b => obtain ⟨t, rfl⟩ := rx; exact SeqAt.EqAt.none_str b t
    | _ => exact absurd (show false = true from fx) Bool.false_ne_true
  | bl a =>
    cases ry
    cases x with
    | non => cases rx; exact SeqAt.EqAt.bool_none a
    | bl b => cases rx; exact SeqAt.EqAt.bool_bool a b
    | int b => obtain ⟨t, rfl⟩ := rx; exact SeqAt.EqAt.bool_int a b t
    | str b => obtain ⟨t, rfl⟩ := rx; exact SeqAt.EqAt.bool_str a b t
    | _ => exact absurd (show false = true from fx) Bool.false_ne_true
  | int a =>
    obtain ⟨t', rfl⟩ := ry
    cases x with
    | non => cases rx; exact SeqAt.EqAt.int_none a t'
    | bl b => cases rx; exact SeqAt.EqAt.int_bool a t' b
    | int b => obtain ⟨t, rfl⟩ := rx; exact SeqAt.EqAt.int_int a t' b t
    | str b => obtain ⟨t, rfl⟩ := rx; exact SeqAt.EqAt.int_str a t' b t
    | _ => exact absurd (show false = true from fx) Bool.false_ne_true
  | str a =>
    obtain ⟨t', rfl⟩ := ry
    cases x with
    | non => cases rx; exact SeqAt.EqAt.str_none a t'
    | bl b => cases rx; exact SeqAt.EqAt.str_bool a t' b
    | int b => obtain ⟨t, rfl⟩ := rx; exact SeqAt.EqAt.str_int a t' b t
    | str b => obtain ⟨t, rfl⟩ := rx; exact SeqAt.EqAt.str_str a t' b t
    | _ => exact absurd (show false = true from fx) Bool.false_ne_true
  | _ => exact absurd (show false = true from fy) Bool.false_ne_true
/-- the items' answers, read off the values (a value's own answer does not lean on its token) -/
def eqU (x : V) (u : Value) : Bool := match u with
  | .none => eqV .non x
  | .bool b => eqV (.bl b) x
  | .int i _ => eqV (.int i) x
  | .str z _ => eqV (.str z) x
  | _ => false
theorem eqU_of {x y : V} {u : Value} (r : RelV y u) (f : flatV y = true) : eqU x u = eqV y x := by
  cases y with
  | non => cases r; rfl
  | bl b => cases r; rfl
  | int i => obtain ⟨t, rfl⟩ := r; rfl
  | str z => obtain ⟨t, rfl⟩ := r; rfl
  | _ => exact absurd (show false = true from f) Bool.false_ne_true
theorem any_eqU {x : V} : ∀ {xs : List V} {us : List Value}, Vals xs us → xs.all flatV = true → us.any (eqU x) = xs.any fun y => eqV y x
  | _, _, .nil, _ => rfl
  | y :: xs, u :: us, .cons r t, f => by
    rw [List.all_cons, Bool.and_eq_true] at f
    rw [List.any_cons, List.any_cons, eqU_of r f.1, any_eqU t f.2]
theorem mem_eqAt {A : Around} {s : Shared} {x : V} {v : Value} (rx : RelV x v) (fx : flatV x = true) : ∀ {xs : List V} {us : List Value}, Vals xs us → xs.all flatV = true → ∀ u ∈ us, SeqAt.EqAt A s u v (eqU x u)
  | _, _, .nil, _ => fun u hu => by cases hu
  | y :: xs, u :: us, .cons r t, f => fun u' hu => by
    rw [List.all_cons, Bool.and_eq_true] at f
    rcases List.mem_cons.mp hu with rfl | hu
    · rw [eqU_of r f.1]; exact eqAt_V r rx f.1 fx
    · exact mem_eqAt rx fx t f.2 u' hu
def inV (x : V) (xs : List V) : Bool := xs.any fun y => eqV y x
/-- x in a list or tuple of flat items -/
def rIn (K : PySem.W.Frag) (neg : Bool) : R2 := fun x y H Q => ∃ p xs, y = .ref p ∧ (SqL K H p xs ∨ SqT K H p xs) ∧ flatV x = true ∧ xs.all flatV = true ∧ Q (.bl (if neg then !inV x xs else inV x xs)) H
theorem op_in_seq : OpR X (compareOp .In) (rIn X.K false) := by
  intro pins s σ H x y v u Q I rx ry h
  obtain ⟨p, xs, rfl, hq, fx, fs, q⟩ := h
  cases ry
  rcases hq with hq | hq
  · obtain ⟨its, r, pl, hz⟩ := I.list hq
    refine SeqAt.in_listAt (eqU x) pl.isList (fun w hw => mem_eqAt rx fx r fs w (by simpa using hw)) ⟨.bl _, H, I, rfl, ?_⟩
    rw [show its.toArray.any (eqU x) = its.any (eqU x) by simp, any_eqU r fs]
    exact q
  · obtain ⟨its, r, pl, hz⟩ := I.tuple hq
    refine SeqAt.in_tupleAt (eqU x) pl (fun w hw => mem_eqAt rx fx r fs w (by simpa using hw)) ⟨.bl _, H, I, rfl, ?_⟩
    rw [show its.toArray.any (eqU x) = its.any (eqU x) by simp, any_eqU r fs]
    exact q
theorem op_notIn_seq : OpR X (compareOp .NotIn) (rIn X.K true) := by
  intro pins s σ H x y v u Q I rx ry h
  obtain ⟨p, xs, rfl, hq, fx, fs, q⟩ := h
  cases ry
  rcases hq with hq | hq
  · obtain ⟨its, r, pl, hz⟩ := I.list hq
    refine SeqAt.notIn_listAt (eqU x) pl.isList (fun w hw => mem_eqAt rx fx r fs w (by simpa using hw)) ⟨.bl _, H, I, rfl, ?_⟩
    rw [show its.toArray.any (eqU x) = its.any (eqU x) by simp, any_eqU r fs]
    exact q
  · obtain ⟨its, r, pl, hz⟩ := I.tuple hq
    refine SeqAt.notIn_tupleAt (eqU x) pl (fun w hw => mem_eqAt rx fx r fs w (by simpa using hw)) ⟨.bl _, H, I, rfl, ?_⟩
    rw [show its.toArray.any (eqU x) = its.any (eqU x) by simp, any_eqU r fs]
    exact q
theorem op_notIn_str : OpR X (compareOp .NotIn) (fun x y H Q => ∃ i j, x = .str i ∧ y = .str j ∧ Q (.bl (!(!(Builtin.Str.occurrences j i 0 j.length 1).isEmpty))) H) := by
  intro pins s σ H x y v u Q I rx ry h
  obtain ⟨i, j, rfl, rfl, q⟩ := h
  obtain ⟨t, rfl⟩ := rx
  obtain ⟨t', rfl⟩ := ry
  exact notIn_str ⟨.bl _, H, I, rfl, q⟩

/-! ### len, list(x), tuple(x) of any list or tuple that is read -/
theorem call_len_seq : CallR X (.builtin "len") (fun xs H Q => ∃ p ys, xs = [.ref p] ∧ (SqL X.K H p ys ∨ SqT X.K H p ys) ∧ Q (.int ys.length) H) := by
  intro pins s σ H xs us Q I r h
  obtain ⟨p, ys, rfl, hq, q⟩ := h
  obtain ⟨u, rfl, rx⟩ := vals1 r
  cases rx
  have hn := line63
  rcases hq with hq | hq
  · obtain ⟨its, r', pl, hz⟩ := I.list hq
    have hlen := r'.length
    exact Calls.call_len_list pl.isList (by simp only [List.size_toArray] <;> omega) ⟨.int ys.length, H, I.tok _, ⟨s.toks + 1, by rw [List.size_toArray, hlen]⟩, q⟩
  · obtain ⟨its, r', pl, hz⟩ := I.tuple hq
    have hlen := r'.length
    exact len_tuple pl (by simp only [List.size_toArray] <;> omega) ⟨.int ys.length, H, I.tok _, ⟨s.toks + 1, by rw [List.size_toArray, hlen]⟩, q⟩
theorem call_len_str : CallR X (.builtin "len") (fun xs H Q => ∃ z, xs = [.str z] ∧ z.length ≤ sizeLine ∧ Q (.int z.length) H) := by
  intro pins s σ H xs us Q I r h
  obtain ⟨z, rfl, hz, q⟩ := h
  obtain ⟨u, rfl, t, rfl⟩ := vals1 r
  have hn := line63
  exact len_str (by omega) ⟨.int z.length, H, I.tok _, ⟨_, rfl⟩, q⟩
theorem CallR.or {f : Value} {r r' : List V → Hp → VK → Prop} (h : CallR X f r) (h' : CallR X f r') : CallR X f (fun xs H Q => r xs H Q ∨ r' xs H Q) := by
  intro pins s σ H xs us Q I rs q
  rcases q with q | q
  · exact h pins s σ H xs us Q I rs q
  · exact h' pins s σ H xs us Q I rs q
theorem call_list_of : CallR X (.type "list") (fun xs H Q => ∃ p ys, xs = [.ref p] ∧ (SqL X.K H p ys ∨ SqT X.K H p ys) ∧ ∀ l, H l = none → Q (.ref l) (upd H l (.lst ys))) := by
  intro pins s σ H xs us Q I r h
  obtain ⟨p, ys, rfl, hq, q⟩ := h
  obtain ⟨u, rfl, rx⟩ := vals1 r
  cases rx
  have fin : ∀ (its : List Value), Vals ys its → ys.length ≤ sizeLine → ∀ (h' : Heap) (c' : Nat), (∀ b o', s.heap.get? b = some o' → h'.get? b = some o') →
      h'.get? s.heap.objs.size = some { cls := .type "list", dict := none, data := .seq its.toArray c', slots := #[] } → EP X pins σ Q (.ref s.heap.objs.size) { s with heap := h' } := fun its r' hz h' c' kp e =>
    ⟨.ref s.heap.objs.size, _, I.laid (t' := s.toks) kp (Nat.le_refl _) (show ObjOk X.prog X.w _ h' _ (.lst ys) from ⟨hz, its, c', r', e⟩), rfl, q _ (I.hok.fresh (Nat.le_refl _))⟩
  rcases hq with hq | hq
  · obtain ⟨its, r', pl, hz⟩ := I.list hq
    have hlen := r'.length
    obtain ⟨o, ho, hc, n, hd⟩ := pl.isList
    exact call_list_seq p (.inl rfl) ho hc hd (fun h' c' kp e => fin its r' hz h' c' kp e) (by simp only [List.size_toArray] <;> omega)
  · obtain ⟨its, r', pl, hz⟩ := I.tuple hq
    have hlen := r'.length
    obtain ⟨o, ho, hc, n, hd⟩ := pl
    exact call_list_seq p (.inr rfl) ho hc hd (fun h' c' kp e => fin its r' hz h' c' kp e) (by simp only [List.size_toArray] <;> omega)
theorem call_tuple_of : CallR X (.type "tuple") (fun xs H Q => ∃ p ys, xs = [.ref p] ∧ ((SqL X.K H p ys ∧ ∀ l, H l = none → Q (.ref l) (upd H l (.tup ys))) ∨ (SqT X.K H p ys ∧ Q (.ref p) H))) := by
  intro pins s σ H xs us Q I r h
  obtain ⟨p, ys, rfl, h⟩ := h
  obtain ⟨u, rfl, rx⟩ := vals1 r
  cases rx
  rcases h with ⟨hq, q⟩ | ⟨hq, q⟩
  · obtain ⟨its, r', pl, hz⟩ := I.list hq
    have hlen := r'.length
    refine call_tuple_list pl.isList (fun h' kp => ?_) (by simp only [List.size_toArray] <;> omega)
    have I1 : Inv X pins σ H { s with heap := h' } := I.kept (t' := s.toks) kp
    have I2 : Inv X pins σ (upd H h'.objs.size (.tup ys)) { s with heap := h'.push { cls := .type "tuple", data := .seq its.toArray } } :=
      I1.laid (t' := s.toks) (fun b o e => Heap.get?_push_of_some _ e) (Nat.le_refl _) (show ObjOk X.prog X.w _ _ _ (.tup ys) from ⟨hz, its, r', IsTup.new _ _⟩)
    exact ⟨.ref h'.objs.size, _, I2, rfl, q _ (I1.hok.fresh (Nat.le_refl _))⟩
  · obtain ⟨its, r', pl, hz⟩ := I.tuple hq
    exact call_tuple_same pl ⟨.ref p, H, I, rfl, q⟩

/-! ### the call of a builtin's method: o.m(..) -/
/-- the value is of that builtin type -/
def tyV (K : PySem.W.Frag) (T : String) (x : V) (H : Hp) : Prop := match x with
  | .str _ => T = "str"
  | .int _ => T = "int"
  | .ref p => (T = "list" ∧ ∃ xs, SqL K H p xs) ∨ (T = "tuple" ∧ ∃ o, K.lookup p = some o ∧ o.cls = .type "tuple" ∧ o.dict = none) ∨
      (T = "dict" ∧ ((∃ kvs, H p = some (.dK kvs)) ∨ ∃ kvs, H p = some (.dT kvs))) ∨ (T = "set" ∧ ∃ S n, H p = some (.set S n))
  | _ => False
theorem tyV_is {pins : List (Addr × Obj)} {σ : St} {H : Hp} {s : Shared} {T : String} {x : V} {v : Value} (I : Inv X pins σ H s) (r : RelV x v) (ty : tyV X.K T x H) :
    s.TypeIs v T ∧ ∀ a, v = .ref a → ∃ ob, s.heap.get? a = some ob ∧ ob.dict = none := by
  cases x with
  | str z =>
    obtain ⟨t, rfl⟩ := r
    cases (show T = "str" from ty)
    exact ⟨typeIs_str s z t, fun _ e => nomatch e⟩
  | int i =>
    obtain ⟨t, rfl⟩ := r
    cases (show T = "int" from ty)
    exact ⟨typeIs_int s i t, fun _ e => nomatch e⟩
  | ref p =>
    cases r
    rcases ty with ⟨rfl, xs, hq⟩ | ⟨rfl, o, hk, hc, hd⟩ | ⟨rfl, hk⟩ | ⟨rfl, S, n, hk⟩
    · obtain ⟨its, _, pl, _⟩ := I.list hq
      refine ⟨pl.isList.typeIs, fun a e => ?_⟩
      cases e
      obtain ⟨o, n, e, c, hd, _⟩ := pl
      exact ⟨o, e, hd⟩
    · refine ⟨⟨o, I.kIn p o hk, hc⟩, fun a e => ?_⟩
      cases e
      exact ⟨o, I.kIn _ o hk, hd⟩
    · have z : ∃ o, s.heap.get? p = some o ∧ o.ExactDict := by
        rcases hk with ⟨kvs, hk⟩ | ⟨kvs, hk⟩
        · obtain ⟨_, _, _, _, o, _, _, e, ex, _⟩ := I.hok p _ hk
          exact ⟨o, e, ex⟩
        · obtain ⟨_, _, _, _, o, _, _, e, ex, _⟩ := I.hok p _ hk
          exact ⟨o, e, ex⟩
      obtain ⟨o, e, ex⟩ := z
      refine ⟨⟨o, e, ex.1⟩, fun a e2 => ?_⟩
      cases e2
      exact ⟨o, e, ex.2.1⟩
    · obtain ⟨o, _, _, _, e, ex, _⟩ := I.hok p _ hk
      refine ⟨⟨o, e, ex.1⟩, fun a e2 => ?_⟩
      cases e2
      exact ⟨o, e, ex.2.1⟩
  | _ => exact False.elim ty
def tBM0 (K : PySem.W.Frag) (T : String) (r : V → List V → Hp → VK → Prop) (to : TE) : TE := fun σ H Q => to σ H fun x H1 => tyV K T x H1 ∧ r x [] H1 Q
def tBM (K : PySem.W.Frag) (T : String) (r : V → List V → Hp → VK → Prop) (to : TE) (t : TA) : TE := fun σ H Q => to σ H fun x H1 => tyV K T x H1 ∧ t σ H1 fun xs H2 => r x xs H2 Q
variable {o e : Expr} {es : List Expr} {to : TE} {t : TA} {name : Str} {apos cpos : Pos} {T id : String} {r : V → List V → Hp → VK → Prop}
theorem pe_bm0 (pa : PlainAttrs T) (slot : Slot T name id) (hty : typeOf (.builtin id) = pure (.type "method_descriptor")) (hm : MtR X id r) (ho : PE X o to)
    (hbase : attributeBase o name X.env (eval o X.env) = eval o X.env := by rfl) (hline : (apos.endLine == cpos.line) = true := by rfl) : PE X (.Call (.Attribute o name apos) [] [] cpos) (tBM0 X.K T r to) := by
  intro pins s σ H Q I h
  refine wpAny_Call_method0_late hbase hline (thn (ho pins s σ H _ I h) fun v s1 ⟨x, H1, I1, r1, ty, q1⟩ => ?_)
  obtain ⟨h1, h2⟩ := tyV_is I1 r1 ty
  exact ⟨T, id, pa, slot, hty, h1, h2, Calls.callWith_builtin rfl (PySem.evalArgs_none (hm pins s1 σ H1 x [] v [] Q I1 r1 .nil q1))⟩
theorem pe_bm (pa : PlainAttrs T) (slot : Slot T name id) (hty : typeOf (.builtin id) = pure (.type "method_descriptor")) (hm : MtR X id r) (ho : PE X o to) (ha : PA X (e :: es) t)
    (hbase : attributeBase o name X.env (eval o X.env) = eval o X.env := by rfl)
    (hfew : ((backTo cpos (starEach (e :: es) X.env)).all (fun x => !x.1) && (backToKw cpos (keywordEach [] X.env)).all (fun x => x.1.isSome)
      && decide ((e :: es).length + ([] : List Keyword).length + (if ([] : List Keyword).isEmpty then 0 else 1) < 30)) = true := by rfl)
    (hline : (apos.endLine == cpos.line) = true := by rfl) (hs : starEach (e :: es) X.env = (false, eval e X.env) :: starEach es X.env := by rfl) (hplain : (backTo cpos (starEach es X.env)).any (·.1) = false := by rfl) :
    PE X (.Call (.Attribute o name apos) (e :: es) [] cpos) (tBM X.K T r to t) := by
  intro pins s σ H Q I h
  refine wpAny_Call_method_late hbase hfew hline rfl (thn (ho pins s σ H _ I h) fun v s1 ⟨x, H1, I1, r1, ty, q1⟩ => ?_)
  obtain ⟨h1, h2⟩ := tyV_is I1 r1 ty
  refine ⟨T, id, pa, slot, hty, h1, h2, ?_⟩
  have hA := ha cpos pins s1 σ H1 _ I1 q1
  rw [hs] at hA ⊢
  refine Calls.callWith_builtin (by show (false || (backTo cpos (starEach es X.env)).any (·.1)) = false; rw [hplain] <;> rfl) (Calls.evalArgs_plain ?_)
  exact thn hA fun us s2 ⟨vs, H2, I2, r2, q2⟩ => hm pins s2 σ H2 x vs v us Q I2 r1 r2 q2
/- xs.append(e), list.index on a module's tuple .. are MtR facts of 06m -/
end
end L2

namespace L2
open PySem PySem.Spec PyProof.Rows

def MtM (X : Cx) (id : String) (r : V → List V → Hp → VK → Prop) : Prop :=
  ∀ (pins : List (Addr × Obj)) (s : Shared) (σ : St) (H : Hp) (x : V) (xs : List V) (v : Value) (us : List Value) (Q : VK), Inv X pins σ H s → RelV x v → Vals xs us → r x xs H Q →
    wpAny (model X.prog X.w) X.A (call (.builtin id) (v :: us)) (EP X pins σ Q) X.xe s

/-! ### lists of values -/
theorem Vals.one : ∀ {x : V} {us : List Value}, Vals [x] us → ∃ u, us = [u] ∧ RelV x u
  | _, _, .cons r .nil => ⟨_, rfl, r⟩
theorem Vals.two : ∀ {x y : V} {us : List Value}, Vals [x, y] us → ∃ u v, us = [u, v] ∧ RelV x u ∧ RelV y v
  | _, _, _, .cons r (.cons q .nil) => ⟨_, _, rfl, r, q⟩
theorem Vals.zero : ∀ {us : List Value}, Vals [] us → us = []
  | _, .nil => rfl
theorem Vals.dropLast {xs : List V} {us : List Value} (h : Vals xs us) : Vals xs.dropLast us.dropLast := by
  induction h with
  | nil => exact .nil
  | cons r t ih =>
    cases t with
    | nil => exact .nil
    | cons q t' => exact .cons r ih
theorem Vals.eraseIdx : ∀ {xs : List V} {us : List Value} (i : Nat), Vals xs us → Vals (xs.eraseIdx i) (us.eraseIdx i)
  | _, _, _, .nil => .nil
  | _, _, 0, .cons _ t => t
  | _, _, i + 1, .cons r t => .cons r (Vals.eraseIdx i t)
theorem Vals.reverse {xs : List V} {us : List Value} (h : Vals xs us) : Vals xs.reverse us.reverse := by
  induction h with
  | nil => exact .nil
  | cons r t ih => rw [List.reverse_cons, List.reverse_cons]; exact Vals.append ih (.cons r .nil)
theorem Vals.rep {xs : List V} {us : List Value} (h : Vals xs us) : ∀ k : Nat, Vals (List.replicate k xs).flatten (List.replicate k us).flatten
  | 0 => .nil
  | k + 1 => by
    rw [List.replicate_succ, List.replicate_succ, List.flatten_cons, List.flatten_cons]
    exact Vals.append h (Vals.rep h k)
theorem erase_last {α : Type} (l : List α) : l.eraseIdx (l.length - 1) = l.dropLast := by
  induction l with
  | nil => rfl
  | cons a r ih =>
    cases r with
    | nil => rfl
    | cons b r =>
      have e : (a :: b :: r).length - 1 = ((b :: r).length - 1) + 1 := by
        have h1 : (a :: b :: r).length = r.length + 2 := rfl
        have h2 : (b :: r).length = r.length + 1 := rfl
        omega
      rw [e, List.eraseIdx_cons_succ, ih]
      all_goals rfl
theorem len_erase {α : Type} : ∀ (l : List α) (i : Nat), (l.eraseIdx i).length ≤ l.length
  | [], _ => Nat.le_refl _
  | _ :: _, 0 => Nat.le_succ _
  | _ :: r, i + 1 => Nat.succ_le_succ (len_erase r i)
theorem foldl_rep (its : List Value) : ∀ (k : Nat) (acc : List Value),
    List.foldl (fun x1 x2 => x1 ++ x2) acc.toArray (List.replicate k its.toArray) = (acc ++ (List.replicate k its).flatten).toArray
  | 0, acc => by simp
  | k + 1, acc => by
    have e : acc.toArray ++ its.toArray = (acc ++ its).toArray := by simp
    have e2 : (acc ++ its) ++ (List.replicate k its).flatten = acc ++ (List.replicate (k + 1) its).flatten := by
      rw [List.replicate_succ, List.flatten_cons, List.append_assoc]
    rw [← e2, ← foldl_rep its k (acc ++ its), ← e, List.replicate_succ, List.foldl_cons]

section
variable {X : Cx} {pins : List (Addr × Obj)} {σ : St} {H : Hp} {s : Shared} {l b : Addr} {xs ys zs : List V}

/-! ### the two steps: a tracked list is rewritten, a new list is laid -/
theorem Inv.lset {its its' : List Value} {n : Nat} {f : Array Value → Array Value} {t' : Nat} (I : Inv X pins σ H s) (hH : H l = some (.lst xs))
    (e : s.heap.get? l = some { cls := .type "list", data := .seq its.toArray n }) (hf : f its.toArray = its'.toArray) (hv : Vals ys its') (hz : ys.length ≤ sizeLine) :
    Inv X pins σ (upd H l (.lst ys)) { s with heap := s.heap.update l (Obj.mapSeq f), toks := t' } := by
  have q := PySem.IsL.update e f
  rw [hf] at q
  refine I.write (x := l) (e := l) (by rw [hH]; exact trivial) (.inl rfl) (fun b' u hb hu => (Heap.get?_update_other s.heap (Obj.mapSeq f) (Ne.symm hb)).trans hu) ⟨_, q⟩ ?_
  exact ⟨hz, its', _, hv, q⟩
theorem Inv.lnew {its : List Value} {t' : Nat} (I : Inv X pins σ H s) (hv : Vals ys its) (hz : ys.length ≤ sizeLine) :
    Inv X pins σ (upd H s.heap.objs.size (.lst ys)) { s with heap := s.heap.push { cls := .type "list", data := .seq its.toArray }, toks := t' } :=
  I.laid (fun _ _ q => Heap.get?_push_of_some _ q) (Nat.le_refl _) ⟨hz, its, 0, hv, Heap.get?_push_size _ rfl⟩
theorem Inv.fresh (I : Inv X pins σ H s) : H s.heap.objs.size = none := I.hok.fresh (Nat.le_refl _)
theorem Inv.lstM (I : Inv X pins σ H s) (hH : H l = some (.lst xs)) : xs.length ≤ sizeLine ∧ ∃ (its : List Value) (n : Nat), Vals xs its ∧ xs.length = its.length ∧ s.heap.get? l = some { cls := .type "list", data := .seq its.toArray n } := by
  obtain ⟨z, its, n, r, e⟩ := I.hok l _ hH
  exact ⟨z, its, n, r, r.length, e⟩

theorem notLongL {n : Nat} (h : n ≤ sizeLine) : Builtin.List.listTooLong n = false := by
  unfold Builtin.List.listTooLong
  exact decide_eq_false (by omega)
end

section
variable {X : Cx}

/-! ### methods -/
def rAppend : V → List V → Hp → VK → Prop := fun x vs H Q => ∃ l xs y, x = .ref l ∧ vs = [y] ∧ H l = some (.lst xs) ∧ xs.length < sizeLine ∧ Q .non (upd H l (.lst (xs ++ [y])))
theorem mt_append : MtM X "list.append" rAppend := by
  intro pins s σ H x vs v us Q I rx rv h
  obtain ⟨l, xs, y, rfl, rfl, hH, hz, q⟩ := h
  cases rx
  obtain ⟨u, rfl, ru⟩ := rv.one
  obtain ⟨z, its, n, r, hl, e⟩ := I.lstM hH
  refine call_meets F.slot_list_append ⟨_, e, rfl⟩ F.entry_list_append (F.args_list_append_2 _ _) (PySem.list_append l its.toArray n u (by rw [List.size_toArray]; omega)) ⟨e, ?_⟩
  refine ⟨.non, _, I.lset (its' := its ++ [u]) hH e (by simp) (r.append (.cons ru .nil)) ?_, rfl, q⟩
  rw [List.length_append, List.length_singleton]
  omega

def rExtend : V → List V → Hp → VK → Prop := fun x vs H Q => ∃ l b xs zs, x = .ref l ∧ vs = [.ref b] ∧ H l = some (.lst xs) ∧ H b = some (.lst zs) ∧ xs.length + zs.length ≤ sizeLine ∧ Q .non (upd H l (.lst (xs ++ zs)))
theorem mt_extend : MtM X "list.extend" rExtend := by
  intro pins s σ H x vs v us Q I rx rv h
  obtain ⟨l, b, xs, zs, rfl, rfl, hH, hB, hz, q⟩ := h
  cases rx
  obtain ⟨u, rfl, ru⟩ := rv.one
  cases ru
  obtain ⟨z, its, n, r, hl, e⟩ := I.lstM hH
  obtain ⟨z2, its2, n2, r2, hl2, e2⟩ := I.lstM hB
  have hsz : its.toArray.size + its2.toArray.size ≤ sizeLine := by rw [List.size_toArray, List.size_toArray]; omega
  have hlong : ¬ (!its.toArray.isEmpty && Builtin.List.listTooLong (its.toArray.size + its2.toArray.size)) = true := by
    rw [notLongL hsz, Bool.and_false]
    exact Bool.false_ne_true
  refine call_meets F.slot_list_extend ⟨_, e, rfl⟩ F.entry_list_extend (F.args_list_extend_2 _ _)
    (AutoSeq1.list_extend_list_list_0 l its.toArray n b its2.toArray n2 hlong (by rw [List.size_toArray]; omega) (by omega)) ⟨e, e2, ?_⟩
  refine ⟨.non, _, I.lset (its' := its ++ its2) hH e (by simp) (r.append r2) ?_, rfl, q⟩
  rw [List.length_append]
  omega

def rPop : V → List V → Hp → VK → Prop := fun x vs H Q => ∃ l xs y, x = .ref l ∧ vs = [] ∧ H l = some (.lst xs) ∧ xs[xs.length - 1]? = some y ∧ Q y (upd H l (.lst xs.dropLast))
theorem mt_pop : MtM X "list.pop" rPop := by
  intro pins s σ H x vs v us Q I rx rv h
  obtain ⟨l, xs, y, rfl, rfl, hH, hy, q⟩ := h
  cases rx
  have hus := rv.zero
  subst hus
  obtain ⟨z, its, n, r, hl, e⟩ := I.lstM hH
  obtain ⟨u, hu, ru⟩ := r.get hy
  have hy' : its.toArray[its.toArray.size - 1]? = some u := by
    show its.toArray[its.length - 1]? = some u
    rw [← Array.getElem?_toList, ← hl]
    exact hu
  refine call_meets F.slot_list_pop ⟨_, e, rfl⟩ F.entry_list_pop (F.args_list_pop_1 _) (MeetsSeq.list_pop_last l its.toArray n u hy' (by rw [List.size_toArray]; omega)) ⟨e, ?_⟩
  refine ⟨y, _, I.lset (its' := its.dropLast) hH e ?_ r.dropLast ?_, ru, q⟩
  · show its.toArray.eraseIdxIfInBounds (its.toArray.size - 1) = its.dropLast.toArray
    rw [List.size_toArray, List.eraseIdxIfInBounds_toArray, erase_last]
  · rw [List.length_dropLast]
    omega

def rPopAt : V → List V → Hp → VK → Prop := fun x vs H Q => ∃ l xs i k y, x = .ref l ∧ vs = [.int i] ∧ H l = some (.lst xs) ∧ -(2 ^ 63) ≤ i ∧ i < 2 ^ 63 ∧ seqIndex? i xs.length = some k ∧ xs[k]? = some y ∧ Q y (upd H l (.lst (xs.eraseIdx k)))
theorem mt_popAt : MtM X "list.pop" rPopAt := by
  intro pins s σ H x vs v us Q I rx rv h
  obtain ⟨l, xs, i, k, y, rfl, rfl, hH, h1, h2, hk, hy, q⟩ := h
  cases rx
  obtain ⟨u, rfl, ru⟩ := rv.one
  obtain ⟨t, rfl⟩ := ru
  obtain ⟨z, its, n, r, hl, e⟩ := I.lstM hH
  obtain ⟨w, hw, rw'⟩ := r.get hy
  refine call_meets F.slot_list_pop ⟨_, e, rfl⟩ F.entry_list_pop (F.args_list_pop_2 _ _)
    (MeetsSeq.list_pop_at l its.toArray n i t k w (fitsIndex_both h1 h2) (by rw [List.size_toArray, ← hl]; exact hk) (by rw [← Array.getElem?_toList]; exact hw) (by rw [List.size_toArray]; omega)) ⟨e, ?_⟩
  refine ⟨y, _, I.lset (its' := its.eraseIdx k) hH e ?_ (r.eraseIdx k) ?_, rw', q⟩
  · show its.toArray.eraseIdxIfInBounds k = (its.eraseIdx k).toArray
    rw [List.eraseIdxIfInBounds_toArray]
  · have := len_erase xs k
    omega

def rReverse : V → List V → Hp → VK → Prop := fun x vs H Q => ∃ l xs, x = .ref l ∧ vs = [] ∧ H l = some (.lst xs) ∧ Q .non (upd H l (.lst xs.reverse))
theorem mt_reverse : MtM X "list.reverse" rReverse := by
  intro pins s σ H x vs v us Q I rx rv h
  obtain ⟨l, xs, rfl, rfl, hH, q⟩ := h
  cases rx
  have hus := rv.zero
  subst hus
  obtain ⟨z, its, n, r, hl, e⟩ := I.lstM hH
  refine call_meets F.slot_list_reverse ⟨_, e, rfl⟩ F.entry_list_reverse (F.args_list_reverse_1 _) (AutoSeq1.list_reverse_list_0 l its.toArray n (by rw [List.size_toArray]; omega)) ⟨e, ?_⟩
  refine ⟨.non, _, I.lset (its' := its.reverse) hH e (by simp) r.reverse ?_, rfl, q⟩
  rw [List.length_reverse]
  omega

def rClear : V → List V → Hp → VK → Prop := fun x vs H Q => ∃ l xs, x = .ref l ∧ vs = [] ∧ H l = some (.lst xs) ∧ Q .non (upd H l (.lst []))
theorem mt_clear : MtM X "list.clear" rClear := by
  intro pins s σ H x vs v us Q I rx rv h
  obtain ⟨l, xs, rfl, rfl, hH, q⟩ := h
  cases rx
  have hus := rv.zero
  subst hus
  obtain ⟨z, its, n, r, hl, e⟩ := I.lstM hH
  refine call_meets F.slot_list_clear ⟨_, e, rfl⟩ F.entry_list_clear (F.args_list_clear_1 _) (AutoSeq1.list_clear_list_0 l its.toArray n (by rw [List.size_toArray]; omega)) ⟨e, ?_⟩
  exact ⟨.non, _, I.lset (its' := []) (ys := []) hH e rfl .nil (Nat.zero_le _), rfl, q⟩

/-! ### list + list, list += list, list * int -/
def rCat : R2 := fun x y H Q => ∃ l b xs zs, x = .ref l ∧ y = .ref b ∧ H l = some (.lst xs) ∧ H b = some (.lst zs) ∧ xs.length + zs.length ≤ sizeLine ∧ ∀ p, H p = none → Q (.ref p) (upd H p (.lst (xs ++ zs)))
theorem op_cat : OpR X (binaryOp .Add) rCat := by
  intro pins s σ H x y v u Q I rx ry h
  obtain ⟨l, b, xs, zs, rfl, rfl, hH, hB, hz, q⟩ := h
  cases rx
  cases ry
  obtain ⟨z, its, n, r, hl, e⟩ := I.lstM hH
  obtain ⟨z2, its2, n2, r2, hl2, e2⟩ := I.lstM hB
  refine PySem.P.add_list e e2 ?_ (by rw [List.size_toArray, List.size_toArray]; omega)
  have ea : its.toArray ++ its2.toArray = (its ++ its2).toArray := by simp
  rw [ea]
  exact ⟨.ref _, _, I.lnew (t' := s.toks) (r.append r2) (by rw [List.length_append]; omega), rfl, q _ I.fresh⟩
/-- a list times an int (a negative one is nothing) -/
def rRep : R2 := fun x y H Q => ∃ l k xs, x = .ref l ∧ y = .int k ∧ H l = some (.lst xs) ∧ -(2 ^ 63) ≤ k ∧ k < 2 ^ 63 ∧ xs.length * k.toNat ≤ sizeLine ∧
  ∀ p, H p = none → Q (.ref p) (upd H p (.lst (List.replicate k.toNat xs).flatten))
theorem len_rep {α : Type} (xs : List α) (k : Nat) : (List.replicate k xs).flatten.length = k * xs.length := by
  induction k with
  | zero => simp
  | succ k ih => rw [List.replicate_succ, List.flatten_cons, List.length_append, ih, Nat.succ_mul, Nat.add_comm]
theorem op_rep : OpR X (binaryOp .Mult) rRep := by
  intro pins s σ H x y v u Q I rx ry h
  obtain ⟨l, k, xs, rfl, rfl, hH, h1, h2, hz, q⟩ := h
  cases rx
  obtain ⟨t, rfl⟩ := ry
  obtain ⟨z, its, n, r, hl, e⟩ := I.lstM hH
  have hlen : its.toArray.size * k.toNat ≤ sizeLine := by rw [List.size_toArray, ← hl]; exact hz
  have hcap : ¬ its.toArray.size * k.toNat > (2 ^ 63 - 1) / 8 := by
    have : (sizeLine : Nat) ≤ (2 ^ 63 - 1) / 8 := by decide
    omega
  have hfit : ¬ (!Builtin.List.listFitsIndex k) = true := by
    rw [fitsIndex_both h1 h2]
    exact Bool.false_ne_true
  have hlong : ¬ Builtin.List.listTooLong (its.toArray.size * k.toNat) = true := by
    rw [notLongL hlen]
    exact Bool.false_ne_true
  have hnew : List.foldl (fun x1 x2 => x1 ++ x2) #[] (List.replicate (if its.toArray.isEmpty = true then 0 else k.toNat) its.toArray) = (List.replicate k.toNat its).flatten.toArray := by
    have f0 : ∀ m : Nat, List.foldl (fun x1 x2 => x1 ++ x2) #[] (List.replicate m its.toArray) = (List.replicate m its).flatten.toArray := fun m => by
      have := foldl_rep its m []
      rw [List.nil_append] at this
      exact this
    rw [f0]
    cases its with
    | nil => simp
    | cons a r' => rw [if_neg (by simp)]
  refine wpAny_binaryOp_repeat_ref (T := "list") (U := "int") (by decide) ⟨_, e, rfl⟩ (fun s' => typeIs_int s' k t) noFill_list_mul F.fills_int_mul F.slot_int_rmul repeat_list F.slot_int_index.lookup
    (call_meets F.slot_int_rmul (typeIs_int s k t) F.entry_int_rmul (F.args_int_rmul_2 _ _) (int___rmul___int_list k t l its.toArray n)
      ⟨e, rfl, ⟨_, e, rfl⟩, call_meets F.slot_list_mul ⟨_, e, rfl⟩ F.entry_list_mul (F.args_list_mul_2 _ _) (AutoListH.list___mul___list_int_3 l its.toArray n k t hfit hcap hlong) ⟨e, ?_⟩⟩)
  rw [hnew]
  exact ⟨.ref _, _, I.lnew (t' := s.toks) (r.rep k.toNat) (by rw [len_rep, Nat.mul_comm]; exact hz), rfl, q _ I.fresh⟩

/-! ### del xs[i] -/
theorem del_list {pins : List (Addr × Obj)} {s : Shared} {σ : St} {H : Hp} {l : Addr} {xs : List V} {i : Int} {t : Tok} {k : Nat} {Q : Unit → Shared → Prop} (I : Inv X pins σ H s) (hH : H l = some (.lst xs))
    (h1 : -(2 ^ 63) ≤ i) (h2 : i < 2 ^ 63) (hk : seqIndex? i xs.length = some k) (h : ∀ s', Inv X pins σ (upd H l (.lst (xs.eraseIdx k))) s' → Q () s') :
    wpAny (model X.prog X.w) X.A (delItem (.ref l) (.int i t)) Q X.xe s := by
  obtain ⟨z, its, n, r, hl, e⟩ := I.lstM hH
  refine PySem.P.delItem_list (k := k) e (fitsIndex_both h1 h2) (by rw [List.size_toArray, ← hl]; exact hk) (h _ ?_) (by rw [List.size_toArray]; omega)
  refine I.lset (its' := its.eraseIdx k) (t' := s.toks) hH e ?_ (r.eraseIdx k) ?_
  · show its.toArray.eraseIdxIfInBounds k = (its.eraseIdx k).toArray
    rw [List.eraseIdxIfInBounds_toArray]
  · have := len_erase xs k
    omega
end

/-! ### xs[a:b] = ys -/
section
variable {prog : Program} {w : World} {A : Around} {E : Value → Shared → Prop} {s : Shared}
theorem splice_eq (its its2 : List Value) (a c : Nat) : its.toArray.extract 0 a ++ its2.toArray ++ its.toArray.extract c its.toArray.size = (its.take a ++ its2 ++ its.drop c).toArray := by
  apply Array.toList_inj.mp
  first
    | (simp
       exact List.take_of_length_le (by simp))
    | simp [List.take_of_length_le]
    | simp
theorem bounds_run {a c n : Nat} (hac : a ≤ c) (hc : c ≤ n) : sliceBounds (some (a : Int)) (some (c : Int)) none n = ((a : Int), (c : Int), 1) := by
  simp only [sliceBounds, Option.getD_none]
  have h1 : ¬ ((a : Int) < 0) := by omega
  have h2 : ¬ ((c : Int) < 0) := by omega
  simp only [h1, h2, if_false, show (1 : Int) > 0 by decide, if_true]
  congr 1
  · omega
  · congr 1; omega
set_option maxRecDepth 100000 in
/-- list.__setitem__ with a slice of step one and another list -/
theorem setItem_slice {l b sl : Addr} {items new : Array Value} {n n2 : Nat} {vl vu : Value} {a c : Nat} {Q : Unit → Shared → Prop}
    (e : s.heap.get? l = some { cls := .type "list", data := .seq items n }) (e2 : s.heap.get? b = some { cls := .type "list", data := .seq new n2 }) (hne : l ≠ b)
    (hs : s.heap.IsSliceOf sl vl vu .none) (pl : IsPart vl (some (a : Int))) (pu : IsPart vu (some (c : Int))) (hac : a ≤ c) (hc : c ≤ items.size)
    (hsz : items.size + new.size ≤ sizeLine) (h : Q () { s with heap := s.heap.update l (Obj.mapSeq fun xs => xs.extract 0 a ++ new ++ xs.extract c xs.size) }) :
    wpAny (model prog w) A (setItem (.ref l) (.ref sl) (.ref b)) Q E s := by
  have hl : s.heap.IsList l items := PySem.IsL.isList e
  have hb : s.heap.IsList b new := PySem.IsL.isList e2
  obtain ⟨os, hos, hcs, hds⟩ := id hs
  have hTs : s.TypeIs (.ref sl) "slice" := ⟨os, hos, hcs⟩
  have hstep : ¬ ((rawPart none == rawInt 0) = true) := Bool.false_ne_true
  have hsame : Builtin.List.listSameRef (.ref l) (.ref b) = false := by
    unfold Builtin.List.listSameRef
    exact beq_eq_false_iff_ne.mpr hne
  have hmax : (max (a : Int) (c : Int)).toNat = c := by omega
  have hz' : ((fun xs : Array Value => xs.extract 0 a ++ new ++ xs.extract c xs.size) items).size ≤ sizeLine + 1 := by
    simp only [Array.size_append, Array.size_extract]
    omega
  unfold setItem
  try with_reducible refine wpAny_holding ?_
  first | refine wpAny_bind (wpAny_pure ?_) | skip
  refine wpAny_bind (wpAny_sequenceKey hl.typeIs (by decide) ?_)
  refine wpAny_bind (wpAny_callSpecial?_slot (name := Str.ofString "__setitem__") hl.typeIs slot_list_setitem
    (wpAny_call_entry slot_list_setitem hl.typeIs entry_list_setitem ?_ (args_list_setitem _ _ _)))
  show wpAny _ _ (Builtin.List.listSubscript? (.ref sl) >>= _) _ _ s
  refine wpAny_bind ?_
  unfold Builtin.List.listSubscript?
  refine wpAny_bind (wpAny_specialOf hTs slice_no_index ?_)
  simp only [Option.isNone_none, if_true]
  refine wpAny_pure ?_
  show wpAny _ _ (typeOf (.ref sl) >>= _) _ _ s
  refine wpAny_bind (wpAny_typeOf hTs ?_)
  first
    | rw [if_neg (by decide)]
    | refine PySem.W.KFB.if_not (by decide) ?_
  rw [listSliceParts_eq]
  refine wpAny_bind (wpAny_bind (wpAny_field hos hds (x := .none) rfl (wpAny_bind (wpAny_listPart .none ?_))))
  rw [if_neg hstep]
  refine wpAny_bind (wpAny_field hos hds (x := vl) rfl (wpAny_bind (wpAny_listPart pl ?_)))
  refine wpAny_bind (wpAny_field hos hds (x := vu) rfl (wpAny_bind (wpAny_listPart pu (wpAny_pure ?_))))
  first
    | simp only [hsame, Bool.false_eq_true, if_false]
    | refine PySem.W.KFB.if_not hsame ?_
    | (dsimp only
       rw [if_neg (by rw [hsame]; exact Bool.false_ne_true)])
  refine wpAny_bind (m := Builtin.List.listAllItems (.ref b) "must assign iterable to extended slice") ?_
  unfold Builtin.List.listAllItems
  refine wpAny_bind (wpAny_typeOf hb.typeIs ?_)
  first
    | refine PySem.W.KFB.if_so (by decide) ?_
    | rw [if_pos (by decide)]
    | simp only [beq_self_eq_true, Bool.true_or, if_true]
  unfold Builtin.List.listItems
  refine wpAny_bind (wpAny_seqItems e2 rfl (wpAny_pure ?_))
  refine wpAny_bind (wpAny_bind (wpAny_seqItems e rfl (wpAny_pure ?_)))
  refine wpAny_bind (wpAny_of_eq ((sliceIndices_raw (some (a : Int)) (some (c : Int)) none items.size (by simp)).trans (congrArg (pure : Int × Int × Int → Sem (Int × Int × Int)) (bounds_run hac hc))) ?_)
  show wpAny _ _ (if ((1 : Int) == 1) = true then _ else _) _ _ s
  rw [if_pos (by decide)]
  refine wpAny_bind (wpAny_rule ?_)
  first
    | simp only [notLongL hsz, Bool.false_eq_true, if_false]
    | refine PySem.W.KFB.if_not (notLongL hsz) ?_
  first | refine wpAny_bind (wpAny_pure ?_) | skip
  show wpAny _ _ (updateSeq l (fun xs => xs.extract 0 ((a : Int)).toNat ++ new ++ xs.extract (max (a : Int) (c : Int)).toNat xs.size) >>= _) _ _ s
  rw [hmax, Int.toNat_natCast]
  refine wpAny_bind (wpAny_updateSeq (hz := Nat.le_trans (Nat.le_add_right _ _) hsz) (_hz' := hz') e rfl ?_)
  refine wpAny_bind (wpAny_letGo ?_)
  first
    | exact wpAny_bind (wpAny_pure (wpAny_pure ⟨.none, rfl, wpAny_pure h⟩))
    | exact wpAny_pure ⟨.none, rfl, wpAny_pure h⟩
end

section
variable {X : Cx}
/-- xs[a:c] = ys of another list, at the value level: sl is the slice object that was just made -/
theorem set_slice {pins : List (Addr × Obj)} {s : Shared} {σ : St} {H : Hp} {l b sl : Addr} {xs ys : List V} {a c : Int} {vl vu : Value} {Q : Unit → Shared → Prop} (I : Inv X pins σ H s)
    (hH : H l = some (.lst xs)) (hB : H b = some (.lst ys)) (hne : l ≠ b) (hs : s.heap.IsSliceOf sl vl vu .none) (ra : RelV (.int a) vl) (rc : RelV (.int c) vu) (h0 : 0 ≤ a) (hac : a ≤ c) (hc : c ≤ xs.length)
    (hz : xs.length + ys.length ≤ sizeLine) (h : ∀ s', Inv X pins σ (upd H l (.lst (xs.take a.toNat ++ ys ++ xs.drop c.toNat))) s' → Q () s') :
    wpAny (model X.prog X.w) X.A (setItem (.ref l) (.ref sl) (.ref b)) Q X.xe s := by
  obtain ⟨ta, rfl⟩ := ra
  obtain ⟨tc, rfl⟩ := rc
  obtain ⟨z, its, n, r, hl, e⟩ := I.lstM hH
  obtain ⟨z2, its2, n2, r2, hl2, e2⟩ := I.lstM hB
  obtain ⟨a', rfl⟩ := Int.eq_ofNat_of_zero_le h0
  obtain ⟨c', rfl⟩ := Int.eq_ofNat_of_zero_le (Int.le_trans h0 hac)
  simp only [Int.toNat_natCast] at h
  refine setItem_slice (a := a') (c := c') e e2 hne hs (.int _ _) (.int _ _) (by omega) (by rw [List.size_toArray]; omega) (by rw [List.size_toArray, List.size_toArray]; omega) (h _ ?_)
  refine I.lset (its' := its.take a' ++ its2 ++ its.drop c') (t' := s.toks) hH e ?_ (Vals.append (Vals.append (r.take _) r2) (r.drop _)) ?_
  · exact splice_eq its its2 a' c'
  · rw [List.length_append, List.length_append, List.length_take, List.length_drop]
    omega
end
end L2

namespace Att
open PySem PySem.W PySem.Calls PyProof.Rows

/-! ### the script -/
theorem ints_of_wellAll {P : Params} {h : Heap} : ∀ (ns : List Int) (vs : List Value), WellAll P h vs (ns.map WData.int) → IntsAre vs ns := by
  intro ns
  induction ns with
  | nil =>
    intro vs w
    rw [List.map_nil] at w
    cases w
    exact .nil
  | cons n ns ih =>
    intro vs w
    rw [List.map_cons] at w
    cases w with
    | cons a b =>
      cases a
      exact .cons _ _ (ih _ b)

theorem script_of {l : OpenLaw} {n : Nat} (hn : l.most = some n) {P : Params} {h : Heap} {args : List WData} {vals : List Value}
    (hpre : l.row.toRowW.claim.pre args = true) (hwl : WellAll P h vals args) :
    ∃ a vs ns, vals = [Value.ref a] ∧ args = [WData.list (ns.map WData.int)] ∧ h.get? a = some { cls := .type "list", data := .seq vs.toArray } ∧ IntsAre vs ns ∧ ns.length ≤ n := by
  have hsh : WShape.hasAll [] args [.list .int] = true := (pre_splitW hpre).1
  have hc : l.pre.holds [] { args := args } = true := (pre_splitW hpre).2
  obtain ⟨d, r, rfl, h1, h2⟩ := hasAllW_cons hsh
  obtain rfl := hasAllW_nil h2
  obtain ⟨xs, rfl, h3⟩ := hasW_list h1
  obtain ⟨ns, rfl⟩ := items_int h3
  have hlen : ns.length ≤ n := by
    unfold OpenLaw.pre at hc
    have h4 : (WTm.not (.lt (.lit (.int (n : Int))) (.len (.arg 0)))).holds [] { args := [.list (ns.map .int)] } = true := by
      have h4 := (holds_andW hc).1
      rw [hn] at h4
      exact h4
    have h5 := condW_of h4 (w_not (w_lt w_lit (w_len_list (w_arg rfl))))
    rw [List.length_map] at h5
    refine Nat.le_of_not_lt fun q => ?_
    have q' : (n : Int) < ((ns.length : Nat) : Int) := by omega
    first
      | (rw [decide_eq_true q'] at h5; exact absurd h5 (by decide))
      | (simp at h5; omega)
  cases hwl with
  | cons w1 w2 =>
    cases w2
    cases w1 with
    | list ho hall => exact ⟨_, _, ns, rfl, rfl, ho, ints_of_wellAll ns _ hall, hlen⟩

theorem post_true (l : OpenLaw) (args : List WData) : l.row.toRowW.claim.post args (.bool true) args = true :=
  postW_of (r := l.row.toRowW) (X := (true == true))
    (show WShape.has [] (.bool true) .bool = true by first | rfl | decide | simp [WShape.has, WShape.arms, WShape.armsAll])
    (show (WTm.eq .res (.lit (.bool true))).value [] { args := args, res := some (.bool true), after := args } = some (.bool (true == true)) from w_eq_bool (w_res rfl) w_lit) rfl

/-! ### the attachment: holds_open's last premise (the goal 'hc' behind k_head) from a wpAny of the law's body -/
theorem attach {l : OpenLaw} {n : Nat} {q : Program} {loose : List Str} {XP : (Str → Option Value) → Heap → Prop} {YP : World → Heap → Prop} {d : DefRec} {x : Str}
    (hn : l.most = some n) (hdf : d.params.defaults = [])
    (hbind : ∀ pm cd doc v : Value, bindArgs (docDef d.name d.params d.body d.scope pm cd doc) ⟨[v], []⟩ = pure [(x, v)])
    (hx : d.scope.names.lookup x = some .local ∨ d.scope.names.lookup x = some .cell)
    (hk : d.scope.kind = .function) (hco : d.scope.isCoroutine = false) (hgen : d.scope.isGenerator = false)
    (body : ∀ (w : World) (s₀ s₁ s : Shared) (mg mb : Str → Option Value) (fa : Addr) (o : Obj) (pm cd doc : Value) (a : Addr) (vs : List Value) (ns : List Int),
      Ground q loose [] XP w s₀ mg mb s₁.heap → YP w s₁.heap →
      s₁.heap.get? fa = some o → o.data = .func (docDef d.name d.params d.body d.scope pm cd doc) → s₁.heap.CodeRec cd d.name → mg d.name = some (.ref fa) →
      s₁.heap.get? a = some { cls := .type "list", data := .seq vs.toArray } → IntsAre vs ns → ns.length ≤ n →
      s.gens = #[] → s.os = s₁.os →
      Fr s₁.heap s₁.heap.objs.size s.heap (bindL (envOfC d.name d.scope s₁.heap.objs.size fa cd).kindOf [(x, .ref a)] fun _ => none) →
      Cl s₁.heap.objs.size (cellsFrom (s₁.heap.objs.size + 1) d.scope.names []) s.heap (bindC (envOfC d.name d.scope s₁.heap.objs.size fa cd).kindOf [(x, .ref a)] fun _ => none) →
      wpAny (model l.prog w) (callerA.deeper (envOfC d.name d.scope s₁.heap.objs.size fa cd)) (execs d.body (envOfC d.name d.scope s₁.heap.objs.size fa cd))
        (fun f s' => f = .ret (.bool true) ∧ OldK s₁.heap s'.heap ∧ s'.os = s₁.os ∧ AllBare s'.gens) (fun _ _ => False) s) :
    WalkO q loose XP YP l.row.toRowW d [] (fun f vs => PySem.call f vs) := by
  intro w s₀ s₁ mg mb G Y fa o pm cd doc dV kV ho hd hcd hD hmg hg args vals as hpre hlay hrd hwl hlo
  obtain rfl : dV = .none := Dflts.none hD hdf
  obtain rfl : kV = .none := Dflts.noKw hD
  obtain ⟨a, vs, ns, rfl, rfl, hobj, hints, hlen⟩ := script_of hn hpre hwl
  refine enter_call ?_
  refine call_cells_ret (o := o) (by rw [depth_caller]; decide) ho (fd_plain hd) G.T.nolimit hcd (hbind pm cd doc (.ref a)) (fun y hy => ?_) (fun h₁ tk F X => ?_) hco hgen hk
  · obtain rfl : y = (x, Value.ref a) := List.mem_singleton.mp hy
    rcases hx with e | e
    · exact .inl e
    · exact .inr ⟨e, cellsFrom_some _ _ _ (.inl e)⟩
  · refine wpAny_mono (body w s₀ s₁ { s₁ with heap := h₁, toks := tk } mg mb fa o pm cd doc a vs ns G Y ho (fd_plain hd) hcd hmg hobj hints hlen hg rfl F X) (fun f s' hq => ?_) (fun _ _ hq => hq)
    obtain ⟨rfl, h2, h3, h4⟩ := hq
    exact ⟨.inl ⟨.bool true, .bool true, [], rfl, fun _ => rfl, .bool true, post_true l _, fun _ => ⟨List.Pairwise.nil, fun _ hm => (nomatch hm)⟩⟩, h2, h3, h4⟩

/-- the same from a codeAny of the CALL (for a layer whose function contracts speak of calls) -/
theorem attach_call {l : OpenLaw} {n : Nat} {q : Program} {loose : List Str} {XP : (Str → Option Value) → Heap → Prop} {YP : World → Heap → Prop} {d : DefRec}
    (hn : l.most = some n) (hdf : d.params.defaults = [])
    (call : ∀ (w : World) (s₀ s₁ : Shared) (mg mb : Str → Option Value) (fa : Addr) (o : Obj) (pm cd doc : Value) (a : Addr) (vs : List Value) (ns : List Int),
      Ground q loose [] XP w s₀ mg mb s₁.heap → YP w s₁.heap →
      s₁.heap.get? fa = some o → o.data = .func (docDef d.name d.params d.body d.scope pm cd doc) → s₁.heap.CodeRec cd d.name → mg d.name = some (.ref fa) →
      s₁.heap.get? a = some { cls := .type "list", data := .seq vs.toArray } → IntsAre vs ns → ns.length ≤ n → s₁.gens = #[] →
      codeAny (model l.prog w) callerA (.call (.ref fa) ⟨[.ref a], []⟩) (fun r s' => r = .ok (.ret (.bool true)) ∧ OldK s₁.heap s'.heap ∧ s'.os = s₁.os ∧ AllBare s'.gens) s₁) :
    WalkO q loose XP YP l.row.toRowW d [] (fun f vs => PySem.call f vs) := by
  intro w s₀ s₁ mg mb G Y fa o pm cd doc dV kV ho hd hcd hD hmg hg args vals as hpre hlay hrd hwl hlo
  obtain rfl : dV = .none := Dflts.none hD hdf
  obtain rfl : kV = .none := Dflts.noKw hD
  obtain ⟨a, vs, ns, rfl, rfl, hobj, hints, hlen⟩ := script_of hn hpre hwl
  refine enter_call (codeAny_mono (call w s₀ s₁ mg mb fa o pm cd doc a vs ns G Y ho (fd_plain hd) hcd hmg hobj hints hlen hg) fun r s' hq => ?_)
  obtain ⟨rfl, h2, h3, h4⟩ := hq
  exact ⟨.inl ⟨.bool true, .bool true, [], rfl, fun _ => rfl, .bool true, post_true l _, fun _ => ⟨List.Pairwise.nil, fun _ hm => (nomatch hm)⟩⟩, h2, h3, h4⟩

/-- the same where the top left finished generators (o_head chose holds_openN): nothing may have changed at all and no generator may be left -/
theorem attachN {l : OpenLaw} {n : Nat} {q : Program} {loose : List Str} {XP : (Str → Option Value) → Heap → Prop} {YP : World → Heap → Prop} {d : DefRec} {x : Str}
    (hn : l.most = some n) (hdf : d.params.defaults = [])
    (hbind : ∀ pm cd doc v : Value, bindArgs (docDef d.name d.params d.body d.scope pm cd doc) ⟨[v], []⟩ = pure [(x, v)])
    (hx : d.scope.names.lookup x = some .local ∨ d.scope.names.lookup x = some .cell)
    (hk : d.scope.kind = .function) (hco : d.scope.isCoroutine = false) (hgen : d.scope.isGenerator = false)
    (body : ∀ (w : World) (s₀ s₁ s : Shared) (mg mb : Str → Option Value) (fa : Addr) (o : Obj) (pm cd doc : Value) (a : Addr) (vs : List Value) (ns : List Int),
      Ground q loose [] XP w s₀ mg mb s₁.heap → YP w s₁.heap →
      s₁.heap.get? fa = some o → o.data = .func (docDef d.name d.params d.body d.scope pm cd doc) → s₁.heap.CodeRec cd d.name → mg d.name = some (.ref fa) →
      s₁.heap.get? a = some { cls := .type "list", data := .seq vs.toArray } → IntsAre vs ns → ns.length ≤ n →
      s.gens = #[] → s.os = s₁.os →
      Fr s₁.heap s₁.heap.objs.size s.heap (bindL (envOfC d.name d.scope s₁.heap.objs.size fa cd).kindOf [(x, .ref a)] fun _ => none) →
      Cl s₁.heap.objs.size (cellsFrom (s₁.heap.objs.size + 1) d.scope.names []) s.heap (bindC (envOfC d.name d.scope s₁.heap.objs.size fa cd).kindOf [(x, .ref a)] fun _ => none) →
      wpAny (model l.prog w) (callerA.deeper (envOfC d.name d.scope s₁.heap.objs.size fa cd)) (execs d.body (envOfC d.name d.scope s₁.heap.objs.size fa cd))
        (fun f s' => f = .ret (.bool true) ∧ (∀ b o, s₁.heap.get? b = some o → s'.heap.get? b = some o) ∧ s'.os = s₁.os ∧ s'.gens = #[]) (fun _ _ => False) s) :
    WalkN q loose XP YP l.row.toRowW d [] (fun f vs => PySem.call f vs) := by
  intro w s₀ s₁ mg mb G Y fa o pm cd doc dV kV ho hd hcd hD hmg hg args vals as hpre hlay hrd hwl hlo
  obtain rfl : dV = .none := Dflts.none hD hdf
  obtain rfl : kV = .none := Dflts.noKw hD
  obtain ⟨a, vs, ns, rfl, rfl, hobj, hints, hlen⟩ := script_of hn hpre hwl
  refine enter_callW ?_
  refine call_cells_ret (o := o) (by rw [depth_caller]; decide) ho (fd_plain hd) G.T.nolimit hcd (hbind pm cd doc (.ref a)) (fun y hy => ?_) (fun h₁ tk F X => ?_) hco hgen hk
  · obtain rfl : y = (x, Value.ref a) := List.mem_singleton.mp hy
    rcases hx with e | e
    · exact .inl e
    · exact .inr ⟨e, cellsFrom_some _ _ _ (.inl e)⟩
  · refine wpAny_mono (body w s₀ s₁ { s₁ with heap := h₁, toks := tk } mg mb fa o pm cd doc a vs ns G Y ho (fd_plain hd) hcd hmg hobj hints hlen hg rfl F X) (fun f s' hq => ?_) (fun _ _ hq => hq)
    obtain ⟨rfl, h2, h3, h4⟩ := hq
    exact ⟨.inl ⟨.bool true, .bool true, [], rfl, fun _ => rfl, .bool true, post_true l _, fun _ => ⟨List.Pairwise.nil, fun _ hm => (nomatch hm)⟩⟩, h2, h3, h4⟩

/-! ### rules over ANY heap (no ledger) from facts about the written part K: the library's own take a ledger (News) for what they write -/
section
variable {prog : Program} {w : World} {A : Around} {E : Value → Shared → Prop} {s : Shared} {K : Frag}

/-- a def of the module, or a method (qual 'C.m'), entered: the frame is the next address; cells behind it -/
theorem call_fn {R : Result → Shared → Prop} {name qual : Str} {params : Arguments} {body : List Stmt} {scope : Scope} {dV kV doc pm cdv ct oc : Value} {an od : Option Addr} {osl : Array (Option Value)} {f : Addr} {args : Args} {binds : List (Str × Value)}
    (X : K.In s.heap) (hlim : s.heap.NoLimit) (ho : K.lookup f = some ⟨oc, od, .func (fnOf name qual params body scope dV kV doc pm an cdv ct), osl⟩) (hcd : codeIn K cdv qual = true) (hroom : A.depth < recursionLimit)
    (hbind : BindsTo s (fnOf name qual params body scope dV kV doc pm an cdv ct) args binds)
    (hkind : (binds.all fun y => scope.names.lookup y.1 == some .local || scope.names.lookup y.1 == some .cell) = true)
    (h : ∀ s₁, InCallC s s.heap.objs.size (bindL (envOfC qual scope s.heap.objs.size f cdv).kindOf binds fun _ => none) (cellsFrom (s.heap.objs.size + 1) scope.names [])
        (bindC (envOfC qual scope s.heap.objs.size f cdv).kindOf binds fun _ => none) s₁ →
      wpAny (model prog w) (A.deeper (envOfC qual scope s.heap.objs.size f cdv)) (execs body (envOfC qual scope s.heap.objs.size f cdv))
        (fun fl s' => R (.ok (.ret (match fl with | .ret v => v | _ => .none))) s')
        (fun e s' => wpAny (model prog w) (A.deeper (envOfC qual scope s.heap.objs.size f cdv)) (leaving (envOfC qual scope s.heap.objs.size f cdv) e) (fun _ s'' => R (.error e) s'') (fun e' s'' => R (.error e') s'') s') s₁)
    (hco : scope.isCoroutine = false) (hgen : scope.isGenerator = false) (hk : scope.kind = .function) : codeAny (model prog w) A (.call (.ref f) args) R s := by
  refine codeAny_call_function hroom (X _ _ ho) rfl hco hgen rfl (codeRec_of X hcd) (hbind _ _ _ _ ?_)
  refine wpAny_newFunctionEnv_cells hk (kindsX hkind _) fun env he s₁ x => ?_
  subst he
  exact ⟨hlim.keeps x.toInCall.keep, codeAny_func (h s₁ x)⟩

/-- C(..): dict at size, instance at size + 1, then __init__ -/
theorem make_obj {R : Result → Shared → Prop} {C fI : Addr} {rest : List Value} {kw : List (Str × Value)}
    (X : K.In s.heap) (hm : makesIn K C = true) (hi : findIn K (.ref C) "__init__" = some (some (.ref fI))) (hf : isFn K (.ref fI) = true)
    (h : codeAny (model prog w) (A.under (.builtin "type.__call__" ⟨.ref C :: rest, kw⟩)) (.call (.ref fI) ⟨.ref (s.heap.objs.size + 1) :: rest, kw⟩) (InitBack (s.heap.objs.size + 1) R)
      { s with heap := (s.heap.push emptyDict).push (instObj C s.heap.objs.size) }) : codeAny (model prog w) A (.call (.ref C) ⟨rest, kw⟩) R s := by
  obtain ⟨hh, g, d, t, os⟩ := s
  exact make_core (makes_of X hm) (looks_findIn X hi) (fun self => bind_fn X self (beq_iff_eq.mp hf)) (.inl rfl) h

/-- x.name where the instance's dict holds the name and the class does not -/
theorem get_field {x C : Addr} {ox : Obj} {es : List DictEntry} {n : Nat} {name : Str} {expr : Bool} {v : Value} {Q : Value → Shared → Prop}
    (X : K.In s.heap) (I : PySem.W.InstAt s.heap x ox C (some (dictOf es n))) (hg : plainGet K C name = true) (hh : hasDictIn K C = true) (ha : findIn K (.ref C) name = some none)
    (hl : getL name es = some (some v)) (hv : handedIn v = true) (h : Q v { s with toks := s.toks + 1 }) : wpAny (model prog w) A (getAttr (.ref x) name expr) Q E s :=
  get_value X I (plainGet_of hg).1 (findObj_own hh ha rfl hl) hv h

/-- x.m(..): the method found in the class -/
theorem get_method {x C f : Addr} {ox : Obj} {es : List DictEntry} {n : Nat} {name : Str} {pl : Sem Bool} {Q : Value × List Value → Shared → Prop}
    (X : K.In s.heap) (I : PySem.W.InstAt s.heap x ox C (some (dictOf es n))) (hg : plainGet K C name = true) (hf : findIn K (.ref C) name = some (some (.ref f))) (ht : isFn K (.ref f) = true)
    (hl : getL name es = some none) (h : Q (.ref f, [.ref x]) s) : wpAny (model prog w) A (getMethod (.ref x) name pl) Q E s :=
  method_fn X I (plainGet_of hg).1 (plainGet_of hg).2 hf (beq_iff_eq.mp ht) (by show (lookIn name (dictOf es n)).map _ = _; rw [lookIn_dict, hl]; rfl) h

/-! the whole heap as the ledger: makes every rule that writes through a ledger a rule over any heap -/
def noObjs (h : Heap) : Heap := { h with objs := #[] }
theorem noObjs_get (h : Heap) (b : Addr) : (noObjs h).get? b = none := by
  cases e : (noObjs h).get? b with
  | none => rfl
  | some o => exact absurd (Heap.lt_size e) (Nat.not_lt_zero _)
def ledger (h : Heap) (L d : Addr) : List (Addr × Obj) := (List.range h.objs.size).filterMap fun a => if a = L ∨ a = d then none else (h.get? a).map fun o => (a, o)
theorem mem_ledger {h : Heap} {L d a : Addr} {o : Obj} : (a, o) ∈ ledger h L d ↔ a ≠ L ∧ a ≠ d ∧ h.get? a = some o := by
  unfold ledger
  rw [List.mem_filterMap]
  constructor
  · rintro ⟨b, _, e⟩
    split at e
    · cases e
    · rename_i hb
      obtain ⟨o', ho, e'⟩ := Option.map_eq_some_iff.mp e
      cases e'
      exact ⟨fun q => hb (.inl q), fun q => hb (.inr q), ho⟩
  · rintro ⟨n1, n2, ho⟩
    refine ⟨a, List.mem_range.mpr (Heap.lt_size ho), ?_⟩
    rw [if_neg (show ¬ (a = L ∨ a = d) from fun q => q.elim n1 n2), ho] <;> rfl
theorem news_ledger {h : Heap} {L d : Addr} {od : Obj} (hne : d ≠ L) (ho : h.get? d = some od) : News (noObjs h) L h ([] ++ (d, od) :: ledger h L d) := by
  rintro ⟨a, o⟩ hp
  rcases List.mem_cons.mp hp with e | hp
  · cases e
    exact ⟨ho, hne, noObjs_get _ _⟩
  · obtain ⟨n1, n2, e⟩ := mem_ledger.mp hp
    exact ⟨e, n1, noObjs_get _ _⟩
theorem fr_all {h : Heap} {L : Addr} {m : Str → Option Value} (n : h.Ns L m) : Fr (noObjs h) L h m :=
  ⟨n, fun b o e => (by rw [noObjs_get] at e; cases e), Nat.zero_le _⟩
/-- Upd of the head entry (for append_K, setItem_K ..) -/
theorem upd_ledger {h : Heap} {L d : Addr} {o o' : Obj} : Upd d o o' ((d, o) :: ledger h L d) ((d, o') :: ledger h L d) :=
  .head fun ⟨_, _⟩ hp => (mem_ledger.mp hp).2.1

/-- x.name = v over any heap: L is any namespace of the heap (the frame's, say): its map stays, its object is not told; all else but the dict stays -/
theorem set_field {x C dx L : Addr} {ox : Obj} {m : Str → Option Value} {es es' : List DictEntry} {n n' : Nat} {name : Str} {v : Value} {Q : Unit → Shared → Prop}
    (X : K.In s.heap) (I : PySem.W.InstAt s.heap x ox C (some (dictOf es n))) (hd : ox.dict = some dx) (hL : s.heap.Ns L m) (hne : dx ≠ L)
    (hs : findIn K (.ref C) "__setattr__" = some (some (.builtin "object.__setattr__"))) (hp : plainOver K C = true) (ht : takerIn K C name = some none) (hh : hasDictIn K C = true) (hl : (getL name es).isSome = true)
    (e : (putL name (PyData.keyHash w.params name) (.str name (s.toks + 1)) v es, putN name es n) = (es', n')) (hz : es'.length ≤ 1000)
    (h : ∀ h' : Heap, h'.Ns L m → h'.get? dx = some (dictOf es' n') → (∀ b o, b ≠ dx → b ≠ L → s.heap.get? b = some o → h'.get? b = some o) → Q () { s with heap := h', toks := s.toks + 2 }) :
    wpAny (model prog w) A (setAttr (.ref x) name v) Q E s := by
  obtain ⟨e1, e2⟩ := Prod.mk.inj e
  have hdx : s.heap.get? dx = some (dictOf es n) := by
    have := I.dict
    rw [hd] at this
    exact this
  refine set_plain X I hs (osa_dict (s := { s with toks := s.toks + 1 }) (h₀ := noObjs s.heap) (L := L) (m := m) (od := dictOf es n) (od' := dictOf es' n') (es := es') (n := n') (pre := []) (post := ledger s.heap L dx)
    (fr_all hL) (news_ledger hne hdx) X I hd hp ht hh hl (fun _ q => nomatch q) (fun ⟨_, _⟩ q => (mem_ledger.mp q).2.1) (by rw [putName_dict, e1, e2]) rfl hz fun h' F' N' => ?_)
  exact h h' F'.ns (N'.get (List.Mem.head _)) fun b o n1 n2 ho => N'.get (List.Mem.tail _ (mem_ledger.mpr ⟨n2, n1, ho⟩))
end
end Att

namespace L2
open PySem PySem.Spec PyProof.Rows

theorem vals_ints : ∀ {vs : List Value} {ns : List Int}, IntsAre vs ns → Vals (ns.map V.int) vs
  | _, _, .nil => .nil
  | _, _, .cons n t h => .cons ⟨t, rfl⟩ (vals_ints h)

/-- nothing is tracked but the script, known to the object (or it is an object of the module) -/
def Only (H : Hp) : Prop := ∀ b, H b = none ∨ ∃ o xs, H b = some (.frz o (.lst xs))

/-- THE HEAD: the law's promise, at the heap behind the top. F, the promise of the law's def, may use that base is part of the heap (so K.In base, base.Ns mainGlobals mg stand in Mod) -/
theorem law_call {P : Program} {w : World} {K : PySem.W.Frag} {mg mb : Str → Option Value} {CX : CXT} {k : Nat} {fa a : Addr} {fd : FuncData} {x : Str} {sp : Sp} {s₁ : Shared} {vs : List Value} {ns : List Int}
    (KX : K.In s₁.heap) (hns : s₁.heap.Ns mainGlobals mg) (hb : s₁.heap.Ns builtinsNs mb) (hbb : ∀ x : Str, x ≠ "__name__" → mb x = bootBuiltins x) (hlim : s₁.heap.NoLimit) (hg : s₁.gens = #[])
    (ha : s₁.heap.get? a = some { cls := .type "list", data := .seq vs.toArray }) (hi : IntsAre vs ns) (hl : ns.length ≤ sizeLine) (hr : Room k callerA)
    (F : ∀ base : Heap, K.In base → base.Ns mainGlobals mg → FnOk P w K mg base CX k fa fd [x] sp) (hbind : ∀ (s : Shared) (u : Value), BindsTo s fd ⟨[u], []⟩ [(x, u)])
    (hsp : ∀ H : Hp, Only H → SqL K H a (ns.map V.int) → sp [.ref a] H (fun v _ => v = .bl true) fun _ _ _ => False)
    (hCX : ∀ H e s', CX [] H s₁ (fun _ _ _ => False) e s' → False) :
    codeAny (model P w) callerA (.call (.ref fa) ⟨[.ref a], []⟩) (fun r s' => r = .ok (.ret (.bool true)) ∧ OldK s₁.heap s'.heap ∧ s'.os = s₁.os ∧ AllBare s'.gens) s₁ := by
  have rv := vals_ints hi
  have lenV := hi.length
  -- from an abstract heap in which nothing but the script may be tracked
  have core : ∀ H : Hp, Only H → SqL K H a (ns.map V.int) → HOk P w H s₁.heap → (∀ b, H b ≠ none → b = a) → (H a ≠ none → K.lookup a = none) →
      codeAny (model P w) callerA (.call (.ref fa) ⟨[.ref a], []⟩) (fun r s' => r = .ok (.ret (.bool true)) ∧ OldK s₁.heap s'.heap ∧ s'.os = s₁.os ∧ AllBare s'.gens) s₁ := by
    intro H hO hS hok hA hK
    have base_of : ∀ {b : Addr} {o : Obj}, s₁.heap.get? b = some o → H b = none → (hidT s₁.heap H).get? b = some o := fun e n => hidT_get e n
    have noA : ∀ {b : Addr} {o : Obj} {es : Array DictEntry} {ep : Nat}, s₁.heap.get? b = some o → o.data = .dict es ep → H b = none := fun {b o es ep} e d => by
      cases q : H b with
      | none => rfl
      | some u =>
        have e' : b = a := hA b (by rw [q]; simp)
        subst e'
        rw [ha] at e; cases e
        have d' : Data.seq vs.toArray _ = Data.dict es ep := d
        cases d'
    have nsK : ∀ {b : Addr} {m : Str → Option Value}, s₁.heap.Ns b m → (hidT s₁.heap H).Ns b m := fun {b m} ⟨o, es, ep, e, d, r⟩ => ⟨o, es, ep, base_of e (noA e d), d, r⟩
    have hKb : K.In (hidT s₁.heap H) := fun b o e => base_of (KX b o e) (by
      cases q : H b with
      | none => rfl
      | some u =>
        have e' : b = a := hA b (by rw [q]; simp)
        subst e'
        rw [hK (by rw [q]; simp)] at e; cases e)
    have hM : Mod K mg (hidT s₁.heap H) := ⟨hKb, nsK hns, ⟨mb, nsK hb, hbb⟩, let ⟨mc, h1, h2⟩ := hlim; ⟨mc, nsK h1, h2⟩⟩
    have e0 : Env0 P w K mg (hidT s₁.heap H) callerA [] s₁ H := ⟨rfl, hM, fun b o e => of_hidT e, Nat.le_of_eq (hidT_size _ _), trivial, fun b hb => absurd (show b ∈ ([] : List Addr) from hb) (by simp), hok, .of_eq hg⟩
    refine codeAny_mono ((F _ hKb (nsK hns)).run callerA [] s₁ H ⟨[.ref a], []⟩ [.ref a] [.ref a] _ _ hr e0 (hbind s₁ (.ref a)) (.cons rfl .nil) (hsp H hO hS)) fun r s' h => ?_
    cases r with
    | error e => exact (hCX H e s' h).elim
    | ok fl =>
      cases fl with
      | next => exact False.elim h
      | brk => exact False.elim h
      | cont => exact False.elim h
      | ret u =>
        obtain ⟨v, H', os, bare, un, hok', r', q⟩ := h
        have q' : v = .bl true := q
        subst q'
        obtain rfl : u = Value.bool true := r'
        refine ⟨rfl, OldK.of_keep fun b o e => ?_, os, bare⟩
        cases q : H b with
        | none => exact un.keep b o e q (by intro z; exact absurd (show b ∈ ([] : List Addr) from z) (by simp)) (by simp)
        | some u =>
          rcases hO b with z | ⟨ob, xs, z⟩
          · rw [q] at z; cases z
          · have z2 := un.frzs b ob _ z
            obtain ⟨e1, _⟩ := hok b _ z
            obtain ⟨e2, _⟩ := hok' b _ z2
            rw [e] at e1; cases e1
            exact e2
  cases hk : K.lookup a with
  | some o =>
    -- the script is one of the module's own objects
    have e := KX a o hk
    rw [ha] at e
    cases e
    refine core (fun _ => none) (fun _ => .inl rfl) (.inr ⟨_, vs.toArray, _, hk, rfl, rfl, rfl, by rw [List.size_toArray, lenV]; exact hl, by simpa using rv⟩) (fun b u z => by have z' : (none : Option HO) = some u := z; cases z') (fun b z => absurd rfl z) fun z => absurd rfl z
  | none =>
    refine core (fun b => if b = a then some (.frz { cls := .type "list", data := .seq vs.toArray } (.lst (ns.map V.int))) else none) (fun b => ?_) (.inl (.inr ⟨{ cls := .type "list", data := .seq vs.toArray }, if_pos rfl⟩)) (fun b u z => ?_) (fun b z => ?_) fun _ => hk
    · by_cases hb : b = a
      · exact .inr ⟨_, _, if_pos hb⟩
      · exact .inl (if_neg hb)
    · by_cases hb : b = a
      · have z' := (if_pos hb).symm.trans z
        cases z'
        subst hb
        exact ⟨ha, by rw [List.length_map]; exact hl, vs, _, rv, ha⟩
      · have z' := (if_neg hb).symm.trans z
        cases z'
    · by_cases hb : b = a
      · exact hb
      · exact absurd (if_neg hb) z
end L2

namespace L2
open PySem PySem.Spec PyProof.Rows

abbrev KOf {K : PySem.W.Frag} {h : Heap} (_ : K.In h) : PySem.W.Frag := K

/-- the goal that k_head leaves (case hc), from the law's promise. F gives the function object fd (K's own) once, then the promise over every base -/
theorem walk_of {l : PySem.W.OpenLaw} {n k : Nat} {q : Program} {loose : List Str} {XP : (Str → Option Value) → Heap → Prop} {YP : World → Heap → Prop} {d : DefRec} {K : Params → PySem.W.Frag} {CX : World → CXT} {sp : World → Sp} {x : Str}
    (hn : l.most = some n) (hn2 : n ≤ sizeLine) (hdf : d.params.defaults = []) (hr : Room k callerA)
    (hY : ∀ (w : World) (h : Heap), YP w h → (K w.params).In h)
    (F : ∀ (w : World) (mg : Str → Option Value) (fa : Addr) (h : Heap), (K w.params).In h → h.Ns mainGlobals mg → mg d.name = some (.ref fa) →
      ∃ fd : FuncData, (∀ (s : Shared) (u : Value), BindsTo s fd ⟨[u], []⟩ [(x, u)]) ∧
        ∀ base : Heap, (K w.params).In base → base.Ns mainGlobals mg → FnOk l.prog w (K w.params) mg base (CX w) k fa fd [x] (sp w))
    (hsp : ∀ (w : World) (H : Hp) (a : Addr) (ns : List Int), ns.length ≤ n → Only H → SqL (K w.params) H a (ns.map V.int) → sp w [.ref a] H (fun v _ => v = .bl true) fun _ _ _ => False)
    (hCX : ∀ (w : World) (H : Hp) (s : Shared) (e : Value) (s' : Shared), CX w [] H s (fun _ _ _ => False) e s' → False) :
    PySem.W.WalkO q loose XP YP l.row.toRowW d [] (fun f vs => PySem.call f vs) := by
  refine Att.attach_call hn hdf fun w s₀ s₁ mg mb fa o pm cd doc a vs ns G Y ho hd hcd hmg hobj hints hlen hg => ?_
  have KX := hY w _ Y
  obtain ⟨fd, hb, hF⟩ := F w mg fa _ KX G.T.g hmg
  exact law_call KX G.T.g G.T.b G.T.builtins G.T.nolimit hg hobj hints (Nat.le_trans hlen hn2) hr hF hb (fun H hO hS => hsp w H a ns hlen hO hS) fun H e s' => hCX w H s₁ e s'
/-- the same where the promise hangs on the written part alone: (sp := My.sp_law), no hole under a binder -/
theorem walk_ofK {l : PySem.W.OpenLaw} {n k : Nat} {q : Program} {loose : List Str} {XP : (Str → Option Value) → Heap → Prop} {YP : World → Heap → Prop} {d : DefRec} {K : Params → PySem.W.Frag} {CX : CXT} {sp : PySem.W.Frag → Sp} {x : Str}
    (hn : l.most = some n) (hn2 : n ≤ sizeLine) (hdf : d.params.defaults = []) (hr : Room k callerA)
    (hY : ∀ (w : World) (h : Heap), YP w h → (K w.params).In h)
    (F : ∀ (w : World) (mg : Str → Option Value) (fa : Addr) (h : Heap), (K w.params).In h → h.Ns mainGlobals mg → mg d.name = some (.ref fa) →
      ∃ fd : FuncData, (∀ (s : Shared) (u : Value), BindsTo s fd ⟨[u], []⟩ [(x, u)]) ∧
        ∀ base : Heap, (K w.params).In base → base.Ns mainGlobals mg → FnOk l.prog w (K w.params) mg base CX k fa fd [x] (sp (K w.params)))
    (hsp : ∀ (K : PySem.W.Frag) (H : Hp) (a : Addr) (ns : List Int), ns.length ≤ n → Only H → SqL K H a (ns.map V.int) → sp K [.ref a] H (fun v _ => v = .bl true) fun _ _ _ => False)
    (hCX : ∀ (H : Hp) (s : Shared) (e : Value) (s' : Shared), CX [] H s (fun _ _ _ => False) e s' → False) :
    PySem.W.WalkO q loose XP YP l.row.toRowW d [] (fun f vs => PySem.call f vs) :=
  walk_of (K := K) (CX := fun _ => CX) (sp := fun w => sp (K w.params)) hn hn2 hdf hr hY F (fun w H a ns h1 h2 h3 => hsp (K w.params) H a ns h1 h2 h3) fun _ H s e s' => hCX H s e s'
end L2

/- THE LAST THEOREM (shape; LID, My.* are yours):
   My.Adr: a structure of the addresses that your layer names (classes, functions); My.Txt K t: a structure (Prop) of the equations over K;
   My.txt_mk : {K} {implicit addresses ..} (e1 : nsIn K mainGlobals "law" = some (some (.ref f))) (e2 : K.lookup f = some ⟨oc, od, .func (fnOf "law" "law" params body scope dV kV doc pm an cdv ct), sl⟩) (e3 : codeIn K cdv "law" = true) .. : ∃ t, My.Txt K t

set_option maxRecDepth 100000 in
set_option maxHeartbeats 0 in
theorem PySem.Challenge.cw_LID_holds : PySem.Challenge.rw_LID.Holds := by
  w_on; o_law; k_head; (case hw => w_witness2)
  k_fill
  refine L2.walk_of (l := PySem.Challenge.rw_LID) (n := 63) (k := 40) (x := "script") (CX := fun w => ..) (sp := fun _ => My.sp_law) rfl (by decide) rfl ⟨rfl, by decide, by decide⟩ (fun w h Y => PySem.W.kIn_of Y) ?F ?S ?C
  case F =>
    intro w mg fa h KX G hmg
    have T : ∃ t, My.Txt (L2.KOf KX) t := by
      dsimp only [L2.KOf]                          -- K must stand as «<heap const> w.params» for k_is
      refine' My.txt_mk ?e1 ?e2 ?e3 ..
      (case e1 => PySem.W.k_is)                    -- in the order: a name -> its address -> its object -> its parts
      (case e2 => PySem.W.k_is)
      ..
    obtain ⟨t, T⟩ := T
    have e0 := hmg.symm.trans (PySem.W.mg_of KX G T.law)
    cases e0                                       -- fa is the law's own address
    exact ⟨_, fun s u => .of_eq rfl, fun base kb nb => My.law_fn T kb nb⟩     -- if «.of_eq rfl» comes too early: refine' ⟨_, ?b, fun base kb nb => My.law_fn T kb nb⟩; exact fun s u => .of_eq rfl
  case S => exact fun w H a ns hl hO hS => ..
  case C => exact ..
(the tactic k_is has no namespace: write k_is) -/

/-! SHORT WORDS over the layer: a def of the text, its body, what a loop and a test want. -/
namespace L2
open PySem PySem.Spec PyProof.Rows

/-! ### the text by places -/
/-- the j-th statement of a class's body -/
def inClass (s : Stmt) (j : Nat) : Stmt := match s with
  | .ClassDef _ _ _ body _ _ _ _ _ _ _ => body.getD j (.Pass ⟨0, 0, 0, 0⟩)
  | _ => .Pass ⟨0, 0, 0, 0⟩
def defArgs (s : Stmt) : Arguments := match s with
  | .FunctionDef _ a _ _ _ _ _ _ _ _ => a
  | _ => { posonlyargs := [], args := [], vararg := none, kwonlyargs := [], kw_defaults := [], kwarg := none, defaults := [] }
def defBody (s : Stmt) : List Stmt := match s with
  | .FunctionDef _ _ b _ _ _ _ _ _ _ => b
  | _ => []
def defScope (s : Stmt) : Scope := match s with
  | .FunctionDef _ _ _ _ _ _ sc _ _ _ => sc
  | _ => { kind := .function, names := [], isGenerator := false, isCoroutine := false }

/-! ### no exception leaves a def -/
abbrev CX0 : CXT := fun _ _ _ _ _ _ => False
abbrev E0 : XK := fun _ _ _ => False
theorem pass0 {X : Cx} : Passes CX0 X E0 := fun _ _ _ _ _ _ _ h => h.elim

/-! ### a def (or method) of the text as it stands behind the top -/
structure Fun (K : PySem.W.Frag) (x qual : Str) (st : Stmt) (f : Addr) (fd : FuncData) : Prop where
  ex : ∃ (oc : Value) (od : Option Addr) (kV doc pm : Value) (an : Option Addr) (cdv ct : Value) (osl : Array (Option Value)),
    fd = PySem.W.fnOf x qual (defArgs st) (defBody st) (defScope st) .none kV doc pm an cdv ct ∧ K.lookup f = some ⟨oc, od, .func fd, osl⟩ ∧ PySem.W.codeIn K cdv qual = true
  kp : PySem.W.keepIn K (.ref f) = true
section
variable {P : Program} {w : World} {K : PySem.W.Frag} {mg : Str → Option Value} {base : Heap}
/-- THE RULE for a def: its body as a term of rules, and the reading of that term -/
theorem Fun.ok {x qual : Str} {st : Stmt} {f : Addr} {fd : FuncData} {N ps : List Str} {k : Nat} {sp : Sp} (F : Fun K x qual st f fd) (S : FnScope N ps (defScope st)) (len : ∀ vs H Q E, sp vs H Q E → vs.length = ps.length)
    (hbody : ∀ (cdv : Value) (A : Around) (outer : List Env) (s : Shared) (H : Hp) (vs : List V) (Q : VK) (E : XK), Room k (A.deeper (envOfC qual (defScope st) s.heap.objs.size f cdv)) → sp vs H Q E →
      ∃ t, PSs (cxOf CX0 P w K mg base N qual (defScope st) f cdv A outer s H E).nox (defBody st) t ∧ t { nx := fun _ H' => Q .non H', rt := Q } (start N vs) H) : FnOk P w K mg base CX0 (k + 1) f fd ps sp := by
  obtain ⟨oc, od, kV, doc, pm, an, cdv, ct, osl, rfl, lk, hcd⟩ := F.ex
  refine fn_of lk hcd S len fun A outer s H vs Q E hr hsp => ?_
  obtain ⟨t, h, q⟩ := hbody cdv A outer s H vs Q E hr hsp
  exact ⟨t, h.nox, q⟩
/-- how its arguments bind (no defaults): h is «fun _ _ _ _ _ _ us hl => match us, hl with | [_, _], _ => rfl», one _ a parameter -/
theorem Fun.binds {x qual : Str} {st : Stmt} {f : Addr} {fd : FuncData} {ps : List Str} (F : Fun K x qual st f fd)
    (h : ∀ (kV doc pm : Value) (an : Option Addr) (cdv ct : Value) (us : List Value), us.length = ps.length → bindArgs (PySem.W.fnOf x qual (defArgs st) (defBody st) (defScope st) .none kV doc pm an cdv ct) ⟨us, []⟩ = pure (ps.zip us)) : Binds K fd ps [] := by
  obtain ⟨oc, od, kV, doc, pm, an, cdv, ct, osl, rfl, lk, hcd⟩ := F.ex
  exact .all (h kV doc pm an cdv ct)
theorem fun_mk {x qual : Str} {st : Stmt} {f : Addr} {oc : Value} {od an : Option Addr} {osl : Array (Option Value)} {kV doc pm cdv ct : Value} (l : K.lookup f = some ⟨oc, od, .func (PySem.W.fnOf x qual (defArgs st) (defBody st) (defScope st) .none kV doc pm an cdv ct), osl⟩)
    (c : PySem.W.codeIn K cdv qual = true) (k : PySem.W.keepIn K (.ref f) = true) : Fun K x qual st f (PySem.W.fnOf x qual (defArgs st) (defBody st) (defScope st) .none kV doc pm an cdv ct) := ⟨⟨oc, od, kV, doc, pm, an, cdv, ct, osl, rfl, l, c⟩, k⟩
end
theorem hu_of {A : Around} {k : Nat} (hr : Room k A) : A.units + 1 < cLine := Nat.lt_of_le_of_lt (Nat.add_le_add_left (by decide : 1 ≤ 64) _) hr.units
theorem small1000 {n : Nat} (h : n ≤ 1000) : n < sizeLine := Nat.lt_of_le_of_lt h (by decide)

/-! ### expressions in short: the name that stands in the i-th slot -/
section
variable {X : Cx}
theorem pv (i : Nat) {x : Str} {pos : Pos} (hN : X.N[i]? = some x := by rfl) (hv : Vis X.env.scope x := by first | exact Or.inl rfl | exact Or.inr (Or.inl rfl) | exact Or.inr (Or.inr rfl)) (hd : (x == ("__debug__" : Str)) = false := by decide)
    (hcd : (x == ("__classdict__" : Str)) = false := by decide) : PE X (.Name x pos) (tVar i) := pe_var hN hv hd hcd
end

/-! ### tests -/
theorem iteF {A B : Prop} (h : B) : if false = true then A else B := by
  rw [if_neg Bool.false_ne_true]
  exact h
theorem iteT {A B : Prop} (h : A) : if true = true then A else B := by
  rw [if_pos rfl]
  exact h
theorem ite2 {c A B : Prop} [Decidable c] (h1 : c → A) (h2 : ¬ c → B) : if c then A else B := by
  by_cases h : c
  · rw [if_pos h]
    exact h1 h
  · rw [if_neg h]
    exact h2 h
theorem iteNS {c A B : Prop} [Decidable c] (hc : c) (h : B) : if (!decide c) = true then A else B := by
  rw [decide_eq_true hc]
  exact iteF h

/-! ### heaps -/
/-- all that was tracked is as it was -/
def Same (H H' : Hp) : Prop := ∀ b o, H b = some o → H' b = some o
theorem Same.refl (H : Hp) : Same H H := fun _ _ h => h
theorem Same.trans {H H1 H2 : Hp} (a : Same H H1) (b : Same H1 H2) : Same H H2 := fun c o h => b c o (a c o h)
theorem Same.free {H H' : Hp} (e : Same H H') {l : Addr} (h : H' l = Option.none) : H l = Option.none := by
  cases q : H l with
  | none => rfl
  | some o =>
    rw [e l o q] at h
    cases h
theorem Same.seq {K : PySem.W.Frag} {H H' : Hp} {a : Addr} {xs : List V} (e : Same H H') (h : SqL K H a xs) : SqL K H' a xs := by
  rcases h with (h | ⟨o, h⟩) | h
  · exact .inl (.inl (e _ _ h))
  · exact .inl (.inr ⟨o, e _ _ h⟩)
  · exact .inr h

end L2


/-! PLAIN DATA over the hand layer: values as trees, slots as values or owned lists, big-step readings. -/
namespace Wy
open PySem PySem.Spec PyProof.Rows L2

/-- plain data -/
inductive D where
  | non | bl (b : Bool) | int (i : Int) | str (x : Str) | tup (xs : List D) | lst (xs : List D)

mutual
/-- the value v bears the data d, over the (value) heap G -/
def Den (K : PySem.W.Frag) (G : Hp) : D → V → Prop
  | .non, v => v = .non
  | .bl b, v => v = .bl b
  | .int i, v => v = .int i
  | .str x, v => v = .str x
  | .tup ds, v => ∃ a vs, v = .ref a ∧ SqT K G a vs ∧ DenL K G ds vs
  | .lst ds, v => ∃ a vs, v = .ref a ∧ SqL K G a vs ∧ DenL K G ds vs
def DenL (K : PySem.W.Frag) (G : Hp) : List D → List V → Prop
  | [], vs => vs = []
  | d :: ds, vs => ∃ v r, vs = v :: r ∧ Den K G d v ∧ DenL K G ds r
end
theorem Same.seqT {K : PySem.W.Frag} {H H' : Hp} {a : Addr} {xs : List V} (e : Same H H') (h : SqT K H a xs) : SqT K H' a xs := by
  rcases h with (h | ⟨o, h⟩) | h
  · exact .inl (.inl (e _ _ h))
  · exact .inl (.inr ⟨o, e _ _ h⟩)
  · exact .inr h
section
variable {K : PySem.W.Frag} {G G' : Hp}
mutual
theorem Den.mono (e : Same G G') : (d : D) → (v : V) → Den K G d v → Den K G' d v
  | .non, _, h => h
  | .bl _, _, h => h
  | .int _, _, h => h
  | .str _, _, h => h
  | .tup ds, _, h => by
    unfold Den at h ⊢
    obtain ⟨a, vs, e1, s, l⟩ := h
    exact ⟨a, vs, e1, Same.seqT e s, DenL.mono e ds vs l⟩
  | .lst ds, _, h => by
    unfold Den at h ⊢
    obtain ⟨a, vs, e1, s, l⟩ := h
    exact ⟨a, vs, e1, e.seq s, DenL.mono e ds vs l⟩
theorem DenL.mono (e : Same G G') : (ds : List D) → (vs : List V) → DenL K G ds vs → DenL K G' ds vs
  | [], _, h => by unfold DenL at h ⊢; exact h
  | d :: ds, vs, h => by
    unfold DenL at h ⊢
    obtain ⟨v, r, e1, h1, h2⟩ := h
    exact ⟨v, r, e1, Den.mono e d v h1, DenL.mono e ds r h2⟩
end
theorem Den.up {d : D} {v : V} (h : Den K G d v) (e : Same G G') : Den K G' d v := Den.mono e d v h
theorem DenL.up {ds : List D} {vs : List V} (h : DenL K G ds vs) (e : Same G G') : DenL K G' ds vs := DenL.mono e ds vs h
theorem denL_nil {vs : List V} : DenL K G [] vs ↔ vs = [] := by unfold DenL; exact Iff.rfl
theorem denL_cons {d : D} {ds : List D} {vs : List V} : DenL K G (d :: ds) vs ↔ ∃ v r, vs = v :: r ∧ Den K G d v ∧ DenL K G ds r := by
  constructor
  · intro h; unfold DenL at h; exact h
  · intro h; unfold DenL; exact h
theorem den_tup {ds : List D} {v : V} : Den K G (.tup ds) v ↔ ∃ a vs, v = .ref a ∧ SqT K G a vs ∧ DenL K G ds vs := by
  constructor
  · intro h; unfold Den at h; exact h
  · intro h; unfold Den; exact h
theorem den_lst {ds : List D} {v : V} : Den K G (.lst ds) v ↔ ∃ a vs, v = .ref a ∧ SqL K G a vs ∧ DenL K G ds vs := by
  constructor
  · intro h; unfold Den at h; exact h
  · intro h; unfold Den; exact h
theorem DenL.one {d : D} {v : V} (h : Den K G d v) : DenL K G [d] [v] := denL_cons.mpr ⟨v, [], rfl, h, denL_nil.mpr rfl⟩
theorem DenL.length : ∀ {ds : List D} {vs : List V}, DenL K G ds vs → ds.length = vs.length
  | [], vs, h => by rw [denL_nil.mp h]; rfl
  | d :: ds, vs, h => by
    obtain ⟨v, r, rfl, _, h2⟩ := denL_cons.mp h
    simp [DenL.length h2]
theorem DenL.get : ∀ {ds : List D} {vs : List V} {i : Nat} {d : D}, DenL K G ds vs → ds[i]? = some d → ∃ v, vs[i]? = some v ∧ Den K G d v
  | [], _, _, _, _, e => by simp at e
  | d :: ds, vs, 0, x, h, e => by
    obtain ⟨v, r, rfl, h1, _⟩ := denL_cons.mp h
    simp at e; subst e
    exact ⟨v, rfl, h1⟩
  | d :: ds, vs, i + 1, x, h, e => by
    obtain ⟨v, r, rfl, _, h2⟩ := denL_cons.mp h
    obtain ⟨u, e1, e2⟩ := DenL.get (i := i) (d := x) h2 (by simpa using e)
    exact ⟨u, by simpa using e1, e2⟩
theorem DenL.append : ∀ {ds es : List D} {vs us : List V}, DenL K G ds vs → DenL K G es us → DenL K G (ds ++ es) (vs ++ us)
  | [], _, vs, _, h, h' => by rw [denL_nil.mp h]; exact h'
  | d :: ds, es, vs, us, h, h' => by
    obtain ⟨v, r, rfl, h1, h2⟩ := denL_cons.mp h
    exact denL_cons.mpr ⟨v, r ++ us, rfl, h1, DenL.append h2 h'⟩
theorem DenL.take : ∀ {ds : List D} {vs : List V} (n : Nat), DenL K G ds vs → DenL K G (ds.take n) (vs.take n)
  | _, _, 0, _ => by rw [List.take_zero, List.take_zero]; exact denL_nil.mpr rfl
  | [], vs, n + 1, h => by rw [denL_nil.mp h]; exact denL_nil.mpr (by simp)
  | d :: ds, vs, n + 1, h => by
    obtain ⟨v, r, rfl, h1, h2⟩ := denL_cons.mp h
    exact denL_cons.mpr ⟨v, r.take n, rfl, h1, DenL.take n h2⟩
theorem DenL.drop : ∀ {ds : List D} {vs : List V} (n : Nat), DenL K G ds vs → DenL K G (ds.drop n) (vs.drop n)
  | _, _, 0, h => h
  | [], vs, n + 1, h => by rw [denL_nil.mp h]; exact denL_nil.mpr (by simp)
  | d :: ds, vs, n + 1, h => by
    obtain ⟨v, r, rfl, h1, h2⟩ := denL_cons.mp h
    exact DenL.drop n h2
theorem DenL.reverse : ∀ {ds : List D} {vs : List V}, DenL K G ds vs → DenL K G ds.reverse vs.reverse
  | [], vs, h => by rw [denL_nil.mp h]; exact denL_nil.mpr rfl
  | d :: ds, vs, h => by
    obtain ⟨v, r, rfl, h1, h2⟩ := denL_cons.mp h
    rw [List.reverse_cons, List.reverse_cons]
    exact (DenL.reverse h2).append (.one h1)
theorem DenL.dropLast {ds : List D} {vs : List V} (h : DenL K G ds vs) : DenL K G ds.dropLast vs.dropLast := by
  rw [List.dropLast_eq_take, List.dropLast_eq_take, h.length]
  exact h.take _
end

/-! ### what a step may do: the value heap grows by new things alone, nothing that was tracked changes -/
structure Ext (H G H' G' : Hp) : Prop where
  gg : Same G G'
  gh : Same G' H'
  hh : Same H H'
  fr : ∀ a, H a ≠ none → G' a = G a
theorem Ext.refl {H G : Hp} (h : Same G H) : Ext H G H G := ⟨Same.refl _, h, Same.refl _, fun _ _ => rfl⟩
theorem some_ne {α : Type} {o : Option α} {x : α} (h : o = some x) : o ≠ none := by rw [h]; exact fun z => nomatch z
theorem Same.ne {H H' : Hp} (e : Same H H') {a : Addr} (h : H a ≠ none) : H' a ≠ none := by
  cases q : H a with
  | none => exact absurd q h
  | some o => exact some_ne (e a o q)
theorem Ext.trans {H G H1 G1 H2 G2 : Hp} (a : Ext H G H1 G1) (b : Ext H1 G1 H2 G2) : Ext H G H2 G2 :=
  ⟨a.gg.trans b.gg, b.gh, a.hh.trans b.hh, fun c h => (b.fr c (Same.ne a.hh h)).trans (a.fr c h)⟩
theorem same_upd {H : Hp} {p : Addr} (h : H p = none) (o : HO) : Same H (upd H p o) := fun b u q => by rw [upd_ne (ne_of_none q h)]; exact q
theorem Ext.alloc {H G : Hp} {p : Addr} (h : Same G H) (hp : H p = none) (o : HO) : Ext H G (upd H p o) (upd G p o) where
  gg := same_upd (h.free hp) o
  gh := fun b u q => by
    by_cases e : b = p
    · subst e; rw [upd_same] at q ⊢; exact q
    · rw [upd_ne e] at q ⊢; exact h b u q
  hh := same_upd hp o
  fr := fun a ha => upd_ne (fun e => ha (by rw [e]; exact hp))
/-- a new thing that the value heap does not take -/
theorem Ext.own {H G : Hp} {p : Addr} (h : Same G H) (hp : H p = none) (o : HO) : Ext H G (upd H p o) G :=
  ⟨Same.refl _, h.trans (same_upd hp o), same_upd hp o, fun _ _ => rfl⟩
/-- .. and takes later -/
theorem Ext.take {H G H' G' : Hp} {p : Addr} {o : HO} (e : Ext H G H' G') (hp : H p = none) (h' : H' p = some o) (g' : G' p = none) : Ext H G H' (upd G' p o) where
  gg := e.gg.trans (same_upd g' o)
  gh := fun b u q => by
    by_cases z : b = p
    · subst z; rw [upd_same] at q; rw [h']; exact q
    · rw [upd_ne z] at q; exact e.gh b u q
  hh := e.hh
  fr := fun a ha => (upd_ne (fun z => ha (by rw [z]; exact hp))).trans (e.fr a ha)

/-! ### slots -/
inductive Sl where
  | un | val (d : D) | own (xs : List D)
abbrev Ga := List Sl
structure Rep (K : PySem.W.Frag) (H₀ G₀ : Hp) (Γ : Ga) (σ : L2.St) (H G : Hp) : Prop where
  ex : Ext H₀ G₀ H G
  ln : Γ.length = σ.length
  vl : ∀ (i : Nat) d, Γ[i]? = some (.val d) → ∃ v, σ[i]? = some (some v) ∧ Den K G d v
  ow : ∀ (i : Nat) xs, Γ[i]? = some (.own xs) → ∃ a vs, σ[i]? = some (some (.ref a)) ∧ H a = some (.lst vs) ∧ H₀ a = none ∧ G a = none ∧ DenL K G xs vs
  di : ∀ (i j : Nat) xs ys a, Γ[i]? = some (.own xs) → Γ[j]? = some (.own ys) → σ[i]? = some (some (V.ref a)) → σ[j]? = some (some (V.ref a)) → i = j
section
variable {K : PySem.W.Frag} {H₀ G₀ H G H' G' : Hp} {Γ : Ga} {σ : L2.St}
theorem Rep.gh (R : Rep K H₀ G₀ Γ σ H G) : Same G H := R.ex.gh
theorem Rep.after (R : Rep K H₀ G₀ Γ σ H G) (e : Ext H G H' G') : Rep K H₀ G₀ Γ σ H' G' where
  ex := R.ex.trans e
  ln := R.ln
  vl := fun i d h => by
    obtain ⟨v, e1, e2⟩ := R.vl i d h
    exact ⟨v, e1, e2.up e.gg⟩
  ow := fun i xs h => by
    obtain ⟨a, vs, e1, e2, e3, e4, e5⟩ := R.ow i xs h
    exact ⟨a, vs, e1, e.hh _ _ e2, e3, (e.fr a (some_ne e2)).trans e4, e5.up e.gg⟩
  di := R.di
theorem get_set_self {α : Type} {l : List α} {i : Nat} {x y : α} (h : (l.set i x)[i]? = some y) : y = x := by
  rw [List.getElem?_set] at h
  simp at h
  exact h.2.symm
/-- a value is stored -/
theorem Rep.setV (R : Rep K H₀ G₀ Γ σ H G) (i : Nat) {d : D} {v : V} (h : Den K G d v) : Rep K H₀ G₀ (Γ.set i (.val d)) (σ.set i (some v)) H G where
  ex := R.ex
  ln := by rw [List.length_set, List.length_set]; exact R.ln
  vl := fun j d' q => by
    by_cases e : i = j
    · subst e
      have z := get_set_self q
      cases z
      have hj : i < Γ.length := by
        have := (List.getElem?_eq_some_iff.mp q).1
        rwa [List.length_set] at this
      exact ⟨v, by rw [List.getElem?_set_self (by rw [← R.ln]; exact hj)], h⟩
    · rw [List.getElem?_set_ne e] at q
      obtain ⟨u, e1, e2⟩ := R.vl j d' q
      exact ⟨u, by rw [List.getElem?_set_ne e]; exact e1, e2⟩
  ow := fun j xs q => by
    by_cases e : i = j
    · subst e
      have z := get_set_self q
      cases z
    · rw [List.getElem?_set_ne e] at q
      obtain ⟨a, vs, e1, r⟩ := R.ow j xs q
      exact ⟨a, vs, by rw [List.getElem?_set_ne e]; exact e1, r⟩
  di := fun j k xs ys a q1 q2 s1 s2 => by
    by_cases e : i = j
    · subst e
      have z := get_set_self q1
      cases z
    · by_cases e' : i = k
      · subst e'
        have z := get_set_self q2
        cases z
      · rw [List.getElem?_set_ne e] at q1 s1
        rw [List.getElem?_set_ne e'] at q2 s2
        exact R.di j k xs ys a q1 q2 s1 s2
/-- an owned list is stored: it stands nowhere else -/
theorem Rep.setO (R : Rep K H₀ G₀ Γ σ H G) (i : Nat) {xs : List D} {a : Addr} {vs : List V} (h : H a = some (.lst vs)) (h0 : H₀ a = none) (hg : G a = none) (hd : DenL K G xs vs)
    (nw : ∀ (j : Nat) ys, j ≠ i → Γ[j]? = some (.own ys) → σ[j]? ≠ some (some (.ref a))) : Rep K H₀ G₀ (Γ.set i (.own xs)) (σ.set i (some (.ref a))) H G where
  ex := R.ex
  ln := by rw [List.length_set, List.length_set]; exact R.ln
  vl := fun j d' q => by
    by_cases e : i = j
    · subst e
      have z := get_set_self q
      cases z
    · rw [List.getElem?_set_ne e] at q
      obtain ⟨u, e1, e2⟩ := R.vl j d' q
      exact ⟨u, by rw [List.getElem?_set_ne e]; exact e1, e2⟩
  ow := fun j ys q => by
    by_cases e : i = j
    · subst e
      have z := get_set_self q
      cases z
      have hj : i < Γ.length := by
        have := (List.getElem?_eq_some_iff.mp q).1
        rwa [List.length_set] at this
      exact ⟨a, vs, by rw [List.getElem?_set_self (by rw [← R.ln]; exact hj)], h, h0, hg, hd⟩
    · rw [List.getElem?_set_ne e] at q
      obtain ⟨a', vs', e1, r⟩ := R.ow j ys q
      exact ⟨a', vs', by rw [List.getElem?_set_ne e]; exact e1, r⟩
  di := fun j k ys zs b q1 q2 s1 s2 => by
    by_cases e : i = j
    · by_cases e' : i = k
      · exact e.symm.trans e'
      · subst e
        rw [List.getElem?_set_ne e'] at q2 s2
        have z := get_set_self s1
        cases z
        exact absurd s2 (nw k zs (Ne.symm e') q2)
    · by_cases e' : i = k
      · subst e'
        rw [List.getElem?_set_ne e] at q1 s1
        have z := get_set_self s2
        cases z
        exact absurd s1 (nw j ys (Ne.symm e) q1)
      · rw [List.getElem?_set_ne e] at q1 s1
        rw [List.getElem?_set_ne e'] at q2 s2
        exact R.di j k ys zs b q1 q2 s1 s2
/-- an owned list is changed -/
theorem Rep.mut (R : Rep K H₀ G₀ Γ σ H G) {i : Nat} {xs ys : List D} {a : Addr} {us : List V} (hi : Γ[i]? = some (.own xs)) (hs : σ[i]? = some (some (.ref a))) (hd : DenL K G ys us) :
    Rep K H₀ G₀ (Γ.set i (.own ys)) σ (upd H a (.lst us)) G := by
  obtain ⟨a', vs, e1, e2, e3, e4, e5⟩ := R.ow i xs hi
  rw [hs] at e1
  cases e1
  have gne : ∀ b o, G b = some o → b ≠ a := fun b o q z => by rw [z, e4] at q; cases q
  have hne : ∀ b o, H₀ b = some o → b ≠ a := fun b o q z => by rw [z, e3] at q; cases q
  have S1 : Rep K H₀ G₀ Γ σ (upd H a (.lst us)) G → True := fun _ => trivial
  refine ⟨⟨R.ex.gg, fun b o q => ?_, fun b o q => ?_, R.ex.fr⟩, by rw [List.length_set]; exact R.ln, fun j d q => ?_, fun j zs q => ?_, fun j k zs ws b q1 q2 s1 s2 => ?_⟩
  · rw [upd_ne (gne b o q)]; exact R.ex.gh b o q
  · rw [upd_ne (hne b o q)]; exact R.ex.hh b o q
  · by_cases e : i = j
    · subst e
      have z := get_set_self q
      cases z
    · rw [List.getElem?_set_ne e] at q
      exact R.vl j d q
  · by_cases e : i = j
    · subst e
      have z := get_set_self q
      cases z
      exact ⟨a, us, hs, upd_same, e3, e4, hd⟩
    · rw [List.getElem?_set_ne e] at q
      obtain ⟨b, ws, f1, f2, f3, f4, f5⟩ := R.ow j zs q
      have nb : b ≠ a := fun z => by
        subst z
        exact e (R.di i j _ _ b hi q hs f1)
      exact ⟨b, ws, f1, by rw [upd_ne nb]; exact f2, f3, f4, f5⟩
  · have o1 : ∀ (j : Nat) zs, (Γ.set i (.own ys))[j]? = some (.own zs) → ∃ zs', Γ[j]? = some (.own zs') := fun j zs q => by
      by_cases e : i = j
      · subst e; exact ⟨_, hi⟩
      · rw [List.getElem?_set_ne e] at q; exact ⟨_, q⟩
    obtain ⟨z1, r1⟩ := o1 j zs q1
    obtain ⟨z2, r2⟩ := o1 k ws q2
    exact R.di j k _ _ b r1 r2 s1 s2
/-- slots are forgotten -/
theorem Rep.weak (R : Rep K H₀ G₀ Γ σ H G) {Γ' : Ga} (hl : Γ'.length = Γ.length) (h : ∀ (i : Nat) x, Γ'[i]? = some x → x = .un ∨ Γ[i]? = some x) : Rep K H₀ G₀ Γ' σ H G where
  ex := R.ex
  ln := hl.trans R.ln
  vl := fun i d q => by
    rcases h i _ q with z | z
    · cases z
    · exact R.vl i d z
  ow := fun i d q => by
    rcases h i _ q with z | z
    · cases z
    · exact R.ow i d z
  di := fun i j xs ys a q1 q2 => by
    rcases h i _ q1 with z | z
    · cases z
    · rcases h j _ q2 with z' | z'
      · cases z'
      · exact R.di i j xs ys a z z'
end
end Wy

/-! results, and the readings of expressions over plain data as functions -/
namespace Wy
open PySem PySem.Spec PyProof.Rows L2

/-- an equation that is not taken as one by definition -/
theorem nr {α : Type} {a b : α} (h : a = b) : a = b := h
/-- what comes of a step: a thing, an exception of the class so called, nothing promised -/
inductive R (α : Type) where
  | ok (a : α) | ex (c : Str) | no
namespace R
variable {α β : Type}
def bind (x : R α) (f : α → R β) : R β := match x with
  | .ok a => f a
  | .ex c => .ex c
  | .no => .no
def want (x : R α) (E : Str → Prop) (P : α → Prop) : Prop := match x with
  | .ok a => P a
  | .ex c => E c
  | .no => False
def ofO (o : Option α) : R α := match o with
  | some a => .ok a
  | none => .no
@[simp] theorem bind_ok (a : α) (f : α → R β) : (R.ok a).bind f = f a := nr rfl
@[simp] theorem bind_ex (c : Str) (f : α → R β) : (R.ex c : R α).bind f = .ex c := nr rfl
@[simp] theorem bind_no (f : α → R β) : (R.no : R α).bind f = .no := nr rfl
@[simp] theorem ofO_some (a : α) : ofO (some a) = .ok a := nr rfl
@[simp] theorem ofO_none : (ofO none : R α) = .no := nr rfl
theorem _root_.Wy.wImp {x : R α} {E E' : Str → Prop} {P P' : α → Prop} (w : x.want E P) (he : ∀ c, E c → E' c) (h : ∀ a, P a → P' a) : x.want E' P' := by
  cases x with
  | ok a => exact h a w
  | ex c => exact he c w
  | no => exact w
/-- one step of a composition -/
theorem _root_.Wy.wStep {x : R α} {f : α → R β} {E E' : Str → Prop} {P : β → Prop} {P' : α → Prop} (w : (x.bind f).want E P) (he : ∀ c, E c → E' c) (h : ∀ a, (f a).want E P → P' a) : x.want E' P' := by
  cases x with
  | ok a => exact h a w
  | ex c => exact he c w
  | no => exact w
theorem _root_.Wy.wOfO {o : Option α} {E : Str → Prop} {P : α → Prop} (w : (ofO o).want E P) : ∃ a, o = some a ∧ P a := by
  cases o with
  | some a => exact ⟨a, rfl, w⟩
  | none => exact w.elim
theorem _root_.Wy.wOfOb {o : Option α} {f : α → R β} {E : Str → Prop} {P : β → Prop} (w : ((ofO o).bind f).want E P) : ∃ a, o = some a ∧ (f a).want E P := by
  cases o with
  | some a => exact ⟨a, rfl, w⟩
  | none => exact w.elim
theorem bind_eq_ok {x : R α} {f : α → R β} {a : α} {r : R β} (h : x = .ok a) (h2 : f a = r) : x.bind f = r := by
  rw [h]; exact h2
end R

def R.calm {α : Type} (x : R α) : R α := match x with
  | .ex _ => .no
  | r => r
theorem calm_ok {α : Type} {x : R α} {a : α} (h : x.calm = .ok a) : x = .ok a := by
  cases x with
  | ok b => exact h
  | ex c => cases h
  | no => cases h
@[simp] theorem calm_of_ok {α : Type} (a : α) : (R.ok a).calm = .ok a := nr rfl
section
variable {K : PySem.W.Frag} {G : Hp}
theorem den_non : Den K G .non .non := by unfold Den; rfl
theorem den_bl {b : Bool} : Den K G (.bl b) (.bl b) := by unfold Den; rfl
theorem den_int {i : Int} : Den K G (.int i) (.int i) := by unfold Den; rfl
theorem den_str {x : Str} : Den K G (.str x) (.str x) := by unfold Den; rfl
theorem den_nonE {v : V} (h : Den K G .non v) : v = .non := by unfold Den at h; exact h
theorem den_blE {b : Bool} {v : V} (h : Den K G (.bl b) v) : v = .bl b := by unfold Den at h; exact h
theorem den_intE {i : Int} {v : V} (h : Den K G (.int i) v) : v = .int i := by unfold Den at h; exact h
theorem den_strE {x : Str} {v : V} (h : Den K G (.str x) v) : v = .str x := by unfold Den at h; exact h
end

/-- what a context takes of exceptions: the class, the slots, the heaps -/
abbrev XP := Str → L2.St → Hp → Hp → Prop
abbrev XP0 : XP := fun _ _ _ _ => False
def exAt (W : XP) (σ : L2.St) (H G : Hp) : Str → Prop := fun c => ∀ H' G', Ext H G H' G' → W c σ H' G'
theorem exAt.up {W : XP} {σ : L2.St} {H G H1 G1 : Hp} {c : Str} (h : exAt W σ H G c) (e : Ext H G H1 G1) : exAt W σ H1 G1 c := fun H' G' e' => h H' G' (e.trans e')

def Tells (K : PySem.W.Frag) (W : XP) (t : TE) (f : Ga → R D) : Prop :=
  ∀ (H₀ G₀ : Hp) (Γ : Ga) (σ : L2.St) (H G : Hp), Rep K H₀ G₀ Γ σ H G → ∀ Q : VK, (f Γ).want (exAt W σ H G) (fun d => ∀ v H' G', Ext H G H' G' → Den K G' d v → Q v H') → t σ H Q
def EvD (X : Cx) (W : XP) (e : Expr) (f : Ga → R D) : Prop := ∃ t, PE X e t ∧ Tells X.K W t f
def TellsL (K : PySem.W.Frag) (W : XP) (t : TA) (f : Ga → R (List D)) : Prop :=
  ∀ (H₀ G₀ : Hp) (Γ : Ga) (σ : L2.St) (H G : Hp), Rep K H₀ G₀ Γ σ H G → ∀ Q : List V → Hp → Prop, (f Γ).want (exAt W σ H G) (fun ds => ∀ vs H' G', Ext H G H' G' → DenL K G' ds vs → Q vs H') → t σ H Q
def AvD (X : Cx) (W : XP) (es : List Expr) (f : Ga → R (List D)) : Prop := ∃ t, PA X es t ∧ (∀ Γ ds, f Γ = .ok ds → ds.length = es.length) ∧ TellsL X.K W t f
def TellsT (K : PySem.W.Frag) (W : XP) (t : TT) (f : Ga → R Bool) : Prop :=
  ∀ (H₀ G₀ : Hp) (Γ : Ga) (σ : L2.St) (H G : Hp), Rep K H₀ G₀ Γ σ H G → ∀ Q : Bool → Hp → Prop, (f Γ).want (exAt W σ H G) (fun b => ∀ H' G', Ext H G H' G' → Q b H') → t σ H Q
def TvD (X : Cx) (W : XP) (e : Expr) (f : Ga → R Bool) : Prop := ∃ t, PT X e t ∧ TellsT X.K W t f
def WvD (X : Cx) (W : XP) (e : Expr) (f : Ga → R Bool) : Prop := ∃ t, PW X e t ∧ TellsT X.K W t f
/-- a sequence that is read: a tuple of the value heap, a list of the heap -/
def SqP (K : PySem.W.Frag) (H G : Hp) (b : Bool) (a : Addr) (vs : List V) : Prop := match b with
  | true => SqT K G a vs
  | false => SqL K H a vs
theorem SqP.up {K : PySem.W.Frag} {H G H' G' : Hp} {b : Bool} {a : Addr} {vs : List V} (h : SqP K H G b a vs) (e : Ext H G H' G') : SqP K H' G' b a vs := by
  cases b with
  | true => exact Same.seqT e.gg h
  | false => exact e.hh.seq h
theorem SqP.or {K : PySem.W.Frag} {H G : Hp} {b : Bool} {a : Addr} {vs : List V} (h : SqP K H G b a vs) (g : Same G H) : SqL K H a vs ∨ SqT K H a vs := by
  cases b with
  | true => exact .inr (Same.seqT g h)
  | false => exact .inl h
def TellsS (K : PySem.W.Frag) (W : XP) (t : TE) (f : Ga → R (Bool × List D)) : Prop :=
  ∀ (H₀ G₀ : Hp) (Γ : Ga) (σ : L2.St) (H G : Hp), Rep K H₀ G₀ Γ σ H G → ∀ Q : VK, (f Γ).want (exAt W σ H G) (fun p => ∀ a vs H' G', Ext H G H' G' → SqP K H' G' p.1 a vs → DenL K G' p.2 vs → Q (.ref a) H') → t σ H Q
def SqD (X : Cx) (W : XP) (e : Expr) (f : Ga → R (Bool × List D)) : Prop := ∃ t, PE X e t ∧ TellsS X.K W t f
/-- a new list that nothing else holds -/
def TellsO (K : PySem.W.Frag) (W : XP) (t : TE) (f : Ga → R (List D)) : Prop :=
  ∀ (H₀ G₀ : Hp) (Γ : Ga) (σ : L2.St) (H G : Hp), Rep K H₀ G₀ Γ σ H G → ∀ Q : VK, (f Γ).want (exAt W σ H G) (fun ds => ∀ p vs H' G', Ext H G H' G' → H p = none → H' p = some (.lst vs) → G' p = none → DenL K G' ds vs → Q (.ref p) H') → t σ H Q
def OwD (X : Cx) (W : XP) (e : Expr) (f : Ga → R (List D)) : Prop := ∃ t, PE X e t ∧ TellsO X.K W t f

section
variable {X : Cx} {W : XP} {a b c e : Expr} {es rest : List Expr} {fa fb fc f : Ga → R D} {fl : Ga → R (List D)} {pos : Pos}
/-! ### constants, names -/
def eC (d : D) : Ga → R D := fun _ => .ok d
theorem eC_tells {v : V} {d : D} (h : ∀ G, Den X.K G d v) : Tells X.K W (tC v) (eC d) := fun _ _ _ _ H G R Q w => w _ H G (.refl R.gh) (h G)
theorem ev_int {i j} : EvD X W (.Constant (.int i) j pos) (eC (.int i)) := ⟨_, pe_int, eC_tells fun _ => den_int⟩
theorem ev_bl {i j} : EvD X W (.Constant (.bool i) j pos) (eC (.bl i)) := ⟨_, pe_bl, eC_tells fun _ => den_bl⟩
theorem ev_non {j} : EvD X W (.Constant .none j pos) (eC .non) := ⟨_, pe_non, eC_tells fun _ => den_non⟩
theorem ev_str {i j} : EvD X W (.Constant (.str i) j pos) (eC (.str i)) := ⟨_, pe_str, eC_tells fun _ => den_str⟩
def eV (i : Nat) : Ga → R D := fun Γ => match Γ[i]? with
  | some (.val d) => .ok d
  | _ => .no
theorem ev_var (i : Nat) {x : Str} (hN : X.N[i]? = some x := by rfl) (hv : Vis X.env.scope x := by first | exact Or.inl rfl | exact Or.inr (Or.inl rfl) | exact Or.inr (Or.inr rfl)) (hd : (x == ("__debug__" : Str)) = false := by decide)
    (hcd : (x == ("__classdict__" : Str)) = false := by decide) : EvD X W (.Name x pos) (eV i) :=
  ⟨_, pe_var hN hv hd hcd, fun _ _ Γ _ H G R Q w => by
    unfold eV at w
    split at w
    · rename_i d q
      obtain ⟨v, e1, e2⟩ := R.vl i d q
      exact ⟨v, e1, w v H G (.refl R.gh) e2⟩
    · exact w.elim⟩
def sV (i : Nat) : Ga → R (Bool × List D) := fun Γ => match Γ[i]? with
  | some (.val (.tup ds)) => .ok (true, ds)
  | some (.val (.lst ds)) => .ok (false, ds)
  | some (.own ds) => .ok (false, ds)
  | _ => .no
theorem sq_var (i : Nat) {x : Str} (hN : X.N[i]? = some x := by rfl) (hv : Vis X.env.scope x := by first | exact Or.inl rfl | exact Or.inr (Or.inl rfl) | exact Or.inr (Or.inr rfl)) (hd : (x == ("__debug__" : Str)) = false := by decide)
    (hcd : (x == ("__classdict__" : Str)) = false := by decide) : SqD X W (.Name x pos) (sV i) :=
  ⟨_, pe_var hN hv hd hcd, fun _ _ Γ _ H G R Q w => by
    unfold sV at w
    split at w
    · rename_i z
      obtain ⟨v, e1, e2⟩ := R.vl i _ z
      obtain ⟨a, vs, rfl, s, l⟩ := den_tup.mp e2
      exact ⟨_, e1, w a vs H G (.refl R.gh) s l⟩
    · rename_i z
      obtain ⟨v, e1, e2⟩ := R.vl i _ z
      obtain ⟨a, vs, rfl, s, l⟩ := den_lst.mp e2
      exact ⟨_, e1, w a vs H G (.refl R.gh) (R.gh.seq s) l⟩
    · rename_i z
      obtain ⟨a, vs, e1, e2, _, _, e5⟩ := R.ow i _ z
      exact ⟨_, e1, w a vs H G (.refl R.gh) (SqL.of e2) e5⟩
    · exact w.elim⟩
def seqOf : D → Option (Bool × List D)
  | .tup ds => some (true, ds)
  | .lst ds => some (false, ds)
  | _ => none
def sE (f : Ga → R D) : Ga → R (Bool × List D) := fun Γ => (f Γ).bind fun d => .ofO (seqOf d)
theorem sq_ev (h : EvD X W e f) : SqD X W e (sE f) := by
  obtain ⟨t, p, q⟩ := h
  refine ⟨t, p, fun H₀ G₀ Γ σ H G R Q w => ?_⟩
  refine q _ _ _ _ _ _ R _ (wStep w (fun _ h => h) fun d w v H' G' E1 d1 => ?_)
  obtain ⟨⟨b, ds⟩, e2, w⟩ := wOfO w
  cases d with
  | tup xs =>
    cases e2
    obtain ⟨a, vs, rfl, s, l⟩ := den_tup.mp d1
    exact w a vs H' G' E1 s l
  | lst xs =>
    cases e2
    obtain ⟨a, vs, rfl, s, l⟩ := den_lst.mp d1
    exact w a vs H' G' E1 (E1.gh.seq s) l
  | _ => cases e2
def sO (fl : Ga → R (List D)) : Ga → R (Bool × List D) := fun Γ => (fl Γ).bind fun ds => .ok (false, ds)
theorem sq_ow (h : OwD X W e fl) : SqD X W e (sO fl) := by
  obtain ⟨t, p, q⟩ := h
  refine ⟨t, p, fun H₀ G₀ Γ σ H G R Q w => ?_⟩
  exact q _ _ _ _ _ _ R _ (wStep w (fun _ h => h) fun ds w p vs H' G' E1 hp h' g' l => w p vs H' G' E1 (SqL.of h') l)
def eO (fl : Ga → R (List D)) : Ga → R D := fun Γ => (fl Γ).bind fun ds => .ok (.lst ds)
theorem ev_ow (h : OwD X W e fl) : EvD X W e (eO fl) := by
  obtain ⟨t, p, q⟩ := h
  refine ⟨t, p, fun H₀ G₀ Γ σ H G R Q w => ?_⟩
  refine q _ _ _ _ _ _ R _ (wStep w (fun _ h => h) fun ds w p vs H' G' E1 hp h' g' l => ?_)
  exact w _ H' (upd G' p (.lst vs)) (E1.take hp h' g') (den_lst.mpr ⟨p, vs, rfl, SqL.of upd_same, l.up (same_upd g' _)⟩)
/-- a constant of the module -/
theorem ev_glob {x : Str} {v : V} {u : Value} {d : D} (hg : Gl X x) (hm : X.mg x = some u) (r : RelV v u) (hd : Den X.K (fun _ => none) d v) (hdb : (x == ("__debug__" : Str)) = false := by decide) : EvD X W (.Name x pos) (eC d) :=
  ⟨_, pe_glob hg hm r hdb, eC_tells fun _ => hd.up fun _ _ z => nomatch z⟩

/-! ### argument lists, displays -/
def aNil : Ga → R (List D) := fun _ => .ok []
def aCons (f : Ga → R D) (fl : Ga → R (List D)) : Ga → R (List D) := fun Γ => (f Γ).bind fun d => (fl Γ).bind fun ds => .ok (d :: ds)
theorem av_nil : AvD X W [] aNil := ⟨_, pa_nil, fun _ _ e => by cases e; rfl, fun _ _ _ _ H G R Q w => w [] H G (.refl R.gh) (denL_nil.mpr rfl)⟩
theorem av_cons (ha : EvD X W e f) (hr : AvD X W es fl) (hs : starEach (e :: es) X.env = (false, eval e X.env) :: starEach es X.env := by rfl) : AvD X W (e :: es) (aCons f fl) := by
  obtain ⟨t, p, q⟩ := ha
  obtain ⟨ts, ps, hl, qs⟩ := hr
  refine ⟨_, pa_cons p ps hs, fun Γ ds e' => ?_, fun H₀ G₀ Γ σ H G R Q w => ?_⟩
  · unfold aCons at e'
    cases h1 : f Γ with
    | ok d =>
      rw [h1] at e'
      cases h2 : fl Γ with
      | ok r =>
        rw [h2] at e'
        cases e'
        simp [hl Γ r h2]
      | _ => rw [h2] at e'; cases e'
    | _ => rw [h1] at e'; cases e'
  · refine q _ _ _ _ _ _ R _ (wStep w (fun _ h => h) fun d w v H1 G1 E1 d1 => ?_)
    refine qs _ _ _ _ _ _ (R.after E1) _ (wStep w (fun _ h => h.up E1) fun ds w vs H2 G2 E2 d2 => ?_)
    exact w _ H2 G2 (E1.trans E2) (denL_cons.mpr ⟨v, vs, rfl, d1.up E2.gg, d2⟩)
theorem small24 {n : Nat} (h : n ≤ 1000) : n ≤ sizeLine := Nat.le_trans h (by decide)
/-- the length of what an argument list tells -/
theorem wLen {x : R (List D)} {n : Nat} {E : Str → Prop} {P : List D → Prop} (hl : ∀ ds, x = .ok ds → ds.length = n) (w : x.want E P) : x.want E (fun ds => ds.length = n ∧ P ds) := by
  cases x with
  | ok ds => exact ⟨hl ds rfl, w⟩
  | ex c => exact w
  | no => exact w
def eTup (fl : Ga → R (List D)) : Ga → R D := fun Γ => (fl Γ).bind fun ds => .ok (.tup ds)
theorem ev_tup {k : Nat} (h : AvD X W es fl) (hl : es.length ≤ 1000 := by decide) : EvD X W (.Tuple es k pos) (eTup fl) := by
  obtain ⟨t, p, hn, q⟩ := h
  refine ⟨_, pe_tup p, fun H₀ G₀ Γ σ H G R Q w => ?_⟩
  refine q _ _ _ _ _ _ R _ (wImp (wLen (hn Γ) (wStep w (fun _ h => h) fun ds w => w)) (fun _ h => h) fun ds ⟨hd, w⟩ vs H1 G1 E1 d1 => ?_)
  refine ⟨by rw [← d1.length, hd]; exact small24 hl, fun p hp => ?_⟩
  have A := Ext.alloc (o := .tup vs) E1.gh hp
  exact w _ _ _ (E1.trans A) (den_tup.mpr ⟨p, vs, rfl, SqT.of upd_same, d1.up A.gg⟩)
theorem ow_lst (h : AvD X W es fl) (hl : es.length ≤ 1000 := by decide) : OwD X W (.List es pos) fl := by
  obtain ⟨t, p, hn, q⟩ := h
  refine ⟨_, pe_lst p, fun H₀ G₀ Γ σ H G R Q w => ?_⟩
  refine q _ _ _ _ _ _ R _ (wImp (wLen (hn Γ) w) (fun _ h => h) fun ds ⟨hd, w⟩ vs H1 G1 E1 d1 => ?_)
  refine ⟨by rw [← d1.length, hd]; exact small24 hl, fun p hp => ?_⟩
  exact w p vs _ G1 (E1.trans (.own E1.gh hp _)) (E1.hh.free hp) upd_same (E1.gh.free hp) d1

/-! ### operations -/
def OpD (X : Cx) (g : Value → Value → Sem Value) (F : D → D → Option D) : Prop :=
  ∃ r, OpR X g r ∧ ∀ (H G : Hp) (x y : V) (d1 d2 d : D), Same G H → Den X.K G d1 x → Den X.K G d2 y → F d1 d2 = some d → ∀ Q : VK, (∀ v H' G', Ext H G H' G' → Den X.K G' d v → Q v H') → r x y H Q
def e2 (F : D → D → Option D) (fa fb : Ga → R D) : Ga → R D := fun Γ => (fa Γ).bind fun x => (fb Γ).bind fun y => .ofO (F x y)
theorem ev_op {op : Operator} {F : D → D → Option D} (ho : OpD X (binaryOp op) F) (ha : EvD X W a fa) (hb : EvD X W b fb) : EvD X W (.BinOp a op b pos) (e2 F fa fb) := by
  obtain ⟨r, hr, ht⟩ := ho
  obtain ⟨ta, pa, qa⟩ := ha
  obtain ⟨tb, pb, qb⟩ := hb
  refine ⟨_, pe_op hr pa pb, fun H₀ G₀ Γ σ H G R Q w => ?_⟩
  refine qa _ _ _ _ _ _ R _ (wStep w (fun _ h => h) fun x w v H1 G1 E1 d1 => ?_)
  refine qb _ _ _ _ _ _ (R.after E1) _ (wStep w (fun _ h => h.up E1) fun y w u H2 G2 E2 d2 => ?_)
  obtain ⟨d, e', w⟩ := wOfO w
  exact ht _ _ _ _ _ _ _ E2.gh (d1.up E2.gg) d2 e' _ fun w' H3 G3 E3 d3 => w _ _ _ (E1.trans (E2.trans E3)) d3
theorem ev_cmp {op : CmpOp} {F : D → D → Option D} (ho : OpD X (compareOp op) F) (ha : EvD X W a fa) (hb : EvD X W b fb) (hm : behindInMarks op b = false := by first | exact nomark _ | with_unfolding_all rfl) : EvD X W (.Compare a [op] [b] pos) (e2 F fa fb) := by
  obtain ⟨r, hr, ht⟩ := ho
  obtain ⟨ta, pa, qa⟩ := ha
  obtain ⟨tb, pb, qb⟩ := hb
  refine ⟨_, pe_cmpR hr pa pb hm, fun H₀ G₀ Γ σ H G R Q w => ?_⟩
  refine qa _ _ _ _ _ _ R _ (wStep w (fun _ h => h) fun x w v H1 G1 E1 d1 => ?_)
  refine qb _ _ _ _ _ _ (R.after E1) _ (wStep w (fun _ h => h.up E1) fun y w u H2 G2 E2 d2 => ?_)
  obtain ⟨d, e', w⟩ := wOfO w
  exact ht _ _ _ _ _ _ _ E2.gh (d1.up E2.gg) d2 e' _ fun w' H3 G3 E3 d3 => w _ _ _ (E1.trans (E2.trans E3)) d3
/-- a bool's data -/
def asB : D → Option Bool
  | .bl b => some b
  | _ => none
theorem asB_eq {d : D} {k : Bool} (h : asB d = some k) : d = .bl k := by
  cases d <;> first | (cases h; rfl) | cases h
/-- a test by a value that is a truth -/
def tB (f : Ga → R D) : Ga → R Bool := fun Γ => (f Γ).bind fun d => .ofO (asB d)
theorem tv_of_test {t : TE} (p : PT X e (tTest t)) (q : Tells X.K W t f) : TvD X W e (tB f) := by
  refine ⟨_, p, fun H₀ G₀ Γ σ H G R Q w => ?_⟩
  refine q _ _ _ _ _ _ R _ (wStep w (fun _ h => h) fun d w v H' G' E1 d1 => ?_)
  obtain ⟨kb, e2, w⟩ := wOfO w
  cases asB_eq e2
  exact ⟨kb, den_blE d1, w _ _ E1⟩
theorem op_tells {r : R2} {F : D → D → Option D} {ta tb : TE}
    (ht : ∀ (H G : Hp) (x y : V) (d1 d2 d : D), Same G H → Den X.K G d1 x → Den X.K G d2 y → F d1 d2 = some d → ∀ Q : VK, (∀ v H' G', Ext H G H' G' → Den X.K G' d v → Q v H') → r x y H Q)
    (qa : Tells X.K W ta fa) (qb : Tells X.K W tb fb) : Tells X.K W (tOp r ta tb) (e2 F fa fb) := by
  intro H₀ G₀ Γ σ H G R Q w
  refine qa _ _ _ _ _ _ R _ (wStep w (fun _ h => h) fun x w v H1 G1 E1 d1 => ?_)
  refine qb _ _ _ _ _ _ (R.after E1) _ (wStep w (fun _ h => h.up E1) fun y w u H2 G2 E2 d2 => ?_)
  obtain ⟨d, e', w⟩ := wOfO w
  exact ht _ _ _ _ _ _ _ E2.gh (d1.up E2.gg) d2 e' _ fun w' H3 G3 E3 d3 => w _ _ _ (E1.trans (E2.trans E3)) d3
theorem tv_cmp {op : CmpOp} {F : D → D → Option D} (ho : OpD X (compareOp op) F) (ha : EvD X W a fa) (hb : EvD X W b fb) (hm : behindInMarks op b = false := by first | exact nomark _ | with_unfolding_all rfl) : TvD X W (.Compare a [op] [b] pos) (tB (e2 F fa fb)) := by
  obtain ⟨r, hr, ht⟩ := ho
  obtain ⟨ta, pa, qa⟩ := ha
  obtain ⟨tb, pb, qb⟩ := hb
  exact tv_of_test (pt_cmpR hr pa pb hm) (op_tells ht qa qb)
/-- a op1 b op2 c -/
def e3 (F F' : D → D → Option D) (fa fb fc : Ga → R D) : Ga → R D := fun Γ => (fa Γ).bind fun x => (fb Γ).bind fun y => (R.ofO (F x y)).bind fun z => match z with
  | .bl true => (fc Γ).bind fun w => .ofO (F' y w)
  | .bl false => .ok (.bl false)
  | _ => .no
theorem chain_tells {r r' : R2} {F F' : D → D → Option D} {ta tb tc : TE}
    (ht : ∀ (H G : Hp) (x y : V) (d1 d2 d : D), Same G H → Den X.K G d1 x → Den X.K G d2 y → F d1 d2 = some d → ∀ Q : VK, (∀ v H' G', Ext H G H' G' → Den X.K G' d v → Q v H') → r x y H Q)
    (ht' : ∀ (H G : Hp) (x y : V) (d1 d2 d : D), Same G H → Den X.K G d1 x → Den X.K G d2 y → F' d1 d2 = some d → ∀ Q : VK, (∀ v H' G', Ext H G H' G' → Den X.K G' d v → Q v H') → r' x y H Q)
    (qa : Tells X.K W ta fa) (qb : Tells X.K W tb fb) (qc : Tells X.K W tc fc) : Tells X.K W (tChain r r' ta tb tc) (e3 F F' fa fb fc) := by
  intro H₀ G₀ Γ σ H G R Q w
  refine qa _ _ _ _ _ _ R _ (wStep w (fun _ h => h) fun x w v H1 G1 E1 d1 => ?_)
  refine qb _ _ _ _ _ _ (R.after E1) _ (wStep w (fun _ h => h.up E1) fun y w u H2 G2 E2 d2 => ?_)
  obtain ⟨z, ez, w⟩ := wOfOb w
  refine ht _ _ _ _ _ _ _ E2.gh (d1.up E2.gg) d2 ez _ fun w' H3 G3 E3 d3 => ?_
  have R3 := (R.after E1).after (E2.trans E3)
  split at w
  · refine ⟨true, den_blE d3, ?_⟩
    rw [if_pos rfl]
    refine qc _ _ _ _ _ _ R3 _ (wStep w (fun _ h => h.up (E1.trans (E2.trans E3))) fun w' w w'' H4 G4 E4 d4 => ?_)
    obtain ⟨d, e', w⟩ := wOfO w
    exact ht' _ _ _ _ _ _ _ E4.gh (d2.up (E3.gg.trans E4.gg)) d4 e' _ fun w5 H5 G5 E5 d5 => w _ _ _ (E1.trans (E2.trans (E3.trans (E4.trans E5)))) d5
  · refine ⟨false, den_blE d3, ?_⟩
    rw [if_neg Bool.false_ne_true]
    exact w _ _ _ (E1.trans (E2.trans E3)) den_bl
  · exact w.elim
theorem ev_chain {op op' : CmpOp} {F F' : D → D → Option D} (ho : OpD X (compareOp op) F) (ho' : OpD X (compareOp op') F') (ha : EvD X W a fa) (hb : EvD X W b fb) (hc : EvD X W c fc)
    (hm : lastMarks [op, op'] [b, c] = false := by with_unfolding_all rfl) : EvD X W (.Compare a [op, op'] [b, c] pos) (e3 F F' fa fb fc) := by
  obtain ⟨r, hr, ht⟩ := ho
  obtain ⟨r', hr', ht'⟩ := ho'
  obtain ⟨ta, pa, qa⟩ := ha
  obtain ⟨tb, pb, qb⟩ := hb
  obtain ⟨tc, pc, qc⟩ := hc
  exact ⟨_, pe_chain hr hr' pa pb pc hm, chain_tells (X := X) ht ht' qa qb qc⟩
theorem tv_chain {op op' : CmpOp} {F F' : D → D → Option D} (ho : OpD X (compareOp op) F) (ho' : OpD X (compareOp op') F') (ha : EvD X W a fa) (hb : EvD X W b fb) (hc : EvD X W c fc)
    (hm : lastMarks [op, op'] [b, c] = false := by with_unfolding_all rfl) : TvD X W (.Compare a [op, op'] [b, c] pos) (tB (e3 F F' fa fb fc)) := by
  obtain ⟨r, hr, ht⟩ := ho
  obtain ⟨r', hr', ht'⟩ := ho'
  obtain ⟨ta, pa, qa⟩ := ha
  obtain ⟨tb, pb, qb⟩ := hb
  obtain ⟨tc, pc, qc⟩ := hc
  exact tv_of_test (pt_chain hr hr' pa pb pc hm) (chain_tells (X := X) ht ht' qa qb qc)
/-! ### and, or, not as values -/
def eAnd (fa fb : Ga → R D) : Ga → R D := fun Γ => (fa Γ).bind fun x => match x with
  | .bl true => fb Γ
  | .bl false => .ok (.bl false)
  | _ => .no
def eOr (fa fb : Ga → R D) : Ga → R D := fun Γ => (fa Γ).bind fun x => match x with
  | .bl true => .ok (.bl true)
  | .bl false => fb Γ
  | _ => .no
def eNot (fa : Ga → R D) : Ga → R D := fun Γ => (fa Γ).bind fun x => match x with
  | .bl k => .ok (.bl (!k))
  | _ => .no
theorem ev_one {op} (h : EvD X W a f) : EvD X W (.BoolOp op [a] pos) f := let ⟨t, p, q⟩ := h; ⟨t, pe_one p, q⟩
theorem ev_and (ha : EvD X W a fa) (hb : EvD X W (.BoolOp .And (b :: rest) pos) fb) : EvD X W (.BoolOp .And (a :: b :: rest) pos) (eAnd fa fb) := by
  obtain ⟨ta, pa, qa⟩ := ha
  obtain ⟨tb, pb, qb⟩ := hb
  refine ⟨_, pe_and pa pb, fun H₀ G₀ Γ σ H G R Q w => ?_⟩
  refine qa _ _ _ _ _ _ R _ (wStep w (fun _ h => h) fun x w v H1 G1 E1 d1 => ?_)
  split at w
  · refine ⟨true, den_blE d1, ?_⟩
    rw [if_pos rfl]
    exact qb _ _ _ _ _ _ (R.after E1) _ (wImp w (fun _ h => h.up E1) fun d w u H2 G2 E2 d2 => w _ _ _ (E1.trans E2) d2)
  · refine ⟨false, den_blE d1, ?_⟩
    rw [if_neg Bool.false_ne_true]
    exact w _ _ _ E1 den_bl
  · exact w.elim
theorem ev_or (ha : EvD X W a fa) (hb : EvD X W (.BoolOp .Or (b :: rest) pos) fb) : EvD X W (.BoolOp .Or (a :: b :: rest) pos) (eOr fa fb) := by
  obtain ⟨ta, pa, qa⟩ := ha
  obtain ⟨tb, pb, qb⟩ := hb
  refine ⟨_, pe_or pa pb, fun H₀ G₀ Γ σ H G R Q w => ?_⟩
  refine qa _ _ _ _ _ _ R _ (wStep w (fun _ h => h) fun x w v H1 G1 E1 d1 => ?_)
  split at w
  · refine ⟨true, den_blE d1, ?_⟩
    rw [if_pos rfl]
    exact w _ _ _ E1 den_bl
  · refine ⟨false, den_blE d1, ?_⟩
    rw [if_neg Bool.false_ne_true]
    exact qb _ _ _ _ _ _ (R.after E1) _ (wImp w (fun _ h => h.up E1) fun d w u H2 G2 E2 d2 => w _ _ _ (E1.trans E2) d2)
  · exact w.elim
theorem ev_not (ha : EvD X W a fa) : EvD X W (.UnaryOp .Not a pos) (eNot fa) := by
  obtain ⟨ta, pa, qa⟩ := ha
  refine ⟨_, pe_not pa, fun H₀ G₀ Γ σ H G R Q w => ?_⟩
  refine qa _ _ _ _ _ _ R _ (wStep w (fun _ h => h) fun x w v H1 G1 E1 d1 => ?_)
  split at w
  · rename_i kb
    exact ⟨kb, den_blE d1, w _ _ _ E1 den_bl⟩
  · exact w.elim
def eNeg (fa : Ga → R D) : Ga → R D := fun Γ => (fa Γ).bind fun x => match x with
  | .int i => .ok (.int (-i))
  | _ => .no
theorem ev_neg (ha : EvD X W a fa) : EvD X W (.UnaryOp .USub a pos) (eNeg fa) := by
  obtain ⟨ta, pa, qa⟩ := ha
  refine ⟨_, pe_un un_neg pa, fun H₀ G₀ Γ σ H G R Q w => ?_⟩
  refine qa _ _ _ _ _ _ R _ (wStep w (fun _ h => h) fun x w v H1 G1 E1 d1 => ?_)
  split at w
  · rename_i i
    exact ⟨i, den_intE d1, w _ _ _ E1 den_int⟩
  · exact w.elim
/-! ### tests -/
variable {ga gb : Ga → R Bool}
theorem WvD.tv (h : WvD X W e ga) : TvD X W e ga := let ⟨t, p, q⟩ := h; ⟨t, p.pt, q⟩
def tAndR (ga gb : Ga → R Bool) : Ga → R Bool := fun Γ => (ga Γ).bind fun k => match k with
  | true => gb Γ
  | false => .ok false
def tOrR (ga gb : Ga → R Bool) : Ga → R Bool := fun Γ => (ga Γ).bind fun k => match k with
  | true => .ok true
  | false => gb Γ
def tNotR (ga : Ga → R Bool) : Ga → R Bool := fun Γ => (ga Γ).bind fun k => .ok (!k)
theorem wv_and1 (h : TvD X W a ga) : WvD X W (.BoolOp .And [a] pos) ga := let ⟨t, p, q⟩ := h; ⟨t, pw_and1 p, q⟩
theorem wv_or1 (h : TvD X W a ga) : WvD X W (.BoolOp .Or [a] pos) ga := let ⟨t, p, q⟩ := h; ⟨t, pw_or1 p, q⟩
theorem wv_and (ha : TvD X W a ga) (hb : WvD X W (.BoolOp .And (b :: rest) pos) gb) : WvD X W (.BoolOp .And (a :: b :: rest) pos) (tAndR ga gb) := by
  obtain ⟨ta, pa, qa⟩ := ha
  obtain ⟨tb, pb, qb⟩ := hb
  refine ⟨_, pw_and pa pb, fun H₀ G₀ Γ σ H G R Q w => ?_⟩
  refine qa _ _ _ _ _ _ R _ (wStep w (fun _ h => h) fun x w H1 G1 E1 => ?_)
  cases x with
  | true => exact iteT (qb _ _ _ _ _ _ (R.after E1) _ (wImp w (fun _ h => h.up E1) fun d w H2 G2 E2 => w _ _ (E1.trans E2)))
  | false => exact iteF (w _ _ E1)
theorem wv_or (ha : TvD X W a ga) (hb : WvD X W (.BoolOp .Or (b :: rest) pos) gb) : WvD X W (.BoolOp .Or (a :: b :: rest) pos) (tOrR ga gb) := by
  obtain ⟨ta, pa, qa⟩ := ha
  obtain ⟨tb, pb, qb⟩ := hb
  refine ⟨_, pw_or pa pb, fun H₀ G₀ Γ σ H G R Q w => ?_⟩
  refine qa _ _ _ _ _ _ R _ (wStep w (fun _ h => h) fun x w H1 G1 E1 => ?_)
  cases x with
  | true => exact iteT (w _ _ E1)
  | false => exact iteF (qb _ _ _ _ _ _ (R.after E1) _ (wImp w (fun _ h => h.up E1) fun d w H2 G2 E2 => w _ _ (E1.trans E2)))
theorem tv_not (ha : TvD X W a ga) : TvD X W (.UnaryOp .Not a pos) (tNotR ga) := by
  obtain ⟨ta, pa, qa⟩ := ha
  refine ⟨_, pt_not pa, fun H₀ G₀ Γ σ H G R Q w => ?_⟩
  exact qa _ _ _ _ _ _ R _ (wStep w (fun _ h => h) fun x w H1 G1 E1 => w _ _ E1)
/-- a value's truth -/
def truD : D → Option Bool
  | .non => some false
  | .bl b => some b
  | .int i => some (i != 0)
  | .str x => if x.length ≤ 10000 then some ((x.length : Int) != 0) else none
  | .tup ds => some (!ds.isEmpty)
  | .lst ds => some (!ds.isEmpty)
theorem isEmpty_den {K : PySem.W.Frag} {G : Hp} {ds : List D} {vs : List V} (h : DenL K G ds vs) : (!ds.isEmpty) = (!vs.isEmpty) := by
  cases ds with
  | nil => rw [denL_nil.mp h]; rfl
  | cons d ds => obtain ⟨v, r, rfl, _⟩ := denL_cons.mp h; rfl
theorem big24 {n : Nat} (h : n ≤ 10000) : n ≤ sizeLine := Nat.le_trans h (by decide)
theorem tru_den {K : PySem.W.Frag} {H G : Hp} {d : D} {v : V} {k : Bool} (g : Same G H) (h : Den K G d v) (e : truD d = some k) : TruV K v H k := by
  cases d with
  | non => cases e; rw [den_nonE h]; rfl
  | bl b => cases e; rw [den_blE h]; rfl
  | int i => cases e; rw [den_intE h]; rfl
  | str x =>
    rw [den_strE h]
    have e : (if x.length ≤ 10000 then some ((x.length : Int) != 0) else none) = some k := e
    split at e
    · rename_i hl
      cases e
      exact ⟨big24 hl, rfl⟩
    · cases e
  | tup ds =>
    cases e
    obtain ⟨a, vs, rfl, s, l⟩ := den_tup.mp h
    exact .inr (.inl ⟨vs, Same.seqT g s, isEmpty_den l⟩)
  | lst ds =>
    cases e
    obtain ⟨a, vs, rfl, s, l⟩ := den_lst.mp h
    exact .inl ⟨vs, g.seq s, isEmpty_den l⟩
def tTru (f : Ga → R D) : Ga → R Bool := fun Γ => (f Γ).bind fun d => .ofO (truD d)
theorem tv_val (h : EvD X W a f) (he : ∀ whole, isTrue a X.env whole = (do let v ← whole; standAt a.pos; holding [v] (truthy v)) := by intro _; rfl) : TvD X W a (tTru f) := by
  obtain ⟨t, p, q⟩ := h
  refine ⟨_, pt_truth p he, fun H₀ G₀ Γ σ H G R Q w => ?_⟩
  refine q _ _ _ _ _ _ R _ (wStep w (fun _ h => h) fun d w v H' G' E1 d1 => ?_)
  obtain ⟨kb, e2, w⟩ := wOfO w
  exact ⟨kb, tru_den E1.gh d1 e2, w _ _ E1⟩
/-- a if t else b -/
def eIf (g : Ga → R Bool) (fa fb : Ga → R D) : Ga → R D := fun Γ => (g Γ).bind fun k => match k with
  | true => fa Γ
  | false => fb Γ
theorem ev_ifExp (hc : TvD X W c ga) (ha : EvD X W a fa) (hb : EvD X W b fb) : EvD X W (.IfExp c a b pos) (eIf ga fa fb) := by
  obtain ⟨tc, pc, qc⟩ := hc
  obtain ⟨ta, pa, qa⟩ := ha
  obtain ⟨tb, pb, qb⟩ := hb
  refine ⟨_, pe_ifExp pc pa pb, fun H₀ G₀ Γ σ H G R Q w => ?_⟩
  refine qc _ _ _ _ _ _ R _ (wStep w (fun _ h => h) fun x w H1 G1 E1 => ?_)
  cases x with
  | true => exact iteT (qa _ _ _ _ _ _ (R.after E1) _ (wImp w (fun _ h => h.up E1) fun d w v H2 G2 E2 d2 => w _ _ _ (E1.trans E2) d2))
  | false => exact iteF (qb _ _ _ _ _ _ (R.after E1) _ (wImp w (fun _ h => h.up E1) fun d w v H2 G2 E2 d2 => w _ _ _ (E1.trans E2) d2))
end

/-! ### calls -/
/-- the class that a name means -/
def ClsIs (mg : Str → Option Value) (c : Str) (cls : Value) : Prop := mg c = some cls ∨ (mg c = none ∧ bootBuiltins c = some cls)
/-- what a def of the text promises: plain data in, plain data or an exception out -/
def spF (K : PySem.W.Frag) (mg : Str → Option Value) (n : Nat) (F : List D → R D) : Sp := fun vs H Q E => ∃ (G : Hp) (ds : List D), Same G H ∧ DenL K G ds vs ∧ ds.length = n ∧
  (F ds).want (fun c => ∀ cls dx H' G', ClsIs mg c cls → Ext H G H' G' → E cls dx H') (fun d => ∀ v H' G', Ext H G H' G' → Den K G' d v → Q v H')
def xkOf (mg : Str → Option Value) (W : XP) (σ : L2.St) : XK := fun cls _ H' => ∃ c G', ClsIs mg c cls ∧ W c σ H' G'
/-- an exception of a callee reaches what this context takes -/
def PassW (CX : CXT) (X : Cx) (W : XP) : Prop := ∀ (pins : List (Addr × Obj)) (σ : L2.St) (H : Hp) (s : Shared) (e : Value) (s' : Shared), Inv X pins σ H s → CX X.stack H s (xkOf X.mg W σ) e s' → X.xe e s'
theorem passW0 {X : Cx} {W : XP} : PassW CX0 X W := fun _ _ _ _ _ _ _ h => h.elim
section
variable {X : Cx} {W : XP} {e : Expr} {es : List Expr} {f : Ga → R D} {fl : Ga → R (List D)} {pos p : Pos}
def tCallX (mg : Str → Option Value) (W : XP) (sp : Sp) (t : TA) : TE := fun σ H Q => t σ H fun vs H1 => sp vs H1 Q (xkOf mg W σ)
theorem pe_callX {CX : CXT} {k : Nat} {fa : Addr} {fd : FuncData} {ps : List Str} {sp : Sp} {x : Str} {t : TA} (F : FnOk X.prog X.w X.K X.mg X.base CX k fa fd ps sp) (hr : Room k X.A) (hg : Gl X x) (hm : X.mg x = some (.ref fa))
    (hk : PySem.W.keepIn X.K (.ref fa) = true) (hb : Binds X.K fd ps []) (hx : PassW CX X W) (ha : PA X (e :: es) t) (hdb : (x == ("__debug__" : Str)) = false)
    (he : starEach (e :: es) X.env = (false, eval e X.env) :: starEach es X.env) (hpl : (backTo pos (starEach es X.env)).any (·.1) = false) : PE X (.Call (.Name x p) (e :: es) [] pos) (tCallX X.mg W sp t) := by
  intro pins s σ H Q I h
  refine wpAny_Call_Name_kw (ld_glob I hg hm ?_ hdb)
  refine PySem.W.callWith_K (h₀ := X.base) I.ok.mod.kin hk (thn (ha pos pins s σ H _ I h) fun us s1 ⟨vs, H1, I1, r, q⟩ => ⟨I1.kIn, ?_⟩) he hpl
  have hl : us.length = ps.length := by rw [← r.length]; exact F.len _ _ _ _ q
  have bb := hb s1 us I1.kIn (by rw [List.append_nil]; exact hl)
  rw [List.append_nil] at bb
  refine wpAny_call (codeAny_mono (F.run X.A X.stack s1 H1 ⟨us, []⟩ us vs Q _ hr I1.env0 bb r q) fun r s' hq => ?_)
  cases r with
  | error e => exact hx pins σ H1 s1 e s' I1 hq
  | ok fl =>
    cases fl with
    | ret u => exact I1.after hq
    | next => exact False.elim hq
    | brk => exact False.elim hq
    | cont => exact False.elim hq
def eCall (F : List D → R D) (fl : Ga → R (List D)) : Ga → R D := fun Γ => (fl Γ).bind F
theorem ev_call {CX : CXT} {k : Nat} {fa : Addr} {fd : FuncData} {ps : List Str} {F : List D → R D} {x : Str} (Fn : FnOk X.prog X.w X.K X.mg X.base CX k fa fd ps (spF X.K X.mg ps.length F)) (hx : PassW CX X W) (hr : Room k X.A) (hg : Gl X x) (hm : X.mg x = some (.ref fa))
    (hk : PySem.W.keepIn X.K (.ref fa) = true) (hb : Binds X.K fd ps []) (ha : AvD X W (e :: es) fl) (hn : (e :: es).length = ps.length := by rfl) (hdb : (x == ("__debug__" : Str)) = false := by decide)
    (he : starEach (e :: es) X.env = (false, eval e X.env) :: starEach es X.env := by rfl) (hpl : (backTo pos (starEach es X.env)).any (·.1) = false := by rfl) :
    EvD X W (.Call (.Name x p) (e :: es) [] pos) (eCall F fl) := by
  obtain ⟨t, pt, hl, q⟩ := ha
  refine ⟨_, pe_callX Fn hr hg hm hk hb hx pt hdb he hpl, fun H₀ G₀ Γ σ H G R Q w => ?_⟩
  refine q _ _ _ _ _ _ R _ (wImp (wLen (hl Γ) (wStep w (fun _ h => h) fun ds w => w)) (fun _ h => h) fun ds ⟨hd, w⟩ vs H1 G1 E1 d1 => ?_)
  exact ⟨G1, ds, E1.gh, d1, hd.trans hn, wImp w (fun c h cls dx H' G' hc E2 => ⟨c, G', hc, h H' G' (E1.trans E2)⟩) fun d w v H' G' E2 d2 => w v H' G' (E1.trans E2) d2⟩
def CallD (X : Cx) (g : Value) (F : List D → Option D) : Prop :=
  ∃ r, CallR X g r ∧ ∀ (H G : Hp) (vs : List V) (ds : List D) (d : D), Same G H → DenL X.K G ds vs → F ds = some d → ∀ Q : VK, (∀ v H' G', Ext H G H' G' → Den X.K G' d v → Q v H') → r vs H Q
def eB (F : List D → Option D) (fl : Ga → R (List D)) : Ga → R D := fun Γ => (fl Γ).bind fun ds => .ofO (F ds)
theorem ev_callB {id : String} {F : List D → Option D} {x : Str} (hc : CallD X (.builtin id) F) (hg : Gl X x) (hm : X.mg x = none) (hv : bootBuiltins x = some (.builtin id)) (ha : AvD X W (e :: es) fl) (hn : x ≠ "__name__" := by decide)
    (hdb : (x == ("__debug__" : Str)) = false := by decide) (he : starEach (e :: es) X.env = (false, eval e X.env) :: starEach es X.env := by rfl) (hpl : (backTo pos (starEach es X.env)).any (·.1) = false := by rfl) :
    EvD X W (.Call (.Name x p) (e :: es) [] pos) (eB F fl) := by
  obtain ⟨r, hr, ht⟩ := hc
  obtain ⟨t, pt, hl, q⟩ := ha
  refine ⟨_, pe_callB hr hg hm hv pt hn hdb he hpl, fun H₀ G₀ Γ σ H G R Q w => ?_⟩
  refine q _ _ _ _ _ _ R _ (wStep w (fun _ h => h) fun ds w vs H1 G1 E1 d1 => ?_)
  obtain ⟨d, e2, w⟩ := wOfO w
  exact ht _ _ _ _ _ E1.gh d1 e2 _ fun v H' G' E2 d2 => w v H' G' (E1.trans E2) d2
theorem ev_callT {id : String} {F : List D → Option D} {x : Str} (hc : CallD X (.type id) F) (hg : Gl X x) (hm : X.mg x = none) (hv : bootBuiltins x = some (.type id)) (ha : AvD X W (e :: es) fl) (hn : x ≠ "__name__" := by decide)
    (hdb : (x == ("__debug__" : Str)) = false := by decide) (he : starEach (e :: es) X.env = (false, eval e X.env) :: starEach es X.env := by rfl) (hpl : (backTo pos (starEach es X.env)).any (·.1) = false := by rfl) :
    EvD X W (.Call (.Name x p) (e :: es) [] pos) (eB F fl) := by
  obtain ⟨r, hr, ht⟩ := hc
  obtain ⟨t, pt, hl, q⟩ := ha
  refine ⟨_, pe_callTy hr hg hm hv pt hn hdb he hpl, fun H₀ G₀ Γ σ H G R Q w => ?_⟩
  refine q _ _ _ _ _ _ R _ (wStep w (fun _ h => h) fun ds w vs H1 G1 E1 d1 => ?_)
  obtain ⟨d, e2, w⟩ := wOfO w
  exact ht _ _ _ _ _ E1.gh d1 e2 _ fun v H' G' E2 d2 => w v H' G' (E1.trans E2) d2
/-- a sequence as the one argument of a built-in -/
def CallS (X : Cx) (g : Value) (F : Bool × List D → Option D) : Prop :=
  ∃ r, CallR X g r ∧ ∀ (H G : Hp) (b : Bool) (ds : List D) (d : D) (a : Addr) (vs : List V), Same G H → SqP X.K H G b a vs → DenL X.K G ds vs → F (b, ds) = some d → ∀ Q : VK, (∀ v H' G', Ext H G H' G' → Den X.K G' d v → Q v H') → r [.ref a] H Q
variable {fs : Ga → R (Bool × List D)}
def eS (F : Bool × List D → Option D) (fs : Ga → R (Bool × List D)) : Ga → R D := fun Γ => (fs Γ).bind fun p => .ofO (F p)
theorem ev_callBS {id : String} {F : Bool × List D → Option D} {x : Str} (hc : CallS X (.builtin id) F) (hg : Gl X x) (hm : X.mg x = none) (hv : bootBuiltins x = some (.builtin id)) (ha : SqD X W e fs) (hn : x ≠ "__name__" := by decide)
    (hdb : (x == ("__debug__" : Str)) = false := by decide) (he : starEach [e] X.env = [(false, eval e X.env)] := by rfl) : EvD X W (.Call (.Name x p) [e] [] pos) (eS F fs) := by
  obtain ⟨r, hr, ht⟩ := hc
  obtain ⟨t, pt, q⟩ := ha
  refine ⟨_, pe_callB hr hg hm hv (pa_cons pt pa_nil he) hn hdb he rfl, fun H₀ G₀ Γ σ H G R Q w => ?_⟩
  refine q _ _ _ _ _ _ R _ (wStep w (fun _ h => h) fun ⟨b, ds⟩ w a vs H1 G1 E1 s1 d1 => ?_)
  obtain ⟨d, e2, w⟩ := wOfO w
  exact ht _ _ _ _ _ _ _ E1.gh s1 d1 e2 _ fun v H' G' E2 d2 => w v H' G' (E1.trans E2) d2
theorem ev_callTS {id : String} {F : Bool × List D → Option D} {x : Str} (hc : CallS X (.type id) F) (hg : Gl X x) (hm : X.mg x = none) (hv : bootBuiltins x = some (.type id)) (ha : SqD X W e fs) (hn : x ≠ "__name__" := by decide)
    (hdb : (x == ("__debug__" : Str)) = false := by decide) (he : starEach [e] X.env = [(false, eval e X.env)] := by rfl) : EvD X W (.Call (.Name x p) [e] [] pos) (eS F fs) := by
  obtain ⟨r, hr, ht⟩ := hc
  obtain ⟨t, pt, q⟩ := ha
  refine ⟨_, pe_callTy hr hg hm hv (pa_cons pt pa_nil he) hn hdb he rfl, fun H₀ G₀ Γ σ H G R Q w => ?_⟩
  refine q _ _ _ _ _ _ R _ (wStep w (fun _ h => h) fun ⟨b, ds⟩ w a vs H1 G1 E1 s1 d1 => ?_)
  obtain ⟨d, e2, w⟩ := wOfO w
  exact ht _ _ _ _ _ _ _ E1.gh s1 d1 e2 _ fun v H' G' E2 d2 => w v H' G' (E1.trans E2) d2
end
end Wy

/-! statements as functions, defs -/
namespace Wy
open PySem PySem.Spec PyProof.Rows L2

/-- what comes of a statement -/
inductive RS where
  | nx (Γ : Ga) | rt (d : D) | bk (Γ : Ga) | ct (Γ : Ga) | ex (c : Str) (Γ : Ga) | no
def RS.of {α : Type} (x : R α) (Γ : Ga) (k : α → RS) : RS := match x with
  | .ok a => k a
  | .ex c => .ex c Γ
  | .no => .no
@[simp] theorem RS.of_ok {α : Type} (a : α) (Γ : Ga) (k : α → RS) : RS.of (.ok a) Γ k = k a := nr rfl
@[simp] theorem RS.of_ex {α : Type} (c : Str) (Γ : Ga) (k : α → RS) : RS.of (.ex c) Γ k = .ex c Γ := nr rfl
@[simp] theorem RS.of_no {α : Type} (Γ : Ga) (k : α → RS) : RS.of .no Γ k = .no := nr rfl
def Lifts (K : PySem.W.Frag) (W : XP) (H₀ G₀ : Hp) (r : RS) (D : Ends) : Prop := match r with
  | .nx Γ => ∀ σ H G, Rep K H₀ G₀ Γ σ H G → D.nx σ H
  | .rt d => ∀ v H G, Ext H₀ G₀ H G → Den K G d v → D.rt v H
  | .bk Γ => ∀ σ H G, Rep K H₀ G₀ Γ σ H G → D.bk σ H
  | .ct Γ => ∀ σ H G, Rep K H₀ G₀ Γ σ H G → D.ct σ H
  | .ex c Γ => ∀ σ H G, Rep K H₀ G₀ Γ σ H G → W c σ H G
  | .no => False
theorem wS {K : PySem.W.Frag} {W : XP} {H₀ G₀ : Hp} {α : Type} {x : R α} {Γ : Ga} {k : α → RS} {D : Ends} {σ : L2.St} {H G : Hp} {P : α → Prop} (r : Rep K H₀ G₀ Γ σ H G) (w : Lifts K W H₀ G₀ (RS.of x Γ k) D)
    (h : ∀ a, Lifts K W H₀ G₀ (k a) D → P a) : x.want (exAt W σ H G) P := by
  cases x with
  | ok a => exact h a w
  | ex c => exact fun H' G' e => w σ H' G' (r.after e)
  | no => exact w.elim
theorem wSO {K : PySem.W.Frag} {W : XP} {H₀ G₀ : Hp} {α : Type} {x : Option α} {Γ : Ga} {k : α → RS} {D : Ends} (w : Lifts K W H₀ G₀ (RS.of (.ofO x) Γ k) D) : ∃ a, x = some a ∧ Lifts K W H₀ G₀ (k a) D := by
  cases x with
  | some a => exact ⟨a, rfl, w⟩
  | none => exact w.elim
theorem Ext.unbase {H₀ G₀ H1 G1 H G : Hp} (e : Ext H₀ G₀ H1 G1) (r : Ext H₀ G1 H G) : Ext H₀ G₀ H G := ⟨e.gg.trans r.gg, r.gh, r.hh, fun a h => (r.fr a h).trans (e.fr a h)⟩
theorem Rep.base {K : PySem.W.Frag} {H₀ G₀ H G : Hp} {Γ : Ga} {σ : L2.St} (R : Rep K H₀ G₀ Γ σ H G) : Rep K H₀ G Γ σ H G := ⟨⟨Same.refl _, R.ex.gh, R.ex.hh, fun _ _ => rfl⟩, R.ln, R.vl, R.ow, R.di⟩
theorem Rep.unbase {K : PySem.W.Frag} {H₀ G₀ H1 G1 H G : Hp} {Γ : Ga} {σ : L2.St} (e : Ext H₀ G₀ H1 G1) (R : Rep K H₀ G1 Γ σ H G) : Rep K H₀ G₀ Γ σ H G := ⟨e.unbase R.ex, R.ln, R.vl, R.ow, R.di⟩
theorem Lifts.base {K : PySem.W.Frag} {W : XP} {H₀ G₀ H1 G1 : Hp} {r : RS} {D : Ends} (e : Ext H₀ G₀ H1 G1) (w : Lifts K W H₀ G₀ r D) : Lifts K W H₀ G1 r D := by
  cases r with
  | nx Γ => exact fun σ H G R => w σ H G (R.unbase e)
  | rt d => exact fun v H G r => w v H G (e.unbase r)
  | bk Γ => exact fun σ H G R => w σ H G (R.unbase e)
  | ct Γ => exact fun σ H G R => w σ H G (R.unbase e)
  | ex c Γ => exact fun σ H G R => w σ H G (R.unbase e)
  | no => exact w
def Does (K : PySem.W.Frag) (W : XP) (t : TS) (s : Ga → RS) : Prop := ∀ (H₀ G₀ : Hp) (Γ : Ga) (σ : L2.St) (H G : Hp), Rep K H₀ G₀ Γ σ H G → ∀ D : Ends, Lifts K W H₀ G₀ (s Γ) D → t D σ H
def ExD (X : Cx) (W : XP) (st : Stmt) (s : Ga → RS) : Prop := ∃ t, PS X st t ∧ Does X.K W t s
def ExDs (X : Cx) (W : XP) (sts : List Stmt) (s : Ga → RS) : Prop := ∃ t, PSs X sts t ∧ Does X.K W t s
/-- a target -/
def TgD (X : Cx) (tg : Expr) (g : D → Ga → Option Ga) : Prop := ∃ t : TG, PG X tg t ∧ ∀ (H₀ G₀ : Hp) (Γ : Ga) (σ : L2.St) (H G : Hp) (d : D) (v : V) (Γ' : Ga), Rep X.K H₀ G₀ Γ σ H G → Den X.K G d v → g d Γ = some Γ' →
  ∀ Q : L2.St → Hp → Prop, (∀ σ' , Rep X.K H₀ G₀ Γ' σ' H G → Q σ' H) → t v σ H Q

section
variable {X : Cx} {W : XP} {st : Stmt} {rest sa sb : List Stmt} {T U : Ga → RS} {e c : Expr} {f : Ga → R D} {fl : Ga → R (List D)} {fs : Ga → R (Bool × List D)} {g : Ga → R Bool} {pos pos' apos cpos : Pos} {x y : Str} {i j : Nat}
def sNext : Ga → RS := fun Γ => .nx Γ
def sSeq (T U : Ga → RS) : Ga → RS := fun Γ => match T Γ with
  | .nx Γ' => U Γ'
  | r => r
theorem sSeq_nx {Γ Γ' : Ga} (h : T Γ = .nx Γ') : sSeq T U Γ = U Γ' := by unfold sSeq; rw [h]
theorem sSeq_rt {Γ : Ga} {d : D} (h : T Γ = .rt d) : sSeq T U Γ = .rt d := by unfold sSeq; rw [h]
theorem sSeq_ex {Γ Γ' : Ga} {c : Str} (h : T Γ = .ex c Γ') : sSeq T U Γ = .ex c Γ' := by unfold sSeq; rw [h]
theorem xs_nil : ExDs X W [] sNext := ⟨_, pss_nil, fun _ _ Γ σ H G R D w => w σ H G R⟩
theorem Lifts.seq {K : PySem.W.Frag} {H₀ G₀ : Hp} {D : Ends} {u : TS} {Γ : Ga} (q : Does K W u U) (w : Lifts K W H₀ G₀ (sSeq T U Γ) D) : Lifts K W H₀ G₀ (T Γ) { D with nx := u D } := by
  unfold sSeq at w
  cases h : T Γ with
  | nx Γ' => rw [h] at w; exact fun σ H G R => q H₀ G₀ Γ' σ H G R D w
  | rt d => rw [h] at w; exact w
  | bk d => rw [h] at w; exact w
  | ct d => rw [h] at w; exact w
  | ex c d => rw [h] at w; exact w
  | no => rw [h] at w; exact w
theorem xs_cons (h1 : ExD X W st T) (h2 : ExDs X W rest U) : ExDs X W (st :: rest) (sSeq T U) := by
  obtain ⟨t, p, q⟩ := h1
  obtain ⟨u, p', q'⟩ := h2
  exact ⟨_, pss_cons p p', fun H₀ G₀ Γ σ H G R D w => q H₀ G₀ Γ σ H G R _ (Lifts.seq q' w)⟩
theorem xs_one (h1 : ExD X W st T) : ExDs X W [st] T := let ⟨t, p, q⟩ := h1; ⟨t, pss_one p, q⟩
theorem x_pass : ExD X W (.Pass pos) sNext := ⟨_, ps_pass, fun _ _ Γ σ H G R D w => w σ H G R⟩
def sBreak : Ga → RS := fun Γ => .bk Γ
def sCont : Ga → RS := fun Γ => .ct Γ
theorem x_break : ExD X W (.Break pos) sBreak := ⟨_, ps_break, fun _ _ Γ σ H G R D w => w σ H G R⟩
theorem x_continue : ExD X W (.Continue pos) sCont := ⟨_, ps_continue, fun _ _ Γ σ H G R D w => w σ H G R⟩
def sRet (f : Ga → R D) : Ga → RS := fun Γ => .of (f Γ) Γ fun d => .rt d
theorem x_ret (h : EvD X W e f) : ExD X W (.Return (some e) pos) (sRet f) := by
  obtain ⟨t, p, q⟩ := h
  refine ⟨_, ps_ret p, fun H₀ G₀ Γ σ H G R D w => ?_⟩
  exact q _ _ _ _ _ _ R _ (wS R w fun d w v H' G' E1 d1 => w v H' G' (R.ex.trans E1) d1)
theorem x_ret0 : ExD X W (.Return none pos) (fun _ => .rt .non) := ⟨_, ps_retN, fun H₀ G₀ Γ σ H G R D w => w _ H G R.ex den_non⟩
/-- an owned list is handed back -/
def sRetO (i : Nat) : Ga → RS := fun Γ => match Γ[i]? with
  | some (.own xs) => .rt (.lst xs)
  | _ => .no
theorem x_retO (i : Nat) (hN : X.N[i]? = some x := by rfl) (hv : Vis X.env.scope x := by first | exact Or.inl rfl | exact Or.inr (Or.inl rfl) | exact Or.inr (Or.inr rfl)) (hd : (x == ("__debug__" : Str)) = false := by decide)
    (hcd : (x == ("__classdict__" : Str)) = false := by decide) : ExD X W (.Return (some (.Name x pos')) pos) (sRetO i) := by
  refine ⟨_, ps_ret (pe_var hN hv hd hcd), fun H₀ G₀ Γ σ H G R D w => ?_⟩
  unfold sRetO at w
  split at w
  · rename_i xs e1
    obtain ⟨a, vs, s1, s2, s3, s4, s5⟩ := R.ow i xs e1
    exact ⟨_, s1, w _ H _ (R.ex.take s3 s2 s4) (den_lst.mpr ⟨a, vs, rfl, SqL.of upd_same, s5.up (same_upd s4 _)⟩)⟩
  · exact w.elim
def sSet (i : Nat) (f : Ga → R D) : Ga → RS := fun Γ => .of (f Γ) Γ fun d => .nx (Γ.set i (.val d))
theorem x_set (i : Nat) (he : EvD X W e f) (hN : X.N.Nodup) (hi : X.N[i]? = some x := by rfl) (hx : Loc X.env.scope x := by first | exact Or.inl rfl | exact Or.inr rfl) (hs : swapsWith e (some (.Name x pos')) pos.line X.env = pure false := by rfl)
    (hf : X.fn x = true ∨ X.env.scope.names.lookup x = some .local := by first | exact .inl rfl | exact .inr rfl | assumption) : ExD X W (.Assign [.Name x pos'] e pos) (sSet i f) := by
  obtain ⟨t, p, q⟩ := he
  refine ⟨_, ps_set hN hi hx p hs hf, fun H₀ G₀ Γ σ H G R D w => ?_⟩
  exact q _ _ _ _ _ _ R _ (wS R w fun d w v H' G' E1 d1 => w _ H' G' ((R.after E1).setV i d1))
theorem own_new {K : PySem.W.Frag} {H₀ G₀ H G : Hp} {Γ : Ga} {σ : L2.St} {p : Addr} (R : Rep K H₀ G₀ Γ σ H G) (hp : H p = none) : ∀ (j : Nat) ys, Γ[j]? = some (.own ys) → σ[j]? ≠ some (some (.ref p)) := fun j ys hy hs => by
  obtain ⟨a, us, s1, s2, _⟩ := R.ow j ys hy
  rw [hs] at s1
  cases s1
  rw [hp] at s2
  cases s2
def sSetO (i : Nat) (fl : Ga → R (List D)) : Ga → RS := fun Γ => .of (fl Γ) Γ fun ds => .nx (Γ.set i (.own ds))
theorem x_setO (i : Nat) (he : OwD X W e fl) (hN : X.N.Nodup) (hi : X.N[i]? = some x := by rfl) (hx : Loc X.env.scope x := by first | exact Or.inl rfl | exact Or.inr rfl) (hs : swapsWith e (some (.Name x pos')) pos.line X.env = pure false := by rfl)
    (hf : X.fn x = true ∨ X.env.scope.names.lookup x = some .local := by first | exact .inl rfl | exact .inr rfl | assumption) : ExD X W (.Assign [.Name x pos'] e pos) (sSetO i fl) := by
  obtain ⟨t, p, q⟩ := he
  refine ⟨_, ps_set hN hi hx p hs hf, fun H₀ G₀ Γ σ H G R D w => ?_⟩
  exact q _ _ _ _ _ _ R _ (wS R w fun d w p vs H' G' E1 hp h' g' l => w _ H' G' ((R.after E1).setO i h' (R.ex.hh.free hp) g' l fun j ys hj hy => own_new R hp j ys hy))
def sDrop (f : Ga → R D) : Ga → RS := fun Γ => .of (f Γ) Γ fun _ => .nx Γ
theorem x_expr (he : EvD X W e f) (hs : swapsWith e none pos.line X.env = pure false := by rfl) : ExD X W (.Expr e pos) (sDrop f) := by
  obtain ⟨t, p, q⟩ := he
  refine ⟨_, ps_expr p hs, fun H₀ G₀ Γ σ H G R D w => ?_⟩
  exact q _ _ _ _ _ _ R _ (wS R w fun d w v H' G' E1 d1 => w _ H' G' (R.after E1))
def sIf (g : Ga → R Bool) (T U : Ga → RS) : Ga → RS := fun Γ => .of (g Γ) Γ fun k => match k with
  | true => T Γ
  | false => U Γ
theorem x_if (hc : TvD X W c g) (ha : ExDs X W sa T) (hb : ExDs X W sb U) : ExD X W (.If c sa sb pos) (sIf g T U) := by
  obtain ⟨t, p, q⟩ := hc
  obtain ⟨ta, pa, qa⟩ := ha
  obtain ⟨tb, pb, qb⟩ := hb
  refine ⟨_, ps_if p pa pb, fun H₀ G₀ Γ σ H G R D w => ?_⟩
  refine q _ _ _ _ _ _ R _ (wS R w fun k w H' G' E1 => ?_)
  cases k with
  | true => exact iteT (qa _ _ _ _ _ _ (R.after E1) D w)
  | false => exact iteF (qb _ _ _ _ _ _ (R.after E1) D w)
/-! ### owned lists are changed -/
theorem lt24 {n : Nat} (h : n < 16000000) : n < sizeLine := Nat.lt_of_lt_of_le h (by decide)
def sApp (i : Nat) (f : Ga → R D) : Ga → RS := fun Γ => match Γ[i]? with
  | some (.own xs) => .of (f Γ) Γ fun d => if xs.length < 16000000 then .nx (Γ.set i (.own (xs ++ [d]))) else .no
  | _ => .no
theorem x_app (i : Nat) (he : EvD X W e f) (hN : X.N[i]? = some x := by rfl) (hv : Vis X.env.scope x := by first | exact Or.inl rfl | exact Or.inr (Or.inl rfl) | exact Or.inr (Or.inr rfl)) (hd : (x == ("__debug__" : Str)) = false := by decide)
    (hcd : (x == ("__classdict__" : Str)) = false := by decide) (hs : starEach [e] X.env = [(false, eval e X.env)] := by rfl) (hline : (apos.endLine == cpos.line) = true := by rfl)
    (hsw : swapsWith (.Call (.Attribute (.Name x pos') "append" apos) [e] [] cpos) none pos.line X.env = pure false := by rfl)
    (hbase : attributeBase (.Name x pos') "append" X.env (eval (.Name x pos') X.env) = eval (.Name x pos') X.env := by rfl)
    (hfew : ((backTo cpos (starEach [e] X.env)).all (fun x => !x.1) && (backToKw cpos (keywordEach [] X.env)).all (fun x => x.1.isSome)
      && decide ([e].length + ([] : List Keyword).length + (if ([] : List Keyword).isEmpty then 0 else 1) < 30)) = true := by rfl) :
    ExD X W (.Expr (.Call (.Attribute (.Name x pos') "append" apos) [e] [] cpos) pos) (sApp i f) := by
  obtain ⟨t, p, q⟩ := he
  refine ⟨_, ps_expr (pe_bm PySem.F.plainAttrs_list PySem.F.slot_list_append PySem.F.type_list_append mt_append (pe_var hN hv hd hcd) (pa_cons p pa_nil hs) hbase hfew hline hs rfl) hsw, fun H₀ G₀ Γ σ H G R D w => ?_⟩
  unfold sApp at w
  split at w
  · rename_i xs e1
    obtain ⟨a, vs, s1, s2, s3, s4, s5⟩ := R.ow i xs e1
    refine ⟨_, s1, .inl ⟨rfl, vs, SqL.of s2⟩, ?_⟩
    refine q _ _ _ _ _ _ R _ (wS R w fun d w v H' G' E1 d1 => ?_)
    have l1 := s5.up E1.gg
    split at w
    · rename_i hz
      exact ⟨a, vs, v, rfl, rfl, E1.hh _ _ s2, by rw [← l1.length]; exact lt24 hz, w _ _ G' ((R.after E1).mut e1 s1 (l1.append (.one d1)))⟩
    · exact w.elim
  · exact w.elim
/-- the last one, and those ahead of it -/
def sPop (i j : Nat) : Ga → RS := fun Γ => match Γ[i]? with
  | some (.own xs) => match xs.getLast? with
    | some d => .nx ((Γ.set i (.own xs.dropLast)).set j (.val d))
    | none => .no
  | _ => .no
theorem x_pop (i j : Nat) (hnd : X.N.Nodup) (hN : X.N[i]? = some x := by rfl) (hv : Vis X.env.scope x := by first | exact Or.inl rfl | exact Or.inr (Or.inl rfl) | exact Or.inr (Or.inr rfl)) (hj : X.N[j]? = some y := by rfl)
    (hy : Loc X.env.scope y := by first | exact Or.inl rfl | exact Or.inr rfl) (hd : (x == ("__debug__" : Str)) = false := by decide)
    (hcd : (x == ("__classdict__" : Str)) = false := by decide) (hline : (apos.endLine == cpos.line) = true := by rfl) {py : Pos}
    (hsw : swapsWith (.Call (.Attribute (.Name x pos') "pop" apos) [] [] cpos) (some (.Name y py)) pos.line X.env = pure false := by rfl)
    (hf : X.fn y = true ∨ X.env.scope.names.lookup y = some .local := by first | exact .inl rfl | exact .inr rfl | assumption)
    (hbase : attributeBase (.Name x pos') "pop" X.env (eval (.Name x pos') X.env) = eval (.Name x pos') X.env := by rfl) :
    ExD X W (.Assign [.Name y py] (.Call (.Attribute (.Name x pos') "pop" apos) [] [] cpos) pos) (sPop i j) := by
  refine ⟨_, ps_set hnd hj hy (pe_bm0 PySem.F.plainAttrs_list PySem.F.slot_list_pop PySem.F.type_list_pop mt_pop (pe_var hN hv hd hcd) hbase hline) hsw hf, fun H₀ G₀ Γ σ H G R D w => ?_⟩
  unfold sPop at w
  split at w
  · rename_i zs e1
    split at w
    · rename_i d hlast
      obtain ⟨a, vs, s1, s2, s3, s4, s5⟩ := R.ow i _ e1
      obtain ⟨xs, rfl⟩ := List.getLast?_eq_some_iff.mp hlast
      rw [List.dropLast_concat] at w
      have hl := s5.length
      rw [List.length_append, List.length_singleton] at hl
      obtain ⟨v, hv1, hv2⟩ := s5.get (i := xs.length) (d := d) (by simp)
      have dl := s5.dropLast
      rw [List.dropLast_concat] at dl
      refine ⟨_, s1, .inl ⟨rfl, vs, SqL.of s2⟩, a, vs, v, rfl, rfl, s2, by rw [← hl]; exact hv1, ?_⟩
      exact w _ _ G ((R.mut e1 s1 dl).setV j hv2)
    · exact w.elim
  · exact w.elim
/-! ### while -/
def sWhileN (g : Ga → R Bool) (T : Ga → RS) : Nat → Ga → RS
  | 0, _ => .no
  | n + 1, Γ => .of (g Γ) Γ fun k => match k with
    | false => .nx Γ
    | true => match T Γ with
      | .nx Γ' => sWhileN g T n Γ'
      | .ct Γ' => sWhileN g T n Γ'
      | .bk Γ' => .nx Γ'
      | r => r
def FUEL : Nat := 1000000
def sWhile (g : Ga → R Bool) (T : Ga → RS) : Ga → RS := sWhileN g T FUEL
theorem x_while (hc : TvD X W c g) (hb : ExDs X W sa T) (hp : PassesOwn (model X.prog X.w) X.A X.env X.xe := by exact PassesOwn.never) : ExD X W (.While c sa [] pos) (sWhile g T) := by
  obtain ⟨t, p, q⟩ := hc
  obtain ⟨tb, pb, qb⟩ := hb
  refine ⟨_, ps_while hp p pb, fun H₀ G₀ Γ σ H G R D w => ?_⟩
  refine ⟨fun m σ H => ∃ Γ G, Rep X.K H₀ G₀ Γ σ H G ∧ Lifts X.K W H₀ G₀ (sWhileN g T m Γ) D, ⟨FUEL, Γ, G, R, w⟩, fun m σ H ⟨Γ, G, R, w⟩ => ?_⟩
  cases m with
  | zero => exact w.elim
  | succ n =>
    unfold sWhileN at w
    refine q _ _ _ _ _ _ R _ (wS R w fun k w H' G' E1 => ?_)
    cases k with
    | false => exact iteF (w _ _ _ (R.after E1))
    | true =>
      refine iteT ⟨fun σ' H' => ∃ m', m' < n + 1 ∧ ∃ Γ G, Rep X.K H₀ G₀ Γ σ' H' G ∧ Lifts X.K W H₀ G₀ (sWhileN g T m' Γ) D, fun σ' H' h => h, ?_⟩
      refine qb _ _ _ _ _ _ (R.after E1) _ ?_
      dsimp only at w
      cases h : T Γ with
      | nx Γ' => rw [h] at w; exact fun σ H G R => ⟨n, Nat.lt_succ_self _, Γ', G, R, w⟩
      | ct Γ' => rw [h] at w; exact fun σ H G R => ⟨n, Nat.lt_succ_self _, Γ', G, R, w⟩
      | bk Γ' => rw [h] at w; exact w
      | rt d => rw [h] at w; exact w
      | ex c d => rw [h] at w; exact w
      | no => rw [h] at w; exact w
/-! ### targets -/
def gName' (i : Nat) : D → Ga → Option Ga := fun d Γ => some (Γ.set i (.val d))
theorem tg_name (i : Nat) (hN : X.N.Nodup) (hi : X.N[i]? = some x := by rfl) (hx : Loc X.env.scope x := by first | exact Or.inl rfl | exact Or.inr rfl)
    (hf : X.fn x = true ∨ X.env.scope.names.lookup x = some .local := by first | exact .inl rfl | exact .inr rfl | assumption) : TgD X (.Name x pos) (gName' i) :=
  ⟨_, pg_name hN hi hx hf, fun H₀ G₀ Γ σ H G d v Γ' R h e Q q => by cases e; exact q _ (R.setV i h)⟩
/-- two names -/
def gTwo (g1 g2 : D → Ga → Option Ga) : D → Ga → Option Ga := fun d Γ => match d with
  | .tup [d1, d2] => (g1 d1 Γ).bind (g2 d2)
  | _ => none
theorem tg_two {e1 e2 : Expr} {g1 g2 : D → Ga → Option Ga} {k : Nat} (hc : X.calm = true) (h1 : TgD X e1 g1) (h2 : TgD X e2 g2)
    (hs1 : (assignEach [e1, e2] X.env).map (·.2) = assign e1 X.env :: (assignEach [e2] X.env).map (·.2) := by rfl) (hs2 : (assignEach [e2] X.env).map (·.2) = assign e2 X.env :: (assignEach [] X.env).map (·.2) := by rfl)
    (hn : (assignEach [e1, e2] X.env).length = 2 := by rfl) (hst : (assignEach [e1, e2] X.env).findIdx? (·.1) = none := by rfl) :
    TgD X (.Tuple [e1, e2] k pos) (gTwo g1 g2) := by
  obtain ⟨t1, p1, q1⟩ := h1
  obtain ⟨t2, p2, q2⟩ := h2
  refine ⟨_, pg_tup hc (pgs_cons p1 (pgs_cons p2 pgs_nil hs2) hs1) hn hst, fun H₀ G₀ Γ σ H G d v Γ' R h e' Q q => ?_⟩
  unfold gTwo at e'
  split at e'
  · rename_i d1 d2
    obtain ⟨Γ1, e1, e2⟩ := Option.bind_eq_some_iff.mp e'
    obtain ⟨a, vs, rfl, s, l⟩ := den_tup.mp h
    obtain ⟨v1, r1, rfl, l1, l⟩ := denL_cons.mp l
    obtain ⟨v2, r2, rfl, l2, l⟩ := denL_cons.mp l
    cases denL_nil.mp l
    refine ⟨a, _, rfl, Same.seqT R.gh s, rfl, v1, _, rfl, q1 _ _ _ _ _ _ _ _ _ R l1 e1 _ fun σ1 R1 => ⟨v2, [], rfl, q2 _ _ _ _ _ _ _ _ _ R1 l2 e2 _ fun σ2 R2 => ⟨rfl, q σ2 R2⟩⟩⟩
  · cases e'
def sAsg (f : Ga → R D) (g : D → Ga → Option Ga) : Ga → RS := fun Γ => .of (f Γ) Γ fun d => .of (.ofO (g d Γ)) Γ fun Γ' => .nx Γ'
theorem x_asg {tg : Expr} {gg : D → Ga → Option Ga} (he : EvD X W e f) (ht : TgD X tg gg) (hs : swapsWithSole [tg] e pos.line X.env = pure false := by rfl) (hw : swappedStores [tg] e X.env = pure none := by rfl)
    (h1 : (assignEach [tg] X.env).map (·.2) = [assign tg X.env] := by rfl) : ExD X W (.Assign [tg] e pos) (sAsg f gg) := by
  obtain ⟨t, p, q⟩ := he
  obtain ⟨t', p', q'⟩ := ht
  refine ⟨_, ps_asg p p' hs hw h1, fun H₀ G₀ Γ σ H G R D w => ?_⟩
  refine q _ _ _ _ _ _ R _ (wS R w fun d w v H' G' E1 d1 => ?_)
  obtain ⟨Γ', e2, w⟩ := wSO w
  exact q' _ _ _ _ _ _ _ _ _ (R.after E1) d1 e2 _ fun σ' R' => w _ _ _ R'
/-! ### for -/
/-- the turns over data -/
def sTurns (g : D → Ga → Option Ga) (T : Ga → RS) : List D → Ga → RS
  | [], Γ => .nx Γ
  | d :: ds, Γ => match g d Γ with
    | none => .no
    | some Γ1 => match T Γ1 with
      | .nx Γ' => sTurns g T ds Γ'
      | .ct Γ' => sTurns g T ds Γ'
      | .bk Γ' => .nx Γ'
      | r => r
end

/-! ### a def of the text -/
def begin_ (N : List Str) (ds : List D) : Ga := ds.map Sl.val ++ List.replicate (N.length - ds.length) Sl.un
theorem rep_begin {K : PySem.W.Frag} {H G : Hp} {N : List Str} {ds : List D} {vs : List V} (g : Same G H) (l : DenL K G ds vs) : Rep K H G (begin_ N ds) (L2.start N vs) H G where
  ex := .refl g
  ln := by unfold begin_ L2.start; simp [l.length]
  vl := fun i d h => by
    unfold begin_ at h
    unfold L2.start
    by_cases hi : i < ds.length
    · rw [List.getElem?_append_left (by simpa using hi), List.getElem?_map] at h
      obtain ⟨d', e1, e2⟩ := Option.map_eq_some_iff.mp h
      cases e2
      obtain ⟨v, e3, e4⟩ := l.get e1
      exact ⟨v, by rw [List.getElem?_append_left (by rw [List.length_map, ← l.length]; exact hi), List.getElem?_map, e3]; rfl, e4⟩
    · rw [List.getElem?_append_right (by simpa using hi)] at h
      obtain ⟨_, e⟩ := List.getElem?_eq_some_iff.mp h
      rw [List.getElem_replicate] at e
      cases e
  ow := fun i xs h => by
    exfalso
    unfold begin_ at h
    by_cases hi : i < ds.length
    · rw [List.getElem?_append_left (by simpa using hi), List.getElem?_map] at h
      obtain ⟨d', e1, e2⟩ := Option.map_eq_some_iff.mp h
      cases e2
    · rw [List.getElem?_append_right (by simpa using hi)] at h
      obtain ⟨_, e⟩ := List.getElem?_eq_some_iff.mp h
      rw [List.getElem_replicate] at e
      cases e
  di := fun i j xs ys a h => by
    exfalso
    unfold begin_ at h
    by_cases hi : i < ds.length
    · rw [List.getElem?_append_left (by simpa using hi), List.getElem?_map] at h
      obtain ⟨d', e1, e2⟩ := Option.map_eq_some_iff.mp h
      cases e2
    · rw [List.getElem?_append_right (by simpa using hi)] at h
      obtain ⟨_, e⟩ := List.getElem?_eq_some_iff.mp h
      rw [List.getElem_replicate] at e
      cases e
def callR (N : List Str) (s : Ga → RS) (ds : List D) : R D := match s (begin_ N ds) with
  | .rt d => .ok d
  | .nx _ => .ok .non
  | .ex c _ => .ex c
  | _ => .no
section
variable {P : Program} {w : World} {K : PySem.W.Frag} {mg : Str → Option Value} {base : Heap}
/-- THE RULE for a def from which no exception is told -/
theorem fn_R0 {x qual : Str} {st : Stmt} {f : Addr} {fd : FuncData} {N ps : List Str} {k : Nat} {S : Ga → RS} (Fn : Fun K x qual st f fd) (Sc : FnScope N ps (defScope st))
    (B : ∀ (cdv : Value) (A : Around) (outer : List Env) (s : Shared) (H : Hp) (E : XK), Room k (A.deeper (envOfC qual (defScope st) s.heap.objs.size f cdv)) →
      ExDs (cxOf CX0 P w K mg base N qual (defScope st) f cdv A outer s H E).nox XP0 (defBody st) S) :
    FnOk P w K mg base CX0 (k + 1) f fd ps (spF K mg ps.length fun ds => (callR N S ds).calm) := by
  refine Fn.ok Sc (fun vs H Q E h => ?_) (fun cdv A outer s H vs Q E hr h => ?_)
  · obtain ⟨G, ds, _, l, hl, _⟩ := h
    exact l.length.symm.trans hl
  · obtain ⟨G, ds, g, l, hl, q⟩ := h
    obtain ⟨t, p, hd⟩ := B cdv A outer s H E hr
    refine ⟨t, p, hd H G _ _ H G (rep_begin g l) _ ?_⟩
    unfold callR at q
    dsimp only [R.calm] at q
    cases hS : S (begin_ N ds) with
    | rt d => rw [hS] at q; exact fun v H' G' e dv => q v H' G' e dv
    | nx Γ => rw [hS] at q; exact fun σ H' G' R => q _ H' G' R.ex den_non
    | bk Γ => rw [hS] at q; exact q.elim
    | ct Γ => rw [hS] at q; exact q.elim
    | ex c Γ => rw [hS] at q; exact q.elim
    | no => rw [hS] at q; exact q.elim
end
end Wy

/-! iterators over plain data, for, comprehensions -/
namespace Wy
open PySem PySem.Spec PyProof.Rows L2

/-- the iterator yields the data ds -/
def Yields (K : PySem.W.Frag) (J : It) (G : Hp) (ds : List D) : Prop := ∀ (k : Nat) (H' G' : Hp), Same G G' → Same G' H' →
  (∀ d, ds[k]? = some d → J.go k H' ∧ ∀ x H'', J.yld k H' x H'' → ∃ G'', Ext H' G' H'' G'' ∧ Den K G'' d x) ∧ (ds.length ≤ k → J.stop k H')
def ItD (X : Cx) (W : XP) (tg iter : Expr) (f : Ga → R (List D)) : Prop := ∃ wi, PI X tg iter wi ∧ ∀ (H₀ G₀ : Hp) (Γ : Ga) (σ : L2.St) (H G : Hp), Rep X.K H₀ G₀ Γ σ H G →
  ∀ R : It → Hp → Prop, (f Γ).want (exAt W σ H G) (fun ds => ∀ J H' G', Ext H G H' G' → Yields X.K J G' ds → R J H') → wi σ H R
section
variable {X : Cx} {W : XP} {tg e : Expr} {f : Ga → R D} {fl : Ga → R (List D)} {pos pos' : Pos} {sa : List Stmt} {T : Ga → RS}
def asL : D → Option (List D)
  | .lst ds => some ds
  | _ => none
def asT : D → Option (List D)
  | .tup ds => some ds
  | _ => none
theorem asL_eq {d : D} {ds : List D} (h : asL d = some ds) : d = .lst ds := by cases d <;> first | (cases h; rfl) | cases h
theorem asT_eq {d : D} {ds : List D} (h : asT d = some ds) : d = .tup ds := by cases d <;> first | (cases h; rfl) | cases h
/-- what is walked -/
def iL (f : Ga → R D) : Ga → R (List D) := fun Γ => (f Γ).bind fun d => .ofO (asL d)
def iT (f : Ga → R D) : Ga → R (List D) := fun Γ => (f Γ).bind fun d => .ofO (asT d)
theorem it_list (he : EvD X W e f) : ItD X W tg e (iL f) := by
  obtain ⟨t, p, q⟩ := he
  refine ⟨_, pi_list p, fun H₀ G₀ Γ σ H G R Q w => ?_⟩
  refine q _ _ _ _ _ _ R _ (wStep w (fun _ h => h) fun d w v H' G' E1 d1 => ?_)
  obtain ⟨ds, e2, k⟩ := wOfO w
  cases asL_eq e2
  obtain ⟨a, vs, rfl, s, l⟩ := den_lst.mp d1
  refine ⟨a, rfl, ⟨vs, E1.gh.seq s⟩, k _ H' G' E1 fun i H2 G2 g2 h2 => ⟨fun d hd => ?_, fun hi => ⟨vs, (g2.trans h2).seq s, by rw [← l.length]; exact hi⟩⟩⟩
  obtain ⟨v, hv, dv⟩ := l.get hd
  refine ⟨⟨vs, v, (g2.trans h2).seq s, hv⟩, fun x H3 ⟨z, y⟩ => ?_⟩
  subst z
  have q := y vs ((g2.trans h2).seq s)
  rw [hv] at q
  cases q
  exact ⟨G2, .refl h2, dv.up g2⟩
theorem it_tup (he : EvD X W e f) : ItD X W tg e (iT f) := by
  obtain ⟨t, p, q⟩ := he
  refine ⟨_, pi_tup p, fun H₀ G₀ Γ σ H G R Q w => ?_⟩
  refine q _ _ _ _ _ _ R _ (wStep w (fun _ h => h) fun d w v H' G' E1 d1 => ?_)
  obtain ⟨ds, e2, k⟩ := wOfO w
  cases asT_eq e2
  obtain ⟨a, vs, rfl, s, l⟩ := den_tup.mp d1
  refine ⟨a, rfl, ⟨vs, Same.seqT E1.gh s⟩, k _ H' G' E1 fun i H2 G2 g2 h2 => ⟨fun d hd => ?_, fun hi => ⟨vs, Same.seqT (g2.trans h2) s, by rw [← l.length]; exact hi⟩⟩⟩
  obtain ⟨v, hv, dv⟩ := l.get hd
  refine ⟨⟨vs, v, Same.seqT (g2.trans h2) s, hv⟩, fun x H3 ⟨z, y⟩ => ?_⟩
  subst z
  have q := y vs (Same.seqT (g2.trans h2) s)
  rw [hv] at q
  cases q
  exact ⟨G2, .refl h2, dv.up g2⟩
/-- range(n), range(a, b) -/
def rng1 : List D → Option (List D)
  | [.int j] => if -(2 ^ 62) ≤ j ∧ j < 2 ^ 62 then some ((List.range j.toNat).map fun (k : Nat) => D.int (0 + (k : Int))) else none
  | _ => none
def rng2 : List D → Option (List D)
  | [.int i, .int j] => if -(2 ^ 62) ≤ i ∧ i < 2 ^ 62 ∧ -(2 ^ 62) ≤ j ∧ j < 2 ^ 62 then some ((List.range (j - i).toNat).map fun (k : Nat) => D.int (i + (k : Int))) else none
  | _ => none
theorem yields_rng {K : PySem.W.Frag} {G : Hp} (lo : Int) (n : Nat) : Yields K (Itr lo n) G ((List.range n).map fun (k : Nat) => D.int (lo + (k : Int))) := by
  intro i H' G' g h
  refine ⟨fun d hd => ?_, fun hi => by have h := hi; simp at h; exact h⟩
  rw [List.getElem?_map] at hd
  obtain ⟨j, e1, e2⟩ := Option.map_eq_some_iff.mp hd
  obtain ⟨hi, e3⟩ := List.getElem?_eq_some_iff.mp e1
  rw [List.getElem_range] at e3
  rw [List.length_range] at hi
  subst e3
  subst e2
  refine ⟨hi, fun x H'' ⟨z, y⟩ => ?_⟩
  subst z
  subst y
  exact ⟨G', .refl h, den_int⟩
def iR1 (fl : Ga → R (List D)) : Ga → R (List D) := fun Γ => (fl Γ).bind fun d => .ofO (rng1 d)
def iR2 (fl : Ga → R (List D)) : Ga → R (List D) := fun Γ => (fl Γ).bind fun d => .ofO (rng2 d)
theorem it_range1 {p : Pos} (hg : Gl X "range") (hm : X.mg "range" = none) (he : AvD X W [e] fl) (hse : starEach [e] X.env = [(false, eval e X.env)] := by rfl) : ItD X W tg (.Call (.Name "range" p) [e] [] pos) (iR1 fl) := by
  obtain ⟨t, pe, _, q⟩ := he
  refine ⟨_, pi_range1 hg hm pe hse, fun H₀ G₀ Γ σ H G R Q w => ?_⟩
  refine q _ _ _ _ _ _ R _ (wStep w (fun _ h => h) fun d w vs H' G' E1 d1 => ?_)
  obtain ⟨ds, e2, k⟩ := wOfO w
  unfold rng1 at e2
  split at e2
  · rename_i j
    split at e2
    · rename_i hj
      cases e2
      obtain ⟨v, r, rfl, da, db⟩ := denL_cons.mp d1
      cases denL_nil.mp db
      cases den_intE da
      exact ⟨j, rfl, hj.1, hj.2, k _ H' G' E1 (yields_rng 0 _)⟩
    · cases e2
  · cases e2
theorem it_range2 {p : Pos} {e2 : Expr} (hg : Gl X "range") (hm : X.mg "range" = none) (he : AvD X W [e, e2] fl) (hse : starEach [e, e2] X.env = [(false, eval e X.env), (false, eval e2 X.env)] := by rfl) (hs2 : starEach [e2] X.env = [(false, eval e2 X.env)] := by rfl) :
    ItD X W tg (.Call (.Name "range" p) [e, e2] [] pos) (iR2 fl) := by
  obtain ⟨t, pe, _, q⟩ := he
  refine ⟨_, pi_range2 hg hm pe hse hs2, fun H₀ G₀ Γ σ H G R Q w => ?_⟩
  refine q _ _ _ _ _ _ R _ (wStep w (fun _ h => h) fun d w vs H' G' E1 d1 => ?_)
  obtain ⟨ds, e2, k⟩ := wOfO w
  unfold rng2 at e2
  split at e2
  · rename_i i j
    split at e2
    · rename_i hj
      cases e2
      obtain ⟨v, r, rfl, da, db⟩ := denL_cons.mp d1
      obtain ⟨v2, r2, rfl, dc, dd⟩ := denL_cons.mp db
      cases denL_nil.mp dd
      cases den_intE da
      cases den_intE dc
      exact ⟨i, j, rfl, hj, k _ H' G' E1 (yields_rng i _)⟩
    · cases e2
  · cases e2
/-! ### for -/
def sFor (fl : Ga → R (List D)) (g : D → Ga → Option Ga) (T : Ga → RS) : Ga → RS := fun Γ => .of (fl Γ) Γ fun ds => sTurns g T ds Γ
theorem drop_at {α : Type} : ∀ {l : List α} {k : Nat} (h : k < l.length), ∃ d, l[k]? = some d ∧ l.drop k = d :: l.drop (k + 1) := fun {l k} h => ⟨l[k], List.getElem?_eq_getElem h, List.drop_eq_getElem_cons h⟩
theorem x_for {gg : D → Ga → Option Ga} (hc : X.calm = true) (he : ItD X W tg e fl) (ht : TgD X tg gg) (hb : ExDs X W sa T) (hs : ∀ x, foldedSetIterable e X.env x = pure x := by intro _; rfl) (hp : PassesOwn (model X.prog X.w) X.A X.env X.xe := by exact PassesOwn.never) :
    ExD X W (.For tg e sa [] pos) (sFor fl gg T) := by
  obtain ⟨wi, p, q⟩ := he
  obtain ⟨t', p', q'⟩ := ht
  obtain ⟨tb, pb, qb⟩ := hb
  refine ⟨_, ps_for hp hc p p' pb hs, fun H₀ G₀ Γ σ H G R D w => ?_⟩
  refine q _ _ _ _ _ _ R _ (wS R w fun ds hr J H' G' E1 y => ?_)
  have R1 := (R.after E1).base
  have hr := hr.base (R.after E1).ex
  refine ⟨fun k m σ H => ∃ Γ G, Rep X.K H₀ G' Γ σ H G ∧ Lifts X.K W H₀ G' (sTurns gg T (ds.drop k) Γ) D ∧ m + k = ds.length, ⟨ds.length, Γ, G', R1, hr, rfl⟩, fun k m σ H ⟨Γ, G, R, hr, hm⟩ => ?_⟩
  have Y := y k H G R.ex.gg R.gh
  by_cases hk : k < ds.length
  · obtain ⟨d, hd, hdr⟩ := drop_at hk
    obtain ⟨go, yl⟩ := Y.1 d hd
    rw [hdr] at hr
    unfold sTurns at hr
    cases g1 : gg d Γ with
    | none => rw [g1] at hr; exact hr.elim
    | some Γ1 =>
      rw [g1] at hr
      dsimp only at hr
      refine .inr ⟨go, fun σ' H' => ∃ Γ G, Rep X.K H₀ G' Γ σ' H' G ∧ Lifts X.K W H₀ G' (sTurns gg T (ds.drop (k + 1)) Γ) D, fun σ' H' ⟨Γ, G, R, h⟩ => ⟨m - 1, by omega, Γ, G, R, h, by omega⟩, fun x H2 hy => ?_⟩
      obtain ⟨G2, E2, dv⟩ := yl x H2 hy
      refine q' _ _ _ _ _ _ _ _ _ (R.after E2) dv g1 _ fun σ' R1 => ?_
      refine qb _ _ _ _ _ _ R1 _ ?_
      cases h : T Γ1 with
      | nx Γ' => rw [h] at hr; exact fun σ H G R => ⟨Γ', G, R, hr⟩
      | ct Γ' => rw [h] at hr; exact fun σ H G R => ⟨Γ', G, R, hr⟩
      | bk Γ' => rw [h] at hr; exact hr
      | rt d => rw [h] at hr; exact hr
      | ex c d => rw [h] at hr; exact hr
      | no => rw [h] at hr; exact hr
  · have z : ds.drop k = [] := List.drop_eq_nil_of_le (by omega)
    rw [z] at hr
    exact .inl ⟨Y.2 (by omega), hr _ _ _ R⟩
end

/-! ### the block of a comprehension -/
def dum : Str := "."
def accN : Str := ".acc"
def blkN (x : Str) (N : List Str) : List Str := x :: accN :: N.map fun y => if y = x then dum else y
def blk (X : Cx) (scope : Scope) (cl : List (Str × Addr)) (C : Addr) (x : Str) (s₀ : Shared) (H₀ : Hp) (ex : List Addr) : Cx :=
  { X with N := blkN x X.N, s₀ := s₀, H₀ := H₀, env := compEnvC scope cl C X.env, outer := X.stack, stack := X.stack, ex := ex, fn := fun _ => false, pn := [], xe := fun _ _ => False }
/-- what the two scopes say of the names -/
structure BlkOk (X : Cx) (scope : Scope) (cl : List (Str × Addr)) (x : Str) : Prop where
  kind : scope.kind = .function
  cells : ∀ y ∈ scope.names, y.2 ≠ .cell
  clos : closureFor scope X.env = pure cl
  names : ∀ y ∈ scope.names, y.2 = .local → scope.names.lookup y.1 = some .local
  var : scope.names.lookup x = some .local
  nd : (blkN x X.N).Nodup
  cl1 : ∀ y c, cl.lookup y = some c → X.env.cells.lookup y = some c
  cl2 : ∀ y, ((relabel scope X.env).names.lookup y = some .cell ∨ (relabel scope X.env).names.lookup y = some .free) → ∃ c, cl.lookup y = some c
  acc : ¬ Vis (relabel scope X.env) accN
  vis : ∀ y ∈ X.N, (if y = x then dum else y) ∈ blkN x X.N → Vis (relabel scope X.env) (if y = x then dum else y) → y ≠ x ∧ ((relabel scope X.env).names.lookup y = some .cell ∨ (relabel scope X.env).names.lookup y = some .free) ∧ (X.env.kindOf y = some .cell ∨ X.env.kindOf y = some .free)

section
variable {X : Cx} {pins : List (Addr × Obj)} {σ : L2.St} {H : Hp} {s : Shared} {scope : Scope} {cl : List (Str × Addr)} {x : Str} {fp : List Addr}
theorem blk_ok (B : BlkOk X scope cl x) (I : Inv X pins σ H s) (hf : ∀ b ∈ fp, FpOk X pins H b) (hfp : ∀ b ∈ fp, b < s.heap.objs.size) {C : Addr} (hC : s.heap.objs.size ≤ C) : (blk X scope cl C x s H fp).Ok where
  mod := I.ok.mod
  kind := B.kind
  glob := I.ok.glob
  blt := I.ok.blt
  above := hC
  inj := fun y z c h1 h2 => I.ok.inj y z c (B.cl1 y c h1) (B.cl1 z c h2)
  has := fun y h => B.cl2 y h
  cab := fun _ _ h => nomatch h
  hd := I.ok.hd
  frames := I.ok.frames
  stk := .inl rfl
  exf := fun b hb => ⟨Nat.ne_of_lt (Nat.lt_of_lt_of_le (hfp b hb) hC), fun y c h => (hf b hb).2.2.2.2.1 y c (B.cl1 y c h)⟩
  bs := I.bs
  bsz := Nat.le_trans I.ok.bsz I.sz
  noex := fun b o e hb => by
    rcases (hf b hb).2.2.2.1 with z | z
    · exact I.ok.noex b o e z
    · exact absurd (Nat.lt_of_lt_of_le (Heap.lt_size e) (Nat.le_trans I.ok.bsz z)) (Nat.lt_irrefl _)
  exfs := fun b hb z => by
    rcases List.mem_cons.mp (I.stkSub b z) with e | e
    · exact (hf b hb).2.1 e
    · exact (hf b hb).2.2.1 e
  funs := I.stack
  frf := I.stkFree
theorem blk_inv (B : BlkOk X scope cl x) (I : Inv X pins σ H s) (hf : ∀ b ∈ fp, FpOk X pins H b) (hfp : ∀ b ∈ fp, b < s.heap.objs.size) {C Dd : Addr} {h1 : Heap} {tk : Nat} {m : Str → Option Value}
    (hC : s.heap.objs.size ≤ C) (hD : s.heap.objs.size ≤ Dd) (hDC : Dd ≠ C) (hn : h1.Ns C m) (hd : h1.get? Dd = some { cls := .type "list", data := .seq #[] 0 }) (k : ∀ b o, s.heap.get? b = some o → h1.get? b = some o) :
    Inv (blk X scope cl C x s H fp) [] (none :: some (V.ref Dd) :: σ) (upd H Dd (.lst [])) { s with heap := h1, toks := tk } where
  ok := blk_ok B I hf hfp hC
  os := rfl
  bare := I.bare
  base := Un.laid k hD (I.hok.fresh hD)
  loc := by
    refine ⟨m, hn, fun i y v e1 e2 e3 => ?_⟩
    match i, e1, e2 with
    | 0, e1, e2 => cases e2
    | 1, e1, e2 =>
      have e : y = accN := by
        have := e1
        simp only [blk, blkN, List.getElem?_cons_succ, List.getElem?_cons_zero] at this
        exact (Option.some.inj this).symm
      subst e
      exact absurd e3 B.acc
    | i + 2, e1, e2 =>
      have e1' : (X.N.map fun y => if y = x then dum else y)[i]? = some y := e1
      have e2' : σ[i]? = some (some v) := e2
      rw [List.getElem?_map] at e1'
      obtain ⟨z, hz, ez⟩ := Option.map_eq_some_iff.mp e1'
      subst ez
      have hmem : z ∈ X.N := List.mem_of_getElem? hz
      obtain ⟨hne, hk1, hk2⟩ := B.vis z hmem (List.mem_cons_of_mem _ (List.mem_cons_of_mem _ (List.mem_map_of_mem (f := fun y => if y = x then dum else y) hmem))) e3
      rw [if_neg hne]
      obtain ⟨m0, _, hl⟩ := I.loc
      obtain ⟨u, r, l⟩ := hl i z v hz e2' (hk2.elim (fun q => .inr (.inl q)) fun q => .inr (.inr q))
      refine ⟨u, r, .inr ⟨hk1, ?_⟩⟩
      rcases l with ⟨q, _⟩ | ⟨_, c, hc, hcell⟩
      · rcases hk2 with q' | q' <;> (rw [q] at q'; cases q')
      · obtain ⟨c', hc'⟩ := B.cl2 z hk1
        have := B.cl1 z c' hc'
        rw [hc] at this
        cases this
        obtain ⟨o, ho, hod⟩ := hcell
        exact ⟨c, hc', o, k _ _ ho, hod⟩
  cell := fun y c h => by
    obtain ⟨v, o, ho, hod⟩ := I.cell y c (B.cl1 y c h)
    exact ⟨v, o, k _ _ ho, hod⟩
  free := by
    show upd H Dd (.lst []) C = none
    rw [upd_ne (Ne.symm hDC)]
    exact I.hok.fresh hC
  freeC := fun y c h => by
    obtain ⟨v, o, ho, hod⟩ := I.cell y c (B.cl1 y c h)
    show upd H Dd (.lst []) c = none
    rw [upd_ne (fun e => absurd (Nat.lt_of_lt_of_le (Heap.lt_size ho) (by rw [e]; exact hD)) (Nat.lt_irrefl _))]
    exact I.freeC y c (B.cl1 y c h)
  pin := fun p hp => nomatch hp
  hok := I.hok.laid k hD ⟨Nat.zero_le _, [], 0, .nil, hd⟩
  len := by
    show (none :: some (V.ref Dd) :: σ).length = (blkN x X.N).length
    simp [blkN, I.len]
end

/-! ### the turns of a comprehension -/
theorem bind_ok' {α β : Type} {x : R α} {f : α → R β} {b : β} (h : x.bind f = .ok b) : ∃ a, x = .ok a ∧ f a = .ok b := by
  cases x with
  | ok a => exact ⟨a, rfl, h⟩
  | ex c => cases h
  | no => cases h
def compR (c : Ga → R Bool) (f : Ga → R D) (Γ : Ga) : List D → R (List D)
  | [] => .ok []
  | d :: ds => (c (.val d :: .un :: Γ)).calm.bind fun k => match k with
    | true => (f (.val d :: .un :: Γ)).calm.bind fun y => (compR c f Γ ds).bind fun r => .ok (y :: r)
    | false => compR c f Γ ds
theorem compR_calm (c : Ga → R Bool) (f : Ga → R D) (Γ : Ga) : ∀ ds x, compR c f Γ ds ≠ .ex x
  | [], x, h => by cases h
  | d :: ds, x, h => by
    unfold compR at h
    cases h1 : c (.val d :: .un :: Γ) with
    | ok k =>
      rw [h1] at h
      cases k with
      | false => exact compR_calm c f Γ ds x h
      | true =>
        simp only [calm_of_ok, R.bind_ok] at h
        cases h2 : f (.val d :: .un :: Γ) with
        | ok y =>
          rw [h2] at h
          simp only [calm_of_ok, R.bind_ok] at h
          cases h3 : compR c f Γ ds with
          | ok r => rw [h3] at h; cases h
          | ex z => exact compR_calm c f Γ ds z h3
          | no => rw [h3] at h; cases h
        | ex z => rw [h2] at h; cases h
        | no => rw [h2] at h; cases h
    | ex z => rw [h1] at h; cases h
    | no => rw [h1] at h; cases h
def TsD (X : Cx) (ifs : List Expr) (c : Ga → R Bool) : Prop :=
  ∀ (pins : List (Addr × Obj)) (s : Shared) (σ : L2.St) (H : Hp) (H₀ G₀ : Hp) (Γ : Ga) (G : Hp) (b : Bool), Inv X pins σ H s → Rep X.K H₀ G₀ Γ σ H G → c Γ = .ok b →
    wpAny (model X.prog X.w) X.A (forIn ifs true fun t r => if r = true then do let ok ← isTrue t X.env (eval t X.env); pure (ForInStep.yield ok) else pure (ForInStep.yield r)) (fun ok s' => ok = b ∧ ∃ H' G', Inv X pins σ H' s' ∧ Ext H G H' G') X.xe s
def cTrue : Ga → R Bool := fun _ => .ok true
theorem ts_nil {X : Cx} : TsD X [] cTrue := fun pins s σ H H₀ G₀ Γ G b I R e => by
  cases e
  exact wpAny_tests_nil ⟨rfl, H, G, I, .refl R.gh⟩
theorem ts_one {X : Cx} {t : Expr} {c : Ga → R Bool} (h : TvD X XP0 t c) : TsD X [t] c := fun pins s σ H H₀ G₀ Γ G b I R e => by
  obtain ⟨tt, p, q⟩ := h
  refine wpAny_tests_one (thn (p pins s σ H (fun k H' => k = b ∧ ∃ G', Ext H G H' G') I (q _ _ _ _ _ _ R _ (by rw [e]; exact fun H' G' E1 => ⟨rfl, G', E1⟩))) fun ok s' ⟨H', I', e', G', E1⟩ => ⟨e', H', G', I', E1⟩)
section
variable {prog : Program} {w : World} {A : Around} {R : Result → Shared → Prop} {s : Shared}
theorem compLoop_own {elt target iter : Expr} {ifs : List Expr} {scope : Scope} {pos : Pos} {it acc : Value} {env : Env} (I : Nat → Shared → Prop)
    (turn : ∀ n s, I n s → wpAny (model prog w) A (pyNext it) (fun r s₁ => match r with
      | none => R (.ok .next) s₁
      | some v => wpAny (model prog w) A (letOwnedTupleGo target it v) (fun _ s₁ => wpAny (model prog w) A (assign target env v) (fun _ s₂ =>
          wpAny (model prog w) A (forIn ifs true fun c r => if r = true then do let ok ← isTrue c env (eval c env); pure (ForInStep.yield ok) else pure (ForInStep.yield r)) (fun ok s₃ =>
            if ok = true then wpAny (model prog w) A (eval elt env) (fun x s₄ =>
              wpAny (model prog w) A (call (.builtin "list.append") [acc, x]) (fun _ s₅ => ∃ m, m < n ∧ I m s₅) (fun _ _ => False) s₄) (fun _ _ => False) s₃
            else ∃ m, m < n ∧ I m s₃) (fun _ _ => False) s₂) (fun _ _ => False) s₁) (fun _ _ => False) s₁) (fun _ _ => False) s)
    (n : Nat) (h : I n s) :
    codeAny (model prog w) A (.compLoop (.ListComp elt [⟨target, iter, ifs, 0⟩] scope pos) 0 it acc env) R s := by
  refine codeAny_loop rfl I (fun n s hI => ?_) n h
  show wpAny _ A ((compTurn (.ListComp elt [⟨target, iter, ifs, 0⟩] scope pos) 0 it acc env).onRaise (fun x => do noteFrame x env; theTreesLotGoes x)) _ _ s
  refine wpAny_noted ?_
  rw [compTurn_list]
  refine wpAny_bind (wpAny_standAt (wpAny_bind (wpAny_mono (turn n s hI) (fun r s₁ h₁ => ?_) fun _ _ h' => h'.elim)))
  cases r with
  | none => exact wpAny_pure h₁
  | some v =>
    refine wpAny_bind (wpAny_mono h₁ (fun _ s₁ h₁ => ?_) fun _ _ h' => h'.elim)
    refine wpAny_bind (wpAny_mono h₁ (fun _ s₂ h₂ => wpAny_bind (wpAny_mono h₂ (fun ok s₃ h₃ => ?_) fun _ _ h' => h'.elim)) fun _ _ h' => h'.elim)
    cases ok with
    | false => exact wpAny_pure ⟨rfl, h₃⟩
    | true =>
      exact wpAny_bind (wpAny_bind (wpAny_mono h₃ (fun x s₄ h₄ => wpAny_bind (wpAny_mono h₄ (fun _ s₅ h₅ => wpAny_pure (wpAny_pure ⟨rfl, h₅⟩)) fun _ _ h' => h'.elim)) fun _ _ h' => h'.elim))
end
theorem Rep.consUn {K : PySem.W.Frag} {H₀ G₀ H G : Hp} {Γ : Ga} {σ : L2.St} (R : Rep K H₀ G₀ Γ σ H G) (o : Option V) : Rep K H₀ G₀ (.un :: Γ) (o :: σ) H G where
  ex := R.ex
  ln := by simp [R.ln]
  vl := fun i d h => by
    cases i with
    | zero => cases h
    | succ i => exact R.vl i d (by simpa using h)
  ow := fun i d h => by
    cases i with
    | zero => cases h
    | succ i => exact R.ow i d (by simpa using h)
  di := fun i j xs ys a h1 h2 h3 h4 => by
    cases i with
    | zero => cases h1
    | succ i =>
      cases j with
      | zero => cases h2
      | succ j => exact congrArg (· + 1) (R.di i j xs ys a (by simpa using h1) (by simpa using h2) (by simpa using h3) (by simpa using h4))
section
variable {X : Cx} {pins : List (Addr × Obj)} {σ : L2.St} {H H₀ G₀ G : Hp} {Γ : Ga} {s : Shared} {scope : Scope} {cl : List (Str × Addr)} {x : Str} {px pos : Pos} {fp : List Addr} {elt iter : Expr} {ifs : List Expr} {c : Ga → R Bool} {f : Ga → R D}
theorem comp_core {J : It} {it : Addr} {tn : Nat → Heap → Prop} {ds outs : List D} {E : Value → Shared → Prop} (B : BlkOk X scope cl x) (hcalm : X.calm = true) (I : Inv X pins σ H s) (R : Rep X.K H₀ G₀ Γ σ H G)
    (T : Turn X.prog X.w X.K (.Name x px) J fp it tn) (st : tn 0 s.heap) (hf : ∀ b ∈ fp, FpOk X pins H b) (Y : Yields X.K J G ds)
    (hT : ∀ C, TsD (blk X scope cl C x s H fp) ifs c) (hE : ∀ C, EvD (blk X scope cl C x s H fp) XP0 elt f) (hc : compR c f Γ ds = .ok outs) (hlen : ds.length < 16000000)
    {RR : Value → Addr → Result → Shared → Prop}
    (hRR : ∀ Dd C s' H' G' vs m, s'.os = s.os → AllBare s'.gens → Un (frs X.stack) fp H H' s.heap s'.heap → HOk X.prog X.w H' s'.heap → s.heap.objs.size ≤ C → H' C = none → s'.heap.Ns C m →
      Ext H G H' G' → H Dd = none → H' Dd = some (.lst vs) → G' Dd = none → DenL X.K G' outs vs → RR (.ref Dd) C (.ok .next) s') :
    wpAny (model X.prog X.w) X.A (newList []) (fun acc s₃ => wpAny (model X.prog X.w) X.A (newFunctionEnv scope X.env.globals cl [] X.env.qual none .none (some X.env)) (fun cenv s₄ =>
      codeAny (model X.prog X.w) X.A (.compStart (.ListComp elt [⟨.Name x px, iter, ifs, 0⟩] scope pos) 0 (.ref it) acc { cenv with scope := relabel scope X.env }) (RR acc cenv.locals) s₄) E s₃) E s := by
  have hfp : ∀ b ∈ fp, b < s.heap.objs.size := fun b hb => by
    obtain ⟨o, e, _⟩ := T.obj 0 _ st b hb
    exact Heap.lt_size e
  refine wpAny_newObj_type (wpAny_newFunctionEnv B.cells (by intro y hy; simp at hy) (fun h₁ hns₁ hsb₁ => ?_) B.kind)
  dsimp only at hns₁ hsb₁ ⊢
  generalize hH2 : s.heap.push { cls := .type "list", dict := none, data := .seq ([] : List Value).toArray } = H2 at hns₁ hsb₁ ⊢
  have hC : H2.objs.size = s.heap.objs.size + 1 := by rw [← hH2, Heap.size_push]
  have hDC : s.heap.objs.size ≠ H2.objs.size := by rw [hC]; exact Nat.ne_of_lt (Nat.lt_succ_self _)
  have hCle : s.heap.objs.size ≤ H2.objs.size := by rw [hC]; exact Nat.le_succ _
  have old : ∀ b o, s.heap.get? b = some o → h₁.get? b = some o := fun b o e => hsb₁.extBut b o (by rw [hC]; exact Nat.ne_of_lt (Nat.lt_succ_of_lt (Heap.lt_size e))) (Heap.get?_push_of_some _ (hH2 ▸ Heap.get?_push_of_some _ e))
  have hacc : h₁.get? s.heap.objs.size = some { cls := .type "list", data := .seq #[] 0 } := hsb₁.extBut _ _ hDC (Heap.get?_push_of_some _ (hH2 ▸ Heap.get?_push_size _ rfl))
  have I0 := blk_inv (tk := s.toks + ([] : List (Str × Value)).length) B I hf hfp hCle (Nat.le_refl _) hDC hns₁ hacc old
  have hp : H s.heap.objs.size = none := I.fresh
  have E0 : Ext H G (upd H s.heap.objs.size (.lst [])) G := .own R.gh hp _
  have R0 : Rep X.K H₀ G₀ (.un :: .own [] :: Γ) (none :: some (V.ref s.heap.objs.size) :: σ) (upd H s.heap.objs.size (.lst [])) G := by
    have r1 := ((R.after E0).consUn (some (V.ref s.heap.objs.size)))
    have r2 := r1.setO 0 (xs := []) (a := s.heap.objs.size) (vs := []) upd_same (R.ex.hh.free hp) (R.gh.free hp) (denL_nil.mpr rfl) (fun j ys hj hy hs => ?_)
    · exact r2.consUn none
    · cases j with
      | zero => exact hj rfl
      | succ j =>
        obtain ⟨a, us, s1, s2, _⟩ := R.ow j ys (by simpa using hy)
        have hs' : σ[j]? = some (some (V.ref s.heap.objs.size)) := by simpa using hs
        rw [hs'] at s1
        cases s1
        rw [hp] at s2
        cases s2
  generalize hX : blk X scope cl H2.objs.size x s H fp = X' at I0
  have eK : X'.K = X.K := by rw [← hX]; rfl
  have eP : X'.prog = X.prog := by rw [← hX]; rfl
  have eW : X'.w = X.w := by rw [← hX]; rfl
  have eA : X'.A = X.A := by rw [← hX]; rfl
  have eE : X'.env = compEnvC scope cl H2.objs.size X.env := by rw [← hX]; rfl
  have eX : X'.xe = fun _ _ => False := by rw [← hX]; rfl
  have eN : X'.N = blkN x X.N := by rw [← hX]; rfl
  have eF : X'.fs = frs X.stack := by rw [← hX]; rfl
  have eCa : X'.calm = true := by rw [← hX]; exact hcalm
  have hT' : TsD X' ifs c := hX ▸ hT _
  have hE' : EvD X' XP0 elt f := hX ▸ hE _
  have fpok : ∀ {H' : Hp}, (∀ b ∈ fp, H' b = none) → ∀ b ∈ fp, FpOk X' [] H' b := fun hn b hb => by
    refine ⟨hn b hb, ?_, ?_, .inl (by rw [← hX]; exact hb), ?_, fun p hp => by rw [← hX] at hp; exact nomatch hp⟩
    · rw [← hX]; exact Nat.ne_of_lt (Nat.lt_of_lt_of_le (hfp b hb) hCle)
    · rw [eF]
      intro z
      rcases List.mem_cons.mp (I.stkSub b z) with e | e
      · exact (hf b hb).2.1 e
      · exact (hf b hb).2.2.1 e
    · rw [eE]; exact fun y c' h => (hf b hb).2.2.2.2.1 y c' (B.cl1 y c' h)
  obtain ⟨te, pe, qe⟩ := hE'
  have pg : PG X' (.Name x px) (gName 0) := pg_name (by rw [eN]; exact B.nd) (by rw [eN]; rfl) (by rw [eE]; exact .inl (lookup_relabel_local B.var)) (by rw [eE]; exact .inr (lookup_relabel_local B.var))
  have loop : ∀ s₃ : Shared, s₃ = { s with heap := h₁, toks := s.toks + ([] : List (Str × Value)).length } →
      codeAny (model X.prog X.w) X.A (.compLoop (.ListComp elt [⟨.Name x px, iter, ifs, 0⟩] scope pos) 0 (.ref it) (.ref s.heap.objs.size) (compEnvC scope cl H2.objs.size X.env)) (RR (.ref s.heap.objs.size) H2.objs.size) s₃ := by
    rintro s₃ rfl
    refine compLoop_own (fun n s' => ∃ (k : Nat) (sl : Sl) (o : Option V) (H' G' : Hp) (dn rs : List D), Inv X' [] (o :: some (V.ref s.heap.objs.size) :: σ) H' s' ∧ tn k s'.heap ∧ (∀ b ∈ fp, H' b = none) ∧
      Rep X.K H₀ G₀ (sl :: .own dn :: Γ) (o :: some (V.ref s.heap.objs.size) :: σ) H' G' ∧ Ext H G H' G' ∧ compR c f Γ (ds.drop k) = .ok rs ∧ dn ++ rs = outs ∧ dn.length ≤ k ∧ k ≤ ds.length ∧ n + k = ds.length) ?_ ds.length
      ⟨0, .un, none, _, G, [], outs, I0, T.keep _ _ _ st (fun b hb o e => old b o e), fun b hb => by
        rw [upd_ne (Nat.ne_of_lt (hfp b hb))]; exact (hf b hb).1, R0, E0, hc, rfl, Nat.zero_le _, Nat.zero_le _, rfl⟩
    rintro n s' ⟨k, sl, o, H', G', dn, rs, I', st', fr', R', E', hc', ho, hdn, hkl, hn⟩
    have Yk := Y k H' G' E'.gg E'.gh
    by_cases hk : k < ds.length
    · obtain ⟨d, hd, hdr⟩ := drop_at hk
      obtain ⟨go, yl⟩ := Yk.1 d hd
      rw [hdr] at hc'
      have it1 := T.item X' eP eW eK eCa k [] s' _ H' (fun _ _ => False) I' (fpok fr') st' go
      rw [eA] at it1
      refine wpAny_mono it1 (fun r s1 ⟨u, hr, h4⟩ => ?_) fun _ _ z => z
      subst hr
      refine wpAny_mono h4 (fun _ s5 ⟨xv, H5, I5, r5, y5, st5, fr5⟩ => ?_) fun _ _ z => z
      obtain ⟨G5, E5, d5⟩ := yl xv H5 y5
      have I5' := I5.pinned (fpok fr5) (T.obj _ _ st5)
      have R5 := R'.after E5
      have asg := pg _ s5 _ H5 xv u (fun σ' H' => σ' = some xv :: some (V.ref s.heap.objs.size) :: σ ∧ H' = H5) I5' r5 ⟨rfl, rfl⟩
      rw [eP, eW, eA, eE, eX] at asg
      refine wpAny_mono asg (fun _ s6 ⟨σ6, H6, I6, q6, q6'⟩ => ?_) fun _ _ z => z
      subst q6 q6'
      have R6 : Rep X.K H₀ G₀ (.val d :: .own dn :: Γ) (some xv :: some (V.ref s.heap.objs.size) :: σ) H6 G5 := R5.setV 0 d5
      have R6u : Rep X'.K H₀ G₀ (.val d :: .un :: Γ) (some xv :: some (V.ref s.heap.objs.size) :: σ) H6 G5 := by
        rw [eK]
        refine R6.weak rfl fun i y h => ?_
        match i, h with
        | 0, h => exact .inr h
        | 1, h => cases h; exact .inl rfl
        | i + 2, h => exact .inr h
      unfold compR at hc'
      obtain ⟨kb, ec, hc'⟩ := bind_ok' hc'
      have ec := calm_ok ec
      have tst := hT' _ s6 _ H6 _ _ _ _ _ I6 R6u ec
      rw [eP, eW, eA, eE, eX] at tst
      refine wpAny_mono tst (fun ok s7 ⟨hok, H7, G7, I7, E7⟩ => ?_) fun _ _ z => z
      subst hok
      have R7 := R6.after E7
      have back : ∀ {s8 : Shared} {H8 : Hp} {G8 : Hp} {dn' rs' : List D}, Inv X' (([] : List (Addr × Obj)) ++ pinsAt fp s5.heap) (some xv :: some (V.ref s.heap.objs.size) :: σ) H8 s8 → Rep X.K H₀ G₀ (.val d :: .own dn' :: Γ) (some xv :: some (V.ref s.heap.objs.size) :: σ) H8 G8 → Ext H G H8 G8 →
          compR c f Γ (ds.drop (k + 1)) = .ok rs' → dn' ++ rs' = outs → dn'.length ≤ k + 1 → ∃ m, m < n ∧ ∃ (k : Nat) (sl : Sl) (o : Option V) (H' G' : Hp) (dn rs : List D), Inv X' [] (o :: some (V.ref s.heap.objs.size) :: σ) H' s8 ∧ tn k s8.heap ∧ (∀ b ∈ fp, H' b = none) ∧
            Rep X.K H₀ G₀ (sl :: .own dn :: Γ) (o :: some (V.ref s.heap.objs.size) :: σ) H' G' ∧ Ext H G H' G' ∧ compR c f Γ (ds.drop k) = .ok rs ∧ dn ++ rs = outs ∧ dn.length ≤ k ∧ k ≤ ds.length ∧ m + k = ds.length := fun {s8 H8 G8 dn' rs'} I8 R8 E8 c8 o8 l8 => by
        refine ⟨n - 1, by omega, k + 1, _, _, H8, G8, dn', rs', I8.unpinned, T.keep _ _ _ st5 fun b hb o e => (I8.pin (b, o) (List.mem_append_right _ (List.mem_append_right _ (mem_pinsAt hb e)))).1, fun b hb => ?_, R8, E8, c8, o8, l8, by omega, by omega⟩
        obtain ⟨o, e, _⟩ := T.obj _ _ st5 b hb
        exact (I8.pin (b, o) (List.mem_append_right _ (List.mem_append_right _ (mem_pinsAt hb e)))).2.1
      have E57 : Ext H G H7 G7 := E'.trans (E5.trans E7)
      cases ok with
      | false =>
        rw [if_neg Bool.false_ne_true]
        exact back I7 R7 E57 hc' ho (by omega)
      | true =>
        rw [if_pos rfl]
        obtain ⟨y, ey, hc'⟩ := bind_ok' hc'
        have ey := calm_ok ey
        obtain ⟨r', er, hc'⟩ := bind_ok' hc'
        cases hc'
        have R7u := R6u.after E7
        have ev := pe _ s7 _ H7 (fun v H8 => ∃ G8, Ext H7 G7 H8 G8 ∧ Den X'.K G8 y v) I7 (qe _ _ _ _ _ _ R7u _ (by rw [ey]; exact fun v H8 G8 E8 d8 => ⟨G8, E8, d8⟩))
        rw [eP, eW, eA, eE, eX] at ev
        refine wpAny_mono ev (fun yv s8 ⟨v8, H8, I8, r8, G8, E8, d8⟩ => ?_) fun _ _ z => z
        rw [eK] at d8
        have R8 := R7.after E8
        obtain ⟨a, vs, q1, q2, q3, q4, q5⟩ := R8.ow 1 dn rfl
        cases q1
        have ap := mt_append (X := X') _ s8 _ H8 (.ref s.heap.objs.size) [v8] _ _ (fun v H9 => v = .non ∧ H9 = upd H8 s.heap.objs.size (.lst (vs ++ [v8]))) I8 rfl (.cons r8 .nil) ⟨_, vs, v8, rfl, rfl, q2, by rw [← q5.length]; exact lt24 (by omega), rfl, rfl⟩
        rw [eP, eW, eA, eX] at ap
        refine wpAny_mono ap (fun _ s9 ⟨_, H9, I9, _, _, q9⟩ => ?_) fun _ _ z => z
        subst q9
        refine back I9 (R8.mut (i := 1) rfl rfl (q5.append (.one d8))) ⟨(E57.trans E8).gg, fun b o q => ?_, fun b o q => ?_, (E57.trans E8).fr⟩ er (by rw [List.append_assoc]; exact ho) (by rw [List.length_append, List.length_singleton]; omega)
        · rw [upd_ne (fun z => by rw [z, q4] at q; cases q)]; exact E8.gh b o q
        · rw [upd_ne (fun z => by rw [z, hp] at q; cases q)]; exact (E57.trans E8).hh b o q
    · have z : ds.drop k = [] := List.drop_eq_nil_of_le (by omega)
      rw [z] at hc'
      cases hc'
      rw [List.append_nil] at ho
      subst ho
      have dn1 := T.done X' eP eW eK eCa k [] s' _ H' (fun _ _ => False) I' (fpok fr') st' (Yk.2 (by omega))
      rw [eA] at dn1
      refine wpAny_mono dn1 (fun r s1 ⟨hr, I1⟩ => ?_) fun _ _ z => z
      subst hr
      obtain ⟨a, vs, q1, q2, q3, q4, q5⟩ := R'.ow 1 dn rfl
      cases q1
      obtain ⟨m, hm, _⟩ := I1.loc
      have base := I1.base
      rw [eF] at base
      refine hRR s.heap.objs.size H2.objs.size s1 H' G' vs m ?_ I1.bare ?_ ?_ hCle ?_ ?_ E' hp q2 q4 q5
      · have := I1.os; rw [← hX] at this; exact this
      · rw [← hX] at base; exact base
      · have := I1.hok; rw [eP, eW] at this; exact this
      · have := I1.free; rw [eE] at this; exact this
      · rw [eE] at hm; exact hm
  exact codeAny_compStart_list (loop _ rfl) (T.self _ 0 _ _ _ (T.keep _ _ _ st fun b hb o e => old b o e) (loop _ rfl))
end

section
variable {X : Cx} {scope : Scope} {cl : List (Str × Addr)} {x y : Str} {px py pos spos : Pos} {elt iter : Expr} {ifs : List Expr} {c : Ga → R Bool} {f : Ga → R D} {fl : Ga → R (List D)}
def cpR (fl : Ga → R (List D)) (c : Ga → R Bool) (f : Ga → R D) : Ga → R (List D) := fun Γ => (fl Γ).bind fun ds => if ds.length < 16000000 then compR c f Γ ds else .no
theorem cp_want {Γ : Ga} {ds : List D} {E : Str → Prop} {P : List D → Prop} (h : R.want (if ds.length < 16000000 then compR c f Γ ds else .no) E P) : ∃ outs, ds.length < 16000000 ∧ compR c f Γ ds = .ok outs ∧ P outs := by
  split at h
  · rename_i hl
    cases q : compR c f Γ ds with
    | ok outs => rw [q] at h; exact ⟨outs, hl, rfl, h⟩
    | ex z => exact absurd q (compR_calm c f Γ ds z)
    | no => rw [q] at h; exact h.elim
  · exact h.elim
theorem after_block {pins : List (Addr × Obj)} {σ : L2.St} {H H' : Hp} {s s' : Shared} {fp : List Addr} (I : Inv X pins σ H s) (hf : ∀ b ∈ fp, FpOk X pins H b) (os : s'.os = s.os) (bare : AllBare s'.gens) (un : Un (frs X.stack) fp H H' s.heap s'.heap) (hok : HOk X.prog X.w H' s'.heap) : Inv X pins σ H' s' :=
  I.call' (ch := fp) os un hok bare fun b hb => ⟨(hf b hb).2.2.2.1, (hf b hb).2.1, (hf b hb).2.2.2.2.1, (hf b hb).2.2.2.2.2⟩
theorem turned_C {pins : List (Addr × Obj)} {σ : L2.St} {H H' : Hp} {s s' : Shared} {σ' : L2.St} {C : Addr} {h'' : Heap} (I : Inv X pins σ H s) (I' : Inv X pins σ' H' s') (hC : s.heap.objs.size ≤ C) (hCn : H' C = none) (hsb : Heap.SameBut C s'.heap h'') : Inv X pins σ' H' { s' with heap := h'' } := by
  have q := I.fpOk (H' := H') hC hCn
  exact I'.turned (it := C) (t' := s'.toks) (fun b o hb e => (hsb.2 b hb).trans e) hCn q.2.1 q.2.2.2.1 q.2.2.2.2.1 q.2.2.2.2.2
theorem ow_comp {W : XP} (B : BlkOk X scope cl x) (hcalm : X.calm = true) (hi : ItD X W (.Name x px) iter fl) (hT : ∀ C s H fp, TsD (blk X scope cl C x s H fp) ifs c) (hE : ∀ C s H fp, EvD (blk X scope cl C x s H fp) XP0 elt f)
    (hs : ∀ x, foldedSetIterable iter X.env x = pure x := by intro _; rfl) : OwD X W (.ListComp elt [⟨.Name x px, iter, ifs, 0⟩] scope pos) (cpR fl c f) := by
  obtain ⟨wi, pI, qI⟩ := hi
  refine ⟨fun σ H Q => ∃ (H₀ G₀ : Hp) (Γ : Ga) (G : Hp), Rep X.K H₀ G₀ Γ σ H G ∧ (cpR fl c f Γ).want (exAt W σ H G) fun outs => ∀ p vs H' G', Ext H G H' G' → H p = none → H' p = some (.lst vs) → G' p = none → DenL X.K G' outs vs → Q (.ref p) H', ?_, fun H₀ G₀ Γ σ H G R Q w => ⟨H₀, G₀, Γ, G, R, w⟩⟩
  rintro pins s σ H Q I ⟨H₀, G₀, Γ, G, R, w⟩
  rw [eval_ListComp]
  refine wpAny_comprehension_free (use := none) rfl hs B.clos B.kind B.names ?_
  have h1 := pI pins s σ H (fun J H' => ∃ G' ds outs, Ext H G H' G' ∧ Yields X.K J G' ds ∧ ds.length < 16000000 ∧ compR c f Γ ds = .ok outs ∧ ∀ p vs H' G', Ext H G H' G' → H p = none → H' p = some (.lst vs) → G' p = none → DenL X.K G' outs vs → Q (.ref p) H') I
    (qI _ _ _ _ _ _ R _ (wStep w (fun _ h => h) fun ds w J H' G' E1 y => let ⟨outs, hl, e2, k⟩ := cp_want w; ⟨G', ds, outs, E1, y, hl, e2, k⟩))
  refine thn h1 fun xv s1 h1 => thn h1 fun itv s2 ⟨it, fp, tn, J, H2, e, I2, T, st, hf, G2, ds, outs, E2, y2, hl, e2, k⟩ => ?_
  subst e
  refine comp_core (RR := fun acc C => compPost (model X.prog X.w) X.A X.xe none (EP X pins σ Q) acc C) B hcalm I2 (R.after E2) T st hf y2 (fun C => hT _ _ _ _) (fun C => hE _ _ _ _) e2 hl ?_
  intro Dd C s' H' G' vs m os bare un hok hC hCn hns E' hp h' g' l
  refine ⟨m, hns, fun h'' hsb => ?_⟩
  have I3 := turned_C I2 (after_block I2 hf os bare un hok) hC hCn hsb
  exact ⟨.ref Dd, H', I3, rfl, k Dd vs H' G' (E2.trans E') (E2.hh.free hp) h' g' l⟩
theorem x_setComp {W : XP} (i : Nat) (B : BlkOk X scope cl x) (hcalm : X.calm = true) (hi : ItD X W (.Name x px) iter fl) (hT : ∀ C s H fp, TsD (blk X scope cl C x s H fp) ifs c) (hE : ∀ C s H fp, EvD (blk X scope cl C x s H fp) XP0 elt f)
    (hN : X.N.Nodup) (hy : X.N[i]? = some y := by rfl) (hx : Loc X.env.scope y := by first | exact Or.inl rfl | exact Or.inr rfl)
    (hsw : swapsWith (.ListComp elt [⟨.Name x px, iter, ifs, 0⟩] scope pos) (some (.Name y py)) spos.line X.env = pure true := by rfl)
    (hf' : X.fn y = true ∨ X.env.scope.names.lookup y = some .local := by first | exact .inl rfl | exact .inr rfl | assumption)
    (hs : ∀ x, foldedSetIterable iter X.env x = pure x := by intro _; rfl) : ExD X W (.Assign [.Name y py] (.ListComp elt [⟨.Name x px, iter, ifs, 0⟩] scope pos) spos) (sSetO i (cpR fl c f)) := by
  obtain ⟨wi, pI, qI⟩ := hi
  refine ⟨fun DD σ H => ∃ (H₀ G₀ : Hp) (Γ : Ga) (G : Hp), Rep X.K H₀ G₀ Γ σ H G ∧ (cpR fl c f Γ).want (exAt W σ H G) fun outs => ∀ p vs H' G', Ext H G H' G' → H p = none → H' p = some (.lst vs) → G' p = none → DenL X.K G' outs vs → DD.nx (σ.set i (some (.ref p))) H', ?_, ?_⟩
  · rintro pins s σ H D I ⟨H₀, G₀, Γ, G, R, w⟩
    rw [exec_Assign_Name_used _ _ _ _ hsw]
    refine wpAny_bind (wpAny_standAt (wpAny_bind ?_))
    show wpAny _ X.A (do let _ ← comprehension (.ListComp elt [⟨.Name x px, iter, ifs, 0⟩] scope pos) scope X.env _ (newList []) false (eval iter X.env) (some (assign (.Name y py) X.env))) _ _ s
    refine wpAny_bind (wpAny_mono (wpAny_comprehension_free (use := some (assign (.Name y py) X.env)) (Q := fun _ s' => SP X pins D .next s') rfl hs B.clos B.kind B.names ?_) (fun _ s' hq => wpAny_pure (wpAny_pure hq)) fun _ _ e => e)
    have h1 := pI pins s σ H (fun J H' => ∃ G' ds outs, Ext H G H' G' ∧ Yields X.K J G' ds ∧ ds.length < 16000000 ∧ compR c f Γ ds = .ok outs ∧ ∀ p vs H' G', Ext H G H' G' → H p = none → H' p = some (.lst vs) → G' p = none → DenL X.K G' outs vs → D.nx (σ.set i (some (.ref p))) H') I
      (qI _ _ _ _ _ _ R _ (wStep w (fun _ h => h) fun ds w J H' G' E1 y => let ⟨outs, hl, e2, k⟩ := cp_want w; ⟨G', ds, outs, E1, y, hl, e2, k⟩))
    refine thn h1 fun xv s1 h1 => thn h1 fun itv s2 ⟨it, fp, tn, J, H2, e, I2, T, st, hf, G2, ds, outs, E2, y2, hl, e2, k⟩ => ?_
    subst e
    refine comp_core (RR := fun acc C => compPost (model X.prog X.w) X.A X.xe (some (assign (.Name y py) X.env)) (fun _ s' => SP X pins D .next s') acc C) B hcalm I2 (R.after E2) T st hf y2 (fun C => hT _ _ _ _) (fun C => hE _ _ _ _) e2 hl ?_
    intro Dd C s' H' G' vs m os bare un hok hC hCn hns E' hp h' g' l
    have I3 := after_block I2 hf os bare un hok
    show wpAny _ X.A (assign (.Name y py) X.env (.ref Dd)) _ _ _
    refine wpAny_assign_Name (store_ok2 (v := .ref Dd) I3 hN hy hx rfl (fun s4 I4 ⟨a, hsa, ha⟩ => ?_) hf')
    have nC : C ≠ a := fun z => by
      subst z
      rcases ha with z | z
      · exact absurd (Nat.lt_of_lt_of_le I2.lt (by rw [← z]; exact hC)) (Nat.lt_irrefl _)
      · obtain ⟨v, q⟩ := I2.cell y _ z
        exact absurd (Nat.lt_of_lt_of_le q.lt hC) (Nat.lt_irrefl _)
    refine ⟨m, hns.sameBut hsa nC, fun h'' hsb => ?_⟩
    exact ⟨_, H', turned_C I2 I4 hC hCn hsb, k Dd vs H' G' (E2.trans E') (E2.hh.free hp) h' g' l⟩
  · intro H₀ G₀ Γ σ H G R D w
    refine ⟨H₀, G₀, Γ, G, R, wS R w fun outs w p vs H' G' E1 hp h' g' l => ?_⟩
    exact w _ H' G' ((R.after E1).setO i h' (R.ex.hh.free hp) g' l fun j ys hj hy => own_new R hp j ys hy)
end
end Wy

/-! t[a:b] of a tuple, the whole too -/
namespace HT
open PySem PySem.Spec PyProof.Rows L2
section
variable {prog : Program} {w : World} {A : Around} {E : Value → Shared → Prop} {s : Shared}
theorem getItem_tuple_whole {t sl : Addr} {items : Array Value} {vl vu : Value} {lo hi : Option Int} {Q : Value → Shared → Prop} (ht : IsTup s.heap t items) (hs : s.heap.IsSliceOf sl vl vu .none) (pl : IsPart vl lo) (pu : IsPart vu hi)
    (hw : sIx items.size 0 lo = 0 ∧ sIx items.size items.size hi = items.size) (h : Q (.ref t) s) : wpAny (model prog w) A (getItem (.ref t) (.ref sl)) Q E s := by
  obtain ⟨os, hos, hcs, hds⟩ := id hs
  have hTs : s.TypeIs (.ref sl) "slice" := ⟨os, hos, hcs⟩
  unfold getItem
  try with_reducible refine wpAny_holding ?_
  first | refine wpAny_bind (wpAny_pure ?_) | skip
  refine wpAny_bind (wpAny_sequenceKey ht.typeIs (by decide) ?_)
  refine wpAny_bind (wpAny_callSpecial?_slot (name := Str.ofString "__getitem__") ht.typeIs PyProof.Rows.slot_tuple_getitem
    (wpAny_call_entry PyProof.Rows.slot_tuple_getitem ht.typeIs entry_tuple_getitem ?_ (args_tuple_getitem _ _)))
  show wpAny _ _ (Builtin.Tuple.tupleItemsOf (.ref t) >>= _) _ _ s
  refine wpAny_bind (tupleItemsOf_ ht ?_)
  refine wpAny_bind (wpAny_typeOf hTs ?_)
  rw [if_pos (by decide)]
  refine wpAny_bind (sliceApplied_gen hs pl pu ?_)
  have hno : (((sIx items.size 0 lo : Nat) : Int) == 0 && (1 : Int) == 1 && (sIx items.size items.size hi - sIx items.size 0 lo) == items.size) = true := by
    rw [hw.1, hw.2]
    simp
  show wpAny _ _ (if (((sIx items.size 0 lo : Nat) : Int) == 0 && (1 : Int) == 1 && (sIx items.size items.size hi - sIx items.size 0 lo) == items.size) = true then _ else _) _ _ s
  rw [if_pos hno]
  unfold Builtin.Tuple.tupleIsExact
  refine wpAny_bind (wpAny_bind (wpAny_typeOf ht.typeIs (wpAny_pure ?_)))
  rw [if_pos (by decide)]
  exact wpAny_bind (wpAny_rule (wpAny_bind (wpAny_pure (wpAny_pure ⟨_, rfl, wpAny_pure h⟩))))
end
end HT
namespace Wy
open PySem PySem.Spec PyProof.Rows L2
section
variable {X : Cx}
def rSlTA (K : PySem.W.Frag) : V → Option Int → Option Int → Hp → VK → Prop := fun x lo hi H Q => ∃ a xs, x = .ref a ∧ SqT K H a xs ∧
  ((HT.sIx xs.length 0 lo = 0 ∧ HT.sIx xs.length xs.length hi = xs.length) → Q (.ref a) H) ∧ (¬ (HT.sIx xs.length 0 lo = 0 ∧ HT.sIx xs.length xs.length hi = xs.length) → ∀ p, H p = none → Q (.ref p) (upd H p (.tup (cutV xs lo hi))))
theorem sl_tupA : SlR X (rSlTA X.K) := by
  intro pins s σ H x v vl vu lo hi sl Q I rx hs pl pu h
  obtain ⟨a, xs, rfl, hx, q1, q2⟩ := h
  by_cases hw : HT.sIx xs.length 0 lo = 0 ∧ HT.sIx xs.length xs.length hi = xs.length
  · cases rx
    obtain ⟨its, r, ht, hz⟩ := I.tuple hx
    have hlen : its.toArray.size = xs.length := by rw [List.size_toArray]; exact r.length.symm
    refine ⟨"tuple", _, PyProof.Rows.slot_tuple_getitem.lookup, ht.typeIs, ?_⟩
    exact HT.getItem_tuple_whole ht hs pl pu (by rw [hlen]; exact hw) ⟨.ref a, H, I, rfl, q1 hw⟩
  · exact sl_tup pins s σ H _ v vl vu lo hi sl Q I rx hs pl pu ⟨a, xs, rfl, hx, hw, q2 hw⟩
end
end Wy

/-! operations over plain data -/
namespace Wy
open PySem PySem.Spec PyProof.Rows L2

def int2 (g : Int → Int → Option D) : D → D → Option D
  | .int i, .int j => g i j
  | _, _ => none
theorem int2_some {g : Int → Int → Option D} {d1 d2 d : D} (h : int2 g d1 d2 = some d) : ∃ i j, d1 = .int i ∧ d2 = .int j ∧ g i j = some d := by
  cases d1 <;> cases d2 <;> first | exact ⟨_, _, rfl, rfl, h⟩ | cases h
def mulI (i j : Int) : Option D := if (-(2 ^ 64) < i ∧ i < 2 ^ 64) ∨ (-(2 ^ 64) < j ∧ j < 2 ^ 64) then some (.int (i * j)) else none
def modI (i j : Int) : Option D := if 0 < j then some (.int (i % j)) else none
def divI (i j : Int) : Option D := if 0 < j ∧ j < 1073741824 then some (.int (i / j)) else none
section
variable {X : Cx}
theorem opd_add : OpD X (binaryOp .Add) (int2 fun i j => some (.int (i + j))) := ⟨_, op_add, fun H G x y d1 d2 d g h1 h2 e Q q => by
  obtain ⟨i, j, rfl, rfl, e⟩ := int2_some e
  cases e
  exact ⟨i, j, den_intE h1, den_intE h2, q _ H G (.refl g) den_int⟩⟩
theorem opd_sub : OpD X (binaryOp .Sub) (int2 fun i j => some (.int (i - j))) := ⟨_, op_sub, fun H G x y d1 d2 d g h1 h2 e Q q => by
  obtain ⟨i, j, rfl, rfl, e⟩ := int2_some e
  cases e
  exact ⟨i, j, den_intE h1, den_intE h2, q _ H G (.refl g) den_int⟩⟩
theorem opd_mul : OpD X (binaryOp .Mult) (int2 mulI) := ⟨_, op_mul, fun H G x y d1 d2 d g h1 h2 e Q q => by
  obtain ⟨i, j, rfl, rfl, e2⟩ := int2_some e
  clear e
  unfold mulI at e2
  split at e2
  · rename_i hc
    cases e2
    exact ⟨i, j, den_intE h1, den_intE h2, hc, q _ H G (.refl g) den_int⟩
  · cases e2⟩
theorem opd_mod : OpD X (binaryOp .Mod) (int2 modI) := ⟨_, op_mod, fun H G x y d1 d2 d g h1 h2 e Q q => by
  obtain ⟨i, j, rfl, rfl, e2⟩ := int2_some e
  clear e
  unfold modI at e2
  split at e2
  · rename_i hc
    cases e2
    exact ⟨i, j, den_intE h1, den_intE h2, hc, q _ H G (.refl g) den_int⟩
  · cases e2⟩
theorem opd_div : OpD X (binaryOp .FloorDiv) (int2 divI) := ⟨_, op_fdiv, fun H G x y d1 d2 d g h1 h2 e Q q => by
  obtain ⟨i, j, rfl, rfl, e2⟩ := int2_some e
  clear e
  unfold divI at e2
  split at e2
  · rename_i hc
    cases e2
    exact ⟨i, j, den_intE h1, den_intE h2, hc, q _ H G (.refl g) den_int⟩
  · cases e2⟩
theorem opd_le : OpD X (compareOp .LtE) (int2 fun i j => some (.bl (decide (i ≤ j)))) := ⟨_, op_le, fun H G x y d1 d2 d g h1 h2 e Q q => by
  obtain ⟨i, j, rfl, rfl, e⟩ := int2_some e
  cases e
  exact ⟨i, j, den_intE h1, den_intE h2, q _ H G (.refl g) den_bl⟩⟩
theorem opd_gt : OpD X (compareOp .Gt) (int2 fun i j => some (.bl (decide (j < i)))) := ⟨_, op_gt, fun H G x y d1 d2 d g h1 h2 e Q q => by
  obtain ⟨i, j, rfl, rfl, e⟩ := int2_some e
  cases e
  exact ⟨i, j, den_intE h1, den_intE h2, q _ H G (.refl g) den_bl⟩⟩
theorem opd_ge : OpD X (compareOp .GtE) (int2 fun i j => some (.bl (decide (j ≤ i)))) := ⟨_, op_ge, fun H G x y d1 d2 d g h1 h2 e Q q => by
  obtain ⟨i, j, rfl, rfl, e⟩ := int2_some e
  cases e
  exact ⟨i, j, den_intE h1, den_intE h2, q _ H G (.refl g) den_bl⟩⟩
def ltD : D → D → Option D
  | .int i, .int j => some (.bl (decide (i < j)))
  | .str x, .str y => some (.bl (decide (x.cps.toList < y.cps.toList)))
  | _, _ => none
theorem opd_lt : OpD X (compareOp .Lt) ltD := ⟨_, op_lt.or op_lt_str, fun H G x y d1 d2 d g h1 h2 e Q q => by
  cases d1 <;> cases d2 <;> first | cases e | skip
  · exact .inl ⟨_, _, den_intE h1, den_intE h2, q _ H G (.refl g) den_bl⟩
  · exact .inr ⟨_, _, den_strE h1, den_strE h2, q _ H G (.refl g) den_bl⟩⟩
/-! ### flat data -/
def flatD : D → Bool
  | .tup _ => false
  | .lst _ => false
  | _ => true
def toV : D → V
  | .non => .non
  | .bl b => .bl b
  | .int i => .int i
  | .str x => .str x
  | _ => .non
theorem flat_den {K : PySem.W.Frag} {G : Hp} {d : D} {v : V} (h : Den K G d v) (f : flatD d = true) : v = toV d ∧ flatV v = true := by
  cases d with
  | non => rw [den_nonE h]; exact ⟨rfl, rfl⟩
  | bl b => rw [den_blE h]; exact ⟨rfl, rfl⟩
  | int b => rw [den_intE h]; exact ⟨rfl, rfl⟩
  | str b => rw [den_strE h]; exact ⟨rfl, rfl⟩
  | tup _ => cases f
  | lst _ => cases f
theorem flat_denL {K : PySem.W.Frag} {G : Hp} : ∀ {ds : List D} {vs : List V}, DenL K G ds vs → ds.all flatD = true → vs = ds.map toV ∧ vs.all flatV = true
  | [], vs, h, _ => by rw [denL_nil.mp h]; exact ⟨rfl, rfl⟩
  | d :: ds, vs, h, f => by
    obtain ⟨v, r, rfl, h1, h2⟩ := denL_cons.mp h
    rw [List.all_cons, Bool.and_eq_true] at f
    obtain ⟨e1, e2⟩ := flat_den h1 f.1
    obtain ⟨e3, e4⟩ := flat_denL h2 f.2
    subst e1 e3
    exact ⟨rfl, by rw [List.all_cons, e2, e4]; rfl⟩
/-- == of flat data, None and a truth beside a number left out -/
def eqS (x y : D) : Option D := if (flatD x && flatD y && scal (toV x) (toV y)) = true then some (.bl (decide (toV x = toV y))) else none
theorem opd_eqS : OpD X (compareOp .Eq) eqS := ⟨_, op_eq, fun H G x y d1 d2 d g h1 h2 e Q q => by
  unfold eqS at e
  split at e
  · rename_i hc
    cases e
    rw [Bool.and_eq_true, Bool.and_eq_true] at hc
    obtain ⟨e1, _⟩ := flat_den h1 hc.1.1
    obtain ⟨e2, _⟩ := flat_den h2 hc.1.2
    subst e1 e2
    exact ⟨hc.2, q _ H G (.refl g) den_bl⟩
  · cases e⟩
theorem opd_neS : OpD X (compareOp .NotEq) (fun x y => (eqS x y).bind fun d => match d with | .bl b => some (.bl (!b)) | _ => none) := ⟨_, op_ne, fun H G x y d1 d2 d g h1 h2 e Q q => by
  obtain ⟨d', e, e'⟩ := Option.bind_eq_some_iff.mp e
  unfold eqS at e
  split at e
  · rename_i hc
    cases e
    cases e'
    rw [Bool.and_eq_true, Bool.and_eq_true] at hc
    obtain ⟨e1, _⟩ := flat_den h1 hc.1.1
    obtain ⟨e2, _⟩ := flat_den h2 hc.1.2
    subst e1 e2
    exact ⟨hc.2, q _ H G (.refl g) den_bl⟩
  · cases e⟩
/-- in -/
def inStr (x y : Str) : Bool := !(Builtin.Str.occurrences y x 0 y.length 1).isEmpty
def inD : D → D → Option D
  | .str x, .str y => some (.bl (inStr x y))
  | x, .tup ys => if (flatD x && ys.all flatD) = true then some (.bl (inV (toV x) (ys.map toV))) else none
  | x, .lst ys => if (flatD x && ys.all flatD) = true then some (.bl (inV (toV x) (ys.map toV))) else none
  | _, _ => none
theorem opd_in : OpD X (compareOp .In) inD := ⟨_, op_in_seq.or op_in_str, fun H G x y d1 d2 d g h1 h2 e Q q => by
  unfold inD at e
  split at e
  · cases e
    exact .inr ⟨_, _, den_strE h1, den_strE h2, q _ H G (.refl g) den_bl⟩
  · split at e
    · rename_i hc
      cases e
      rw [Bool.and_eq_true] at hc
      obtain ⟨a, vs, rfl, s, l⟩ := den_tup.mp h2
      obtain ⟨e1, f1⟩ := flat_den h1 hc.1
      obtain ⟨e2, f2⟩ := flat_denL l hc.2
      subst e1 e2
      exact .inl ⟨a, _, rfl, .inr (Same.seqT g s), f1, f2, q _ H G (.refl g) den_bl⟩
    · cases e
  · split at e
    · rename_i hc
      cases e
      rw [Bool.and_eq_true] at hc
      obtain ⟨a, vs, rfl, s, l⟩ := den_lst.mp h2
      obtain ⟨e1, f1⟩ := flat_den h1 hc.1
      obtain ⟨e2, f2⟩ := flat_denL l hc.2
      subst e1 e2
      exact .inl ⟨a, _, rfl, .inl (g.seq s), f1, f2, q _ H G (.refl g) den_bl⟩
    · cases e
  · cases e⟩
/-! ### is True, is False, is None -/
theorem is_bl_val {x : V} {v : Value} {b : Bool} (r : RelV x v) : plainIs v (.bool b) = true ∧ (v == Value.bool b) = decide (x = .bl b) := by
  cases x with
  | non => obtain rfl : v = Value.none := r; exact ⟨rfl, by rw [decide_eq_false (by intro z; cases z)]; rfl⟩
  | bl c =>
    obtain rfl : v = Value.bool c := r
    refine ⟨rfl, ?_⟩
    cases b <;> cases c <;> rfl
  | int i => obtain ⟨t, rfl⟩ := r; exact ⟨rfl, by rw [decide_eq_false (by intro z; cases z)]; rfl⟩
  | str i => obtain ⟨t, rfl⟩ := r; exact ⟨rfl, by rw [decide_eq_false (by intro z; cases z)]; rfl⟩
  | byt i => obtain ⟨t, rfl⟩ := r; exact ⟨rfl, by rw [decide_eq_false (by intro z; cases z)]; rfl⟩
  | flt i => obtain ⟨t, rfl⟩ := r; exact ⟨rfl, by rw [decide_eq_false (by intro z; cases z)]; rfl⟩
  | ref a => obtain rfl : v = Value.ref a := r; exact ⟨rfl, by rw [decide_eq_false (by intro z; cases z)]; rfl⟩
  | ty n => obtain rfl : v = Value.type n := r; exact ⟨rfl, by rw [decide_eq_false (by intro z; cases z)]; rfl⟩
theorem op_is_bl : OpR X (compareOp .Is) (fun x y H Q => ∃ b, y = .bl b ∧ Q (.bl (decide (x = .bl b))) H) := by
  rintro pins s σ H x y v u Q I rx ry ⟨b, rfl, q⟩
  obtain rfl : u = Value.bool b := ry
  obtain ⟨p, e⟩ := is_bl_val (b := b) rx
  exact wpAny_is_plain p ⟨_, H, I, by rw [e]; rfl, q⟩
theorem op_isnot_bl : OpR X (compareOp .IsNot) (fun x y H Q => ∃ b, y = .bl b ∧ Q (.bl (!decide (x = .bl b))) H) := by
  rintro pins s σ H x y v u Q I rx ry ⟨b, rfl, q⟩
  obtain rfl : u = Value.bool b := ry
  obtain ⟨p, e⟩ := is_bl_val (b := b) rx
  exact wpAny_isNot_plain p ⟨_, H, I, by rw [e]; rfl, q⟩
def isB (x : D) (b : Bool) : Bool := match x with
  | .bl c => c == b
  | _ => false
theorem isB_den {K : PySem.W.Frag} {G : Hp} {d : D} {v : V} {b : Bool} (h : Den K G d v) : decide (v = .bl b) = isB d b := by
  cases d with
  | non => rw [den_nonE h]; rfl
  | bl c => rw [den_blE h]; cases b <;> cases c <;> rfl
  | int c => rw [den_intE h]; rfl
  | str c => rw [den_strE h]; rfl
  | tup c => obtain ⟨a, vs, rfl, _⟩ := den_tup.mp h; rfl
  | lst c => obtain ⟨a, vs, rfl, _⟩ := den_lst.mp h; rfl
def isD (x : D) : D → Option D
  | .bl b => some (.bl (isB x b))
  | _ => none
def isnotD (x : D) : D → Option D
  | .bl b => some (.bl (!isB x b))
  | _ => none
theorem opd_is : OpD X (compareOp .Is) isD := ⟨_, op_is_bl, fun H G x y d1 d2 d g h1 h2 e Q q => by
  cases d2 <;> first | cases e | skip
  exact ⟨_, den_blE h2, by rw [isB_den h1]; exact q _ H G (.refl g) den_bl⟩⟩
theorem opd_isnot : OpD X (compareOp .IsNot) isnotD := ⟨_, op_isnot_bl, fun H G x y d1 d2 d g h1 h2 e Q q => by
  cases d2 <;> first | cases e | skip
  exact ⟨_, den_blE h2, by rw [isB_den h1]; exact q _ H G (.refl g) den_bl⟩⟩
/-! ### len -/
def lenD : List D → Option D
  | [.str x] => if x.length ≤ 10000 then some (.int x.length) else none
  | [.tup ds] => some (.int ds.length)
  | [.lst ds] => some (.int ds.length)
  | _ => none
theorem calld_len : CallD X (.builtin "len") lenD := ⟨_, call_len, fun H G vs ds d g l e Q q => by
  unfold lenD at e
  split at e
  · split at e
    · rename_i hx
      cases e
      obtain ⟨v, r, rfl, h1, h2⟩ := denL_cons.mp l
      cases denL_nil.mp h2
      cases den_strE h1
      exact ⟨_, _, rfl, ⟨big24 hx, rfl⟩, q _ H G (.refl g) den_int⟩
    · cases e
  · cases e
    obtain ⟨v, r, rfl, h1, h2⟩ := denL_cons.mp l
    cases denL_nil.mp h2
    obtain ⟨a, vs, rfl, s, l⟩ := den_tup.mp h1
    exact ⟨_, _, rfl, .inr ⟨vs, Same.seqT g s, rfl⟩, q _ H G (.refl g) (by rw [l.length]; exact den_int)⟩
  · cases e
    obtain ⟨v, r, rfl, h1, h2⟩ := denL_cons.mp l
    cases denL_nil.mp h2
    obtain ⟨a, vs, rfl, s, l⟩ := den_lst.mp h1
    exact ⟨_, _, rfl, .inl ⟨vs, g.seq s, rfl⟩, q _ H G (.refl g) (by rw [l.length]; exact den_int)⟩
  · cases e⟩
theorem calls_len : CallS X (.builtin "len") (fun p => some (.int p.2.length)) := ⟨_, call_len, fun H G b ds d a vs g s l e Q q => by
  cases e
  refine ⟨_, _, rfl, ?_, q _ H G (.refl g) (by rw [l.length]; exact den_int)⟩
  rcases s.or g with z | z
  · exact .inl ⟨vs, z, rfl⟩
  · exact .inr ⟨vs, z, rfl⟩⟩
/-! ### list(x), tuple(x) -/
theorem calls_tuple : CallS X (.type "tuple") (fun p => some (.tup p.2)) := ⟨_, call_tuple_of, fun H G b ds d a vs g s l e Q q => by
  cases e
  cases b with
  | true => exact ⟨a, vs, rfl, .inr ⟨Same.seqT g s, q _ H G (.refl g) (den_tup.mpr ⟨a, vs, rfl, s, l⟩)⟩⟩
  | false =>
    refine ⟨a, vs, rfl, .inl ⟨s, fun p hp => ?_⟩⟩
    have A := Ext.alloc (o := .tup vs) g hp
    exact q _ _ _ A (den_tup.mpr ⟨p, vs, rfl, SqT.of upd_same, l.up A.gg⟩)⟩
variable {W : XP}
def oList (fs : Ga → R (Bool × List D)) : Ga → R (List D) := fun Γ => (fs Γ).bind fun p => .ok p.2
theorem ow_list {e : Expr} {fs : Ga → R (Bool × List D)} {pos p : Pos} (hg : Gl X "list") (hm : X.mg "list" = none) (hv : bootBuiltins "list" = some (.type "list")) (ha : SqD X W e fs) (he : starEach [e] X.env = [(false, eval e X.env)] := by rfl) :
    OwD X W (.Call (.Name "list" p) [e] [] pos) (oList fs) := by
  obtain ⟨t, pt, q⟩ := ha
  refine ⟨_, pe_callTy call_list_of hg hm hv (pa_cons pt pa_nil he) (by decide) (by decide) he rfl, fun H₀ G₀ Γ σ H G R Q w => ?_⟩
  refine q _ _ _ _ _ _ R _ (wStep w (fun _ h => h) fun ⟨b, ds⟩ k a vs H1 G1 E1 s1 d1 => ?_)
  exact ⟨a, vs, rfl, s1.or E1.gh, fun p hp => k p vs _ G1 (E1.trans (.own E1.gh hp _)) (E1.hh.free hp) upd_same (E1.gh.free hp) d1⟩
/-! ### subscripts -/
theorem atI_den {K : PySem.W.Frag} {G : Hp} {ds : List D} {vs : List V} {i : Int} {d : D} (l : DenL K G ds vs) (h : atI ds i = some d) : ∃ v, atI vs i = some v ∧ Den K G d v := by
  unfold atI at h ⊢
  rw [← l.length]
  obtain ⟨j, e1, e2⟩ := Option.bind_eq_some_iff.mp h
  obtain ⟨v, e3, e4⟩ := l.get e2
  exact ⟨v, by rw [e1]; exact e3, e4⟩
def ixD : D → D → Option D
  | .tup ds, .int i => atI ds i
  | .lst ds, .int i => atI ds i
  | .str z, .int i => if z.length ≤ 10000 then (atI z.cps.toList i).bind fun c => some (.str ⟨#[c]⟩) else none
  | _, _ => none
variable {a b e : Expr} {fa fb f : Ga → R D} {fs : Ga → R (Bool × List D)} {pos : Pos}
theorem ev_ix (ha : EvD X W a fa) (hb : EvD X W b fb) (hs : PlainIx b := by intro _ _; rfl) : EvD X W (.Subscript a b pos) (e2 ixD fa fb) := by
  obtain ⟨ta, pa, qa⟩ := ha
  obtain ⟨tb, pb, qb⟩ := hb
  refine ⟨_, pe_ix ix_seq pa pb hs, fun H₀ G₀ Γ σ H G R Q w => ?_⟩
  refine qa _ _ _ _ _ _ R _ (wStep w (fun _ h => h) fun x w v H1 G1 E1 d1 => ?_)
  refine qb _ _ _ _ _ _ (R.after E1) _ (wStep w (fun _ h => h.up E1) fun y w u H2 G2 E2 d2 => ?_)
  obtain ⟨d, e', k⟩ := wOfO w
  unfold ixD at e'
  split at e'
  · obtain ⟨p, vs, rfl, s, l⟩ := den_tup.mp (d1.up E2.gg)
    obtain ⟨v, h1, h2⟩ := atI_den l e'
    exact .inr (.inl ⟨p, vs, _, v, rfl, den_intE d2, Same.seqT E2.gh s, h1, k _ _ _ (E1.trans E2) h2⟩)
  · obtain ⟨p, vs, rfl, s, l⟩ := den_lst.mp (d1.up E2.gg)
    obtain ⟨v, h1, h2⟩ := atI_den l e'
    exact .inl ⟨p, vs, _, v, rfl, den_intE d2, E2.gh.seq s, h1, k _ _ _ (E1.trans E2) h2⟩
  · split at e'
    · rename_i hz
      obtain ⟨c, ec, e'⟩ := Option.bind_eq_some_iff.mp e'
      cases e'
      exact .inr (.inr ⟨_, _, c, den_strE d1, den_intE d2, big24 hz, ec, k _ _ _ (E1.trans E2) den_str⟩)
    · cases e'
  · cases e'
def ixS : Bool × List D → D → Option D := fun p y => match y with
  | .int i => atI p.2 i
  | _ => none
def eIxS (fs : Ga → R (Bool × List D)) (fb : Ga → R D) : Ga → R D := fun Γ => (fs Γ).bind fun p => (fb Γ).bind fun y => .ofO (ixS p y)
theorem ev_ixS (ha : SqD X W a fs) (hb : EvD X W b fb) (hs : PlainIx b := by intro _ _; rfl) : EvD X W (.Subscript a b pos) (eIxS fs fb) := by
  obtain ⟨ta, pa, qa⟩ := ha
  obtain ⟨tb, pb, qb⟩ := hb
  refine ⟨_, pe_ix ix_seq pa pb hs, fun H₀ G₀ Γ σ H G R Q w => ?_⟩
  refine qa _ _ _ _ _ _ R _ (wStep w (fun _ h => h) fun ⟨b, ds⟩ w p vs H1 G1 E1 s1 l1 => ?_)
  refine qb _ _ _ _ _ _ (R.after E1) _ (wStep w (fun _ h => h.up E1) fun y w u H2 G2 E2 d2 => ?_)
  obtain ⟨d, e', k⟩ := wOfO w
  unfold ixS at e'
  split at e'
  · obtain ⟨v, h1, h2⟩ := atI_den (l1.up E2.gg) e'
    rcases (s1.up E2).or E2.gh with z | z
    · exact .inl ⟨p, vs, _, v, rfl, den_intE d2, z, h1, k _ _ _ (E1.trans E2) h2⟩
    · exact .inr (.inl ⟨p, vs, _, v, rfl, den_intE d2, z, h1, k _ _ _ (E1.trans E2) h2⟩)
  · cases e'
/-! ### slices -/
def OvD (X : Cx) (W : XP) (o : Option Expr) (g : Ga → R (Option Int)) : Prop := ∃ t, PO X o t ∧ ∀ (H₀ G₀ : Hp) (Γ : Ga) (σ : L2.St) (H G : Hp), Rep X.K H₀ G₀ Γ σ H G → ∀ Q : Option Int → Hp → Prop, (g Γ).want (exAt W σ H G) (fun b => ∀ H' G', Ext H G H' G' → Q b H') → t σ H Q
def oN : Ga → R (Option Int) := fun _ => .ok none
theorem ov_none : OvD X W none oN := ⟨_, po_none, fun _ _ _ _ H G R Q w => w H G (.refl R.gh)⟩
def asI : D → Option Int
  | .int i => some i
  | _ => none
def oI (f : Ga → R D) : Ga → R (Option Int) := fun Γ => (f Γ).bind fun d => (R.ofO (asI d)).bind fun i => .ok (some i)
theorem ov_some (h : EvD X W e f) : OvD X W (some e) (oI f) := by
  obtain ⟨t, p, q⟩ := h
  refine ⟨_, po_some p, fun H₀ G₀ Γ σ H G R Q w => ?_⟩
  refine q _ _ _ _ _ _ R _ (wStep w (fun _ h => h) fun d w v H' G' E1 d1 => ?_)
  obtain ⟨i, e2, k⟩ := wOfOb w
  cases d <;> first | cases e2 | skip
  exact ⟨_, den_intE d1, k _ _ E1⟩
def cut {α : Type} (xs : List α) (lo hi : Option Int) : List α := (xs.drop (HT.sIx xs.length 0 lo)).take (HT.sIx xs.length xs.length hi - HT.sIx xs.length 0 lo)
theorem cut_whole {α : Type} {xs : List α} {lo hi : Option Int} (h : HT.sIx xs.length 0 lo = 0 ∧ HT.sIx xs.length xs.length hi = xs.length) : cut xs lo hi = xs := by
  unfold cut
  rw [h.1, h.2]
  simp
theorem cut_den {K : PySem.W.Frag} {G : Hp} {ds : List D} {vs : List V} (l : DenL K G ds vs) (lo hi : Option Int) : DenL K G (cut ds lo hi) (cutV vs lo hi) := by
  unfold cut cutV
  rw [← l.length]
  exact (l.drop _).take _
variable {lo hi : Option Expr} {gl gh : Ga → R (Option Int)} {p2 : Pos}
/-- t[lo:hi] of a tuple -/
def slD (d : D) (l h : Option Int) : Option D := match d with
  | .tup ds => some (.tup (cut ds l h))
  | _ => none
def eSl (f : Ga → R D) (gl gh : Ga → R (Option Int)) : Ga → R D := fun Γ => (f Γ).bind fun d => (gl Γ).bind fun l => (gh Γ).bind fun h => .ofO (slD d l h)
theorem ev_slT (he : EvD X W e f) (hl : OvD X W lo gl) (hh : OvD X W hi gh) : EvD X W (.Subscript e (.Slice lo hi none p2) pos) (eSl f gl gh) := by
  obtain ⟨t, p, q⟩ := he
  obtain ⟨t1, p1, q1⟩ := hl
  obtain ⟨t2, p2, q2⟩ := hh
  refine ⟨_, pe_slice sl_tupA p p1 p2, fun H₀ G₀ Γ σ H G R Q w => ?_⟩
  refine q _ _ _ _ _ _ R _ (wStep w (fun _ h => h) fun x w v H1 G1 E1 d1 => ?_)
  refine q1 _ _ _ _ _ _ (R.after E1) _ (wStep w (fun _ h => h.up E1) fun l w H2 G2 E2 => ?_)
  refine q2 _ _ _ _ _ _ ((R.after E1).after E2) _ (wStep w (fun _ h => h.up (E1.trans E2)) fun h w H3 G3 E3 => ?_)
  obtain ⟨d, e', k⟩ := wOfO w
  cases x <;> first | cases e' | skip
  have d3 := d1.up (E2.gg.trans E3.gg)
  obtain ⟨a, vs, rfl, s, ls⟩ := den_tup.mp d3
  refine ⟨a, vs, rfl, Same.seqT E3.gh s, fun hw => ?_, fun hw p hp => ?_⟩
  · rw [← ls.length] at hw
    exact k _ _ _ (E1.trans (E2.trans E3)) (by rw [cut_whole hw]; exact d3)
  · have A := Ext.alloc (o := .tup (cutV vs l h)) E3.gh hp
    exact k _ _ _ (E1.trans (E2.trans (E3.trans A))) (den_tup.mpr ⟨p, _, rfl, SqT.of upd_same, (cut_den ls l h).up A.gg⟩)
/-- xs[lo:hi] of a list -/
def cutS (p : Bool × List D) (l h : Option Int) : Option (List D) := match p with
  | (false, ds) => some (cut ds l h)
  | _ => none
def oSl (fs : Ga → R (Bool × List D)) (gl gh : Ga → R (Option Int)) : Ga → R (List D) := fun Γ => (fs Γ).bind fun d => (gl Γ).bind fun l => (gh Γ).bind fun h => .ofO (cutS d l h)
theorem ow_slL (he : SqD X W e fs) (hl : OvD X W lo gl) (hh : OvD X W hi gh) : OwD X W (.Subscript e (.Slice lo hi none p2) pos) (oSl fs gl gh) := by
  obtain ⟨t, p, q⟩ := he
  obtain ⟨t1, p1, q1⟩ := hl
  obtain ⟨t2, p2, q2⟩ := hh
  refine ⟨_, pe_slice sl_list p p1 p2, fun H₀ G₀ Γ σ H G R Q w => ?_⟩
  refine q _ _ _ _ _ _ R _ (wStep w (fun _ h => h) fun ⟨b, ds⟩ w a vs H1 G1 E1 s1 d1 => ?_)
  refine q1 _ _ _ _ _ _ (R.after E1) _ (wStep w (fun _ h => h.up E1) fun l w H2 G2 E2 => ?_)
  refine q2 _ _ _ _ _ _ ((R.after E1).after E2) _ (wStep w (fun _ h => h.up (E1.trans E2)) fun h w H3 G3 E3 => ?_)
  obtain ⟨d, e', k⟩ := wOfO w
  cases b with
  | true => cases e'
  | false =>
    cases e'
    have E13 := E1.trans (E2.trans E3)
    refine ⟨a, vs, rfl, (s1.up E2).up E3, fun p hp => ?_⟩
    exact k p _ _ G3 (E13.trans (.own E13.gh hp _)) (E13.hh.free hp) upd_same (E13.gh.free hp) (cut_den (d1.up (E2.gg.trans E3.gg)) l h)
/-! ### t + u, xs + ys -/
def catT : D → D → Option D
  | .tup xs, .tup ys => if (xs.isEmpty || ys.isEmpty || decide (100000 < xs.length + ys.length)) = true then none else some (.tup (xs ++ ys))
  | _, _ => none
theorem opd_catT : OpD X (binaryOp .Add) catT := ⟨_, op_catT, fun H G x y d1 d2 d g h1 h2 e Q q => by
  unfold catT at e
  split at e
  · rename_i xs ys
    split at e
    · cases e
    · rename_i hc
      cases e
      rw [Bool.or_eq_true, Bool.or_eq_true] at hc
      obtain ⟨a, vs, rfl, s, l⟩ := den_tup.mp h1
      obtain ⟨b, us, rfl, s2, l2⟩ := den_tup.mp h2
      have z1 : vs ≠ [] := fun z => hc (.inl (.inl (by
        have := l.length; rw [z] at this; rw [List.isEmpty_iff, List.length_eq_zero_iff.mp this])))
      have z2 : us ≠ [] := fun z => hc (.inl (.inr (by
        have := l2.length; rw [z] at this; rw [List.isEmpty_iff, List.length_eq_zero_iff.mp this])))
      have z3 : xs.length + ys.length ≤ 100000 := Nat.le_of_not_lt fun z => hc (.inr (decide_eq_true z))
      refine ⟨a, b, vs, us, rfl, rfl, Same.seqT g s, Same.seqT g s2, z1, by rw [← l.length, ← l2.length]; exact Nat.le_trans z3 (by decide), fun z => absurd z z2, fun _ p hp => ?_⟩
      have A := Ext.alloc (o := .tup (vs ++ us)) g hp
      exact q _ _ _ A (den_tup.mpr ⟨p, _, rfl, SqT.of upd_same, (l.append l2).up A.gg⟩)
  · cases e⟩
/-- an owned list and a new one -/
def oCatO (i : Nat) (fl : Ga → R (List D)) : Ga → R (List D) := fun Γ => match Γ[i]? with
  | some (.own xs) => (fl Γ).bind fun ys => if xs.length + ys.length ≤ 1000000 then .ok (xs ++ ys) else .no
  | _ => .no
theorem ow_catO (i : Nat) {x : Str} {pos' : Pos} {fl : Ga → R (List D)} (hb : OwD X W b fl) (hN : X.N[i]? = some x := by rfl) (hv : Vis X.env.scope x := by first | exact Or.inl rfl | exact Or.inr (Or.inl rfl) | exact Or.inr (Or.inr rfl)) (hd : (x == ("__debug__" : Str)) = false := by decide)
    (hcd : (x == ("__classdict__" : Str)) = false := by decide) : OwD X W (.BinOp (.Name x pos') .Add b pos) (oCatO i fl) := by
  obtain ⟨t, p, q⟩ := hb
  refine ⟨_, pe_op op_cat (pe_var hN hv hd hcd) p, fun H₀ G₀ Γ σ H G R Q w => ?_⟩
  unfold oCatO at w
  split at w
  · rename_i xs ex
    obtain ⟨a, vs, s1, s2, s3, s4, s5⟩ := R.ow i xs ex
    refine ⟨_, s1, q _ _ _ _ _ _ R _ (wStep w (fun _ h => h) fun ys w p us H1 G1 E1 hp h1 g1 l1 => ?_)⟩
    have l := s5.up E1.gg
    split at w
    · rename_i hz
      refine ⟨a, p, vs, us, rfl, rfl, E1.hh _ _ s2, h1, by rw [← l.length, ← l1.length]; exact Nat.le_trans hz (by decide), fun r hr => ?_⟩
      exact w r _ _ G1 (E1.trans (.own E1.gh hr _)) (E1.hh.free hr) upd_same (E1.gh.free hr) (l.append l1)
    · exact w.elim
  · exact w.elim
/-! ### all, any of a list of truths -/
theorem bools_of {bs : List Bool} : ∀ {us : List Value}, Vals (bs.map V.bl) us → LSm.BoolsAre us bs := by
  induction bs with
  | nil => intro us h; cases h; exact .nil
  | cons b bs ih =>
    intro us h
    cases h with
    | cons r t =>
      obtain rfl := (show _ = Value.bool b from r)
      exact .cons b (ih t)
theorem call_all : CallR X (.builtin "all") (fun xs H Q => X.calm = true ∧ ∃ (p : Addr) (bs : List Bool), xs = [.ref p] ∧ SqL X.K H p (bs.map V.bl) ∧ Q (.bl (bs.all id)) H) := by
  rintro pins s σ H xs us Q I rv ⟨hc, p, bs, rfl, hs, q⟩
  obtain ⟨u, rfl, ru⟩ := rv.one
  obtain rfl : u = Value.ref p := ru
  obtain ⟨its, vv, ⟨o, n, h1, h2, h3, h4⟩, hl⟩ := I.list hs
  have hb := bools_of vv
  have hL : s.heap.IsList p its.toArray := ⟨o, h1, h2, n, h4⟩
  have hlt : p < s.heap.objs.size := Heap.lt_size h1
  refine call_all_walk (wpAny_pyIter_list hL ?_)
  refine ⟨s.heap.objs.size, [s.heap.objs.size, p], [s.heap.objs.size], its.toArray.size, _, _, fun i => (bs[i]?).getD true, rfl, Walks.list (A := X.A.in1) (I.ok.hd hc) _ p (Nat.ne_of_lt hlt) its.toArray,
    ⟨⟨_, Heap.get?_push_size _ rfl, rfl, rfl⟩, hL.push _⟩, fun i v s' Q' E' hP hQ => ?_, fun h' tk hk => ?_⟩
  · obtain ⟨b, e, rfl⟩ := hb.get i v (by simpa using hP)
    simp only [e, Option.getD_some] at hQ
    exact wpAny_truthy_bool hQ
  · have e : ((List.range its.toArray.size).all fun i => (bs[i]?).getD true) = bs.all id := by
      rw [List.size_toArray, hb.length]; exact LSm.range_all bs
    rw [e]
    exact ⟨.bl _, H, I.kept (LSm.kept_iter hk), rfl, q⟩
def asBs : List D → Option (List Bool)
  | [] => some []
  | .bl b :: ds => (asBs ds).bind fun r => some (b :: r)
  | _ => none
theorem asBs_den {K : PySem.W.Frag} {G : Hp} : ∀ {ds : List D} {vs : List V} {bs : List Bool}, DenL K G ds vs → asBs ds = some bs → vs = bs.map V.bl
  | [], vs, bs, h, e => by cases e; exact denL_nil.mp h
  | d :: ds, vs, bs, h, e => by
    obtain ⟨v, r, rfl, h1, h2⟩ := denL_cons.mp h
    cases d <;> first | cases e | skip
    obtain ⟨r', e1, e2⟩ := Option.bind_eq_some_iff.mp e
    cases e2
    rw [den_blE h1, asBs_den h2 e1]
    rfl
theorem calls_all (hc : X.calm = true) : CallS X (.builtin "all") (fun p => match p with | (false, ds) => (asBs ds).bind fun bs => some (.bl (bs.all id)) | _ => none) := ⟨_, call_all, fun H G b ds d a vs g s l e Q q => by
  cases b with
  | true => cases e
  | false =>
    obtain ⟨bs, e1, e2⟩ := Option.bind_eq_some_iff.mp e
    cases e2
    have := asBs_den l e1
    subst this
    exact ⟨hc, a, bs, rfl, s, q _ H G (.refl g) den_bl⟩⟩
/-! ### isinstance -/
def tyN : D → String
  | .non => "NoneType"
  | .bl _ => "bool"
  | .int _ => "int"
  | .str _ => "str"
  | .tup _ => "tuple"
  | .lst _ => "list"
/-- the value is of that kind, by the heap -/
def tyK (K : PySem.W.Frag) (H : Hp) (x : V) (t : String) : Prop := match x with
  | .non => t = "NoneType"
  | .bl _ => t = "bool"
  | .int _ => t = "int"
  | .str _ => t = "str"
  | .ref a => (t = "tuple" ∧ ∃ vs, SqT K H a vs) ∨ (t = "list" ∧ ∃ vs, SqL K H a vs)
  | _ => False
theorem tyK_den {K : PySem.W.Frag} {H G : Hp} {d : D} {v : V} (g : Same G H) (h : Den K G d v) : tyK K H v (tyN d) := by
  cases d with
  | non => rw [den_nonE h]; rfl
  | bl b => rw [den_blE h]; rfl
  | int b => rw [den_intE h]; rfl
  | str b => rw [den_strE h]; rfl
  | tup _ => obtain ⟨a, vs, rfl, s, _⟩ := den_tup.mp h; exact .inl ⟨rfl, vs, Same.seqT g s⟩
  | lst _ => obtain ⟨a, vs, rfl, s, _⟩ := den_lst.mp h; exact .inr ⟨rfl, vs, g.seq s⟩
theorem call_isi : CallR X (.builtin "isinstance") (fun xs H Q => ∃ x T t b, xs = [x, .ty T] ∧ tyK X.K H x t ∧ PySem.W.kitOne X.K (.type t) (.type T) = some b ∧ Q (.bl b) H) := by
  rintro pins s σ H xs us Q I rv ⟨x, T, t, b, rfl, ty, e, q⟩
  obtain ⟨u, c, rfl, rx, rc⟩ := rv.two
  obtain rfl : c = Value.type T := rc
  have fin : ∀ tk, EP X pins σ Q (.bool b) { s with toks := tk } := fun tk => ⟨.bl b, H, I.tok tk, rfl, q⟩
  cases x with
  | non => obtain rfl : t = _ := ty; cases (show u = Value.none from rx); exact PySem.W.kia_one PySem.W.kitx_none I.kIn True.intro e (fun z => nomatch z) fin
  | bl y => obtain rfl : t = _ := ty; cases (show u = Value.bool y from rx); exact PySem.W.kia_one PySem.W.kitx_bool I.kIn True.intro e (fun z => nomatch z) fin
  | int i => obtain rfl : t = _ := ty; obtain ⟨t, z⟩ := (show ∃ t, u = Value.int i t from rx); cases z; exact PySem.W.kia_one PySem.W.kitx_int I.kIn True.intro e (fun z => nomatch z) fin
  | str y => obtain rfl : t = _ := ty; obtain ⟨t, z⟩ := (show ∃ t, u = Value.str y t from rx); cases z; exact PySem.W.kia_one PySem.W.kitx_str I.kIn True.intro e (fun z => nomatch z) fin
  | ref a =>
    cases (show u = Value.ref a from rx)
    rcases ty with ⟨rfl, vs, h⟩ | ⟨rfl, vs, h⟩
    · obtain ⟨its, _, ⟨o, h1, h2, _⟩, _⟩ := I.tuple h
      exact PySem.W.kia_one PySem.W.kitx_tuple I.kIn ⟨o, h1, h2⟩ e (fun z => nomatch z) fin
    · obtain ⟨its, _, ⟨o, n, h1, h2, _⟩, _⟩ := I.list h
      exact PySem.W.kia_one PySem.W.kitx_list I.kIn ⟨o, h1, h2⟩ e (fun z => nomatch z) fin
  | byt _ => exact ty.elim
  | flt _ => exact ty.elim
  | ty _ => exact ty.elim
/-- isinstance(a, T): g is the table of the kinds -/
def eIsi (g : String → Bool) (fa : Ga → R D) : Ga → R D := fun Γ => (fa Γ).bind fun d => .ok (.bl (g (tyN d)))
theorem ev_isi {T : String} {nT : Str} {g : String → Bool} {p p3 : Pos} (hg : Gl X "isinstance") (hm : X.mg "isinstance" = none) (hgT : Gl X nT) (hmT : X.mg nT = none) (hv : bootBuiltins nT = some (.type T)) (ha : EvD X W a fa)
    (hk : ∀ d : D, PySem.W.kitOne X.K (.type (tyN d)) (.type T) = some (g (tyN d))) (hvi : bootBuiltins "isinstance" = some (.builtin "isinstance")) (hn : nT ≠ "__name__" := by decide) (hdb : (nT == ("__debug__" : Str)) = false := by decide)
    (hs : starEach [a, .Name nT p3] X.env = (false, eval a X.env) :: starEach [.Name nT p3] X.env := by rfl) (hs2 : starEach [.Name nT p3] X.env = [(false, eval (.Name nT p3) X.env)] := by rfl) :
    EvD X W (.Call (.Name "isinstance" p) [a, .Name nT p3] [] pos) (eIsi g fa) := by
  obtain ⟨t, pt, q⟩ := ha
  have pT : PE X (.Name nT p3) (tC (.ty T)) := pe_bltn hgT hmT hv rfl hn hdb
  refine ⟨_, pe_callB call_isi hg hm hvi (pa_cons pt (pa_cons pT pa_nil hs2) hs) (by decide) (by decide) hs (by rw [hs2]; rfl), fun H₀ G₀ Γ σ H G R Q w => ?_⟩
  refine q _ _ _ _ _ _ R _ (wStep w (fun _ h => h) fun d k v H1 G1 E1 d1 => ?_)
  exact ⟨v, T, _, _, rfl, tyK_den E1.gh d1, hk d, k _ _ _ E1 den_bl⟩
end
end Wy

/-! more: the signs of a text, extend by a tuple -/
namespace Wy
open PySem PySem.Spec PyProof.Rows L2

/-- the signs of an ascii text -/
def Its (x : Str) : It := ⟨fun i _ => i < x.cps.size, fun i H v H' => H' = H ∧ ∃ c, x.cps[i]? = some c ∧ v = .str ⟨#[c]⟩, fun i _ => x.cps.size ≤ i⟩
theorem turn_str {P : Program} {w : World} {K : PySem.W.Frag} {tg : Expr} (x : Str) (t : Tok) (it : Addr) : Turn P w K tg (Its x) [it] it (fun i h => h.IsStrIter it "str_ascii_iterator" x t i) where
  mem := by simp
  obj := fun i h st b hb => by
    have e : b = it := by simpa using hb
    subst e
    obtain ⟨o, e, c, d⟩ := st
    exact ⟨o, e, fun v z => by rw [d] at z; cases z⟩
  keep := fun i h h' st k => by
    obtain ⟨o, e, c, d⟩ := st
    exact ⟨o, k it (by simp) o e, c, d⟩
  item := by
    intro X hP hw hK hc i pins s σ H E I hf st hg
    subst hP hw hK
    have hg' : i < x.cps.size := hg
    obtain ⟨f0, f1, f2, f3, f4, f5⟩ := hf it (by simp)
    refine wpAny_pyNext_ascii_item st (c := x.cps[i]) (by rw [Array.getElem?_eq_getElem hg']) fun h' st' sb => ?_
    have I1 : Inv X pins σ H { s with heap := h', toks := s.toks + 1 } := I.turned (t' := s.toks + 1) (fun b o hb e => (sb.2 b hb).trans e) f0 f1 f3 f4 f5
    obtain ⟨o, e, c, d⟩ := id st'
    exact ⟨_, rfl, go_of (s := { s with heap := h', toks := s.toks + 1 }) e c d (by decide) ⟨.str ⟨#[x.cps[i]]⟩, H, I1, ⟨_, rfl⟩, ⟨rfl, _, by rw [Array.getElem?_eq_getElem hg'], rfl⟩, st', fun b hb => (hf b hb).1⟩⟩
  done := by
    intro X hP hw hK hc i pins s σ H E I hf st hg
    subst hP hw hK
    obtain ⟨f0, f1, f2, f3, f4, f5⟩ := hf it (by simp)
    have hg' : x.cps.size ≤ i := hg
    exact wpAny_pyNext_ascii_end (I.ok.hd hc) st (by rw [Array.getElem?_eq_none hg']) fun h' eb => ⟨rfl, I.turned (t' := s.toks) (fun b o hb e => eb b o hb e) f0 f1 f3 f4 f5⟩
  self := fun _ _ _ _ _ st h => wpAny_pyIter_striter_ascii st h
section
variable {X : Cx} {W : XP} {tg e : Expr} {f : Ga → R D} {te : TE}
def iStr (tl : TE) : TI := fun σ H R => tl σ H fun x H1 => ∃ z, x = .str z ∧ z.cps.all (· < 128) = true ∧ R (Its z) H1
theorem pi_str {l : Expr} {tl : TE} (hl : PE X l tl) : PI X tg l (iStr tl) := by
  intro pins s σ H R I h
  refine thn (hl pins s σ H _ I h) fun v s1 ⟨x, H1, I1, r1, q1⟩ => ?_
  obtain ⟨z, rfl, hz, q⟩ := q1
  obtain ⟨t, rfl⟩ := r1
  refine wpAny_pyIter_ascii hz ?_
  refine ⟨s1.heap.objs.size, [s1.heap.objs.size], _, _, H1, rfl, I1.kept (t' := s1.toks) fun b o e => Heap.get?_push_of_some _ e, turn_str z t _, ⟨_, Heap.get?_push_size _ rfl, rfl, rfl⟩, fun b hb => ?_, q⟩
  have e : b = s1.heap.objs.size := by simpa using hb
  subst e
  exact I1.fpOk (Nat.le_refl _) (I1.hok.fresh (Nat.le_refl _))
def signs (z : Str) : List D := z.cps.toList.map fun c => D.str ⟨#[c]⟩
def asSigns : D → Option (List D)
  | .str z => if z.cps.all (· < 128) = true then some (signs z) else none
  | _ => none
def iS (f : Ga → R D) : Ga → R (List D) := fun Γ => (f Γ).bind fun d => .ofO (asSigns d)
theorem it_str (he : EvD X W e f) : ItD X W tg e (iS f) := by
  obtain ⟨t, p, q⟩ := he
  refine ⟨_, pi_str p, fun H₀ G₀ Γ σ H G R Q w => ?_⟩
  refine q _ _ _ _ _ _ R _ (wStep w (fun _ h => h) fun d w v H' G' E1 d1 => ?_)
  obtain ⟨ds, e2, k⟩ := wOfO w
  unfold asSigns at e2
  split at e2
  · rename_i z
    split at e2
    · rename_i hz
      cases e2
      refine ⟨z, den_strE d1, hz, k _ H' G' E1 fun i H2 G2 g2 h2 => ⟨fun d hd => ?_, fun hi => by have h := hi; simp [signs] at h; exact h⟩⟩
      unfold signs at hd
      rw [List.getElem?_map] at hd
      obtain ⟨c, ec, rfl⟩ := Option.map_eq_some_iff.mp hd
      have ec' : z.cps[i]? = some c := by simpa using ec
      refine ⟨(Array.getElem?_eq_some_iff.mp ec').1, fun x H3 ⟨y, c', hc', hx⟩ => ?_⟩
      subst y
      rw [ec'] at hc'
      cases hc'
      subst hx
      exact ⟨G2, .refl h2, den_str⟩
    · cases e2
  · cases e2
end
/-! ### xs.extend(t) -/
section
open PySem.SeqAt
open PySem.AutoSeq1 (wpAny_loadPart')
open PySem.MeetsSeq PySem.MeetsSeq2 PySem.MeetsSeq3 PySem.AutoSeq1
theorem list_extend_tup (l : Addr) (items : Array Value) (n : Nat) (b : Addr) (items2 : Array Value) (n2 : Nat) (dd : Option Addr) (sl : Array (Option Value)) (hs0 : ¬(!items.isEmpty && Builtin.List.listTooLong (items.size + items2.size)) = true) (hs1 : items.size ≤ sizeLine) (hs2 : items.size + items2.size ≤ sizeLine + 1) :
    Meets (Builtin.«list.extend» ⟨[.ref l, .ref b], []⟩) (fun _ R s => s.heap.get? l = some { cls := .type "list", dict := none, data := .seq items n, slots := #[] } ∧ s.heap.get? b = some { cls := .type "tuple", dict := dd, data := .seq items2 n2, slots := sl } ∧ R (.ok (.ret Value.none)) { s with heap := s.heap.update l (Obj.mapSeq fun x => x ++ items2), toks := s.toks }) :=
  .of_wp fun prog w A R s h => by
    obtain ⟨hp, g, d, tk, os⟩ := s; obtain ⟨hl, hb, h⟩ := h; have f1 := idx_int; have f2 := AutoSeq1.sub_tuple_tuple; have f3 := AutoSeq1.sub_list_list; have f4 := AutoSeq1.sub_tuple_list; have f5 := AutoSeq1.sub_list_tuple;
    have hz' : (items ++ items2).size ≤ sizeLine + 1 := by rw [Array.size_append]; exact hs2
    wp_walk using (wpAny_updateSeq hl rfl (hz := hs1) (_hz' := hz')), wpAny_loadPart' hl, wpAny_loadPart' hb; exact ⟨_, rfl, h⟩
end
section
variable {X : Cx}
def rExtT (K : PySem.W.Frag) : V → List V → Hp → VK → Prop := fun x vs H Q => ∃ l b xs zs, x = .ref l ∧ vs = [.ref b] ∧ H l = some (.lst xs) ∧ SqT K H b zs ∧ xs.length + zs.length ≤ sizeLine ∧ Q .non (upd H l (.lst (xs ++ zs)))
theorem mt_extT : MtR X "list.extend" (rExtT X.K) := by
  intro pins s σ H x vs v us Q I rx rv h
  obtain ⟨l, b, xs, zs, rfl, rfl, hH, hB, hz, q⟩ := h
  cases rx
  obtain ⟨u, rfl, ru⟩ := rv.one
  cases ru
  obtain ⟨z, its, n, r, hl, e⟩ := I.lstM hH
  obtain ⟨its2, r2, ⟨⟨c2, d2, dt2, s2⟩, e2, hc2, n2, hd2⟩, z2⟩ := I.tuple hB
  have hl2 := r2.length
  cases hc2
  cases hd2
  have hsz : its.toArray.size + its2.toArray.size ≤ sizeLine := by rw [List.size_toArray, List.size_toArray]; omega
  have hlong : ¬ (!its.toArray.isEmpty && Builtin.List.listTooLong (its.toArray.size + its2.toArray.size)) = true := by
    rw [notLongL hsz, Bool.and_false]
    exact Bool.false_ne_true
  refine call_meets F.slot_list_extend ⟨_, e, rfl⟩ F.entry_list_extend (F.args_list_extend_2 _ _)
    (list_extend_tup l its.toArray n b its2.toArray n2 d2 s2 hlong (by rw [List.size_toArray]; omega) (by omega)) ⟨e, e2, ?_⟩
  refine ⟨.non, _, I.lset (its' := its ++ its2) hH e (by simp) (r.append r2) ?_, rfl, q⟩
  rw [List.length_append]
  omega
variable {W : XP} {e : Expr} {f : Ga → R D} {pos pos' apos cpos : Pos} {x : Str}
def sExtT (i : Nat) (f : Ga → R D) : Ga → RS := fun Γ => match Γ[i]? with
  | some (.own xs) => .of (f Γ) Γ fun d => match d with
    | .tup ds => if xs.length + ds.length < 16000000 then .nx (Γ.set i (.own (xs ++ ds))) else .no
    | _ => .no
  | _ => .no
theorem x_extT (i : Nat) (he : EvD X W e f) (hN : X.N[i]? = some x := by rfl) (hv : Vis X.env.scope x := by first | exact Or.inl rfl | exact Or.inr (Or.inl rfl) | exact Or.inr (Or.inr rfl)) (hd : (x == ("__debug__" : Str)) = false := by decide)
    (hcd : (x == ("__classdict__" : Str)) = false := by decide) (hs : starEach [e] X.env = [(false, eval e X.env)] := by rfl) (hline : (apos.endLine == cpos.line) = true := by rfl)
    (hsw : swapsWith (.Call (.Attribute (.Name x pos') "extend" apos) [e] [] cpos) none pos.line X.env = pure false := by rfl)
    (hbase : attributeBase (.Name x pos') "extend" X.env (eval (.Name x pos') X.env) = eval (.Name x pos') X.env := by rfl)
    (hfew : ((backTo cpos (starEach [e] X.env)).all (fun x => !x.1) && (backToKw cpos (keywordEach [] X.env)).all (fun x => x.1.isSome)
      && decide ([e].length + ([] : List Keyword).length + (if ([] : List Keyword).isEmpty then 0 else 1) < 30)) = true := by rfl) :
    ExD X W (.Expr (.Call (.Attribute (.Name x pos') "extend" apos) [e] [] cpos) pos) (sExtT i f) := by
  obtain ⟨t, p, q⟩ := he
  refine ⟨_, ps_expr (pe_bm PySem.F.plainAttrs_list PySem.F.slot_list_extend PySem.F.type_list_extend mt_extT (pe_var hN hv hd hcd) (pa_cons p pa_nil hs) hbase hfew hline hs rfl) hsw, fun H₀ G₀ Γ σ H G R D w => ?_⟩
  unfold sExtT at w
  split at w
  · rename_i xs e1
    obtain ⟨a, vs, s1, s2, s3, s4, s5⟩ := R.ow i xs e1
    refine ⟨_, s1, .inl ⟨rfl, vs, SqL.of s2⟩, ?_⟩
    refine q _ _ _ _ _ _ R _ (wS R w fun d w v H' G' E1 d1 => ?_)
    split at w
    · rename_i ds
      split at w
      · rename_i hz
        obtain ⟨b, us, rfl, sq, l2⟩ := den_tup.mp d1
        have l1 := s5.up E1.gg
        exact ⟨a, b, vs, us, rfl, rfl, E1.hh _ _ s2, Same.seqT E1.gh sq, by rw [← l1.length, ← l2.length]; exact Nat.le_of_lt (lt24 hz), w _ _ G' ((R.after E1).mut e1 s1 (l1.append l2))⟩
      · exact w.elim
    · exact w.elim
  · exact w.elim
end
end Wy

/-! what the names of a block say, by one closed check; kinds; defs of the text -/
namespace Wy
open PySem PySem.Spec PyProof.Rows L2

def relS (scope osc : Scope) : Scope :=
  { scope with names := scope.names.map fun (n, k) => if (k == .free && osc.kind == .function && osc.names.lookup n == some .cell) then (n, .cell) else (n, k) }
theorem relS_eq (scope : Scope) (env : Env) : relabel scope env = relS scope env.scope := rfl
def isCF (k : Option NameKind) : Bool := k == some .cell || k == some .free
def visB (sc : Scope) (x : Str) : Bool := sc.names.lookup x == some .local || isCF (sc.names.lookup x)
theorem visB_of {sc : Scope} {x : Str} (h : Vis sc x) : visB sc x = true := by
  unfold visB isCF
  rcases h with h | h | h <;> (rw [h]; rfl)
theorem isCF_iff {k : Option NameKind} (h : isCF k = true) : k = some .cell ∨ k = some .free := by
  unfold isCF at h
  rw [Bool.or_eq_true] at h
  exact h.imp (fun z => beq_iff_eq.mp z) (fun z => beq_iff_eq.mp z)
theorem isCF_of {k : Option NameKind} (h : k = some .cell ∨ k = some .free) : isCF k = true := by
  rcases h with rfl | rfl <;> rfl
def blkCheck (scope osc : Scope) (N keys : List Str) (x : Str) : Bool :=
  scope.kind == .function && scope.names.all (fun y => y.2 != .cell) && scope.names.all (fun y => y.2 != .local || scope.names.lookup y.1 == some .local) && (scope.names.lookup x == some .local) &&
  decide (blkN x N).Nodup && (relS scope osc).names.all (fun y => !isCF ((relS scope osc).names.lookup y.1) || keys.contains y.1) && !visB (relS scope osc) accN &&
  N.all (fun y => !visB (relS scope osc) (if y = x then dum else y) || (decide (y ≠ x) && isCF ((relS scope osc).names.lookup y) && isCF (osc.names.lookup y)))
theorem mem_of_lookup {α : Type} {l : List (Str × α)} {x : Str} {a : α} (h : l.lookup x = some a) : ∃ p ∈ l, p.1 = x ∧ p.2 = a := by
  induction l with
  | nil => cases h
  | cons p l ih =>
    obtain ⟨y, b⟩ := p
    rw [List.lookup_cons] at h
    split at h
    · rename_i hx
      cases h
      exact ⟨_, List.mem_cons_self, (beq_iff_eq.mp hx).symm, rfl⟩
    · obtain ⟨p, hp, e⟩ := ih h
      exact ⟨p, List.mem_cons_of_mem _ hp, e⟩
theorem lookup_of_key {α : Type} {l : List (Str × α)} {x : Str} (h : (l.map (·.1)).contains x = true) : ∃ a, l.lookup x = some a := by
  induction l with
  | nil => cases h
  | cons p l ih =>
    obtain ⟨y, b⟩ := p
    rw [List.lookup_cons]
    by_cases hx : (x == y) = true
    · rw [hx]; exact ⟨b, rfl⟩
    · rw [Bool.eq_false_iff.mpr hx]
      apply ih
      rw [List.map_cons, List.contains_cons] at h
      rw [Bool.eq_false_iff.mpr hx, Bool.false_or] at h
      exact h
theorem blk_mk {X : Cx} {scope : Scope} {cl : List (Str × Addr)} {x : Str} (osc : Scope) (N keys : List Str) (e1 : X.env.scope = osc) (e2 : X.N = N) (clos : closureFor scope X.env = pure cl) (hk : keys.all (fun y => (cl.map (·.1)).contains y) = true)
    (hc : ∀ p ∈ cl, X.env.cells.lookup p.1 = some p.2) (chk : blkCheck scope osc N keys x = true) : BlkOk X scope cl x := by
  subst e1 e2
  unfold blkCheck at chk
  simp only [Bool.and_eq_true] at chk
  obtain ⟨⟨⟨⟨⟨⟨⟨c1, c2⟩, c3⟩, c4⟩, c5⟩, c6⟩, c7⟩, c8⟩ := chk
  refine ⟨beq_iff_eq.mp c1, fun y hy => ?_, clos, fun y hy hl => ?_, beq_iff_eq.mp c4, of_decide_eq_true c5, fun y c h => ?_, fun y h => ?_, fun h => ?_, fun y hy _ hv => ?_⟩
  · exact bne_iff_ne.mp (List.all_eq_true.mp c2 y hy)
  · have := List.all_eq_true.mp c3 y hy
    rw [hl] at this
    exact beq_iff_eq.mp (by simpa using this)
  · obtain ⟨p, hp, rfl, rfl⟩ := mem_of_lookup h
    exact hc p hp
  · have hcf := isCF_of h
    rw [relS_eq] at hcf
    obtain ⟨k, hkk⟩ : ∃ k, (relS scope X.env.scope).names.lookup y = some k := by
      rcases h with h | h
      · exact ⟨_, h⟩
      · exact ⟨_, h⟩
    obtain ⟨p, hp, rfl, _⟩ := mem_of_lookup hkk
    have := List.all_eq_true.mp c6 p hp
    rw [hcf] at this
    exact lookup_of_key (List.all_eq_true.mp hk p.1 (List.contains_iff_mem.mp (by simpa using this)))
  · rw [relS_eq] at h
    rw [visB_of h] at c7
    cases c7
  · rw [relS_eq] at hv ⊢
    have := List.all_eq_true.mp c8 y hy
    rw [visB_of hv] at this
    simp only [Bool.not_true, Bool.false_or, Bool.and_eq_true] at this
    exact ⟨of_decide_eq_true this.1.1, isCF_iff this.1.2, isCF_iff this.2⟩

/-! ### kinds -/
def gInt : String → Bool := fun t => t == "int" || t == "bool"
def gBool : String → Bool := fun t => t == "bool"
def gStr : String → Bool := fun t => t == "str"
def gTuple : String → Bool := fun t => t == "tuple"
def gList : String → Bool := fun t => t == "list"
theorem kit_int (K : PySem.W.Frag) (d : D) : PySem.W.kitOne K (.type (tyN d)) (.type "int") = some (gInt (tyN d)) := by cases d <;> kernel_rfl
theorem kit_bool (K : PySem.W.Frag) (d : D) : PySem.W.kitOne K (.type (tyN d)) (.type "bool") = some (gBool (tyN d)) := by cases d <;> kernel_rfl
theorem kit_str (K : PySem.W.Frag) (d : D) : PySem.W.kitOne K (.type (tyN d)) (.type "str") = some (gStr (tyN d)) := by cases d <;> kernel_rfl
theorem kit_tuple (K : PySem.W.Frag) (d : D) : PySem.W.kitOne K (.type (tyN d)) (.type "tuple") = some (gTuple (tyN d)) := by cases d <;> kernel_rfl
theorem kit_list (K : PySem.W.Frag) (d : D) : PySem.W.kitOne K (.type (tyN d)) (.type "list") = some (gList (tyN d)) := by cases d <;> kernel_rfl

/-! ### the defs of the text -/
structure Def (K : PySem.W.Frag) (mg : Str → Option Value) (x : Str) (st : Stmt) (ps : List Str) (f : Addr) (fd : FuncData) : Prop where
  fn : Fun K x x st f fd
  bd : Binds K fd ps []
  mg : mg x = some (.ref f)
theorem def_mk {K : PySem.W.Frag} {h : Heap} {mg : Str → Option Value} (X : K.In h) (G : h.Ns mainGlobals mg) {x : Str} {st : Stmt} {ps : List Str} {f : Addr} {oc : Value} {od an : Option Addr} {osl : Array (Option Value)} {kV doc pm cdv ct : Value}
    (a : PySem.W.nsIn K mainGlobals x = some (some (.ref f))) (l : K.lookup f = some ⟨oc, od, .func (PySem.W.fnOf x x (defArgs st) (defBody st) (defScope st) .none kV doc pm an cdv ct), osl⟩)
    (c : PySem.W.codeIn K cdv x = true) (k : PySem.W.keepIn K (.ref f) = true)
    (b : ∀ (kV doc pm : Value) (an : Option Addr) (cdv ct : Value) (us : List Value), us.length = ps.length → bindArgs (PySem.W.fnOf x x (defArgs st) (defBody st) (defScope st) .none kV doc pm an cdv ct) ⟨us, []⟩ = pure (ps.zip us)) :
    ∃ fd, Def K mg x st ps f fd := ⟨_, fun_mk l c k, (fun_mk (st := st) l c k).binds b, PySem.W.mg_of X G a⟩
/-- the law's own promise -/
theorem law_sp {K : PySem.W.Frag} {H : Hp} {a : Addr} {ns : List Int} {mg : Str → Option Value} {F : List D → R D} {E : XK} (h : SqL K H a (ns.map V.int)) (hF : F [.lst (ns.map D.int)] = .ok (.bl true)) : spF K mg 1 F [.ref a] H (fun v _ => v = .bl true) E := by
  have l : ∀ ns : List Int, DenL K H (ns.map D.int) (ns.map V.int) := fun ns => by
    induction ns with
    | nil => exact denL_nil.mpr rfl
    | cons n ns ih => exact denL_cons.mpr ⟨_, _, rfl, den_int, ih⟩
  exact ⟨H, _, Same.refl _, .one (den_lst.mpr ⟨a, _, rfl, h, l ns⟩), rfl, by rw [hF]; exact fun v H' G' _ d => den_blE d⟩

/-- the law's, without a word of exceptions -/
def spL (K : PySem.W.Frag) (F : List D → R D) : Sp := fun vs H Q E => ∃ (G : Hp) (ds : List D), Same G H ∧ DenL K G ds vs ∧ ds.length = 1 ∧ (F ds).want (fun _ => False) (fun d => ∀ v H' G', Ext H G H' G' → Den K G' d v → Q v H')
theorem spL_of {K : PySem.W.Frag} {H : Hp} {a : Addr} {ns : List Int} {F : List D → R D} {E : XK} (h : SqL K H a (ns.map V.int)) (hF : F [.lst (ns.map D.int)] = .ok (.bl true)) : spL K F [.ref a] H (fun v _ => v = .bl true) E := by
  have l : ∀ ns : List Int, DenL K H (ns.map D.int) (ns.map V.int) := fun ns => by
    induction ns with
    | nil => exact denL_nil.mpr rfl
    | cons n ns ih => exact denL_cons.mpr ⟨_, _, rfl, den_int, ih⟩
  exact ⟨H, _, Same.refl _, .one (den_lst.mpr ⟨a, _, rfl, h, l ns⟩), rfl, by rw [hF]; exact fun v H' G' _ d => den_blE d⟩
theorem FnOk.toL {P : Program} {w : World} {K : PySem.W.Frag} {mg : Str → Option Value} {base : Heap} {CX : CXT} {k : Nat} {f : Addr} {fd : FuncData} {ps : List Str} {F : List D → R D} (h : FnOk P w K mg base CX k f fd ps (spF K mg 1 F)) : FnOk P w K mg base CX k f fd ps (spL K F) :=
  h.imp fun vs H Q E ⟨G, ds, a, b, c, d⟩ => ⟨G, ds, a, b, c, wImp d (fun _ z => z.elim) fun _ z => z⟩
/-- a constant of the module -/
def GlobC (K : PySem.W.Frag) (mg : Str → Option Value) (x : Str) (d : D) : Prop := ∃ (u : Value) (v : V), mg x = some u ∧ RelV v u ∧ Den K (fun _ => none) d v
theorem ev_globC {X : Cx} {W : XP} {x : Str} {d : D} {pos : Pos} (h : GlobC X.K X.mg x d) (hg : Gl X x) (hdb : (x == ("__debug__" : Str)) = false := by decide) : EvD X W (.Name x pos) (eC d) :=
  let ⟨_, _, h1, h2, h3⟩ := h
  ev_glob hg h1 h2 h3 hdb
/-- the built-in names that the text leaves as they are -/
structure Bl (mg : Str → Option Value) : Prop where
  m_isinstance : mg "isinstance" = none
  m_int : mg "int" = none
  m_bool : mg "bool" = none
  m_str : mg "str" = none
  m_tuple : mg "tuple" = none
  m_list : mg "list" = none
  m_len : mg "len" = none
  m_all : mg "all" = none
  m_range : mg "range" = none
  m_enumerate : mg "enumerate" = none

/-! ### comprehensions as maps -/
theorem compR_map {f : Ga → R D} {Γ : Ga} {h : D → D} : ∀ {ds : List D}, (∀ d ∈ ds, f (.val d :: .un :: Γ) = .ok (h d)) → compR cTrue f Γ ds = .ok (ds.map h)
  | [], _ => rfl
  | d :: ds, H => by
    unfold compR
    show (f (.val d :: .un :: Γ)).calm.bind _ = _
    rw [H d List.mem_cons_self]
    show (compR _ f Γ ds).bind _ = _
    rw [compR_map fun x hx => H x (List.mem_cons_of_mem _ hx)]
    rfl
theorem compR_filter {c : Ga → R Bool} {f : Ga → R D} {Γ : Ga} {p : D → Bool} {h : D → D} : ∀ {ds : List D}, (∀ d ∈ ds, c (.val d :: .un :: Γ) = .ok (p d)) → (∀ d ∈ ds, p d = true → f (.val d :: .un :: Γ) = .ok (h d)) → compR c f Γ ds = .ok ((ds.filter p).map h)
  | [], _, _ => rfl
  | d :: ds, H, H2 => by
    have ih := compR_filter (c := c) (f := f) (Γ := Γ) (p := p) (h := h) (ds := ds) (fun x hx => H x (List.mem_cons_of_mem _ hx)) (fun x hx => H2 x (List.mem_cons_of_mem _ hx))
    unfold compR
    rw [H d List.mem_cons_self]
    cases hp : p d with
    | true =>
      rw [List.filter_cons_of_pos hp]
      show (f (.val d :: .un :: Γ)).calm.bind _ = _
      rw [H2 d List.mem_cons_self hp]
      show (compR _ f Γ ds).bind _ = _
      rw [ih]
      rfl
    | false =>
      rw [List.filter_cons_of_neg (by rw [hp]; exact Bool.false_ne_true)]
      exact ih
theorem asBs_map {α : Type} (g : α → Bool) : ∀ xs : List α, asBs (xs.map fun x => D.bl (g x)) = some (xs.map g)
  | [] => rfl
  | x :: xs => by
    show (asBs (xs.map fun x => D.bl (g x))).bind _ = _
    rw [asBs_map g xs]
    rfl
/-! ### loops by what holds between two turns -/
theorem whileN_mono {g : Ga → R Bool} {T : Ga → RS} : ∀ (n m : Nat) (Γ : Ga) (r : RS), sWhileN g T n Γ = r → r ≠ .no → n ≤ m → sWhileN g T m Γ = r
  | 0, _, _, r, h, hr, _ => by cases h; exact absurd rfl hr
  | n + 1, 0, _, _, _, _, hm => by omega
  | n + 1, m + 1, Γ, r, h, hr, hm => by
    unfold sWhileN at h ⊢
    cases hg : g Γ with
    | ok k =>
      rw [hg] at h
      cases k with
      | false => exact h
      | true =>
        show (match T Γ with
          | .nx Γ' => sWhileN g T m Γ'
          | .ct Γ' => sWhileN g T m Γ'
          | .bk Γ' => .nx Γ'
          | r => r) = r
        have h : (match T Γ with
          | .nx Γ' => sWhileN g T n Γ'
          | .ct Γ' => sWhileN g T n Γ'
          | .bk Γ' => .nx Γ'
          | r => r) = r := h
        cases hT : T Γ with
        | nx Γ' => rw [hT] at h; exact whileN_mono n m Γ' r h hr (by omega)
        | ct Γ' => rw [hT] at h; exact whileN_mono n m Γ' r h hr (by omega)
        | bk Γ' => rw [hT] at h; exact h
        | rt d => rw [hT] at h; exact h
        | ex c d => rw [hT] at h; exact h
        | no => rw [hT] at h; exact h
    | ex c => rw [hg] at h; exact h
    | no => rw [hg] at h; exact h
/-- a while by what holds between two turns and a number that falls: E says what may come of it -/
theorem whileN_inv {g : Ga → R Bool} {T : Ga → RS} (I : Nat → Ga → Prop) (E : RS → Prop)
    (turn : ∀ m Γ, I m Γ → (g Γ = .ok false ∧ E (.nx Γ)) ∨ (g Γ = .ok true ∧ ((∃ Γ' m', (T Γ = .nx Γ' ∨ T Γ = .ct Γ') ∧ m' < m ∧ I m' Γ') ∨ (∃ Γ', T Γ = .bk Γ' ∧ E (.nx Γ')) ∨ (∃ d, T Γ = .rt d ∧ E (.rt d)) ∨ (∃ c Γ', T Γ = .ex c Γ' ∧ E (.ex c Γ'))))) :
    ∀ (n m : Nat) (Γ : Ga), I m Γ → m < n → E (sWhileN g T n Γ)
  | 0, m, Γ, _, h => by omega
  | n + 1, m, Γ, hI, h => by
    unfold sWhileN
    rcases turn m Γ hI with ⟨hg, hE⟩ | ⟨hg, ht⟩
    · rw [hg]; exact hE
    · rw [hg]
      show E (match T Γ with
          | .nx Γ' => sWhileN g T n Γ'
          | .ct Γ' => sWhileN g T n Γ'
          | .bk Γ' => .nx Γ'
          | r => r)
      rcases ht with ⟨Γ', m', hT, hm, hI'⟩ | ⟨Γ', hT, hE⟩ | ⟨d, hT, hE⟩ | ⟨c, Γ', hT, hE⟩
      · rcases hT with hT | hT <;> (rw [hT]; exact whileN_inv I E turn n m' Γ' hI' (by omega))
      · rw [hT]; exact hE
      · rw [hT]; exact hE
      · rw [hT]; exact hE
theorem while_inv {g : Ga → R Bool} {T : Ga → RS} (I : Nat → Ga → Prop) (E : RS → Prop) {m : Nat} {Γ : Ga} (h0 : I m Γ) (hm : m < FUEL)
    (turn : ∀ m Γ, I m Γ → (g Γ = .ok false ∧ E (.nx Γ)) ∨ (g Γ = .ok true ∧ ((∃ Γ' m', (T Γ = .nx Γ' ∨ T Γ = .ct Γ') ∧ m' < m ∧ I m' Γ') ∨ (∃ Γ', T Γ = .bk Γ' ∧ E (.nx Γ')) ∨ (∃ d, T Γ = .rt d ∧ E (.rt d)) ∨ (∃ c Γ', T Γ = .ex c Γ' ∧ E (.ex c Γ'))))) :
    E (sWhile g T Γ) := whileN_inv I E turn FUEL m Γ h0 hm
/-- a for whose turns go through: the slots are folded -/
theorem turns_fold {α : Type} {g : D → Ga → Option Ga} {T : Ga → RS} (G : α → Ga) (F : α → D → α) : ∀ (ds : List D) (a : α), (∀ a d, d ∈ ds → ∃ Γ1, g d (G a) = some Γ1 ∧ (T Γ1 = .nx (G (F a d)) ∨ T Γ1 = .ct (G (F a d)))) → sTurns g T ds (G a) = .nx (G (ds.foldl F a))
  | [], a, _ => rfl
  | d :: ds, a, h => by
    obtain ⟨Γ1, h1, h2⟩ := h a d List.mem_cons_self
    unfold sTurns
    rw [h1]
    have ih := turns_fold G F ds (F a d) fun a x hx => h a x (List.mem_cons_of_mem _ hx)
    rcases h2 with h2 | h2 <;> (dsimp only; rw [h2]; exact ih)
/-- by what holds between two turns -/
theorem turns_inv {g : D → Ga → Option Ga} {T : Ga → RS} (I : List D → Ga → Prop) (E : RS → Prop) (h0 : ∀ Γ, I [] Γ → E (.nx Γ))
    (turn : ∀ d ds Γ, I (d :: ds) Γ → ∃ Γ1, g d Γ = some Γ1 ∧ ((∃ Γ', (T Γ1 = .nx Γ' ∨ T Γ1 = .ct Γ') ∧ I ds Γ') ∨ (∃ Γ', T Γ1 = .bk Γ' ∧ E (.nx Γ')) ∨ (∃ d, T Γ1 = .rt d ∧ E (.rt d)) ∨ (∃ c Γ', T Γ1 = .ex c Γ' ∧ E (.ex c Γ')))) :
    ∀ (ds : List D) (Γ : Ga), I ds Γ → E (sTurns g T ds Γ)
  | [], Γ, hp => h0 Γ hp
  | d :: ds, Γ, hp => by
    obtain ⟨Γ1, e, h⟩ := turn d ds Γ hp
    unfold sTurns
    rw [e]
    dsimp only
    rcases h with ⟨Γ', hT, hI'⟩ | ⟨Γ', hT, hE⟩ | ⟨d, hT, hE⟩ | ⟨c, Γ', hT, hE⟩
    · rcases hT with hT | hT <;> (rw [hT]; exact turns_inv I E h0 turn ds Γ' hI')
    · rw [hT]; exact hE
    · rw [hT]; exact hE
    · rw [hT]; exact hE
theorem atI_mem {α : Type} {l : List α} {i : Int} {x : α} (h : atI l i = some x) : x ∈ l := by
  unfold atI at h
  obtain ⟨j, _, e⟩ := Option.bind_eq_some_iff.mp h
  exact List.mem_of_getElem? e
theorem atI_some {α : Type} {l : List α} {i : Int} (h0 : 0 ≤ i) (h1 : i < l.length) : ∃ x, atI l i = some x := by
  unfold atI ixN
  rw [if_pos h0, if_pos h1]
  exact ⟨l[i.toNat]'(by omega), List.getElem?_eq_getElem (by omega)⟩
theorem cut_mem {α : Type} {l : List α} {a b : Option Int} {x : α} (h : x ∈ cut l a b) : x ∈ l := List.mem_of_mem_drop (List.mem_of_mem_take h)

/-! ### the top -/
theorem fn_none {P : Program} {w : World} {K : PySem.W.Frag} {mg : Str → Option Value} {base : Heap} {CX : CXT} {k n : Nat} {f : Addr} {fd : FuncData} {ps : List Str} : FnOk P w K mg base CX k f fd ps (spF K mg n fun _ => .no) := by
  have no : ∀ vs H Q E, ¬ spF K mg n (fun _ => .no) vs H Q E := fun vs H Q E ⟨G, ds, _, _, _, e⟩ => e
  exact ⟨fun vs H Q E z => absurd z (no vs H Q E), fun A outer s H args us vs Q E _ _ _ _ z => absurd z (no vs H Q E)⟩
theorem globS {K : PySem.W.Frag} {h : Heap} {mg : Str → Option Value} (X : K.In h) (G : h.Ns mainGlobals mg) {x : Str} {y : Str} {t : Tok} (a : PySem.W.nsIn K mainGlobals x = some (some (.str y t))) : GlobC K mg x (.str y) :=
  ⟨_, .str y, PySem.W.mg_of X G a, ⟨t, rfl⟩, den_str⟩
theorem globT {K : PySem.W.Frag} {h : Heap} {mg : Str → Option Value} (X : K.In h) (G : h.Ns mainGlobals mg) {x : Str} {p : Addr} {od : Option Addr} {its : Array Value} {n : Nat} {sl : Array (Option Value)} {ds : List D} {vs : List V}
    (a : PySem.W.nsIn K mainGlobals x = some (some (.ref p))) (l : K.lookup p = some ⟨.type "tuple", od, .seq its n, sl⟩) (hz : its.size ≤ sizeLine) (hv : Vals vs its.toList) (hd : DenL K (fun _ => none) ds vs) : GlobC K mg x (.tup ds) :=
  ⟨_, .ref p, PySem.W.mg_of X G a, rfl, den_tup.mpr ⟨p, vs, rfl, .inr ⟨_, its, n, l, rfl, rfl, hz, hv⟩, hd⟩⟩
theorem bl_mk {K : PySem.W.Frag} {h : Heap} {mg : Str → Option Value} (X : K.In h) (G : h.Ns mainGlobals mg) (z1 : PySem.W.nsIn K mainGlobals "isinstance" = some none) (z2 : PySem.W.nsIn K mainGlobals "int" = some none) (z3 : PySem.W.nsIn K mainGlobals "bool" = some none)
    (z4 : PySem.W.nsIn K mainGlobals "str" = some none) (z5 : PySem.W.nsIn K mainGlobals "tuple" = some none) (z6 : PySem.W.nsIn K mainGlobals "list" = some none) (z7 : PySem.W.nsIn K mainGlobals "len" = some none) (z8 : PySem.W.nsIn K mainGlobals "all" = some none)
    (z9 : PySem.W.nsIn K mainGlobals "range" = some none) (z10 : PySem.W.nsIn K mainGlobals "enumerate" = some none) : Bl mg :=
  ⟨PySem.W.mg_none_of X G z1, PySem.W.mg_none_of X G z2, PySem.W.mg_none_of X G z3, PySem.W.mg_none_of X G z4, PySem.W.mg_none_of X G z5, PySem.W.mg_none_of X G z6, PySem.W.mg_none_of X G z7, PySem.W.mg_none_of X G z8, PySem.W.mg_none_of X G z9, PySem.W.mg_none_of X G z10⟩
/-- the row's statement from the law's promise -/
theorem walk {l : PySem.W.OpenLaw} {CX : World → CXT} {k : Nat} {x : Str} {F : List D → R D} {q : Program} {loose : List Str} {XP : (Str → Option Value) → Heap → Prop} {YP : World → Heap → Prop} {d : DefRec} {K : Params → PySem.W.Frag} (hn : l.most = some 63) (hdf : d.params.defaults = []) (hr : Room k callerA)
    (hY : ∀ (w : World) (h : Heap), YP w h → (K w.params).In h) (hF : ∀ ns : List Int, ns.length ≤ 63 → F [.lst (ns.map D.int)] = .ok (.bl true))
    (A : ∀ (w : World) (mg : Str → Option Value) (fa : Addr) (h : Heap), (K w.params).In h → h.Ns mainGlobals mg → mg d.name = some (.ref fa) →
      ∃ fd : FuncData, (∀ (s : Shared) (u : Value), BindsTo s fd ⟨[u], []⟩ [(x, u)]) ∧ ∀ base : Heap, (K w.params).In base → base.Ns mainGlobals mg → FnOk l.prog w (K w.params) mg base (CX w) k fa fd [x] (spL (K w.params) F))
    (hCX : ∀ (w : World) (H : Hp) (s : Shared) (e : Value) (s' : Shared), CX w [] H s E0 e s' → False) :
    PySem.W.WalkO q loose XP YP l.row.toRowW d [] (fun f vs => PySem.call f vs) :=
  L2.walk_of (n := 63) (k := k) (x := x) (CX := CX) (sp := fun w => spL (K w.params) F) hn (by decide) hdf hr hY A (fun _ _ a ns hl _ hS => spL_of hS (hF ns hl)) hCX
end Wy

/-! enumerate of a tuple or a list; tuples put together, whatever their lengths -/
namespace Wy
open PySem PySem.Spec PyProof.Rows L2

/-! ### t + u -/
section
variable {X : Cx}
theorem op_cat0 : OpR X (binaryOp .Add) (fun x y H Q => ∃ a b ys, x = .ref a ∧ y = .ref b ∧ SqT X.K H a [] ∧ SqT X.K H b ys ∧ Q (.ref b) H) := by
  rintro pins s σ H x y v u Q I rx ry ⟨a, b, ys, rfl, rfl, ha, hb, q⟩
  obtain rfl : v = Value.ref a := rx
  obtain rfl : u = Value.ref b := ry
  obtain ⟨ia, ra, ⟨⟨c1, d1, t1, s1⟩, g1, hc1, n1, hd1⟩, _⟩ := I.tuple ha
  obtain ⟨ib, rb, ⟨⟨c2, d2, t2, s2⟩, g2, hc2, n2, hd2⟩, _⟩ := I.tuple hb
  cases ra
  cases hc1
  cases hd1
  cases hc2
  cases hd2
  exact concat_meets ⟨_, g1, rfl⟩ ⟨_, g2, rfl⟩ noFill_tuple_add seq_tuple_add PySem.F.slot_tuple_add PySem.F.entry_tuple_add (PySem.F.args_tuple_add_2 _ _) (tuple_addW0 a b _ ib.toArray n1 n2 d1 d2 s1 s2 rfl) ⟨g1, g2, .ref b, H, I, rfl, q⟩
def catD : D → D → Option D
  | .tup xs, .tup ys => if 100000 < xs.length + ys.length then none else some (.tup (xs ++ ys))
  | _, _ => none
theorem opd_cat : OpD X (binaryOp .Add) catD := ⟨_, op_cat0.or op_catT, fun H G x y d1 d2 d g h1 h2 e Q q => by
  unfold catD at e
  split at e
  · rename_i xs ys
    split at e
    · cases e
    · rename_i hz
      cases e
      obtain ⟨a, vs, rfl, sa, la⟩ := den_tup.mp h1
      obtain ⟨b, us, rfl, sb, lb⟩ := den_tup.mp h2
      cases xs with
      | nil =>
        cases denL_nil.mp la
        exact .inl ⟨a, b, us, rfl, rfl, Same.seqT g sa, Same.seqT g sb, q _ H G (.refl g) h2⟩
      | cons x1 xs =>
        have zv : vs ≠ [] := fun z => by have := la.length; rw [z] at this; cases this
        refine .inr ⟨a, b, vs, us, rfl, rfl, Same.seqT g sa, Same.seqT g sb, zv, by rw [← la.length, ← lb.length]; exact Nat.le_trans (Nat.le_of_not_lt hz) (by decide), fun z => ?_, fun z p hp => ?_⟩
        · have : ys = [] := List.length_eq_zero_iff.mp (by rw [lb.length, z]; rfl)
          subst this
          exact q _ H G (.refl g) (by rw [List.append_nil]; exact h1)
        · have A := Ext.alloc (o := .tup (vs ++ us)) g hp
          exact q _ _ _ A (den_tup.mpr ⟨p, _, rfl, SqT.of upd_same, (la.append lb).up A.gg⟩)
  · cases e⟩
end

/-! ### the next thing of a tuple's iterator, handed on or told as an end -/
section
variable {prog : Program} {w : World} {A : Around} {E : Value → Shared → Prop} {s : Shared}
theorem nextT_item {j t : Addr} {k : Nat} {its : Array Value} {v : Value} {Q : Value → Shared → Prop} (hj : s.heap.IsTupleIter j t k) (ht : s.heap.IsTuple t its) (hv : its[k]? = some v)
    (go : ∀ h', h'.IsTupleIter j t (k + 1) → Heap.SameBut j s.heap h' → Q v { s with heap := h' }) : wpAny (model prog w) A (Builtin.SmallTypes.nextOf (.ref j)) Q E s := by
  obtain ⟨oj, gj, cj, dj⟩ := id hj
  obtain ⟨ot, gt, _, nt, dt⟩ := ht
  unfold Builtin.SmallTypes.nextOf
  refine wpAny_bind (wpAny_callSpecial?_slot (name := Str.ofString "__next__") hj.typeIs F.slot_tuple_iterator_next (wpAny_call_entry F.slot_tuple_iterator_next hj.typeIs F.entry_tuple_iterator_next ?_ (F.args_tuple_iterator_next_1 _)))
  refine wpAny_bind (m := field (.ref j) 0) (wpAny_field gj dj (x := .ref t) rfl ?_)
  show wpAny _ _ (if (Value.ref t == Value.none) = true then _ else _) _ _ s
  rw [if_neg (show ¬ ((Value.ref t == Value.none) = true) by exact Bool.false_ne_true)]
  refine wpAny_bind (m := field (.ref j) 1) (wpAny_field gj dj (x := .int k 0) rfl (wpAny_bind (m := seqItems? (.ref t)) (wpAny_seqItems gt dt ?_)))
  simp only [hv, Int.toNat_natCast]
  refine wpAny_bind (wpAny_setField gj dj (by simp) (wpAny_pure ⟨v, rfl, wpAny_pure (go _ ⟨_, Heap.get?_update_self _ gj (Obj.isFreed_of_fields (Obj.data_mapFields dj _)), (Obj.cls_mapFields ..).trans cj, ?_⟩ (Heap.SameBut.update ..))⟩))
  rw [Obj.data_mapFields dj]
  simp [rawInt]
theorem nextT_stop {j t : Addr} {k : Nat} {its : Array Value} {Q : Value → Shared → Prop} (hh : A.handled = none) (hj : s.heap.IsTupleIter j t k) (ht : s.heap.IsTuple t its) (hv : its[k]? = none)
    (go : ∀ h' x, Heap.ExtBut j s.heap h' → (∃ o, h'.get? x = some o ∧ o.cls = .type "StopIteration") → E (.ref x) { s with heap := h' }) : wpAny (model prog w) A (Builtin.SmallTypes.nextOf (.ref j)) Q E s := by
  obtain ⟨oj, gj, cj, dj⟩ := id hj
  obtain ⟨ot, gt, _, nt, dt⟩ := ht
  unfold Builtin.SmallTypes.nextOf
  refine wpAny_bind (wpAny_callSpecial?_slot (name := Str.ofString "__next__") hj.typeIs F.slot_tuple_iterator_next (wpAny_call_entry F.slot_tuple_iterator_next hj.typeIs F.entry_tuple_iterator_next ?_ (F.args_tuple_iterator_next_1 _)))
  refine wpAny_bind (m := field (.ref j) 0) (wpAny_field gj dj (x := .ref t) rfl ?_)
  show wpAny _ _ (if (Value.ref t == Value.none) = true then _ else _) _ _ s
  rw [if_neg (show ¬ ((Value.ref t == Value.none) = true) by exact Bool.false_ne_true)]
  refine wpAny_bind (m := field (.ref j) 1) (wpAny_field gj dj (x := .int k 0) rfl (wpAny_bind (m := seqItems? (.ref t)) (wpAny_seqItems gt dt ?_)))
  simp only [hv, Int.toNat_natCast]
  refine wpAny_bind (wpAny_rule (wpAny_bind (wpAny_setField gj dj (by simp) ?_)))
  refine wpAny_bind (m := newExc (.type "StopIteration") []) ?_
  simp only [newExc, newTuple]
  refine wpAny_bind (wpAny_newObj_type (wpAny_bind (m := firstArgMember _ _) (wpAny_of_eq (a := Value.none) (by first | rfl | (simp only [firstArgMember]; rfl)) (wpAny_newObj_type ?_ (by size_fits)))) (by size_fits))
  simp only [raiseNew]
  refine wpAny_bind (wpAny_handled ?_)
  first | rw [show A.in1.handled = none from hh] | rw [hh]
  exact wpAny_bind (wpAny_pure (wpAny_throw (go _ _ (((Heap.SameBut.update ..).extBut.push _).push _) ⟨_, Heap.get?_push_size _ rfl, rfl⟩)))

/-- one turn of enumerate, whatever it walks -/
theorem enum_turn {e j : Addr} {k : Nat} {v old : Value} {R : Heap → Prop} {Q : Value → Shared → Prop} (he : IsEnum s.heap e j k old) (hne : e ≠ j)
    (nx : ∀ (Q' : Value → Shared → Prop), (∀ h1, R h1 → Heap.SameBut j s.heap h1 → Q' v { s with heap := h1 }) → wpAny (model prog w) A (Builtin.SmallTypes.nextOf (.ref j)) Q' E s)
    (stay : ∀ h h', R h → (∀ o, h.get? j = some o → h'.get? j = some o) → R h')
    (go : ∀ h', IsEnumOut h' e j ((k : Int) + 1) v s.heap.objs.size → R h' → h'.get? s.heap.objs.size = some { cls := .type "tuple", data := .seq #[.int k s.toks, v] } →
      (∀ b o, b ≠ e → b ≠ j → s.heap.get? b = some o → h'.get? b = some o) → Q (.ref s.heap.objs.size) { s with heap := h', toks := s.toks + 1 }) :
    wpAny (model prog w) A (Builtin.«enumerate.__next__» ⟨[.ref e], []⟩) (fun fin s' => ∃ x, fin = .done (.ret x) ∧ Q x s') E s := by
  obtain ⟨h0, gs, dr, tk, os⟩ := s
  have le : e < h0.objs.size := Heap.lt_size he
  refine wpAny_bind (m := field (.ref e) 2) (wpAny_field he rfl (x := .ref j) rfl (wpAny_bind (nx _ fun h1 r1 b1 => ?_)))
  have b1 : Heap.SameBut j h0 h1 := b1
  have e1 : IsEnum h1 e j k old := (b1.2 e hne).trans he
  refine wpAny_bind (m := field (.ref e) 3) (wpAny_field e1 rfl (x := rawInt k) rfl (wpAny_bind (m := field (.ref e) 4) (wpAny_field e1 rfl (x := .none) rfl (wpAny_bind (m := mkInt k) (wpAny_mkInt ?_)))))
  refine wpAny_bind (m := setField (.ref e) 3 (rawInt ((k : Int) + 1))) (wpAny_setField_rec e1 (by simp) fun h2 e2 b2 => ?_)
  have b2 : Heap.SameBut e h1 h2 := b2
  have e2 : IsEnum h2 e j ((k : Int) + 1) old := e2
  refine wpAny_bind (m := setField (.ref e) 4 .none) (wpAny_setField_rec e2 (by simp) fun h3 e3 b3 => ?_)
  have b3 : Heap.SameBut e h2 h3 := b3
  have e3 : IsEnum h3 e j ((k : Int) + 1) old := e3
  refine wpAny_bind (m := newTuple [.int k tk, v]) (wpAny_newTuple ?_)
  have z3 : h3.objs.size = h0.objs.size := by rw [b3.1, b2.1, b1.1]
  rw [show (Value.ref (Shared.heap ⟨h3, gs, dr, tk + 1, os⟩).objs.size) = Value.ref h0.objs.size from congrArg Value.ref z3]
  have e4 : IsEnum (h3.push { cls := .type "tuple", data := .seq #[.int k tk, v] }) e j ((k : Int) + 1) old := Heap.get?_push_of_some _ e3
  have t4 : (h3.push { cls := .type "tuple", data := .seq #[.int k tk, v] }).get? h0.objs.size = some { cls := .type "tuple", data := .seq #[.int k tk, v] } := by rw [← z3]; exact Heap.get?_push_size _ rfl
  have old4 : ∀ b o, b ≠ e → b ≠ j → h0.get? b = some o → (h3.push { cls := .type "tuple", data := .seq #[.int k tk, v] }).get? b = some o := fun b o hb hb' g => Heap.get?_push_of_some _ (b3.extBut b o hb (b2.extBut b o hb (b1.extBut b o hb' g)))
  have r4 : R (h3.push { cls := .type "tuple", data := .seq #[.int k tk, v] }) := stay h1 _ r1 fun o g => Heap.get?_push_of_some _ (b3.extBut j o (Ne.symm hne) (b2.extBut j o (Ne.symm hne) g))
  generalize h3.push { cls := .type "tuple", data := .seq #[.int k tk, v] } = h4 at e4 t4 old4 r4
  refine wpAny_bind (m := Builtin.SmallTypes.ownedTupleIsFree (.ref e)) ?_
  unfold Builtin.SmallTypes.ownedTupleIsFree
  refine wpAny_bind (wpAny_field e4 rfl (x := .none) rfl (wpAny_pure ?_))
  simp only [if_true]
  refine wpAny_bind (wpAny_rule (wpAny_bind (wpAny_field e4 rfl (x := old) rfl (wpAny_bind (wpAny_setField_rec e4 (by simp) fun h5 e5 b5 => ?_)))))
  have b5 : Heap.SameBut e h4 h5 := b5
  have e5 : IsEnum h5 e j ((k : Int) + 1) v := e5
  refine wpAny_bind (m := Builtin.SmallTypes.ownedTupleHandOut (.ref e) (.ref h0.objs.size)) ?_
  unfold Builtin.SmallTypes.ownedTupleHandOut
  refine wpAny_bind (wpAny_setField_rec e5 (by simp) fun h6 e6 b6 => ?_)
  have b6 : Heap.SameBut e h5 h6 := b6
  have e6 : IsEnumOut h6 e j ((k : Int) + 1) v h0.objs.size := e6
  refine wpAny_setField_rec e6 (by simp) fun h7 e7 b7 => ?_
  have b7 : Heap.SameBut e h6 h7 := b7
  have all : ∀ b o, b ≠ e → h4.get? b = some o → h7.get? b = some o := fun b o hb g => b7.extBut b o hb (b6.extBut b o hb (b5.extBut b o hb g))
  exact wpAny_bind (wpAny_letGo (wpAny_pure ⟨_, rfl, go h7 e7 (stay h4 h7 r4 fun o g => all j o (Ne.symm hne) g) (all _ _ (Nat.ne_of_gt le) t4) fun b o hb hb' g => all b o hb (old4 b o hb hb' g)⟩))
theorem enum_item {e j : Addr} {k : Nat} {v old : Value} {R : Heap → Prop} {Q : Option Value → Shared → Prop} (he : IsEnum s.heap e j k old) (hne : e ≠ j)
    (nx : ∀ (A' : Around) (Q' : Value → Shared → Prop) (E' : Value → Shared → Prop), (∀ h1, R h1 → Heap.SameBut j s.heap h1 → Q' v { s with heap := h1 }) → wpAny (model prog w) A' (Builtin.SmallTypes.nextOf (.ref j)) Q' E' s)
    (stay : ∀ h h', R h → (∀ o, h.get? j = some o → h'.get? j = some o) → R h')
    (go : ∀ h', IsEnumOut h' e j ((k : Int) + 1) v s.heap.objs.size → R h' → h'.get? s.heap.objs.size = some { cls := .type "tuple", data := .seq #[.int k s.toks, v] } →
      (∀ b o, b ≠ e → b ≠ j → s.heap.get? b = some o → h'.get? b = some o) → Q (some (.ref s.heap.objs.size)) { s with heap := h', toks := s.toks + 1 }) : wpAny (model prog w) A (pyNext (.ref e)) Q E s := by
  have ty : s.TypeIs (.ref e) "enumerate" := ⟨_, he, rfl⟩
  unfold pyNext
  exact wpAny_bind (wpAny_attempt (wpAny_callSpecial?_slot (name := Str.ofString "__next__") ty F.slot_enumerate_next (wpAny_call_entry F.slot_enumerate_next ty F.entry_enumerate_next
    (enum_turn he hne (fun Q' hq => nx _ Q' _ hq) stay fun h' x1 x2 x3 x4 => wpAny_pure (go h' x1 x2 x3 x4)) (F.args_enumerate_next_1 _))))
theorem enum_stop {e j : Addr} {k : Nat} {old : Value} {Q : Option Value → Shared → Prop} (he : IsEnum s.heap e j k old)
    (nx : ∀ (A' : Around) (Q' : Value → Shared → Prop) (E' : Value → Shared → Prop), A'.handled = A.handled → (∀ h' x, Heap.ExtBut j s.heap h' → (∃ o, h'.get? x = some o ∧ o.cls = .type "StopIteration") → E' (.ref x) { s with heap := h' }) → wpAny (model prog w) A' (Builtin.SmallTypes.nextOf (.ref j)) Q' E' s)
    (go : ∀ h', Heap.ExtBut j s.heap h' → Q none { s with heap := h' }) : wpAny (model prog w) A (pyNext (.ref e)) Q E s := by
  have ty : s.TypeIs (.ref e) "enumerate" := ⟨_, he, rfl⟩
  unfold pyNext
  refine wpAny_bind (wpAny_attempt (wpAny_callSpecial?_slot (name := Str.ofString "__next__") ty F.slot_enumerate_next (wpAny_call_entry F.slot_enumerate_next ty F.entry_enumerate_next ?_ (F.args_enumerate_next_1 _))))
  refine wpAny_bind (m := field (.ref e) 2) (wpAny_field he rfl (x := .ref j) rfl (wpAny_bind (nx _ _ _ rfl fun h' x b hx => ?_)))
  obtain ⟨o, go', hc⟩ := hx
  exact wpAny_bind (wpAny_isInstance (T := "StopIteration") (b := true) ⟨o, go', hc⟩ isSubtype_stop (wpAny_pure (go _ b)))
end

/-! ### enumerate, walked -/
section
open PySem.AutoSeq1 (wpAny_loadPart')
theorem meets_enumT (t : Addr) (its : Array Value) (n : Nat) (dd : Option Addr) (sl : Array (Option Value)) : Meets (Builtin.«enumerate.__new__» ⟨[.type "enumerate", .ref t], []⟩) (fun _ R s => s.heap.get? t = some { cls := .type "tuple", dict := dd, data := .seq its n, slots := sl } ∧
    R (.ok (.ret (.ref (s.heap.push { cls := .type "tuple_iterator", data := .fields #[.ref t, .int 0 0] }).objs.size))) { s with heap := (s.heap.push { cls := .type "tuple_iterator", data := .fields #[.ref t, .int 0 0] }).push { cls := .type "enumerate", data := .fields #[.none, .bool false, .ref s.heap.objs.size, rawInt 0, .none, .none] } }) :=
  .of_wp fun prog w A R s hh => by
    obtain ⟨h0, gs, dr, tk, os⟩ := s
    obtain ⟨gt, hR⟩ := hh
    have se := sub_enumerate
    have iT : Heap.IsTuple (Shared.heap ⟨h0, gs, dr, tk, os⟩) t its := ⟨_, gt, rfl, n, rfl⟩
    wp_walk using wpAny_loadPart' gt
    refine wpAny_stack_any fun st => wpAny_pure ?_
    split
    · rename_i c _ _ _ _ _
      cases (c == Value.type "enumerate") <;> (wp_walk using wpAny_loadPart' gt, wpAny_pyIter_tuple iT; exact ⟨_, rfl, hR⟩)
    · wp_walk using wpAny_loadPart' gt, wpAny_pyIter_tuple iT
      exact ⟨_, rfl, hR⟩
end
def SqQ (K : PySem.W.Frag) (q : Bool) (H : Hp) (a : Addr) (xs : List V) : Prop := match q with
  | true => SqT K H a xs
  | false => SqL K H a xs
def innerQ (q : Bool) (j a : Addr) (i : Nat) (h : Heap) : Prop := match q with
  | true => h.IsTupleIter j a i
  | false => h.IsListIter j a i
def Ite (K : PySem.W.Frag) (q : Bool) (a : Addr) : It :=
  ⟨fun i H => ∃ xs x, SqQ K q H a xs ∧ xs[i]? = some x, fun i H x H' => ∃ p v, H p = none ∧ H' = upd H p (.tup [.int i, v]) ∧ x = .ref p ∧ ∀ xs, SqQ K q H a xs → xs[i]? = some v, fun i H => ∃ xs, SqQ K q H a xs ∧ xs.length ≤ i⟩
section
variable {X : Cx} {pins : List (Addr × Obj)} {σ : L2.St} {H : Hp} {s : Shared}
theorem Inv.enumd {e j : Addr} {i : Nat} {x : V} {u : Value} {h' : Heap} {t' tk : Nat} (I : L2.Inv X pins σ H s) (fe : FpOk X pins H e) (fj : FpOk X pins H j) (ru : RelV x u) (hp : h'.get? s.heap.objs.size = some { cls := .type "tuple", data := .seq #[.int i tk, u] })
    (kp : ∀ b o, b ≠ e → b ≠ j → s.heap.get? b = some o → h'.get? b = some o) (th : ∀ b o, s.heap.get? b = some o → ∃ o', h'.get? b = some o') : L2.Inv X pins σ (upd H s.heap.objs.size (.tup [.int i, x])) { s with heap := h', toks := t' } := by
  have fr : H s.heap.objs.size = none := I.fresh
  have ne : ∀ b o, s.heap.get? b = some o → b ≠ s.heap.objs.size := fun b o g => Nat.ne_of_lt (Heap.lt_size g)
  have nh : ∀ b o, H b = some o → b ≠ s.heap.objs.size := fun b o g z => by rw [z, fr] at g; cases g
  have nf : ∀ b o, H b = some o → b ≠ e ∧ b ≠ j := fun b o g => ⟨fun z => (by rw [z, fe.1] at g; cases g), fun z => (by rw [z, fj.1] at g; cases g)⟩
  have nch : ∀ b, b ∉ [e, j] → b ≠ e ∧ b ≠ j := fun b h => ⟨fun z => h (by simp [z]), fun z => h (by simp [z])⟩
  refine I.step (g' := s.gens) (d' := s.drawn) (ch := [e, j]) (fun b hb => ?_) (fun b o _ _ hc g _ => kp b o (nch b hc).1 (nch b hc).2 g) (fun b o _ _ hc g _ => ⟨o.slots, kp b o (nch b hc).1 (nch b hc).2 g⟩) (fun b o _ g n => by rw [upd_ne (ne b o g)]; exact n)
    (fun b o _ g => th b o g) (fun b ys g => by rw [upd_ne (nh b _ g)]; exact g) (fun b o ys g => by rw [upd_ne (nh b _ g)]; exact g) (fun b ps g => ⟨#[], by rw [upd_ne (nh b _ g), g]; simp⟩) (fun m hm => ?_) (fun b o g => ?_) I.bare
  · rcases List.mem_cons.mp hb with z | hb
    · subst z; exact ⟨fe.2.2.2.1, fe.2.1, fe.2.2.2.2.1, fe.2.2.2.2.2⟩
    · rcases List.mem_cons.mp hb with z | hb
      · subst z; exact ⟨fj.2.2.2.1, fj.2.1, fj.2.2.2.2.1, fj.2.2.2.2.2⟩
      · cases hb
  · obtain ⟨o, es, ep, g, r⟩ := hm
    exact ⟨o, es, ep, kp _ o (Ne.symm fe.2.1) (Ne.symm fj.2.1) g, r⟩
  · by_cases z : b = s.heap.objs.size
    · subst z
      rw [upd_same] at g
      cases g
      exact ⟨(by show 2 ≤ sizeLine; decide), [.int i tk, u], .cons ⟨tk, rfl⟩ (.cons ru .nil), _, hp, rfl, _, rfl⟩
    · rw [upd_ne z] at g
      have keepH : ∀ c o, H c = some o → upd H s.heap.objs.size (.tup [.int i, x]) c = some o := fun c o gc => by rw [upd_ne (nh c o gc)]; exact gc
      refine (I.hok b o g).stay (fun c v hc gv => ?_) (fun c gc => keepH c _ gc) fun c ys gc => keepH c _ gc
      rcases hc with z' | z'
      · subst z'; exact kp c v (nf c o g).1 (nf c o g).2 gv
      · exact kp c v (nf c _ z').1 (nf c _ z').2 gv
end

theorem there_enum {e j p : Addr} {h h1 h2 : Heap} (a : ∀ b o, b ≠ e → b ≠ j → h.get? b = some o → h1.get? b = some o) (ej : ∃ o, h1.get? e = some o) (jj : ∃ o, h1.get? j = some o) (sb : Heap.SameBut e h1 h2) (e2 : ∃ o, h2.get? e = some o) : ∀ b o, h.get? b = some o → ∃ o', h2.get? b = some o' := fun b o g => by
  by_cases z : b = e
  · subst z; exact e2
  · by_cases z' : b = j
    · subst z'
      obtain ⟨o', g'⟩ := jj
      exact ⟨o', (sb.2 b z).trans g'⟩
    · exact ⟨o, (sb.2 b z).trans (a b o z z' g)⟩
theorem inner_at {q : Bool} {j a : Addr} {i : Nat} {h h' : Heap} (st : innerQ q j a i h) (k : ∀ o, h.get? j = some o → h'.get? j = some o) : innerQ q j a i h' := by
  cases q with
  | true => exact Heap.IsTupleIter.at st k
  | false => exact Heap.IsListIter.at st k
theorem inner_there {q : Bool} {j a : Addr} {i : Nat} {h : Heap} (st : innerQ q j a i h) : ∃ o, h.get? j = some o ∧ ∀ v, o.data ≠ .cell v := by
  cases q with
  | true => obtain ⟨o, g, _, d⟩ := st; exact ⟨o, g, fun v z => by rw [d] at z; cases z⟩
  | false => obtain ⟨o, g, _, d⟩ := st; exact ⟨o, g, fun v z => by rw [d] at z; cases z⟩
theorem turn_enum {P : Program} {w : World} {K : PySem.W.Frag} {elts : List Expr} {x1 : Nat} {pos : Pos} (q : Bool) (a e j : Addr) (hej : e ≠ j) : Turn P w K (.Tuple elts x1 pos) (Ite K q a) [e, j] e (fun i h => (∃ old, IsEnum h e j i old) ∧ innerQ q j a i h) where
  mem := by simp
  obj := fun i h st b hb => by
    rcases List.mem_cons.mp hb with z | hb
    · subst z
      obtain ⟨⟨old, g⟩, _⟩ := st
      exact ⟨_, g, fun v z => by have z' : Data.fields _ = Data.cell v := z; cases z'⟩
    · have z : b = j := by simpa using hb
      subst z
      exact inner_there st.2
  keep := fun i h h' st k => by
    obtain ⟨⟨old, g⟩, st⟩ := st
    exact ⟨⟨old, k e (by simp) _ g⟩, inner_at st fun o g => k j (by simp) o g⟩
  item := by
    intro X hP hw hK hc i pins s σ H E I hf st hg
    subst hP hw hK
    obtain ⟨⟨old, he⟩, st⟩ := st
    obtain ⟨xs, x, hq, hx⟩ := hg
    have fe := hf e (by simp)
    have fj := hf j (by simp)
    have fin : ∀ u, RelV x u → ∀ h', IsEnumOut h' e j ((i : Int) + 1) u s.heap.objs.size → innerQ q j a (i + 1) h' → h'.get? s.heap.objs.size = some { cls := .type "tuple", data := .seq #[.int i s.toks, u] } →
        (∀ b o, b ≠ e → b ≠ j → s.heap.get? b = some o → h'.get? b = some o) → (∀ ys, SqQ X.K q H a ys → ys[i]? = some x) → ∃ v, some (Value.ref s.heap.objs.size) = some v ∧ wpAny (model X.prog X.w) X.A (letOwnedTupleGo (.Tuple elts x1 pos) (.ref e) v)
          (fun _ s2 => ∃ x H', L2.Inv X pins σ H' s2 ∧ RelV x v ∧ (Ite X.K q a).yld i H x H' ∧ ((∃ old, IsEnum s2.heap e j ((i + 1 : Nat) : Int) old) ∧ innerQ q j a (i + 1) s2.heap) ∧ ∀ b ∈ [e, j], H' b = none) E { s with heap := h', toks := s.toks + 1 } := fun u ru h' ho hin hp kp hy => by
      refine ⟨_, rfl, wpAny_letOwnedTupleGo_enum (s := { s with heap := h', toks := s.toks + 1 }) ho fun h2 he2 sb => ?_⟩
      have sb : Heap.SameBut e h' h2 := sb
      obtain ⟨oj, gj, _⟩ := inner_there hin
      have le : e < s.heap.objs.size := Heap.lt_size he
      have lj : j < s.heap.objs.size := by obtain ⟨o, g, _⟩ := inner_there st; exact Heap.lt_size g
      refine ⟨.ref s.heap.objs.size, upd H s.heap.objs.size (.tup [.int i, x]), Inv.enumd (tk := s.toks) (t' := s.toks + 1) I fe fj ru ((sb.2 _ (Nat.ne_of_gt le)).trans hp) (fun b o hb hb' g => (sb.2 b hb).trans (kp b o hb hb' g)) (there_enum (p := e) kp ⟨_, ho⟩ ⟨oj, gj⟩ sb ⟨_, he2⟩), rfl,
        ⟨_, x, I.fresh, rfl, rfl, hy⟩, ⟨⟨u, he2⟩, inner_at hin fun o g => (sb.2 j (Ne.symm hej)).trans g⟩, fun b hb => ?_⟩
      rcases List.mem_cons.mp hb with z | hb
      · subst z; rw [upd_ne (Nat.ne_of_lt le)]; exact fe.1
      · have z : b = j := by simpa using hb
        subst z; rw [upd_ne (Nat.ne_of_lt lj)]; exact fj.1
    cases q with
    | true =>
      obtain ⟨its, rv, p, hz⟩ := I.tuple hq
      obtain ⟨u, hu, ru⟩ := rv.get hx
      exact enum_item (R := innerQ true j a (i + 1)) he hej (fun A' Q' E' hq' => nextT_item st (show s.heap.IsTuple a its.toArray from p) (by simpa using hu) hq') (fun h h' r k => inner_at r k) fun h' x1 x2 x3 x4 => fin u ru h' x1 x2 x3 x4 fun ys hys => by rw [I.tuple_inj hys hq]; exact hx
    | false =>
      obtain ⟨its, rv, p, hz⟩ := I.list hq
      obtain ⟨u, hu, ru⟩ := rv.get hx
      exact enum_item (R := innerQ false j a (i + 1)) he hej (fun A' Q' E' hq' => wpAny_nextOf_list_item st p.isList (by simpa using hu) hq') (fun h h' r k => inner_at r k) fun h' x1 x2 x3 x4 => fin u ru h' x1 x2 x3 x4 fun ys hys => by rw [I.list_inj hys hq]; exact hx
  done := by
    intro X hP hw hK hc i pins s σ H E I hf st hg
    subst hP hw hK
    obtain ⟨⟨old, he⟩, st⟩ := st
    obtain ⟨xs, hq, hx⟩ := hg
    obtain ⟨f0, f1, f2, f3, f4, f5⟩ := hf j (by simp)
    have hh := I.ok.hd hc
    cases q with
    | true =>
      obtain ⟨its, rv, p, hz⟩ := I.tuple hq
      have hl := rv.length
      exact enum_stop he (fun A' Q' E' hA go => nextT_stop (hA.trans hh) st (show s.heap.IsTuple a its.toArray from p) (by simp; omega) go) fun h' eb => ⟨rfl, I.turned (t' := s.toks) (fun b o hb g => eb b o hb g) f0 f1 f3 f4 f5⟩
    | false =>
      obtain ⟨its, rv, p, hz⟩ := I.list hq
      have hl := rv.length
      exact enum_stop he (fun A' Q' E' hA go => wpAny_nextOf_list_end (hA.trans hh) st p.isList (by simp; omega) go) fun h' eb => ⟨rfl, I.turned (t' := s.toks) (fun b o hb g => eb b o hb g) f0 f1 f3 f4 f5⟩
  self := fun _ _ _ _ _ st h => let ⟨⟨_, g⟩, _⟩ := st; wpAny_pyIter_enum g h
section
variable {X : Cx} {W : XP} {a : Expr} {f : Ga → R D} {p pos tpos : Pos} {elts : List Expr} {x1 : Nat}
/-- enumerate(xs) of a tuple or a list of the value heap -/
def enumL (ds : List D) : List D := (List.range ds.length).map fun (k : Nat) => D.tup [.int (k : Int), ds.getD k .non]
def enumD (d : D) : Option (List D) := match d with
  | .tup ds => some (enumL ds)
  | .lst ds => some (enumL ds)
  | _ => none
def iEnum (K : PySem.W.Frag) (ta : TE) : TI := fun σ H R => ta σ H fun x H1 => ∃ q a, x = .ref a ∧ (∃ xs, SqQ K q H1 a xs) ∧ R (Ite K q a) H1
theorem enum_made {s : Shared} {t : Addr} {its : Array Value} {Q : Value → Shared → Prop} {prog : Program} {w : World} {A : Around} {E : Value → Shared → Prop} (ht : s.heap.IsTuple t its)
    (go : ∀ h', IsEnum h' (s.heap.objs.size + 1) s.heap.objs.size 0 .none → h'.IsTupleIter s.heap.objs.size t 0 → (∀ b o, s.heap.get? b = some o → h'.get? b = some o) → Q (.ref (s.heap.objs.size + 1)) { s with heap := h' }) :
    wpAny (model prog w) A (call (.type "enumerate") [.ref t]) Q E s := by
  obtain ⟨⟨c, dd, dt, sl⟩, gt, hc, n, hd⟩ := ht
  cases hc
  cases hd
  refine callType_new F.called_enumerate (by decide) (F.typeCall_enumerate_1 _) (F.newCall_enumerate_1 _) (fun obj => F.args_object_init_2 obj _) F.entry_enumerate_new (meets_enumT t its n dd sl) ⟨gt, ?_⟩
  have hz : (s.heap.push { cls := .type "tuple_iterator", data := .fields #[.ref t, .int 0 0] }).objs.size = s.heap.objs.size + 1 := Heap.size_push ..
  have he := Heap.get?_push_size (s.heap.push { cls := .type "tuple_iterator", data := .fields #[.ref t, .int 0 0] }) (o := { cls := .type "enumerate", data := .fields #[.none, .bool false, .ref s.heap.objs.size, rawInt 0, .none, .none] }) rfl
  rw [hz] at he
  show _ ∧ _
  rw [hz]
  exact ⟨⟨_, he, rfl⟩, go _ he ⟨_, Heap.get?_push_of_some _ (Heap.get?_push_size _ rfl), rfl, rfl⟩ fun b o g => Heap.get?_push_of_some _ (Heap.get?_push_of_some _ g)⟩
theorem pi_enum {ta : TE} (hg : Gl X "enumerate") (hm : X.mg "enumerate" = none) (ha : PE X a ta) (hs : starEach [a] X.env = [(false, eval a X.env)] := by rfl) : PI X (.Tuple elts x1 tpos) (.Call (.Name "enumerate" p) [a] [] pos) (iEnum X.K ta) := by
  intro pins s σ H R I h
  refine Call_ (ld_blt I hg hm boot_enumerate (PyProof.Rows.callWith_type1 (thn (pa_cons ha pa_nil hs pos pins s σ H (fun vs H1 => ∃ v, vs = [v] ∧ ∃ q a, v = .ref a ∧ (∃ xs, SqQ X.K q H1 a xs) ∧ R (Ite X.K q a) H1) I ?_) fun us s1 ⟨vs, H1, I1, r1, q1⟩ => ?_) hs rfl))
  · have h' : ta σ H fun x H1 => ∃ q a, x = .ref a ∧ (∃ xs, SqQ X.K q H1 a xs) ∧ R (Ite X.K q a) H1 := h
    have mono : ∀ (Q1 Q2 : VK), (∀ v H, Q1 v H → Q2 v H) → Q1 = Q1 := fun _ _ _ => rfl
    show ta σ H fun x H1 => ∃ v, [x] = [v] ∧ ∃ q a, v = .ref a ∧ (∃ xs, SqQ X.K q H1 a xs) ∧ R (Ite X.K q a) H1
    have e : (fun (x : V) (H1 : Hp) => ∃ v, [x] = [v] ∧ ∃ q a, v = .ref a ∧ (∃ xs, SqQ X.K q H1 a xs) ∧ R (Ite X.K q a) H1) = (fun x H1 => ∃ q a, x = .ref a ∧ (∃ xs, SqQ X.K q H1 a xs) ∧ R (Ite X.K q a) H1) := by
      funext x H1
      refine propext ⟨?_, fun z => ⟨x, rfl, z⟩⟩
      rintro ⟨v, e, z⟩
      cases e
      exact z
    rw [e]
    exact h'
  · obtain ⟨v, rfl, q, l, rfl, ⟨xs, hq⟩, hR⟩ := q1
    obtain ⟨u, rfl, ru⟩ := r1.one
    obtain rfl : u = Value.ref l := ru
    have fin : ∀ h', IsEnum h' (s1.heap.objs.size + 1) s1.heap.objs.size 0 .none → innerQ q s1.heap.objs.size l 0 h' → (∀ b o, s1.heap.get? b = some o → h'.get? b = some o) →
        wpAny (model X.prog X.w) X.A (pyIter (.ref (s1.heap.objs.size + 1))) (PIE X pins σ (.Tuple elts x1 tpos) R) X.xe { s1 with heap := h' } := fun h' he hin kp => by
      refine wpAny_pyIter_enum (s := { s1 with heap := h' }) he ?_
      refine ⟨s1.heap.objs.size + 1, [s1.heap.objs.size + 1, s1.heap.objs.size], _, _, H1, rfl, I1.kept (t' := s1.toks) kp, turn_enum q l _ _ (by simp), ⟨⟨_, he⟩, hin⟩, fun b hb => ?_, hR⟩
      rcases List.mem_cons.mp hb with z | hb
      · subst z; exact I1.fpOk (Nat.le_succ _) (I1.hok.fresh (Nat.le_succ _))
      · have z : b = s1.heap.objs.size := by simpa using hb
        subst z; exact I1.fpOk (Nat.le_refl _) (I1.hok.fresh (Nat.le_refl _))
    cases q with
    | true =>
      obtain ⟨its, rv, pt, hz⟩ := I1.tuple hq
      exact enum_made (show s1.heap.IsTuple l its.toArray from pt) fun h' he hin kp => fin h' he hin kp
    | false =>
      obtain ⟨its, rv, pl, hz⟩ := I1.list hq
      exact call_enumerate_list pl.isList fun h' he hin _ kp => fin h' he hin kp
def iE (f : Ga → R D) : Ga → R (List D) := fun Γ => (f Γ).bind fun d => .ofO (enumD d)
theorem it_enum (hg : Gl X "enumerate") (hm : X.mg "enumerate" = none) (he : EvD X W a f) (hs : starEach [a] X.env = [(false, eval a X.env)] := by rfl) : ItD X W (.Tuple elts x1 tpos) (.Call (.Name "enumerate" p) [a] [] pos) (iE f) := by
  obtain ⟨t, pe, q⟩ := he
  refine ⟨_, pi_enum hg hm pe hs, fun H₀ G₀ Γ σ H G R Q w => ?_⟩
  refine q _ _ _ _ _ _ R _ (wStep w (fun _ h => h) fun d w v H' G' E1 d1 => ?_)
  obtain ⟨ds, e2, k⟩ := wOfO w
  have main : ∀ (b : Bool) (a : Addr) (xs : List D) (vs : List V), SqQ X.K b G' a vs → DenL X.K G' xs vs → ds = enumL xs → ∃ q a', V.ref a = .ref a' ∧ (∃ xs, SqQ X.K q H' a' xs) ∧ Q (Ite X.K q a') H' := fun b a xs vs sq l hds => by
    have up : ∀ {H2 : Hp}, Same G' H2 → SqQ X.K b H2 a vs := fun {H2} g => by
      cases b with
      | true => exact Same.seqT g sq
      | false => exact g.seq sq
    subst hds
    refine ⟨b, a, rfl, ⟨vs, up E1.gh⟩, k _ H' G' E1 fun i H2 G2 g2 h2 => ⟨fun d hd => ?_, fun hi => ⟨vs, up (g2.trans h2), ?_⟩⟩⟩
    · unfold enumL at hd
      rw [List.getElem?_map] at hd
      obtain ⟨m, em, ed⟩ := Option.map_eq_some_iff.mp hd
      obtain ⟨hm', e3⟩ := List.getElem?_eq_some_iff.mp em
      rw [List.getElem_range] at e3
      rw [List.length_range] at hm'
      subst e3
      obtain ⟨v, hv, dv⟩ := l.get (List.getElem?_eq_getElem hm')
      refine ⟨⟨vs, v, up (g2.trans h2), hv⟩, fun x H3 ⟨p, v', hp, eH, ex, hy⟩ => ?_⟩
      have hv' := hy vs (up (g2.trans h2))
      rw [hv] at hv'
      cases hv'
      subst eH ex ed
      have A := Ext.alloc (o := .tup [.int i, v]) h2 hp
      refine ⟨_, A, den_tup.mpr ⟨p, _, rfl, SqT.of upd_same, denL_cons.mpr ⟨_, _, rfl, den_int, .one ?_⟩⟩⟩
      rw [List.getD_eq_getElem?_getD, List.getElem?_eq_getElem hm']
      exact (dv.up g2).up A.gg
    · have hi' := hi
      unfold enumL at hi'
      rw [List.length_map, List.length_range] at hi'
      rw [← l.length]
      exact hi'
  cases d with
  | tup xs =>
    cases e2
    obtain ⟨a, vs, rfl, s, l⟩ := den_tup.mp d1
    exact main true a xs vs s l rfl
  | lst xs =>
    cases e2
    obtain ⟨a, vs, rfl, s, l⟩ := den_lst.mp d1
    exact main false a xs vs s l rfl
  | _ => cases e2
end
end Wy

/-! names for what the texts' functions are made of; how they are reckoned -/
namespace Wy
open PySem PySem.Spec PyProof.Rows L2
def lenS : Bool × List D → Option D := fun p => some (.int p.2.length)
def allS : Bool × List D → Option D := fun p => match p with
  | (false, ds) => (asBs ds).bind fun bs => some (.bl (bs.all id))
  | _ => none
def tupS : Bool × List D → Option D := fun p => some (.tup p.2)
def neS : D → D → Option D := fun x y => (eqS x y).bind fun d => match d with
  | .bl b => some (.bl (!b))
  | _ => none
def sRet0 : Ga → RS := fun _ => .rt .non

def RS.seq (r : RS) (U : Ga → RS) : RS := match r with
  | .nx Γ' => U Γ'
  | r => r
def RS.fin (r : RS) : R D := match r with
  | .rt d => .ok d
  | .nx _ => .ok .non
  | .ex c _ => .ex c
  | _ => .no
@[simp] theorem callR_eq (N : List Str) (s : Ga → RS) (ds : List D) : callR N s ds = (s (begin_ N ds)).fin := nr rfl
section
variable {α β : Type} {Γ Γ' : Ga} {d x y : D} {xs : List D} {f fa fb fc : Ga → R D} {fl : Ga → R (List D)} {fs : Ga → R (Bool × List D)} {g ga gb : Ga → R Bool} {T U : Ga → RS} {F F' : D → D → Option D} {n : Nat} {sl : Sl} {c : Str}
@[simp] theorem seq_nx : RS.seq (.nx Γ) U = U Γ := nr rfl
@[simp] theorem seq_rt : RS.seq (.rt d) U = .rt d := nr rfl
@[simp] theorem seq_bk : RS.seq (.bk Γ) U = .bk Γ := nr rfl
@[simp] theorem seq_ct : RS.seq (.ct Γ) U = .ct Γ := nr rfl
@[simp] theorem seq_ex : RS.seq (.ex c Γ) U = .ex c Γ := nr rfl
@[simp] theorem seq_no : RS.seq .no U = .no := nr rfl
@[simp] theorem fin_rt : RS.fin (.rt d) = .ok d := nr rfl
@[simp] theorem fin_nx : RS.fin (.nx Γ) = .ok .non := nr rfl
@[simp] theorem fin_ex : RS.fin (.ex c Γ) = .ex c := nr rfl
@[simp] theorem fin_no : RS.fin .no = .no := nr rfl
@[simp] theorem seq_ite {p : Prop} [Decidable p] {a b : RS} : RS.seq (if p then a else b) U = if p then RS.seq a U else RS.seq b U := by split <;> rfl
@[simp] theorem fin_ite {p : Prop} [Decidable p] {a b : RS} : RS.fin (if p then a else b) = if p then RS.fin a else RS.fin b := by split <;> rfl
@[simp] theorem bind_ite {p : Prop} [Decidable p] {a b : R α} {k : α → R β} : R.bind (if p then a else b) k = if p then R.bind a k else R.bind b k := by split <;> rfl
@[simp] theorem of_ite {p : Prop} [Decidable p] {a b : R α} {k : α → RS} : RS.of (if p then a else b) Γ k = if p then RS.of a Γ k else RS.of b Γ k := by split <;> rfl
@[simp] theorem calm_ite {p : Prop} [Decidable p] {a b : R α} : R.calm (if p then a else b) = if p then R.calm a else R.calm b := by split <;> rfl
@[simp] theorem ofO_ite {p : Prop} [Decidable p] {a b : Option α} : R.ofO (if p then a else b) = if p then R.ofO a else R.ofO b := by split <;> rfl
@[simp] theorem eC_eq : eC d Γ = .ok d := nr rfl
@[simp] theorem eV_zero : eV 0 (.val d :: Γ) = .ok d := nr rfl
@[simp] theorem eV_succ : eV (n + 1) (sl :: Γ) = eV n Γ := by simp [eV]
@[simp] theorem sV_tup : sV 0 (.val (.tup xs) :: Γ) = .ok (true, xs) := nr rfl
@[simp] theorem sV_lst : sV 0 (.val (.lst xs) :: Γ) = .ok (false, xs) := nr rfl
@[simp] theorem sV_own : sV 0 (.own xs :: Γ) = .ok (false, xs) := nr rfl
@[simp] theorem sV_succ : sV (n + 1) (sl :: Γ) = sV n Γ := by simp [sV]
@[simp] theorem sE_eq : sE f Γ = (f Γ).bind fun d => .ofO (seqOf d) := nr rfl
@[simp] theorem seqOf_tup : seqOf (.tup xs) = some (true, xs) := nr rfl
@[simp] theorem seqOf_lst : seqOf (.lst xs) = some (false, xs) := nr rfl
@[simp] theorem sO_eq : sO fl Γ = (fl Γ).bind fun ds => .ok (false, ds) := nr rfl
@[simp] theorem eO_eq : eO fl Γ = (fl Γ).bind fun ds => .ok (.lst ds) := nr rfl
@[simp] theorem aNil_eq : aNil Γ = .ok [] := nr rfl
@[simp] theorem aCons_eq : aCons f fl Γ = (f Γ).bind fun d => (fl Γ).bind fun ds => .ok (d :: ds) := nr rfl
@[simp] theorem eTup_eq : eTup fl Γ = (fl Γ).bind fun ds => .ok (.tup ds) := nr rfl
@[simp] theorem e2_eq : e2 F fa fb Γ = (fa Γ).bind fun x => (fb Γ).bind fun y => .ofO (F x y) := nr rfl
@[simp] theorem asB_bl {b : Bool} : asB (.bl b) = some b := nr rfl
@[simp] theorem tB_eq : Wy.tB f Γ = (f Γ).bind fun d => .ofO (asB d) := nr rfl
def chainK (k : D) (r : R D) : R D := match k with
  | .bl true => r
  | .bl false => .ok (.bl false)
  | _ => .no
@[simp] theorem chainK_bl {b : Bool} {r : R D} : chainK (.bl b) r = if b = true then r else .ok (.bl false) := by cases b <;> rfl
@[simp] theorem e3_eq : e3 F F' fa fb fc Γ = (fa Γ).bind fun x => (fb Γ).bind fun y => (R.ofO (F x y)).bind fun z => chainK z ((fc Γ).bind fun w => .ofO (F' y w)) := nr rfl
def orK (k : D) (r : R D) : R D := match k with
  | .bl true => .ok (.bl true)
  | .bl false => r
  | _ => .no
@[simp] theorem orK_bl {b : Bool} {r : R D} : orK (.bl b) r = if b = true then .ok (.bl true) else r := by cases b <;> rfl
@[simp] theorem eAnd_eq : eAnd fa fb Γ = (fa Γ).bind fun x => chainK x (fb Γ) := nr rfl
@[simp] theorem eOr_eq : eOr fa fb Γ = (fa Γ).bind fun x => orK x (fb Γ) := nr rfl
def notK (k : D) : R D := match k with
  | .bl k => .ok (.bl (!k))
  | _ => .no
@[simp] theorem notK_bl {b : Bool} : notK (.bl b) = .ok (.bl (!b)) := nr rfl
@[simp] theorem eNot_eq : eNot fa Γ = (fa Γ).bind notK := nr rfl
def negK (k : D) : R D := match k with
  | .int i => .ok (.int (-i))
  | _ => .no
@[simp] theorem negK_int {i : Int} : negK (.int i) = .ok (.int (-i)) := nr rfl
@[simp] theorem eNeg_eq : eNeg fa Γ = (fa Γ).bind negK := nr rfl
@[simp] theorem tAndR_eq : tAndR ga gb Γ = (ga Γ).bind fun k => if k = true then gb Γ else .ok false := by
  show (ga Γ).bind _ = _
  congr 1; funext k; cases k <;> rfl
@[simp] theorem tOrR_eq : tOrR ga gb Γ = (ga Γ).bind fun k => if k = true then .ok true else gb Γ := by
  show (ga Γ).bind _ = _
  congr 1; funext k; cases k <;> rfl
@[simp] theorem tNotR_eq : tNotR ga Γ = (ga Γ).bind fun k => .ok (!k) := nr rfl
@[simp] theorem tTru_eq : tTru f Γ = (f Γ).bind fun d => .ofO (truD d) := nr rfl
@[simp] theorem truD_bl {b : Bool} : truD (.bl b) = some b := nr rfl
@[simp] theorem eIf_eq : eIf g fa fb Γ = (g Γ).bind fun k => if k = true then fa Γ else fb Γ := by
  show (g Γ).bind _ = _
  congr 1; funext k; cases k <;> rfl
@[simp] theorem eCall_eq {M : List D → R D} : eCall M fl Γ = (fl Γ).bind M := nr rfl
@[simp] theorem eB_eq {M : List D → Option D} : eB M fl Γ = (fl Γ).bind fun ds => .ofO (M ds) := nr rfl
@[simp] theorem eS_eq {M : Bool × List D → Option D} : eS M fs Γ = (fs Γ).bind fun p => .ofO (M p) := nr rfl
@[simp] theorem lenD_tup : lenD [.tup xs] = some (.int xs.length) := nr rfl
@[simp] theorem lenD_lst : lenD [.lst xs] = some (.int xs.length) := nr rfl
@[simp] theorem lenS_eq {b : Bool} : lenS (b, xs) = some (.int xs.length) := nr rfl
@[simp] theorem tupS_eq {b : Bool} : tupS (b, xs) = some (.tup xs) := nr rfl
@[simp] theorem oList_eq : oList fs Γ = (fs Γ).bind fun p => .ok p.2 := nr rfl
@[simp] theorem ixD_tup {i : Int} : ixD (.tup xs) (.int i) = atI xs i := nr rfl
@[simp] theorem ixD_lst {i : Int} : ixD (.lst xs) (.int i) = atI xs i := nr rfl
@[simp] theorem ixS_int {b : Bool} {i : Int} : ixS (b, xs) (.int i) = atI xs i := nr rfl
@[simp] theorem eIxS_eq : eIxS fs fb Γ = (fs Γ).bind fun p => (fb Γ).bind fun y => .ofO (ixS p y) := nr rfl
@[simp] theorem oN_eq : oN Γ = .ok none := nr rfl
@[simp] theorem asI_int {i : Int} : asI (.int i) = some i := nr rfl
@[simp] theorem oI_eq : oI f Γ = (f Γ).bind fun d => (R.ofO (asI d)).bind fun i => .ok (some i) := nr rfl
@[simp] theorem slD_tup {l h : Option Int} : slD (.tup xs) l h = some (.tup (cut xs l h)) := nr rfl
@[simp] theorem eSl_eq {gl gh : Ga → R (Option Int)} : eSl f gl gh Γ = (f Γ).bind fun d => (gl Γ).bind fun l => (gh Γ).bind fun h => .ofO (slD d l h) := nr rfl
@[simp] theorem cutS_eq {l h : Option Int} : cutS (false, xs) l h = some (cut xs l h) := nr rfl
@[simp] theorem oSl_eq {gl gh : Ga → R (Option Int)} : oSl fs gl gh Γ = (fs Γ).bind fun d => (gl Γ).bind fun l => (gh Γ).bind fun h => .ofO (cutS d l h) := nr rfl
@[simp] theorem oCatO_eq : oCatO n fl Γ = match Γ[n]? with | some (.own xs) => (fl Γ).bind fun ys => if xs.length + ys.length ≤ 1000000 then .ok (xs ++ ys) else .no | _ => .no := nr rfl
@[simp] theorem sPop_eq {m : Nat} : sPop n m Γ = match Γ[n]? with | some (.own xs) => (match xs.getLast? with | some d => .nx ((Γ.set n (.own xs.dropLast)).set m (.val d)) | none => .no) | _ => .no := nr rfl
@[simp] theorem fin_of {x : R D} : (RS.of x Γ fun d => .rt d).fin = x := by cases x <;> rfl
@[simp] theorem calm_ofO {o : Option α} : (R.ofO o).calm = R.ofO o := by cases o <;> rfl
@[simp] theorem eIsi_eq {k : String → Bool} : eIsi k fa Γ = (fa Γ).bind fun d => .ok (.bl (k (tyN d))) := nr rfl
@[simp] theorem int2_int {k : Int → Int → Option D} {i j : Int} : int2 k (.int i) (.int j) = k i j := nr rfl
@[simp] theorem ltD_int {i j : Int} : ltD (.int i) (.int j) = some (.bl (decide (i < j))) := nr rfl
@[simp] theorem ltD_str {x y : Str} : ltD (.str x) (.str y) = some (.bl (decide (x.cps.toList < y.cps.toList))) := nr rfl
@[simp] theorem isD_bl {b : Bool} : isD x (.bl b) = some (.bl (isB x b)) := nr rfl
@[simp] theorem isnotD_bl {b : Bool} : isnotD x (.bl b) = some (.bl (!isB x b)) := nr rfl
@[simp] theorem isB_bl {a b : Bool} : isB (.bl a) b = (a == b) := nr rfl
@[simp] theorem eqS_int {i j : Int} : eqS (.int i) (.int j) = some (.bl (decide (i = j))) := by
  show some (D.bl (decide (V.int i = V.int j))) = _
  congr 2
  by_cases h : i = j
  · subst h; simp
  · rw [decide_eq_false h, decide_eq_false (fun z => h (V.int.inj z))]
@[simp] theorem eqS_str {x y : Str} : eqS (.str x) (.str y) = some (.bl (decide (x = y))) := by
  show some (D.bl (decide (V.str x = V.str y))) = _
  congr 2
  by_cases h : x = y
  · subst h; simp
  · rw [decide_eq_false h, decide_eq_false (fun z => h (V.str.inj z))]
@[simp] theorem eqS_bl {x y : Bool} : eqS (.bl x) (.bl y) = some (.bl (decide (x = y))) := by
  cases x <;> cases y <;> rfl
@[simp] theorem mulI_r {i j : Int} (h : -(2 ^ 64) < j ∧ j < 2 ^ 64) : mulI i j = some (.int (i * j)) := if_pos (.inr h)
@[simp] theorem mulI_l {i j : Int} (h : -(2 ^ 64) < i ∧ i < 2 ^ 64) : mulI i j = some (.int (i * j)) := if_pos (.inl h)
@[simp] theorem modI_pos {i j : Int} (h : 0 < j) : modI i j = some (.int (i % j)) := if_pos h
@[simp] theorem divI_pos {i j : Int} (h : 0 < j ∧ j < 1073741824) : divI i j = some (.int (i / j)) := if_pos h
@[simp] theorem sNext_eq : sNext Γ = .nx Γ := nr rfl
@[simp] theorem sSeq_eq : sSeq T U Γ = RS.seq (T Γ) U := nr rfl
@[simp] theorem sRet_eq : sRet f Γ = .of (f Γ) Γ fun d => .rt d := nr rfl
@[simp] theorem sRetO_eq : sRetO n Γ = match Γ[n]? with | some (.own xs) => .rt (.lst xs) | _ => .no := nr rfl
@[simp] theorem sSet_eq : sSet n f Γ = .of (f Γ) Γ fun d => .nx (Γ.set n (.val d)) := nr rfl
@[simp] theorem sSetO_eq : sSetO n fl Γ = .of (fl Γ) Γ fun d => .nx (Γ.set n (.own d)) := nr rfl
@[simp] theorem sDrop_eq : sDrop f Γ = .of (f Γ) Γ fun _ => .nx Γ := nr rfl
@[simp] theorem sIf_eq : sIf g T U Γ = .of (g Γ) Γ fun k => if k = true then T Γ else U Γ := by
  show RS.of (g Γ) Γ _ = _
  congr 1; funext k; cases k <;> rfl
@[simp] theorem sApp_eq : sApp n f Γ = match Γ[n]? with | some (.own xs) => .of (f Γ) Γ fun d => if xs.length < 16000000 then .nx (Γ.set n (.own (xs ++ [d]))) else .no | _ => .no := nr rfl
@[simp] theorem gName_eq : gName' n d Γ = some (Γ.set n (.val d)) := nr rfl
@[simp] theorem gTwo_eq {g1 g2 : D → Ga → Option Ga} : gTwo g1 g2 (.tup [x, y]) Γ = (g1 x Γ).bind (g2 y) := nr rfl
@[simp] theorem sAsg_eq {gg : D → Ga → Option Ga} : sAsg f gg Γ = .of (f Γ) Γ fun d => .of (.ofO (gg d Γ)) Γ fun Γ' => .nx Γ' := nr rfl
@[simp] theorem iL_eq : iL f Γ = (f Γ).bind fun d => .ofO (asL d) := nr rfl
@[simp] theorem iT_eq : iT f Γ = (f Γ).bind fun d => .ofO (asT d) := nr rfl
@[simp] theorem asL_lst : asL (.lst xs) = some xs := nr rfl
@[simp] theorem asT_tup : asT (.tup xs) = some xs := nr rfl
@[simp] theorem iR1_eq : iR1 fl Γ = (fl Γ).bind fun d => .ofO (rng1 d) := nr rfl
@[simp] theorem iR2_eq : iR2 fl Γ = (fl Γ).bind fun d => .ofO (rng2 d) := nr rfl
@[simp] theorem iE_eq : iE f Γ = (f Γ).bind fun d => .ofO (enumD d) := nr rfl
@[simp] theorem enumD_tup : enumD (.tup xs) = some (enumL xs) := nr rfl
@[simp] theorem enumD_lst : enumD (.lst xs) = some (enumL xs) := nr rfl
@[simp] theorem iS_eq : iS f Γ = (f Γ).bind fun d => .ofO (asSigns d) := nr rfl
@[simp] theorem sFor_eq {gg : D → Ga → Option Ga} : sFor fl gg T Γ = .of (fl Γ) Γ fun ds => sTurns gg T ds Γ := nr rfl
@[simp] theorem cTrue_eq : cTrue Γ = .ok true := nr rfl
@[simp] theorem cpR_eq : cpR fl g f Γ = (fl Γ).bind fun ds => if ds.length < 16000000 then compR g f Γ ds else .no := nr rfl
theorem rng1_nat {k : Nat} (h : (k : Int) < 2 ^ 62) : rng1 [.int (k : Int)] = some ((List.range k).map fun (j : Nat) => D.int (j : Int)) := by
  simp only [rng1]
  rw [if_pos ⟨by omega, h⟩, Int.toNat_natCast]
  congr 2
  funext j
  rw [Int.zero_add]
theorem catD_eq {xs ys : List D} (h : xs.length + ys.length ≤ 100000) : catD (.tup xs) (.tup ys) = some (.tup (xs ++ ys)) := if_neg (by omega)
theorem allS_eq {bs : List Bool} : allS (false, bs.map D.bl) = some (.bl (bs.all id)) := by
  show (asBs (bs.map D.bl)).bind _ = _
  have := asBs_map id bs
  rw [show (bs.map D.bl) = (bs.map fun x => D.bl (id x)) from rfl, this]
  simp
theorem atI_zero {α : Type} (x : α) (xs : List α) : atI (x :: xs) 0 = some x := atI_nat (j := 0) rfl
theorem atI_one {α : Type} (x y : α) (xs : List α) : atI (x :: y :: xs) 1 = some y := atI_nat (j := 1) rfl
theorem atI_two {α : Type} (x y z : α) (xs : List α) : atI (x :: y :: z :: xs) 2 = some z := atI_nat (j := 2) rfl
end
end Wy

/-! loops once more; yards as data -/
namespace Wy
open PySem PySem.Spec PyProof.Rows L2
/-- a for whose turns go through, whatever else they leave in the slots -/
theorem turns_st {α : Type} {g : D → Ga → Option Ga} {T : Ga → RS} (P : α → Ga → Prop) (F : α → D → α) : ∀ (ds : List D) (a : α) (Γ : Ga), (∀ a d Γ, d ∈ ds → P a Γ → ∃ Γ1 Γ', g d Γ = some Γ1 ∧ (T Γ1 = .nx Γ' ∨ T Γ1 = .ct Γ') ∧ P (F a d) Γ') → P a Γ → ∃ Γ', sTurns g T ds Γ = .nx Γ' ∧ P (ds.foldl F a) Γ'
  | [], a, Γ, _, h => ⟨Γ, rfl, h⟩
  | d :: ds, a, Γ, H, h => by
    obtain ⟨Γ1, Γ2, h1, h2, h3⟩ := H a d Γ List.mem_cons_self h
    obtain ⟨Γ', e, q⟩ := turns_st P F ds (F a d) Γ2 (fun a x Γ hx => H a x Γ (List.mem_cons_of_mem _ hx)) h3
    refine ⟨Γ', ?_, q⟩
    unfold sTurns
    rw [h1]
    rcases h2 with h2 | h2 <;> (dsimp only; rw [h2]; exact e)
/-- all([.. for ..]) -/
theorem all_cp {it : Ga → R (List D)} {f : Ga → R D} {Γ : Ga} {ds : List D} {p : D → Bool} (h1 : it Γ = .ok ds) (h2 : ds.length < 16000000) (h3 : ∀ d ∈ ds, f (.val d :: .un :: Γ) = .ok (.bl (p d))) :
    eS allS (sO (cpR it cTrue f)) Γ = .ok (.bl (ds.all p)) := by
  have e := compR_map (f := f) (Γ := Γ) (h := fun d => D.bl (p d)) h3
  have e2 : allS (false, ds.map fun d => D.bl (p d)) = some (.bl (ds.all p)) := by
    have := allS_eq (bs := ds.map p)
    rw [List.map_map] at this
    rw [show (D.bl ∘ p) = fun d => D.bl (p d) from rfl] at this
    rw [this]
    simp [Function.comp_def]
  simp [h1, h2, e, e2]
/-- .. with the number of the turn -/
theorem turns_ix {α : Type} {g : D → Ga → Option Ga} {T : Ga → RS} (P : Nat → α → Ga → Prop) (F : α → D → α) : ∀ (ds : List D) (j : Nat) (a : α) (Γ : Ga), (∀ i a d Γ, ds[i]? = some d → P (j + i) a Γ → ∃ Γ1 Γ', g d Γ = some Γ1 ∧ (T Γ1 = .nx Γ' ∨ T Γ1 = .ct Γ') ∧ P (j + i + 1) (F a d) Γ') → P j a Γ → ∃ Γ', sTurns g T ds Γ = .nx Γ' ∧ P (j + ds.length) (ds.foldl F a) Γ'
  | [], j, a, Γ, _, h => ⟨Γ, rfl, h⟩
  | d :: ds, j, a, Γ, H, h => by
    obtain ⟨Γ1, Γ2, h1, h2, h3⟩ := H 0 a d Γ rfl h
    obtain ⟨Γ', e, q⟩ := turns_ix P F ds (j + 1) (F a d) Γ2 (fun i a x Γ hx h => by
      have := H (i + 1) a x Γ (by simpa using hx) (by rw [show j + (i + 1) = j + 1 + i by omega]; exact h)
      rw [show j + (i + 1) = j + 1 + i by omega] at this
      exact this) h3
    refine ⟨Γ', ?_, by rw [List.length_cons, show j + (ds.length + 1) = j + 1 + ds.length by omega]; exact q⟩
    unfold sTurns
    rw [h1]
    rcases h2 with h2 | h2 <;> (dsimp only; rw [h2]; exact e)
theorem foldl_app {α β : Type} (h : α → β) : ∀ (ds : List α) (a : List β), ds.foldl (fun acc d => acc ++ [h d]) a = a ++ ds.map h
  | [], a => by simp
  | d :: ds, a => by rw [List.foldl_cons, foldl_app h ds]; simp
theorem foldl_appIf {α β : Type} (p : α → Bool) (h : α → β) : ∀ (ds : List α) (a : List β), ds.foldl (fun acc d => if p d = true then acc ++ [h d] else acc) a = a ++ (ds.filter p).map h
  | [], a => by simp
  | d :: ds, a => by
    rw [List.foldl_cons, foldl_appIf p h ds]
    cases hp : p d <;> simp [hp]
end Wy
namespace Wl
open PySem PySem.Spec PyProof.Rows L2 Wy
/-- a world: its names, its ways -/
abbrev Wd := List Str × List (List Nat)
def dNames (ns : List Str) : D := .tup (ns.map .str)
def dRow (r : List Nat) : D := .tup (r.map fun (n : Nat) => D.int (n : Int))
def dWays (w : List (List Nat)) : D := .tup (w.map dRow)
def dWd (w : Wd) : D := .tup [dNames w.1, dWays w.2]
def dYd (y : List Wd) : D := .tup (y.map dWd)
def dLs (ns : List Int) : D := .lst (ns.map D.int)
def cellI (ns : List Int) (k : Nat) : Int := ns.getD k 0
def mixI (c p m : Int) : Int := c * 48271 % p % m
theorem mix_lt (c p m : Int) (h : 0 < m) : 0 ≤ mixI c p m ∧ mixI c p m < m := ⟨Int.emod_nonneg _ (by omega), Int.emod_lt_of_pos _ h⟩
/-- the drawn yard -/
def yCount (ns : List Int) (k : Nat) : Nat := (1 + cellI ns k % 5).toNat
def yNames (ns : List Int) (k w : Nat) : List Str := (([(0, "a"), (1, "b"), (2, "zz")] : List (Nat × Str)).filter fun p => decide (mixI (cellI ns (k + 1) + 7 * (w : Int) + (p.1 : Int)) 9929 2 = 0)).map (·.2)
def yRow (ns : List Int) (k : Nat) (own : Int) (w kind : Nat) : List Nat := (List.range (yCount ns k)).filter fun one => decide (mixI (cellI ns (k + 2 + kind) + 31 * (w : Int) + 5 * (one : Int)) 9923 3 = 0) || (decide (own = 1) && decide (one = w))
def lawWd (ns : List Int) (k : Nat) (own : Int) (w : Nat) : Wd := (yNames ns k w, (List.range 3).map (yRow ns k own w))
def lawYd (ns : List Int) (k : Nat) (own : Int) : List Wd := (List.range (yCount ns k)).map (lawWd ns k own)
theorem yCount_le (ns : List Int) (k : Nat) : 1 ≤ yCount ns k ∧ yCount ns k ≤ 5 := by
  have h1 := Int.emod_nonneg (cellI ns k) (show (5 : Int) ≠ 0 by decide)
  have h2 := Int.emod_lt_of_pos (cellI ns k) (show (0 : Int) < 5 by decide)
  unfold yCount
  omega

section
variable {r : List Nat} {nms : List Str} {ws : List (List Nat)} {w : Wd} {y : List Wd}
@[simp] theorem ty_row : tyN (dRow r) = "tuple" := nr rfl
@[simp] theorem ty_names : tyN (dNames nms) = "tuple" := nr rfl
@[simp] theorem ty_ways : tyN (dWays ws) = "tuple" := nr rfl
@[simp] theorem ty_wd : tyN (dWd w) = "tuple" := nr rfl
@[simp] theorem ty_yd : tyN (dYd y) = "tuple" := nr rfl
@[simp] theorem len_row : lenD [dRow r] = some (.int r.length) := by simp [dRow]
@[simp] theorem len_names : lenD [dNames nms] = some (.int nms.length) := by simp [dNames]
@[simp] theorem len_ways : lenD [dWays ws] = some (.int ws.length) := by simp [dWays]
@[simp] theorem len_wd : lenD [dWd w] = some (.int 2) := by simp [dWd]
@[simp] theorem len_yd : lenD [dYd y] = some (.int y.length) := by simp [dYd]
@[simp] theorem as_row : asT (dRow r) = some (r.map fun (n : Nat) => D.int (n : Int)) := nr rfl
@[simp] theorem as_names : asT (dNames nms) = some (nms.map .str) := nr rfl
@[simp] theorem as_ways : asT (dWays ws) = some (ws.map dRow) := nr rfl
@[simp] theorem as_yd : asT (dYd y) = some (y.map dWd) := nr rfl
@[simp] theorem wd_0 : ixD (dWd w) (.int 0) = some (dNames w.1) := by rw [show dWd w = .tup [dNames w.1, dWays w.2] from rfl, ixD_tup, atI_zero]
@[simp] theorem wd_1 : ixD (dWd w) (.int 1) = some (dWays w.2) := by rw [show dWd w = .tup [dNames w.1, dWays w.2] from rfl, ixD_tup, atI_one]
theorem yd_at {k : Nat} (h : y[k]? = some w) : ixD (dYd y) (.int (k : Int)) = some (dWd w) := by
  rw [show dYd y = .tup (y.map dWd) from rfl, ixD_tup]
  exact atI_nat (by simp [h])
@[simp] theorem gT_t : gTuple "tuple" = true := nr rfl
@[simp] theorem gT_l : gTuple "list" = false := nr rfl
@[simp] theorem gT_n : gTuple "NoneType" = false := nr rfl
@[simp] theorem gT_s : gTuple "str" = false := nr rfl
@[simp] theorem gT_i : gTuple "int" = false := nr rfl
@[simp] theorem gT_b : gTuple "bool" = false := nr rfl
end
@[simp] theorem ty_tup {xs : List D} : tyN (.tup xs) = "tuple" := nr rfl
@[simp] theorem ty_lst {xs : List D} : tyN (.lst xs) = "list" := nr rfl
@[simp] theorem ty_non : tyN .non = "NoneType" := nr rfl
@[simp] theorem ty_str {x : Str} : tyN (.str x) = "str" := nr rfl
@[simp] theorem ty_int {x : Int} : tyN (.int x) = "int" := nr rfl
@[simp] theorem ty_bl {x : Bool} : tyN (.bl x) = "bool" := nr rfl
end Wl

namespace K02
open PySem PySem.Spec PyProof.Rows L2 Wy Wl

def top (i : Nat) : Stmt := PySem.Challenge.pw_worldyard_k02_yards.main.body.getD i (.Pass ⟨0, 0, 0, 0⟩)

def c_WORDS : D := .tup [.str "not", .str "and", .str "or", .str "all", .str "some"]
def c_LETTERS : D := .str "abcdefghijklmnopqrstuvwxyz"

abbrev s__law_cell : Stmt := top 15
abbrev ps__law_cell : List Str := ["_law_script", "_law_k"]
abbrev N__law_cell : List Str := ["_law_script", "_law_k"]
theorem sc__law_cell : FnScope N__law_cell ps__law_cell (defScope s__law_cell) := ⟨rfl, rfl, rfl, by decide +kernel, rfl, by decide +kernel, by decide +kernel⟩
def B__law_cell : Ga → RS := (sSeq (sIf (tB (e2 ltD (eV 1) (eB lenD (aCons (eV 0) aNil)))) (sRet (e2 ixD (eV 0) (eV 1))) sNext) (sRet (eC (.int 0))))
theorem ok__law_cell {P : Program} {w : World} {K : PySem.W.Frag} {mg : Str → Option Value} {base : Heap} {k : Nat} {a : Addr} {fd : FuncData} (B : Bl mg) (Df : Def K mg "_law_cell" s__law_cell ps__law_cell a fd)
    : FnOk P w K mg base CX0 (k + 1) a fd ps__law_cell (spF K mg ps__law_cell.length fun ds => (callR N__law_cell (B__law_cell) ds).calm) :=
  fn_R0 Df.fn sc__law_cell fun cdv A outer s H E hr => (xs_cons (x_if (tv_cmp opd_lt (ev_var 1) (ev_callB calld_len rfl B.m_len PySem.boot_len (av_cons (ev_var 0) av_nil))) (xs_one (x_ret (ev_ix (ev_var 0) (ev_var 1)))) xs_nil) (xs_one (x_ret ev_int)))
def M__law_cell : List D → R D := fun ds => (callR N__law_cell (B__law_cell) ds).calm

abbrev s__law_mix : Stmt := top 16
abbrev ps__law_mix : List Str := ["_law_cell_here", "_law_prime", "_law_many"]
abbrev N__law_mix : List Str := ["_law_cell_here", "_law_prime", "_law_many"]
theorem sc__law_mix : FnScope N__law_mix ps__law_mix (defScope s__law_mix) := ⟨rfl, rfl, rfl, by decide +kernel, rfl, by decide +kernel, by decide +kernel⟩
def B__law_mix : Ga → RS := (sRet (e2 (int2 modI) (e2 (int2 modI) (e2 (int2 mulI) (eV 0) (eC (.int 48271))) (eV 1)) (eV 2)))
theorem ok__law_mix {P : Program} {w : World} {K : PySem.W.Frag} {mg : Str → Option Value} {base : Heap} {k : Nat} {a : Addr} {fd : FuncData} (B : Bl mg) (Df : Def K mg "_law_mix" s__law_mix ps__law_mix a fd)
    : FnOk P w K mg base CX0 (k + 1) a fd ps__law_mix (spF K mg ps__law_mix.length fun ds => (callR N__law_mix (B__law_mix) ds).calm) :=
  fn_R0 Df.fn sc__law_mix fun cdv A outer s H E hr => (xs_one (x_ret (ev_op opd_mod (ev_op opd_mod (ev_op opd_mul (ev_var 0) ev_int) (ev_var 1)) (ev_var 2))))
def M__law_mix : List D → R D := fun ds => (callR N__law_mix (B__law_mix) ds).calm

abbrev s__law_yard : Stmt := top 17
abbrev ps__law_yard : List Str := ["_law_script", "_law_k", "_law_own"]
abbrev N__law_yard : List Str := ["_law_script", "_law_k", "_law_own", "_law_count", "_law_found", "_law_world", "_law_names", "_law_at", "_law_name", "_law_ways", "_law_kind", "_law_seed", "_law_some"]
theorem sc__law_yard : FnScope N__law_yard ps__law_yard (defScope s__law_yard) := ⟨rfl, rfl, rfl, by decide +kernel, rfl, by decide +kernel, by decide +kernel⟩
def L__law_yard_2 (M__law_mix : List D → R D) (M__law_cell : List D → R D) : Ga → RS := (sIf (tB (e2 eqS (eCall M__law_mix (aCons (e2 (int2 fun i j => some (.int (i + j))) (e2 (int2 fun i j => some (.int (i + j))) (eCall M__law_cell (aCons (eV 0) (aCons (e2 (int2 fun i j => some (.int (i + j))) (eV 1) (eC (.int 1))) aNil))) (e2 (int2 mulI) (eC (.int 7)) (eV 5))) (eV 7)) (aCons (eC (.int 9929)) (aCons (eC (.int 2)) aNil)))) (eC (.int 0)))) (sApp 6 (eV 8)) sNext)
def L__law_yard_3 (M__law_cell : List D → R D) (M__law_mix : List D → R D) : Ga → RS := (sSeq (sSet 11 (e2 (int2 fun i j => some (.int (i + j))) (eCall M__law_cell (aCons (eV 0) (aCons (e2 (int2 fun i j => some (.int (i + j))) (e2 (int2 fun i j => some (.int (i + j))) (eV 1) (eC (.int 2))) (eV 10)) aNil))) (e2 (int2 mulI) (eC (.int 31)) (eV 5)))) (sSeq (sSetO 12 (cpR (iR1 (aCons (eV 3) aNil)) (tOrR (tB (e2 eqS (eCall M__law_mix (aCons (e2 (int2 fun i j => some (.int (i + j))) (eV 13) (e2 (int2 mulI) (eC (.int 5)) (eV 0))) (aCons (eC (.int 9923)) (aCons (eC (.int 3)) aNil)))) (eC (.int 0)))) (tAndR (tB (e2 eqS (eV 4) (eC (.int 1)))) (tB (e2 eqS (eV 0) (eV 7))))) (eV 0))) (sApp 9 (eS tupS (sV 12)))))
def L__law_yard_1 (M__law_mix : List D → R D) (M__law_cell : List D → R D) : Ga → RS := (sSeq (sSetO 6 aNil) (sSeq (sFor (iE (eO (aCons (eC (.str "a")) (aCons (eC (.str "b")) (aCons (eC (.str "zz")) aNil))))) (gTwo (gName' 7) (gName' 8)) (L__law_yard_2 M__law_mix M__law_cell)) (sSeq (sSetO 9 aNil) (sSeq (sFor (iR1 (aCons (eC (.int 3)) aNil)) (gName' 10) (L__law_yard_3 M__law_cell M__law_mix)) (sApp 4 (eTup (aCons (eS tupS (sV 6)) (aCons (eS tupS (sV 9)) aNil))))))))
def B__law_yard (M__law_cell : List D → R D) (M__law_mix : List D → R D) : Ga → RS := (sSeq (sSet 3 (e2 (int2 fun i j => some (.int (i + j))) (eC (.int 1)) (e2 (int2 modI) (eCall M__law_cell (aCons (eV 0) (aCons (eV 1) aNil))) (eC (.int 5))))) (sSeq (sSetO 4 aNil) (sSeq (sFor (iR1 (aCons (eV 3) aNil)) (gName' 5) (L__law_yard_1 M__law_mix M__law_cell)) (sRet (eS tupS (sV 4))))))
theorem ok__law_yard {P : Program} {w : World} {K : PySem.W.Frag} {mg : Str → Option Value} {base : Heap} {k : Nat} {a : Addr} {fd : FuncData} (B : Bl mg) (Df : Def K mg "_law_yard" s__law_yard ps__law_yard a fd)
    {M__law_cell : List D → R D} {a__law_cell : Addr} {fd__law_cell : FuncData} (D__law_cell : Def K mg "_law_cell" s__law_cell ps__law_cell a__law_cell fd__law_cell) (F__law_cell : FnOk P w K mg base CX0 k a__law_cell fd__law_cell ps__law_cell (spF K mg ps__law_cell.length M__law_cell))
    {M__law_mix : List D → R D} {a__law_mix : Addr} {fd__law_mix : FuncData} (D__law_mix : Def K mg "_law_mix" s__law_mix ps__law_mix a__law_mix fd__law_mix) (F__law_mix : FnOk P w K mg base CX0 k a__law_mix fd__law_mix ps__law_mix (spF K mg ps__law_mix.length M__law_mix))
    : FnOk P w K mg base CX0 (k + 1) a fd ps__law_yard (spF K mg ps__law_yard.length fun ds => (callR N__law_yard (B__law_yard M__law_cell M__law_mix) ds).calm) :=
  fn_R0 Df.fn sc__law_yard fun cdv A outer s H E hr => (xs_cons (x_set 3 (ev_op opd_add ev_int (ev_op opd_mod (ev_call F__law_cell passW0 hr rfl D__law_cell.mg D__law_cell.fn.kp D__law_cell.bd (av_cons (ev_var 0) (av_cons (ev_var 1) av_nil))) ev_int)) sc__law_yard.nd) (xs_cons (x_setO 4 (ow_lst av_nil) sc__law_yard.nd) (xs_cons (x_for rfl (it_range1 rfl B.m_range (av_cons (ev_var 3) av_nil)) (tg_name 5 sc__law_yard.nd) (xs_cons (x_setO 6 (ow_lst av_nil) sc__law_yard.nd) (xs_cons (x_for rfl (it_enum rfl B.m_enumerate (ev_ow (ow_lst (av_cons ev_str (av_cons ev_str (av_cons ev_str av_nil)))))) (tg_two rfl (tg_name 7 sc__law_yard.nd) (tg_name 8 sc__law_yard.nd)) (xs_one (x_if (tv_cmp opd_eqS (ev_call F__law_mix passW0 hr rfl D__law_mix.mg D__law_mix.fn.kp D__law_mix.bd (av_cons (ev_op opd_add (ev_op opd_add (ev_call F__law_cell passW0 hr rfl D__law_cell.mg D__law_cell.fn.kp D__law_cell.bd (av_cons (ev_var 0) (av_cons (ev_op opd_add (ev_var 1) ev_int) av_nil))) (ev_op opd_mul ev_int (ev_var 5))) (ev_var 7)) (av_cons ev_int (av_cons ev_int av_nil)))) ev_int) (xs_one (x_app 6 (ev_var 8))) xs_nil))) (xs_cons (x_setO 9 (ow_lst av_nil) sc__law_yard.nd) (xs_cons (x_for rfl (it_range1 rfl B.m_range (av_cons ev_int av_nil)) (tg_name 10 sc__law_yard.nd) (xs_cons (x_set 11 (ev_op opd_add (ev_call F__law_cell passW0 hr rfl D__law_cell.mg D__law_cell.fn.kp D__law_cell.bd (av_cons (ev_var 0) (av_cons (ev_op opd_add (ev_op opd_add (ev_var 1) ev_int) (ev_var 10)) av_nil))) (ev_op opd_mul ev_int (ev_var 5))) sc__law_yard.nd) (xs_cons (x_setComp 12 (blk_mk (defScope s__law_yard) N__law_yard ["_law_own", "_law_seed", "_law_world"] rfl rfl rfl rfl (List.forall_mem_cons.mpr ⟨rfl, (List.forall_mem_cons.mpr ⟨rfl, (List.forall_mem_cons.mpr ⟨rfl, (List.forall_mem_nil _)⟩)⟩)⟩) (by decide +kernel)) rfl (it_range1 rfl B.m_range (av_cons (ev_var 3) av_nil)) (fun _ _ _ _ => (ts_one (WvD.tv (wv_or (tv_cmp opd_eqS (ev_call F__law_mix passW0 hr rfl D__law_mix.mg D__law_mix.fn.kp D__law_mix.bd (av_cons (ev_op opd_add (ev_var 13) (ev_op opd_mul ev_int (ev_var 0))) (av_cons ev_int (av_cons ev_int av_nil)))) ev_int) (wv_or1 (WvD.tv (wv_and (tv_cmp opd_eqS (ev_var 4) ev_int) (wv_and1 (tv_cmp opd_eqS (ev_var 0) (ev_var 7)))))))))) (fun _ _ _ _ => (ev_var 0)) sc__law_yard.nd) (xs_one (x_app 9 (ev_callTS calls_tuple rfl B.m_tuple boot_tuple (sq_var 12))))))) (xs_one (x_app 4 (ev_tup (av_cons (ev_callTS calls_tuple rfl B.m_tuple boot_tuple (sq_var 6)) (av_cons (ev_callTS calls_tuple rfl B.m_tuple boot_tuple (sq_var 9)) av_nil)))))))))) (xs_one (x_ret (ev_callTS calls_tuple rfl B.m_tuple boot_tuple (sq_var 4)))))))
def M__law_yard : List D → R D := fun ds => (callR N__law_yard (B__law_yard M__law_cell M__law_mix) ds).calm

abbrev s__law_bad_world : Stmt := top 18
abbrev ps__law_bad_world : List Str := ["_law_world", "_law_count", "_law_cell_here"]
abbrev N__law_bad_world : List Str := ["_law_world", "_law_count", "_law_cell_here", "_law_names", "_law_ways", "_law_some"]
theorem sc__law_bad_world : FnScope N__law_bad_world ps__law_bad_world (defScope s__law_bad_world) := ⟨rfl, rfl, rfl, by decide +kernel, rfl, by decide +kernel, by decide +kernel⟩
def B__law_bad_world : Ga → RS := (sSeq (sAsg (eV 0) (gTwo (gName' 3) (gName' 4))) (sSeq (sSetO 5 (aCons (eTup (aCons (eV 3) aNil)) (aCons (eTup (aCons (eV 3) (aCons (eV 4) (aCons (eC (.int 0)) aNil)))) (aCons (eO (aCons (eV 3) (aCons (eV 4) aNil))) (aCons (eC .non) (aCons (eTup (aCons (eO (oList (sV 3))) (aCons (eV 4) aNil))) (aCons (eTup (aCons (eTup (aCons (eC (.str "b")) (aCons (eC (.str "a")) aNil))) (aCons (eV 4) aNil))) aNil))))))) (sSeq (sApp 5 (eTup (aCons (eTup (aCons (eC (.str "a")) (aCons (eC (.str "a")) aNil))) (aCons (eV 4) aNil)))) (sSeq (sSetO 5 (oCatO 5 (aCons (eTup (aCons (eTup (aCons (eC (.str "A")) aNil)) (aCons (eV 4) aNil))) (aCons (eTup (aCons (eTup (aCons (eC (.int 1)) aNil)) (aCons (eV 4) aNil))) (aCons (eTup (aCons (eV 3) (aCons (eSl (eV 4) oN (oI (eC (.int 2)))) aNil))) (aCons (eTup (aCons (eV 3) (aCons (e2 catD (eV 4) (eTup (aCons (eTup aNil) aNil))) aNil))) (aCons (eTup (aCons (eV 3) (aCons (eO (oList (sV 4))) aNil))) aNil))))))) (sSeq (sApp 5 (eTup (aCons (eC (.str "a")) (aCons (eV 4) aNil)))) (sSeq (sSetO 5 (oCatO 5 (aCons (eTup (aCons (eTup (aCons (eC (.str "abcde")) aNil)) (aCons (eV 4) aNil))) (aCons (eTup (aCons (eTup (aCons (eC (.str "and")) aNil)) (aCons (eV 4) aNil))) (aCons (eTup (aCons (eTup (aCons (eC (.str "")) aNil)) (aCons (eV 4) aNil))) aNil))))) (sSeq (sSetO 5 (oCatO 5 (aCons (eTup (aCons (eV 3) (aCons (eTup (aCons (eTup (aCons (eV 1) aNil)) (aCons (eTup aNil) (aCons (eTup aNil) aNil)))) aNil))) (aCons (eTup (aCons (eV 3) (aCons (eTup (aCons (eTup (aCons (eNeg (eC (.int 1))) aNil)) (aCons (eTup aNil) (aCons (eTup aNil) aNil)))) aNil))) (aCons (eTup (aCons (eV 3) (aCons (eTup (aCons (eTup (aCons (eC (.int 0)) (aCons (eC (.int 0)) aNil))) (aCons (eTup aNil) (aCons (eTup aNil) aNil)))) aNil))) aNil))))) (sSeq (sApp 5 (eTup (aCons (eV 3) (aCons (eTup (aCons (eO (aCons (eC (.int 0)) aNil)) (aCons (eTup aNil) (aCons (eTup aNil) aNil)))) aNil)))) (sSeq (sSetO 5 (oCatO 5 (aCons (eTup (aCons (eV 3) (aCons (eTup (aCons (eTup aNil) (aCons (eTup (aCons (eC (.bl true)) aNil)) (aCons (eTup aNil) aNil)))) aNil))) (aCons (eTup (aCons (eV 3) (aCons (eTup (aCons (eTup aNil) (aCons (eTup aNil) (aCons (eTup (aCons (eC (.str "0")) aNil)) aNil)))) aNil))) (aCons (eTup (aCons (eV 3) (aCons (eC .non) aNil))) aNil))))) (sRet (eIxS (sV 5) (e2 (int2 modI) (eV 2) (eS lenS (sV 5))))))))))))))
theorem ok__law_bad_world {P : Program} {w : World} {K : PySem.W.Frag} {mg : Str → Option Value} {base : Heap} {k : Nat} {a : Addr} {fd : FuncData} (B : Bl mg) (Df : Def K mg "_law_bad_world" s__law_bad_world ps__law_bad_world a fd)
    : FnOk P w K mg base CX0 (k + 1) a fd ps__law_bad_world (spF K mg ps__law_bad_world.length fun ds => (callR N__law_bad_world (B__law_bad_world) ds).calm) :=
  fn_R0 Df.fn sc__law_bad_world fun cdv A outer s H E hr => (xs_cons (x_asg (ev_var 0) (tg_two rfl (tg_name 3 sc__law_bad_world.nd) (tg_name 4 sc__law_bad_world.nd))) (xs_cons (x_setO 5 (ow_lst (av_cons (ev_tup (av_cons (ev_var 3) av_nil)) (av_cons (ev_tup (av_cons (ev_var 3) (av_cons (ev_var 4) (av_cons ev_int av_nil)))) (av_cons (ev_ow (ow_lst (av_cons (ev_var 3) (av_cons (ev_var 4) av_nil)))) (av_cons ev_non (av_cons (ev_tup (av_cons (ev_ow (ow_list rfl B.m_list boot_list (sq_var 3))) (av_cons (ev_var 4) av_nil))) (av_cons (ev_tup (av_cons (ev_tup (av_cons ev_str (av_cons ev_str av_nil))) (av_cons (ev_var 4) av_nil))) av_nil))))))) sc__law_bad_world.nd) (xs_cons (x_app 5 (ev_tup (av_cons (ev_tup (av_cons ev_str (av_cons ev_str av_nil))) (av_cons (ev_var 4) av_nil)))) (xs_cons (x_setO 5 (ow_catO 5 (ow_lst (av_cons (ev_tup (av_cons (ev_tup (av_cons ev_str av_nil)) (av_cons (ev_var 4) av_nil))) (av_cons (ev_tup (av_cons (ev_tup (av_cons ev_int av_nil)) (av_cons (ev_var 4) av_nil))) (av_cons (ev_tup (av_cons (ev_var 3) (av_cons (ev_slT (ev_var 4) ov_none (ov_some ev_int)) av_nil))) (av_cons (ev_tup (av_cons (ev_var 3) (av_cons (ev_op opd_cat (ev_var 4) (ev_tup (av_cons (ev_tup av_nil) av_nil))) av_nil))) (av_cons (ev_tup (av_cons (ev_var 3) (av_cons (ev_ow (ow_list rfl B.m_list boot_list (sq_var 4))) av_nil))) av_nil))))))) sc__law_bad_world.nd) (xs_cons (x_app 5 (ev_tup (av_cons ev_str (av_cons (ev_var 4) av_nil)))) (xs_cons (x_setO 5 (ow_catO 5 (ow_lst (av_cons (ev_tup (av_cons (ev_tup (av_cons ev_str av_nil)) (av_cons (ev_var 4) av_nil))) (av_cons (ev_tup (av_cons (ev_tup (av_cons ev_str av_nil)) (av_cons (ev_var 4) av_nil))) (av_cons (ev_tup (av_cons (ev_tup (av_cons ev_str av_nil)) (av_cons (ev_var 4) av_nil))) av_nil))))) sc__law_bad_world.nd) (xs_cons (x_setO 5 (ow_catO 5 (ow_lst (av_cons (ev_tup (av_cons (ev_var 3) (av_cons (ev_tup (av_cons (ev_tup (av_cons (ev_var 1) av_nil)) (av_cons (ev_tup av_nil) (av_cons (ev_tup av_nil) av_nil)))) av_nil))) (av_cons (ev_tup (av_cons (ev_var 3) (av_cons (ev_tup (av_cons (ev_tup (av_cons (ev_neg ev_int) av_nil)) (av_cons (ev_tup av_nil) (av_cons (ev_tup av_nil) av_nil)))) av_nil))) (av_cons (ev_tup (av_cons (ev_var 3) (av_cons (ev_tup (av_cons (ev_tup (av_cons ev_int (av_cons ev_int av_nil))) (av_cons (ev_tup av_nil) (av_cons (ev_tup av_nil) av_nil)))) av_nil))) av_nil))))) sc__law_bad_world.nd) (xs_cons (x_app 5 (ev_tup (av_cons (ev_var 3) (av_cons (ev_tup (av_cons (ev_ow (ow_lst (av_cons ev_int av_nil))) (av_cons (ev_tup av_nil) (av_cons (ev_tup av_nil) av_nil)))) av_nil)))) (xs_cons (x_setO 5 (ow_catO 5 (ow_lst (av_cons (ev_tup (av_cons (ev_var 3) (av_cons (ev_tup (av_cons (ev_tup av_nil) (av_cons (ev_tup (av_cons ev_bl av_nil)) (av_cons (ev_tup av_nil) av_nil)))) av_nil))) (av_cons (ev_tup (av_cons (ev_var 3) (av_cons (ev_tup (av_cons (ev_tup av_nil) (av_cons (ev_tup av_nil) (av_cons (ev_tup (av_cons ev_str av_nil)) av_nil)))) av_nil))) (av_cons (ev_tup (av_cons (ev_var 3) (av_cons ev_non av_nil))) av_nil))))) sc__law_bad_world.nd) (xs_one (x_ret (ev_ixS (sq_var 5) (ev_op opd_mod (ev_var 2) (ev_callBS calls_len rfl B.m_len PySem.boot_len (sq_var 5)))))))))))))))
def M__law_bad_world : List D → R D := fun ds => (callR N__law_bad_world (B__law_bad_world) ds).calm

abbrev s_leads_to_itself : Stmt := top 12
abbrev ps_leads_to_itself : List Str := ["yard", "number"]
abbrev N_leads_to_itself : List Str := ["yard", "number", "ways"]
theorem sc_leads_to_itself : FnScope N_leads_to_itself ps_leads_to_itself (defScope s_leads_to_itself) := ⟨rfl, rfl, rfl, by decide +kernel, rfl, by decide +kernel, by decide +kernel⟩
def B_leads_to_itself : Ga → RS := (sSeq (sSet 2 (e2 ixD (e2 ixD (eV 0) (eV 1)) (eC (.int 1)))) (sRet (eS allS (sO (cpR (iT (eV 2)) cTrue (e2 inD (eV 3) (eV 0)))))))
theorem ok_leads_to_itself {P : Program} {w : World} {K : PySem.W.Frag} {mg : Str → Option Value} {base : Heap} {k : Nat} {a : Addr} {fd : FuncData} (B : Bl mg) (Df : Def K mg "leads_to_itself" s_leads_to_itself ps_leads_to_itself a fd)
    : FnOk P w K mg base CX0 (k + 1) a fd ps_leads_to_itself (spF K mg ps_leads_to_itself.length fun ds => (callR N_leads_to_itself (B_leads_to_itself) ds).calm) :=
  fn_R0 Df.fn sc_leads_to_itself fun cdv A outer s H E hr => (xs_cons (x_set 2 (ev_ix (ev_ix (ev_var 0) (ev_var 1)) ev_int) sc_leads_to_itself.nd) (xs_one (x_ret (ev_callBS (calls_all rfl) rfl B.m_all boot_all (sq_ow (ow_comp (blk_mk (defScope s_leads_to_itself) N_leads_to_itself ["number"] rfl rfl rfl rfl (List.forall_mem_cons.mpr ⟨rfl, (List.forall_mem_nil _)⟩) (by decide +kernel)) rfl (it_tup (ev_var 2)) (fun _ _ _ _ => ts_nil) (fun _ _ _ _ => (ev_cmp opd_in (ev_var 3) (ev_var 0)))))))))
def M_leads_to_itself : List D → R D := fun ds => (callR N_leads_to_itself (B_leads_to_itself) ds).calm

abbrev s_is_own : Stmt := top 13
abbrev ps_is_own : List Str := ["yard"]
abbrev N_is_own : List Str := ["yard"]
theorem sc_is_own : FnScope N_is_own ps_is_own (defScope s_is_own) := ⟨rfl, rfl, rfl, by decide +kernel, rfl, by decide +kernel, by decide +kernel⟩
def B_is_own (M_leads_to_itself : List D → R D) : Ga → RS := (sRet (eS allS (sO (cpR (iR1 (aCons (eB lenD (aCons (eV 0) aNil)) aNil)) cTrue (eCall M_leads_to_itself (aCons (eV 2) (aCons (eV 0) aNil)))))))
theorem ok_is_own {P : Program} {w : World} {K : PySem.W.Frag} {mg : Str → Option Value} {base : Heap} {k : Nat} {a : Addr} {fd : FuncData} (B : Bl mg) (Df : Def K mg "is_own" s_is_own ps_is_own a fd)
    {M_leads_to_itself : List D → R D} {a_leads_to_itself : Addr} {fd_leads_to_itself : FuncData} (D_leads_to_itself : Def K mg "leads_to_itself" s_leads_to_itself ps_leads_to_itself a_leads_to_itself fd_leads_to_itself) (F_leads_to_itself : FnOk P w K mg base CX0 k a_leads_to_itself fd_leads_to_itself ps_leads_to_itself (spF K mg ps_leads_to_itself.length M_leads_to_itself))
    : FnOk P w K mg base CX0 (k + 1) a fd ps_is_own (spF K mg ps_is_own.length fun ds => (callR N_is_own (B_is_own M_leads_to_itself) ds).calm) :=
  fn_R0 Df.fn sc_is_own fun cdv A outer s H E hr => (xs_one (x_ret (ev_callBS (calls_all rfl) rfl B.m_all boot_all (sq_ow (ow_comp (blk_mk (defScope s_is_own) N_is_own ["yard"] rfl rfl rfl rfl (List.forall_mem_cons.mpr ⟨rfl, (List.forall_mem_nil _)⟩) (by decide +kernel)) rfl (it_range1 rfl B.m_range (av_cons (ev_callB calld_len rfl B.m_len PySem.boot_len (av_cons (ev_var 0) av_nil)) av_nil)) (fun _ _ _ _ => ts_nil) (fun _ _ _ _ => (ev_call F_leads_to_itself passW0 hr rfl D_leads_to_itself.mg D_leads_to_itself.fn.kp D_leads_to_itself.bd (av_cons (ev_var 2) (av_cons (ev_var 0) av_nil)))))))))
def M_is_own : List D → R D := fun ds => (callR N_is_own (B_is_own M_leads_to_itself) ds).calm

abbrev s_is_rising : Stmt := top 6
abbrev ps_is_rising : List Str := ["row"]
abbrev N_is_rising : List Str := ["row"]
theorem sc_is_rising : FnScope N_is_rising ps_is_rising (defScope s_is_rising) := ⟨rfl, rfl, rfl, by decide +kernel, rfl, by decide +kernel, by decide +kernel⟩
def B_is_rising : Ga → RS := (sRet (eS allS (sO (cpR (iR1 (aCons (e2 (int2 fun i j => some (.int (i - j))) (eB lenD (aCons (eV 0) aNil)) (eC (.int 1))) aNil)) cTrue (e2 ltD (e2 ixD (eV 2) (eV 0)) (e2 ixD (eV 2) (e2 (int2 fun i j => some (.int (i + j))) (eV 0) (eC (.int 1)))))))))
theorem ok_is_rising {P : Program} {w : World} {K : PySem.W.Frag} {mg : Str → Option Value} {base : Heap} {k : Nat} {a : Addr} {fd : FuncData} (B : Bl mg) (Df : Def K mg "is_rising" s_is_rising ps_is_rising a fd)
    : FnOk P w K mg base CX0 (k + 1) a fd ps_is_rising (spF K mg ps_is_rising.length fun ds => (callR N_is_rising (B_is_rising) ds).calm) :=
  fn_R0 Df.fn sc_is_rising fun cdv A outer s H E hr => (xs_one (x_ret (ev_callBS (calls_all rfl) rfl B.m_all boot_all (sq_ow (ow_comp (blk_mk (defScope s_is_rising) N_is_rising ["row"] rfl rfl rfl rfl (List.forall_mem_cons.mpr ⟨rfl, (List.forall_mem_nil _)⟩) (by decide +kernel)) rfl (it_range1 rfl B.m_range (av_cons (ev_op opd_sub (ev_callB calld_len rfl B.m_len PySem.boot_len (av_cons (ev_var 0) av_nil)) ev_int) av_nil)) (fun _ _ _ _ => ts_nil) (fun _ _ _ _ => (ev_cmp opd_lt (ev_ix (ev_var 2) (ev_var 0)) (ev_ix (ev_var 2) (ev_op opd_add (ev_var 0) ev_int)))))))))
def M_is_rising : List D → R D := fun ds => (callR N_is_rising (B_is_rising) ds).calm

abbrev s_is_name : Stmt := top 5
abbrev ps_is_name : List Str := ["thing"]
abbrev N_is_name : List Str := ["thing"]
theorem sc_is_name : FnScope N_is_name ps_is_name (defScope s_is_name) := ⟨rfl, rfl, rfl, by decide +kernel, rfl, by decide +kernel, by decide +kernel⟩
def B_is_name : Ga → RS := (sSeq (sIf (tOrR (tNotR (tTru (eIsi gStr (eV 0)))) (tB (e2 inD (eV 0) (eC c_WORDS)))) (sRet (eC (.bl false))) sNext) (sRet (eAnd (e3 (int2 fun i j => some (.bl (decide (i ≤ j)))) (int2 fun i j => some (.bl (decide (i ≤ j)))) (eC (.int 1)) (eB lenD (aCons (eV 0) aNil)) (eC (.int 4))) (eS allS (sO (cpR (iS (eV 0)) cTrue (e2 inD (eV 0) (eC c_LETTERS))))))))
theorem ok_is_name {P : Program} {w : World} {K : PySem.W.Frag} {mg : Str → Option Value} {base : Heap} {k : Nat} {a : Addr} {fd : FuncData} (B : Bl mg) (Df : Def K mg "is_name" s_is_name ps_is_name a fd)
    (g_WORDS : GlobC K mg "WORDS" c_WORDS)
    (g_LETTERS : GlobC K mg "LETTERS" c_LETTERS)
    : FnOk P w K mg base CX0 (k + 1) a fd ps_is_name (spF K mg ps_is_name.length fun ds => (callR N_is_name (B_is_name) ds).calm) :=
  fn_R0 Df.fn sc_is_name fun cdv A outer s H E hr => (xs_cons (x_if (WvD.tv (wv_or (tv_not (tv_val (ev_isi (g := gStr) rfl B.m_isinstance rfl B.m_str boot_str (ev_var 0) (kit_str _) boot_isinstance))) (wv_or1 (tv_cmp opd_in (ev_var 0) (ev_globC g_WORDS rfl))))) (xs_one (x_ret ev_bl)) xs_nil) (xs_one (x_ret (ev_and (ev_chain opd_le opd_le ev_int (ev_callB calld_len rfl B.m_len PySem.boot_len (av_cons (ev_var 0) av_nil)) ev_int) (ev_one (ev_callBS (calls_all rfl) rfl B.m_all boot_all (sq_ow (ow_comp (blk_mk (defScope s_is_name) N_is_name [] rfl rfl rfl rfl (List.forall_mem_nil _) (by decide +kernel)) rfl (it_str (ev_var 0)) (fun _ _ _ _ => ts_nil) (fun _ _ _ _ => (ev_cmp opd_in (ev_var 0) (ev_globC g_LETTERS rfl)))))))))))
def M_is_name : List D → R D := fun ds => (callR N_is_name (B_is_name) ds).calm

abbrev s_are_names : Stmt := top 7
abbrev ps_are_names : List Str := ["thing"]
abbrev N_are_names : List Str := ["thing"]
theorem sc_are_names : FnScope N_are_names ps_are_names (defScope s_are_names) := ⟨rfl, rfl, rfl, by decide +kernel, rfl, by decide +kernel, by decide +kernel⟩
def B_are_names (M_is_rising : List D → R D) (M_is_name : List D → R D) : Ga → RS := (sRet (eAnd (eIsi gTuple (eV 0)) (eAnd (eS allS (sO (cpR (iT (eV 0)) cTrue (eCall M_is_name (aCons (eV 0) aNil))))) (eCall M_is_rising (aCons (eV 0) aNil)))))
theorem ok_are_names {P : Program} {w : World} {K : PySem.W.Frag} {mg : Str → Option Value} {base : Heap} {k : Nat} {a : Addr} {fd : FuncData} (B : Bl mg) (Df : Def K mg "are_names" s_are_names ps_are_names a fd)
    {M_is_rising : List D → R D} {a_is_rising : Addr} {fd_is_rising : FuncData} (D_is_rising : Def K mg "is_rising" s_is_rising ps_is_rising a_is_rising fd_is_rising) (F_is_rising : FnOk P w K mg base CX0 k a_is_rising fd_is_rising ps_is_rising (spF K mg ps_is_rising.length M_is_rising))
    {M_is_name : List D → R D} {a_is_name : Addr} {fd_is_name : FuncData} (D_is_name : Def K mg "is_name" s_is_name ps_is_name a_is_name fd_is_name) (F_is_name : FnOk P w K mg base CX0 k a_is_name fd_is_name ps_is_name (spF K mg ps_is_name.length M_is_name))
    : FnOk P w K mg base CX0 (k + 1) a fd ps_are_names (spF K mg ps_are_names.length fun ds => (callR N_are_names (B_are_names M_is_rising M_is_name) ds).calm) :=
  fn_R0 Df.fn sc_are_names fun cdv A outer s H E hr => (xs_one (x_ret (ev_and (ev_isi (g := gTuple) rfl B.m_isinstance rfl B.m_tuple boot_tuple (ev_var 0) (kit_tuple _) boot_isinstance) (ev_and (ev_callBS (calls_all rfl) rfl B.m_all boot_all (sq_ow (ow_comp (blk_mk (defScope s_are_names) N_are_names [] rfl rfl rfl rfl (List.forall_mem_nil _) (by decide +kernel)) rfl (it_tup (ev_var 0)) (fun _ _ _ _ => ts_nil) (fun _ _ _ _ => (ev_call F_is_name passW0 hr rfl D_is_name.mg D_is_name.fn.kp D_is_name.bd (av_cons (ev_var 0) av_nil)))))) (ev_one (ev_call F_is_rising passW0 hr rfl D_is_rising.mg D_is_rising.fn.kp D_is_rising.bd (av_cons (ev_var 0) av_nil)))))))
def M_are_names : List D → R D := fun ds => (callR N_are_names (B_are_names M_is_rising M_is_name) ds).calm

abbrev s_is_whole : Stmt := top 3
abbrev ps_is_whole : List Str := ["thing"]
abbrev N_is_whole : List Str := ["thing"]
theorem sc_is_whole : FnScope N_is_whole ps_is_whole (defScope s_is_whole) := ⟨rfl, rfl, rfl, by decide +kernel, rfl, by decide +kernel, by decide +kernel⟩
def B_is_whole : Ga → RS := (sRet (eAnd (eIsi gInt (eV 0)) (eNot (eIsi gBool (eV 0)))))
theorem ok_is_whole {P : Program} {w : World} {K : PySem.W.Frag} {mg : Str → Option Value} {base : Heap} {k : Nat} {a : Addr} {fd : FuncData} (B : Bl mg) (Df : Def K mg "is_whole" s_is_whole ps_is_whole a fd)
    : FnOk P w K mg base CX0 (k + 1) a fd ps_is_whole (spF K mg ps_is_whole.length fun ds => (callR N_is_whole (B_is_whole) ds).calm) :=
  fn_R0 Df.fn sc_is_whole fun cdv A outer s H E hr => (xs_one (x_ret (ev_and (ev_isi (g := gInt) rfl B.m_isinstance rfl B.m_int boot_int (ev_var 0) (kit_int _) boot_isinstance) (ev_one (ev_not (ev_isi (g := gBool) rfl B.m_isinstance rfl B.m_bool boot_bool (ev_var 0) (kit_bool _) boot_isinstance))))))
def M_is_whole : List D → R D := fun ds => (callR N_is_whole (B_is_whole) ds).calm

abbrev s_is_below : Stmt := top 4
abbrev ps_is_below : List Str := ["thing", "bound"]
abbrev N_is_below : List Str := ["thing", "bound"]
theorem sc_is_below : FnScope N_is_below ps_is_below (defScope s_is_below) := ⟨rfl, rfl, rfl, by decide +kernel, rfl, by decide +kernel, by decide +kernel⟩
def B_is_below (M_is_whole : List D → R D) : Ga → RS := (sRet (eAnd (eCall M_is_whole (aCons (eV 0) aNil)) (e3 (int2 fun i j => some (.bl (decide (i ≤ j)))) ltD (eC (.int 0)) (eV 0) (eV 1))))
theorem ok_is_below {P : Program} {w : World} {K : PySem.W.Frag} {mg : Str → Option Value} {base : Heap} {k : Nat} {a : Addr} {fd : FuncData} (B : Bl mg) (Df : Def K mg "is_below" s_is_below ps_is_below a fd)
    {M_is_whole : List D → R D} {a_is_whole : Addr} {fd_is_whole : FuncData} (D_is_whole : Def K mg "is_whole" s_is_whole ps_is_whole a_is_whole fd_is_whole) (F_is_whole : FnOk P w K mg base CX0 k a_is_whole fd_is_whole ps_is_whole (spF K mg ps_is_whole.length M_is_whole))
    : FnOk P w K mg base CX0 (k + 1) a fd ps_is_below (spF K mg ps_is_below.length fun ds => (callR N_is_below (B_is_below M_is_whole) ds).calm) :=
  fn_R0 Df.fn sc_is_below fun cdv A outer s H E hr => (xs_one (x_ret (ev_and (ev_call F_is_whole passW0 hr rfl D_is_whole.mg D_is_whole.fn.kp D_is_whole.bd (av_cons (ev_var 0) av_nil)) (ev_one (ev_chain opd_le opd_lt ev_int (ev_var 0) (ev_var 1))))))
def M_is_below : List D → R D := fun ds => (callR N_is_below (B_is_below M_is_whole) ds).calm

abbrev s_are_worlds : Stmt := top 8
abbrev ps_are_worlds : List Str := ["thing", "size"]
abbrev N_are_worlds : List Str := ["thing", "size"]
theorem sc_are_worlds : FnScope N_are_worlds ps_are_worlds (defScope s_are_worlds) := ⟨rfl, rfl, rfl, by decide +kernel, rfl, by decide +kernel, by decide +kernel⟩
def B_are_worlds (M_is_rising : List D → R D) (M_is_below : List D → R D) : Ga → RS := (sRet (eAnd (eIsi gTuple (eV 0)) (eAnd (eS allS (sO (cpR (iT (eV 0)) cTrue (eCall M_is_below (aCons (eV 0) (aCons (eV 3) aNil)))))) (eCall M_is_rising (aCons (eV 0) aNil)))))
theorem ok_are_worlds {P : Program} {w : World} {K : PySem.W.Frag} {mg : Str → Option Value} {base : Heap} {k : Nat} {a : Addr} {fd : FuncData} (B : Bl mg) (Df : Def K mg "are_worlds" s_are_worlds ps_are_worlds a fd)
    {M_is_rising : List D → R D} {a_is_rising : Addr} {fd_is_rising : FuncData} (D_is_rising : Def K mg "is_rising" s_is_rising ps_is_rising a_is_rising fd_is_rising) (F_is_rising : FnOk P w K mg base CX0 k a_is_rising fd_is_rising ps_is_rising (spF K mg ps_is_rising.length M_is_rising))
    {M_is_below : List D → R D} {a_is_below : Addr} {fd_is_below : FuncData} (D_is_below : Def K mg "is_below" s_is_below ps_is_below a_is_below fd_is_below) (F_is_below : FnOk P w K mg base CX0 k a_is_below fd_is_below ps_is_below (spF K mg ps_is_below.length M_is_below))
    : FnOk P w K mg base CX0 (k + 1) a fd ps_are_worlds (spF K mg ps_are_worlds.length fun ds => (callR N_are_worlds (B_are_worlds M_is_rising M_is_below) ds).calm) :=
  fn_R0 Df.fn sc_are_worlds fun cdv A outer s H E hr => (xs_one (x_ret (ev_and (ev_isi (g := gTuple) rfl B.m_isinstance rfl B.m_tuple boot_tuple (ev_var 0) (kit_tuple _) boot_isinstance) (ev_and (ev_callBS (calls_all rfl) rfl B.m_all boot_all (sq_ow (ow_comp (blk_mk (defScope s_are_worlds) N_are_worlds ["size"] rfl rfl rfl rfl (List.forall_mem_cons.mpr ⟨rfl, (List.forall_mem_nil _)⟩) (by decide +kernel)) rfl (it_tup (ev_var 0)) (fun _ _ _ _ => ts_nil) (fun _ _ _ _ => (ev_call F_is_below passW0 hr rfl D_is_below.mg D_is_below.fn.kp D_is_below.bd (av_cons (ev_var 0) (av_cons (ev_var 3) av_nil))))))) (ev_one (ev_call F_is_rising passW0 hr rfl D_is_rising.mg D_is_rising.fn.kp D_is_rising.bd (av_cons (ev_var 0) av_nil)))))))
def M_are_worlds : List D → R D := fun ds => (callR N_are_worlds (B_are_worlds M_is_rising M_is_below) ds).calm

abbrev s_are_ways : Stmt := top 9
abbrev ps_are_ways : List Str := ["thing", "size"]
abbrev N_are_ways : List Str := ["thing", "size"]
theorem sc_are_ways : FnScope N_are_ways ps_are_ways (defScope s_are_ways) := ⟨rfl, rfl, rfl, by decide +kernel, rfl, by decide +kernel, by decide +kernel⟩
def B_are_ways (M_are_worlds : List D → R D) : Ga → RS := (sRet (eAnd (eIsi gTuple (eV 0)) (eAnd (e2 eqS (eB lenD (aCons (eV 0) aNil)) (eC (.int 3))) (eS allS (sO (cpR (iT (eV 0)) cTrue (eCall M_are_worlds (aCons (eV 0) (aCons (eV 3) aNil)))))))))
theorem ok_are_ways {P : Program} {w : World} {K : PySem.W.Frag} {mg : Str → Option Value} {base : Heap} {k : Nat} {a : Addr} {fd : FuncData} (B : Bl mg) (Df : Def K mg "are_ways" s_are_ways ps_are_ways a fd)
    {M_are_worlds : List D → R D} {a_are_worlds : Addr} {fd_are_worlds : FuncData} (D_are_worlds : Def K mg "are_worlds" s_are_worlds ps_are_worlds a_are_worlds fd_are_worlds) (F_are_worlds : FnOk P w K mg base CX0 k a_are_worlds fd_are_worlds ps_are_worlds (spF K mg ps_are_worlds.length M_are_worlds))
    : FnOk P w K mg base CX0 (k + 1) a fd ps_are_ways (spF K mg ps_are_ways.length fun ds => (callR N_are_ways (B_are_ways M_are_worlds) ds).calm) :=
  fn_R0 Df.fn sc_are_ways fun cdv A outer s H E hr => (xs_one (x_ret (ev_and (ev_isi (g := gTuple) rfl B.m_isinstance rfl B.m_tuple boot_tuple (ev_var 0) (kit_tuple _) boot_isinstance) (ev_and (ev_cmp opd_eqS (ev_callB calld_len rfl B.m_len PySem.boot_len (av_cons (ev_var 0) av_nil)) ev_int) (ev_one (ev_callBS (calls_all rfl) rfl B.m_all boot_all (sq_ow (ow_comp (blk_mk (defScope s_are_ways) N_are_ways ["size"] rfl rfl rfl rfl (List.forall_mem_cons.mpr ⟨rfl, (List.forall_mem_nil _)⟩) (by decide +kernel)) rfl (it_tup (ev_var 0)) (fun _ _ _ _ => ts_nil) (fun _ _ _ _ => (ev_call F_are_worlds passW0 hr rfl D_are_worlds.mg D_are_worlds.fn.kp D_are_worlds.bd (av_cons (ev_var 0) (av_cons (ev_var 3) av_nil))))))))))))
def M_are_ways : List D → R D := fun ds => (callR N_are_ways (B_are_ways M_are_worlds) ds).calm

abbrev s_is_world : Stmt := top 10
abbrev ps_is_world : List Str := ["thing", "size"]
abbrev N_is_world : List Str := ["thing", "size"]
theorem sc_is_world : FnScope N_is_world ps_is_world (defScope s_is_world) := ⟨rfl, rfl, rfl, by decide +kernel, rfl, by decide +kernel, by decide +kernel⟩
def B_is_world (M_are_ways : List D → R D) (M_are_names : List D → R D) : Ga → RS := (sRet (eAnd (eIsi gTuple (eV 0)) (eAnd (e2 eqS (eB lenD (aCons (eV 0) aNil)) (eC (.int 2))) (eAnd (eCall M_are_names (aCons (e2 ixD (eV 0) (eC (.int 0))) aNil)) (eCall M_are_ways (aCons (e2 ixD (eV 0) (eC (.int 1))) (aCons (eV 1) aNil)))))))
theorem ok_is_world {P : Program} {w : World} {K : PySem.W.Frag} {mg : Str → Option Value} {base : Heap} {k : Nat} {a : Addr} {fd : FuncData} (B : Bl mg) (Df : Def K mg "is_world" s_is_world ps_is_world a fd)
    {M_are_ways : List D → R D} {a_are_ways : Addr} {fd_are_ways : FuncData} (D_are_ways : Def K mg "are_ways" s_are_ways ps_are_ways a_are_ways fd_are_ways) (F_are_ways : FnOk P w K mg base CX0 k a_are_ways fd_are_ways ps_are_ways (spF K mg ps_are_ways.length M_are_ways))
    {M_are_names : List D → R D} {a_are_names : Addr} {fd_are_names : FuncData} (D_are_names : Def K mg "are_names" s_are_names ps_are_names a_are_names fd_are_names) (F_are_names : FnOk P w K mg base CX0 k a_are_names fd_are_names ps_are_names (spF K mg ps_are_names.length M_are_names))
    : FnOk P w K mg base CX0 (k + 1) a fd ps_is_world (spF K mg ps_is_world.length fun ds => (callR N_is_world (B_is_world M_are_ways M_are_names) ds).calm) :=
  fn_R0 Df.fn sc_is_world fun cdv A outer s H E hr => (xs_one (x_ret (ev_and (ev_isi (g := gTuple) rfl B.m_isinstance rfl B.m_tuple boot_tuple (ev_var 0) (kit_tuple _) boot_isinstance) (ev_and (ev_cmp opd_eqS (ev_callB calld_len rfl B.m_len PySem.boot_len (av_cons (ev_var 0) av_nil)) ev_int) (ev_and (ev_call F_are_names passW0 hr rfl D_are_names.mg D_are_names.fn.kp D_are_names.bd (av_cons (ev_ix (ev_var 0) ev_int) av_nil)) (ev_one (ev_call F_are_ways passW0 hr rfl D_are_ways.mg D_are_ways.fn.kp D_are_ways.bd (av_cons (ev_ix (ev_var 0) ev_int) (av_cons (ev_var 1) av_nil)))))))))
def M_is_world : List D → R D := fun ds => (callR N_is_world (B_is_world M_are_ways M_are_names) ds).calm

abbrev s_is_yard : Stmt := top 11
abbrev ps_is_yard : List Str := ["thing"]
abbrev N_is_yard : List Str := ["thing"]
theorem sc_is_yard : FnScope N_is_yard ps_is_yard (defScope s_is_yard) := ⟨rfl, rfl, rfl, by decide +kernel, rfl, by decide +kernel, by decide +kernel⟩
def B_is_yard (M_is_world : List D → R D) : Ga → RS := (sSeq (sIf (tOrR (tNotR (tTru (eIsi gTuple (eV 0)))) (tB (e2 eqS (eB lenD (aCons (eV 0) aNil)) (eC (.int 0))))) (sRet (eC (.bl false))) sNext) (sRet (eS allS (sO (cpR (iT (eV 0)) cTrue (eCall M_is_world (aCons (eV 0) (aCons (eB lenD (aCons (eV 2) aNil)) aNil))))))))
theorem ok_is_yard {P : Program} {w : World} {K : PySem.W.Frag} {mg : Str → Option Value} {base : Heap} {k : Nat} {a : Addr} {fd : FuncData} (B : Bl mg) (Df : Def K mg "is_yard" s_is_yard ps_is_yard a fd)
    {M_is_world : List D → R D} {a_is_world : Addr} {fd_is_world : FuncData} (D_is_world : Def K mg "is_world" s_is_world ps_is_world a_is_world fd_is_world) (F_is_world : FnOk P w K mg base CX0 k a_is_world fd_is_world ps_is_world (spF K mg ps_is_world.length M_is_world))
    : FnOk P w K mg base CX0 (k + 1) a fd ps_is_yard (spF K mg ps_is_yard.length fun ds => (callR N_is_yard (B_is_yard M_is_world) ds).calm) :=
  fn_R0 Df.fn sc_is_yard fun cdv A outer s H E hr => (xs_cons (x_if (WvD.tv (wv_or (tv_not (tv_val (ev_isi (g := gTuple) rfl B.m_isinstance rfl B.m_tuple boot_tuple (ev_var 0) (kit_tuple _) boot_isinstance))) (wv_or1 (tv_cmp opd_eqS (ev_callB calld_len rfl B.m_len PySem.boot_len (av_cons (ev_var 0) av_nil)) ev_int)))) (xs_one (x_ret ev_bl)) xs_nil) (xs_one (x_ret (ev_callBS (calls_all rfl) rfl B.m_all boot_all (sq_ow (ow_comp (blk_mk (defScope s_is_yard) N_is_yard ["thing"] rfl rfl rfl rfl (List.forall_mem_cons.mpr ⟨rfl, (List.forall_mem_nil _)⟩) (by decide +kernel)) rfl (it_tup (ev_var 0)) (fun _ _ _ _ => ts_nil) (fun _ _ _ _ => (ev_call F_is_world passW0 hr rfl D_is_world.mg D_is_world.fn.kp D_is_world.bd (av_cons (ev_var 0) (av_cons (ev_callB calld_len rfl B.m_len PySem.boot_len (av_cons (ev_var 2) av_nil)) av_nil))))))))))
def M_is_yard : List D → R D := fun ds => (callR N_is_yard (B_is_yard M_is_world) ds).calm

abbrev s_law : Stmt := top 19
abbrev ps_law : List Str := ["_law_script"]
abbrev N_law : List Str := ["_law_script", "_law_own", "_law_yard_here", "_law_at", "_law_strange", "_law_due", "_law_k", "_law_world", "_law_some", "_law_found"]
theorem sc_law : FnScope N_law ps_law (defScope s_law) := ⟨rfl, rfl, rfl, by decide +kernel, rfl, by decide +kernel, by decide +kernel⟩
def L_law_2 : Ga → RS := (sSet 5 (eAnd (eV 5) (e2 inD (eV 6) (eV 8))))
def L_law_1 : Ga → RS := (sFor (iT (e2 ixD (eV 7) (eC (.int 1)))) (gName' 8) (L_law_2))
def B_law (M__law_cell : List D → R D) (M__law_yard : List D → R D) (M__law_bad_world : List D → R D) (M_is_yard : List D → R D) (M_is_own : List D → R D) : Ga → RS := (sSeq (sSet 1 (e2 (int2 modI) (eCall M__law_cell (aCons (eV 0) (aCons (eC (.int 8)) aNil))) (eC (.int 2)))) (sSeq (sSet 2 (eCall M__law_yard (aCons (eV 0) (aCons (eC (.int 0)) (aCons (eV 1) aNil))))) (sSeq (sSet 3 (e2 (int2 modI) (eCall M__law_cell (aCons (eV 0) (aCons (eC (.int 6)) aNil))) (eB lenD (aCons (eV 2) aNil)))) (sSeq (sSet 4 (eCall M__law_bad_world (aCons (e2 ixD (eV 2) (eV 3)) (aCons (eB lenD (aCons (eV 2) aNil)) (aCons (eCall M__law_cell (aCons (eV 0) (aCons (eC (.int 7)) aNil))) aNil))))) (sSeq (sIf (tOrR (tB (e2 isnotD (eCall M_is_yard (aCons (eV 2) aNil)) (eC (.bl true)))) (tB (e2 isnotD (eCall M_is_yard (aCons (e2 catD (e2 catD (eSl (eV 2) oN (oI (eV 3))) (eTup (aCons (eV 4) aNil))) (eSl (eV 2) (oI (e2 (int2 fun i j => some (.int (i + j))) (eV 3) (eC (.int 1)))) oN)) aNil)) (eC (.bl false))))) (sRet (eC (.bl false))) sNext) (sSeq (sIf (tB (e2 isnotD (eCall M_is_yard (aCons (eO (oList (sV 2))) aNil)) (eC (.bl false)))) (sRet (eC (.bl false))) sNext) (sSeq (sIf (tOrR (tB (e2 isnotD (eCall M_is_yard (aCons (eTup aNil) aNil)) (eC (.bl false)))) (tOrR (tB (e2 isnotD (eCall M_is_yard (aCons (eC .non) aNil)) (eC (.bl false)))) (tB (e2 isnotD (eCall M_is_yard (aCons (eTup (aCons (eV 2) aNil)) aNil)) (eC (.bl false)))))) (sRet (eC (.bl false))) sNext) (sSeq (sSet 5 (eC (.bl true))) (sSeq (sFor (iE (eV 2)) (gTwo (gName' 6) (gName' 7)) (L_law_1)) (sSeq (sSet 9 (eCall M_is_own (aCons (eV 2) aNil))) (sRet (eAnd (eIsi gBool (eV 9)) (eAnd (e2 eqS (eV 9) (eV 5)) (eOr (e2 eqS (eV 1) (eC (.int 0))) (eV 9)))))))))))))))
theorem ok_law {P : Program} {w : World} {K : PySem.W.Frag} {mg : Str → Option Value} {base : Heap} {k : Nat} {a : Addr} {fd : FuncData} (B : Bl mg) (Df : Def K mg "law" s_law ps_law a fd)
    {M__law_cell : List D → R D} {a__law_cell : Addr} {fd__law_cell : FuncData} (D__law_cell : Def K mg "_law_cell" s__law_cell ps__law_cell a__law_cell fd__law_cell) (F__law_cell : FnOk P w K mg base CX0 k a__law_cell fd__law_cell ps__law_cell (spF K mg ps__law_cell.length M__law_cell))
    {M__law_yard : List D → R D} {a__law_yard : Addr} {fd__law_yard : FuncData} (D__law_yard : Def K mg "_law_yard" s__law_yard ps__law_yard a__law_yard fd__law_yard) (F__law_yard : FnOk P w K mg base CX0 k a__law_yard fd__law_yard ps__law_yard (spF K mg ps__law_yard.length M__law_yard))
    {M__law_bad_world : List D → R D} {a__law_bad_world : Addr} {fd__law_bad_world : FuncData} (D__law_bad_world : Def K mg "_law_bad_world" s__law_bad_world ps__law_bad_world a__law_bad_world fd__law_bad_world) (F__law_bad_world : FnOk P w K mg base CX0 k a__law_bad_world fd__law_bad_world ps__law_bad_world (spF K mg ps__law_bad_world.length M__law_bad_world))
    {M_is_yard : List D → R D} {a_is_yard : Addr} {fd_is_yard : FuncData} (D_is_yard : Def K mg "is_yard" s_is_yard ps_is_yard a_is_yard fd_is_yard) (F_is_yard : FnOk P w K mg base CX0 k a_is_yard fd_is_yard ps_is_yard (spF K mg ps_is_yard.length M_is_yard))
    {M_is_own : List D → R D} {a_is_own : Addr} {fd_is_own : FuncData} (D_is_own : Def K mg "is_own" s_is_own ps_is_own a_is_own fd_is_own) (F_is_own : FnOk P w K mg base CX0 k a_is_own fd_is_own ps_is_own (spF K mg ps_is_own.length M_is_own))
    : FnOk P w K mg base CX0 (k + 1) a fd ps_law (spF K mg ps_law.length fun ds => (callR N_law (B_law M__law_cell M__law_yard M__law_bad_world M_is_yard M_is_own) ds).calm) :=
  fn_R0 Df.fn sc_law fun cdv A outer s H E hr => (xs_cons (x_set 1 (ev_op opd_mod (ev_call F__law_cell passW0 hr rfl D__law_cell.mg D__law_cell.fn.kp D__law_cell.bd (av_cons (ev_var 0) (av_cons ev_int av_nil))) ev_int) sc_law.nd) (xs_cons (x_set 2 (ev_call F__law_yard passW0 hr rfl D__law_yard.mg D__law_yard.fn.kp D__law_yard.bd (av_cons (ev_var 0) (av_cons ev_int (av_cons (ev_var 1) av_nil)))) sc_law.nd) (xs_cons (x_set 3 (ev_op opd_mod (ev_call F__law_cell passW0 hr rfl D__law_cell.mg D__law_cell.fn.kp D__law_cell.bd (av_cons (ev_var 0) (av_cons ev_int av_nil))) (ev_callB calld_len rfl B.m_len PySem.boot_len (av_cons (ev_var 2) av_nil))) sc_law.nd) (xs_cons (x_set 4 (ev_call F__law_bad_world passW0 hr rfl D__law_bad_world.mg D__law_bad_world.fn.kp D__law_bad_world.bd (av_cons (ev_ix (ev_var 2) (ev_var 3)) (av_cons (ev_callB calld_len rfl B.m_len PySem.boot_len (av_cons (ev_var 2) av_nil)) (av_cons (ev_call F__law_cell passW0 hr rfl D__law_cell.mg D__law_cell.fn.kp D__law_cell.bd (av_cons (ev_var 0) (av_cons ev_int av_nil))) av_nil)))) sc_law.nd) (xs_cons (x_if (WvD.tv (wv_or (tv_cmp opd_isnot (ev_call F_is_yard passW0 hr rfl D_is_yard.mg D_is_yard.fn.kp D_is_yard.bd (av_cons (ev_var 2) av_nil)) ev_bl) (wv_or1 (tv_cmp opd_isnot (ev_call F_is_yard passW0 hr rfl D_is_yard.mg D_is_yard.fn.kp D_is_yard.bd (av_cons (ev_op opd_cat (ev_op opd_cat (ev_slT (ev_var 2) ov_none (ov_some (ev_var 3))) (ev_tup (av_cons (ev_var 4) av_nil))) (ev_slT (ev_var 2) (ov_some (ev_op opd_add (ev_var 3) ev_int)) ov_none)) av_nil)) ev_bl)))) (xs_one (x_ret ev_bl)) xs_nil) (xs_cons (x_if (tv_cmp opd_isnot (ev_call F_is_yard passW0 hr rfl D_is_yard.mg D_is_yard.fn.kp D_is_yard.bd (av_cons (ev_ow (ow_list rfl B.m_list boot_list (sq_var 2))) av_nil)) ev_bl) (xs_one (x_ret ev_bl)) xs_nil) (xs_cons (x_if (WvD.tv (wv_or (tv_cmp opd_isnot (ev_call F_is_yard passW0 hr rfl D_is_yard.mg D_is_yard.fn.kp D_is_yard.bd (av_cons (ev_tup av_nil) av_nil)) ev_bl) (wv_or (tv_cmp opd_isnot (ev_call F_is_yard passW0 hr rfl D_is_yard.mg D_is_yard.fn.kp D_is_yard.bd (av_cons ev_non av_nil)) ev_bl) (wv_or1 (tv_cmp opd_isnot (ev_call F_is_yard passW0 hr rfl D_is_yard.mg D_is_yard.fn.kp D_is_yard.bd (av_cons (ev_tup (av_cons (ev_var 2) av_nil)) av_nil)) ev_bl))))) (xs_one (x_ret ev_bl)) xs_nil) (xs_cons (x_set 5 ev_bl sc_law.nd) (xs_cons (x_for rfl (it_enum rfl B.m_enumerate (ev_var 2)) (tg_two rfl (tg_name 6 sc_law.nd) (tg_name 7 sc_law.nd)) (xs_one (x_for rfl (it_tup (ev_ix (ev_var 7) ev_int)) (tg_name 8 sc_law.nd) (xs_one (x_set 5 (ev_and (ev_var 5) (ev_one (ev_cmp opd_in (ev_var 6) (ev_var 8)))) sc_law.nd))))) (xs_cons (x_set 9 (ev_call F_is_own passW0 hr rfl D_is_own.mg D_is_own.fn.kp D_is_own.bd (av_cons (ev_var 2) av_nil)) sc_law.nd) (xs_one (x_ret (ev_and (ev_isi (g := gBool) rfl B.m_isinstance rfl B.m_bool boot_bool (ev_var 9) (kit_bool _) boot_isinstance) (ev_and (ev_cmp opd_eqS (ev_var 9) (ev_var 5)) (ev_one (ev_or (ev_cmp opd_eqS (ev_var 1) ev_int) (ev_one (ev_var 9))))))))))))))))))
def M_law : List D → R D := fun ds => (callR N_law (B_law M__law_cell M__law_yard M__law_bad_world M_is_yard M_is_own) ds).calm

theorem all_mk {l : PySem.W.OpenLaw} {w : World} {K : PySem.W.Frag} {h : Heap} {mg : Str → Option Value} {fa f__law_cell f__law_mix f__law_yard f__law_bad_world f_leads_to_itself f_is_own f_is_rising f_is_name f_are_names f_is_whole f_is_below f_are_worlds f_are_ways f_is_world f_is_yard f_law p_WORDS : Addr} (X : K.In h) (G : h.Ns mainGlobals mg) (hfa : mg "law" = some (.ref fa))
    {od__law_cell an__law_cell : Option Addr} {sl__law_cell : Array (Option Value)} {oc__law_cell kV__law_cell dc__law_cell pm__law_cell cd__law_cell ct__law_cell : Value}
    {od__law_mix an__law_mix : Option Addr} {sl__law_mix : Array (Option Value)} {oc__law_mix kV__law_mix dc__law_mix pm__law_mix cd__law_mix ct__law_mix : Value}
    {od__law_yard an__law_yard : Option Addr} {sl__law_yard : Array (Option Value)} {oc__law_yard kV__law_yard dc__law_yard pm__law_yard cd__law_yard ct__law_yard : Value}
    {od__law_bad_world an__law_bad_world : Option Addr} {sl__law_bad_world : Array (Option Value)} {oc__law_bad_world kV__law_bad_world dc__law_bad_world pm__law_bad_world cd__law_bad_world ct__law_bad_world : Value}
    {od_leads_to_itself an_leads_to_itself : Option Addr} {sl_leads_to_itself : Array (Option Value)} {oc_leads_to_itself kV_leads_to_itself dc_leads_to_itself pm_leads_to_itself cd_leads_to_itself ct_leads_to_itself : Value}
    {od_is_own an_is_own : Option Addr} {sl_is_own : Array (Option Value)} {oc_is_own kV_is_own dc_is_own pm_is_own cd_is_own ct_is_own : Value}
    {od_is_rising an_is_rising : Option Addr} {sl_is_rising : Array (Option Value)} {oc_is_rising kV_is_rising dc_is_rising pm_is_rising cd_is_rising ct_is_rising : Value}
    {od_is_name an_is_name : Option Addr} {sl_is_name : Array (Option Value)} {oc_is_name kV_is_name dc_is_name pm_is_name cd_is_name ct_is_name : Value}
    {od_are_names an_are_names : Option Addr} {sl_are_names : Array (Option Value)} {oc_are_names kV_are_names dc_are_names pm_are_names cd_are_names ct_are_names : Value}
    {od_is_whole an_is_whole : Option Addr} {sl_is_whole : Array (Option Value)} {oc_is_whole kV_is_whole dc_is_whole pm_is_whole cd_is_whole ct_is_whole : Value}
    {od_is_below an_is_below : Option Addr} {sl_is_below : Array (Option Value)} {oc_is_below kV_is_below dc_is_below pm_is_below cd_is_below ct_is_below : Value}
    {od_are_worlds an_are_worlds : Option Addr} {sl_are_worlds : Array (Option Value)} {oc_are_worlds kV_are_worlds dc_are_worlds pm_are_worlds cd_are_worlds ct_are_worlds : Value}
    {od_are_ways an_are_ways : Option Addr} {sl_are_ways : Array (Option Value)} {oc_are_ways kV_are_ways dc_are_ways pm_are_ways cd_are_ways ct_are_ways : Value}
    {od_is_world an_is_world : Option Addr} {sl_is_world : Array (Option Value)} {oc_is_world kV_is_world dc_is_world pm_is_world cd_is_world ct_is_world : Value}
    {od_is_yard an_is_yard : Option Addr} {sl_is_yard : Array (Option Value)} {oc_is_yard kV_is_yard dc_is_yard pm_is_yard cd_is_yard ct_is_yard : Value}
    {od_law an_law : Option Addr} {sl_law : Array (Option Value)} {oc_law kV_law dc_law pm_law cd_law ct_law : Value}
    {t1_WORDS t2_WORDS t3_WORDS t4_WORDS t5_WORDS : Tok} {oc_WORDS : Option Addr} {nc_WORDS : Nat} {sc_WORDS : Array (Option Value)}
    {tc_LETTERS : Tok}
    (a__law_cell : PySem.W.nsIn K mainGlobals "_law_cell" = some (some (.ref f__law_cell))) (l__law_cell : K.lookup f__law_cell = some ⟨oc__law_cell, od__law_cell, .func (PySem.W.fnOf "_law_cell" "_law_cell" (defArgs s__law_cell) (defBody s__law_cell) (defScope s__law_cell) .none kV__law_cell dc__law_cell pm__law_cell an__law_cell cd__law_cell ct__law_cell), sl__law_cell⟩) (c__law_cell : PySem.W.codeIn K cd__law_cell "_law_cell" = true) (k__law_cell : PySem.W.keepIn K (.ref f__law_cell) = true)
    (a__law_mix : PySem.W.nsIn K mainGlobals "_law_mix" = some (some (.ref f__law_mix))) (l__law_mix : K.lookup f__law_mix = some ⟨oc__law_mix, od__law_mix, .func (PySem.W.fnOf "_law_mix" "_law_mix" (defArgs s__law_mix) (defBody s__law_mix) (defScope s__law_mix) .none kV__law_mix dc__law_mix pm__law_mix an__law_mix cd__law_mix ct__law_mix), sl__law_mix⟩) (c__law_mix : PySem.W.codeIn K cd__law_mix "_law_mix" = true) (k__law_mix : PySem.W.keepIn K (.ref f__law_mix) = true)
    (a__law_yard : PySem.W.nsIn K mainGlobals "_law_yard" = some (some (.ref f__law_yard))) (l__law_yard : K.lookup f__law_yard = some ⟨oc__law_yard, od__law_yard, .func (PySem.W.fnOf "_law_yard" "_law_yard" (defArgs s__law_yard) (defBody s__law_yard) (defScope s__law_yard) .none kV__law_yard dc__law_yard pm__law_yard an__law_yard cd__law_yard ct__law_yard), sl__law_yard⟩) (c__law_yard : PySem.W.codeIn K cd__law_yard "_law_yard" = true) (k__law_yard : PySem.W.keepIn K (.ref f__law_yard) = true)
    (a__law_bad_world : PySem.W.nsIn K mainGlobals "_law_bad_world" = some (some (.ref f__law_bad_world))) (l__law_bad_world : K.lookup f__law_bad_world = some ⟨oc__law_bad_world, od__law_bad_world, .func (PySem.W.fnOf "_law_bad_world" "_law_bad_world" (defArgs s__law_bad_world) (defBody s__law_bad_world) (defScope s__law_bad_world) .none kV__law_bad_world dc__law_bad_world pm__law_bad_world an__law_bad_world cd__law_bad_world ct__law_bad_world), sl__law_bad_world⟩) (c__law_bad_world : PySem.W.codeIn K cd__law_bad_world "_law_bad_world" = true) (k__law_bad_world : PySem.W.keepIn K (.ref f__law_bad_world) = true)
    (a_leads_to_itself : PySem.W.nsIn K mainGlobals "leads_to_itself" = some (some (.ref f_leads_to_itself))) (l_leads_to_itself : K.lookup f_leads_to_itself = some ⟨oc_leads_to_itself, od_leads_to_itself, .func (PySem.W.fnOf "leads_to_itself" "leads_to_itself" (defArgs s_leads_to_itself) (defBody s_leads_to_itself) (defScope s_leads_to_itself) .none kV_leads_to_itself dc_leads_to_itself pm_leads_to_itself an_leads_to_itself cd_leads_to_itself ct_leads_to_itself), sl_leads_to_itself⟩) (c_leads_to_itself : PySem.W.codeIn K cd_leads_to_itself "leads_to_itself" = true) (k_leads_to_itself : PySem.W.keepIn K (.ref f_leads_to_itself) = true)
    (a_is_own : PySem.W.nsIn K mainGlobals "is_own" = some (some (.ref f_is_own))) (l_is_own : K.lookup f_is_own = some ⟨oc_is_own, od_is_own, .func (PySem.W.fnOf "is_own" "is_own" (defArgs s_is_own) (defBody s_is_own) (defScope s_is_own) .none kV_is_own dc_is_own pm_is_own an_is_own cd_is_own ct_is_own), sl_is_own⟩) (c_is_own : PySem.W.codeIn K cd_is_own "is_own" = true) (k_is_own : PySem.W.keepIn K (.ref f_is_own) = true)
    (a_is_rising : PySem.W.nsIn K mainGlobals "is_rising" = some (some (.ref f_is_rising))) (l_is_rising : K.lookup f_is_rising = some ⟨oc_is_rising, od_is_rising, .func (PySem.W.fnOf "is_rising" "is_rising" (defArgs s_is_rising) (defBody s_is_rising) (defScope s_is_rising) .none kV_is_rising dc_is_rising pm_is_rising an_is_rising cd_is_rising ct_is_rising), sl_is_rising⟩) (c_is_rising : PySem.W.codeIn K cd_is_rising "is_rising" = true) (k_is_rising : PySem.W.keepIn K (.ref f_is_rising) = true)
    (a_is_name : PySem.W.nsIn K mainGlobals "is_name" = some (some (.ref f_is_name))) (l_is_name : K.lookup f_is_name = some ⟨oc_is_name, od_is_name, .func (PySem.W.fnOf "is_name" "is_name" (defArgs s_is_name) (defBody s_is_name) (defScope s_is_name) .none kV_is_name dc_is_name pm_is_name an_is_name cd_is_name ct_is_name), sl_is_name⟩) (c_is_name : PySem.W.codeIn K cd_is_name "is_name" = true) (k_is_name : PySem.W.keepIn K (.ref f_is_name) = true)
    (a_are_names : PySem.W.nsIn K mainGlobals "are_names" = some (some (.ref f_are_names))) (l_are_names : K.lookup f_are_names = some ⟨oc_are_names, od_are_names, .func (PySem.W.fnOf "are_names" "are_names" (defArgs s_are_names) (defBody s_are_names) (defScope s_are_names) .none kV_are_names dc_are_names pm_are_names an_are_names cd_are_names ct_are_names), sl_are_names⟩) (c_are_names : PySem.W.codeIn K cd_are_names "are_names" = true) (k_are_names : PySem.W.keepIn K (.ref f_are_names) = true)
    (a_is_whole : PySem.W.nsIn K mainGlobals "is_whole" = some (some (.ref f_is_whole))) (l_is_whole : K.lookup f_is_whole = some ⟨oc_is_whole, od_is_whole, .func (PySem.W.fnOf "is_whole" "is_whole" (defArgs s_is_whole) (defBody s_is_whole) (defScope s_is_whole) .none kV_is_whole dc_is_whole pm_is_whole an_is_whole cd_is_whole ct_is_whole), sl_is_whole⟩) (c_is_whole : PySem.W.codeIn K cd_is_whole "is_whole" = true) (k_is_whole : PySem.W.keepIn K (.ref f_is_whole) = true)
    (a_is_below : PySem.W.nsIn K mainGlobals "is_below" = some (some (.ref f_is_below))) (l_is_below : K.lookup f_is_below = some ⟨oc_is_below, od_is_below, .func (PySem.W.fnOf "is_below" "is_below" (defArgs s_is_below) (defBody s_is_below) (defScope s_is_below) .none kV_is_below dc_is_below pm_is_below an_is_below cd_is_below ct_is_below), sl_is_below⟩) (c_is_below : PySem.W.codeIn K cd_is_below "is_below" = true) (k_is_below : PySem.W.keepIn K (.ref f_is_below) = true)
    (a_are_worlds : PySem.W.nsIn K mainGlobals "are_worlds" = some (some (.ref f_are_worlds))) (l_are_worlds : K.lookup f_are_worlds = some ⟨oc_are_worlds, od_are_worlds, .func (PySem.W.fnOf "are_worlds" "are_worlds" (defArgs s_are_worlds) (defBody s_are_worlds) (defScope s_are_worlds) .none kV_are_worlds dc_are_worlds pm_are_worlds an_are_worlds cd_are_worlds ct_are_worlds), sl_are_worlds⟩) (c_are_worlds : PySem.W.codeIn K cd_are_worlds "are_worlds" = true) (k_are_worlds : PySem.W.keepIn K (.ref f_are_worlds) = true)
    (a_are_ways : PySem.W.nsIn K mainGlobals "are_ways" = some (some (.ref f_are_ways))) (l_are_ways : K.lookup f_are_ways = some ⟨oc_are_ways, od_are_ways, .func (PySem.W.fnOf "are_ways" "are_ways" (defArgs s_are_ways) (defBody s_are_ways) (defScope s_are_ways) .none kV_are_ways dc_are_ways pm_are_ways an_are_ways cd_are_ways ct_are_ways), sl_are_ways⟩) (c_are_ways : PySem.W.codeIn K cd_are_ways "are_ways" = true) (k_are_ways : PySem.W.keepIn K (.ref f_are_ways) = true)
    (a_is_world : PySem.W.nsIn K mainGlobals "is_world" = some (some (.ref f_is_world))) (l_is_world : K.lookup f_is_world = some ⟨oc_is_world, od_is_world, .func (PySem.W.fnOf "is_world" "is_world" (defArgs s_is_world) (defBody s_is_world) (defScope s_is_world) .none kV_is_world dc_is_world pm_is_world an_is_world cd_is_world ct_is_world), sl_is_world⟩) (c_is_world : PySem.W.codeIn K cd_is_world "is_world" = true) (k_is_world : PySem.W.keepIn K (.ref f_is_world) = true)
    (a_is_yard : PySem.W.nsIn K mainGlobals "is_yard" = some (some (.ref f_is_yard))) (l_is_yard : K.lookup f_is_yard = some ⟨oc_is_yard, od_is_yard, .func (PySem.W.fnOf "is_yard" "is_yard" (defArgs s_is_yard) (defBody s_is_yard) (defScope s_is_yard) .none kV_is_yard dc_is_yard pm_is_yard an_is_yard cd_is_yard ct_is_yard), sl_is_yard⟩) (c_is_yard : PySem.W.codeIn K cd_is_yard "is_yard" = true) (k_is_yard : PySem.W.keepIn K (.ref f_is_yard) = true)
    (a_law : PySem.W.nsIn K mainGlobals "law" = some (some (.ref f_law))) (l_law : K.lookup f_law = some ⟨oc_law, od_law, .func (PySem.W.fnOf "law" "law" (defArgs s_law) (defBody s_law) (defScope s_law) .none kV_law dc_law pm_law an_law cd_law ct_law), sl_law⟩) (c_law : PySem.W.codeIn K cd_law "law" = true) (k_law : PySem.W.keepIn K (.ref f_law) = true)
    (a_WORDS : PySem.W.nsIn K mainGlobals "WORDS" = some (some (.ref p_WORDS))) (l_WORDS : K.lookup p_WORDS = some ⟨.type "tuple", oc_WORDS, .seq #[.str "not" t1_WORDS, .str "and" t2_WORDS, .str "or" t3_WORDS, .str "all" t4_WORDS, .str "some" t5_WORDS] nc_WORDS, sc_WORDS⟩)
    (a_LETTERS : PySem.W.nsIn K mainGlobals "LETTERS" = some (some (.str "abcdefghijklmnopqrstuvwxyz" tc_LETTERS)))
    (z_isinstance : PySem.W.nsIn K mainGlobals "isinstance" = some none)
    (z_int : PySem.W.nsIn K mainGlobals "int" = some none)
    (z_bool : PySem.W.nsIn K mainGlobals "bool" = some none)
    (z_str : PySem.W.nsIn K mainGlobals "str" = some none)
    (z_tuple : PySem.W.nsIn K mainGlobals "tuple" = some none)
    (z_list : PySem.W.nsIn K mainGlobals "list" = some none)
    (z_len : PySem.W.nsIn K mainGlobals "len" = some none)
    (z_all : PySem.W.nsIn K mainGlobals "all" = some none)
    (z_range : PySem.W.nsIn K mainGlobals "range" = some none)
    (z_enumerate : PySem.W.nsIn K mainGlobals "enumerate" = some none)
    : ∃ fd : FuncData, (∀ (s : Shared) (v : Value), BindsTo s fd ⟨[v], []⟩ [("_law_script", v)]) ∧ ∀ base : Heap, K.In base → base.Ns mainGlobals mg → FnOk l.prog w K mg base CX0 7 fa fd ["_law_script"] (spL K M_law) := by
  have e := hfa.symm.trans (PySem.W.mg_of X G a_law)
  cases e
  have B : Bl mg := bl_mk X G z_isinstance z_int z_bool z_str z_tuple z_list z_len z_all z_range z_enumerate
  obtain ⟨fd__law_cell, D__law_cell⟩ := def_mk (st := s__law_cell) (ps := ps__law_cell) X G a__law_cell l__law_cell c__law_cell k__law_cell fun _ _ _ _ _ _ us hl => match us, hl with | [_, _], _ => rfl
  obtain ⟨fd__law_mix, D__law_mix⟩ := def_mk (st := s__law_mix) (ps := ps__law_mix) X G a__law_mix l__law_mix c__law_mix k__law_mix fun _ _ _ _ _ _ us hl => match us, hl with | [_, _, _], _ => rfl
  obtain ⟨fd__law_yard, D__law_yard⟩ := def_mk (st := s__law_yard) (ps := ps__law_yard) X G a__law_yard l__law_yard c__law_yard k__law_yard fun _ _ _ _ _ _ us hl => match us, hl with | [_, _, _], _ => rfl
  obtain ⟨fd__law_bad_world, D__law_bad_world⟩ := def_mk (st := s__law_bad_world) (ps := ps__law_bad_world) X G a__law_bad_world l__law_bad_world c__law_bad_world k__law_bad_world fun _ _ _ _ _ _ us hl => match us, hl with | [_, _, _], _ => rfl
  obtain ⟨fd_leads_to_itself, D_leads_to_itself⟩ := def_mk (st := s_leads_to_itself) (ps := ps_leads_to_itself) X G a_leads_to_itself l_leads_to_itself c_leads_to_itself k_leads_to_itself fun _ _ _ _ _ _ us hl => match us, hl with | [_, _], _ => rfl
  obtain ⟨fd_is_own, D_is_own⟩ := def_mk (st := s_is_own) (ps := ps_is_own) X G a_is_own l_is_own c_is_own k_is_own fun _ _ _ _ _ _ us hl => match us, hl with | [_], _ => rfl
  obtain ⟨fd_is_rising, D_is_rising⟩ := def_mk (st := s_is_rising) (ps := ps_is_rising) X G a_is_rising l_is_rising c_is_rising k_is_rising fun _ _ _ _ _ _ us hl => match us, hl with | [_], _ => rfl
  obtain ⟨fd_is_name, D_is_name⟩ := def_mk (st := s_is_name) (ps := ps_is_name) X G a_is_name l_is_name c_is_name k_is_name fun _ _ _ _ _ _ us hl => match us, hl with | [_], _ => rfl
  obtain ⟨fd_are_names, D_are_names⟩ := def_mk (st := s_are_names) (ps := ps_are_names) X G a_are_names l_are_names c_are_names k_are_names fun _ _ _ _ _ _ us hl => match us, hl with | [_], _ => rfl
  obtain ⟨fd_is_whole, D_is_whole⟩ := def_mk (st := s_is_whole) (ps := ps_is_whole) X G a_is_whole l_is_whole c_is_whole k_is_whole fun _ _ _ _ _ _ us hl => match us, hl with | [_], _ => rfl
  obtain ⟨fd_is_below, D_is_below⟩ := def_mk (st := s_is_below) (ps := ps_is_below) X G a_is_below l_is_below c_is_below k_is_below fun _ _ _ _ _ _ us hl => match us, hl with | [_, _], _ => rfl
  obtain ⟨fd_are_worlds, D_are_worlds⟩ := def_mk (st := s_are_worlds) (ps := ps_are_worlds) X G a_are_worlds l_are_worlds c_are_worlds k_are_worlds fun _ _ _ _ _ _ us hl => match us, hl with | [_, _], _ => rfl
  obtain ⟨fd_are_ways, D_are_ways⟩ := def_mk (st := s_are_ways) (ps := ps_are_ways) X G a_are_ways l_are_ways c_are_ways k_are_ways fun _ _ _ _ _ _ us hl => match us, hl with | [_, _], _ => rfl
  obtain ⟨fd_is_world, D_is_world⟩ := def_mk (st := s_is_world) (ps := ps_is_world) X G a_is_world l_is_world c_is_world k_is_world fun _ _ _ _ _ _ us hl => match us, hl with | [_, _], _ => rfl
  obtain ⟨fd_is_yard, D_is_yard⟩ := def_mk (st := s_is_yard) (ps := ps_is_yard) X G a_is_yard l_is_yard c_is_yard k_is_yard fun _ _ _ _ _ _ us hl => match us, hl with | [_], _ => rfl
  have D_law : Def K mg "law" s_law ps_law fa (PySem.W.fnOf "law" "law" (defArgs s_law) (defBody s_law) (defScope s_law) .none kV_law dc_law pm_law an_law cd_law ct_law) := ⟨fun_mk l_law c_law k_law, (fun_mk (st := s_law) l_law c_law k_law).binds fun _ _ _ _ _ _ us hl => match us, hl with | [_], _ => rfl, PySem.W.mg_of X G a_law⟩
  have g_WORDS : GlobC K mg "WORDS" c_WORDS := globT (vs := [.str "not", .str "and", .str "or", .str "all", .str "some"]) X G a_WORDS l_WORDS (by show 5 ≤ sizeLine; decide) (.cons ⟨_, rfl⟩ (.cons ⟨_, rfl⟩ (.cons ⟨_, rfl⟩ (.cons ⟨_, rfl⟩ (.cons ⟨_, rfl⟩ (.nil)))))) (denL_cons.mpr ⟨_, _, rfl, den_str, denL_cons.mpr ⟨_, _, rfl, den_str, denL_cons.mpr ⟨_, _, rfl, den_str, denL_cons.mpr ⟨_, _, rfl, den_str, denL_cons.mpr ⟨_, _, rfl, den_str, denL_nil.mpr rfl⟩⟩⟩⟩⟩)
  have g_LETTERS : GlobC K mg "LETTERS" c_LETTERS := globS X G a_LETTERS
  refine ⟨PySem.W.fnOf "law" "law" (defArgs s_law) (defBody s_law) (defScope s_law) .none kV_law dc_law pm_law an_law cd_law ct_law, fun s v => .of_eq rfl, fun base _ _ => ?_⟩
  have F__law_cell := ok__law_cell (P := l.prog) (w := w) (base := base) (k := 0) B D__law_cell
  have F__law_mix := ok__law_mix (P := l.prog) (w := w) (base := base) (k := 0) B D__law_mix
  have F__law_yard := ok__law_yard (P := l.prog) (w := w) (base := base) (k := 1) B D__law_yard D__law_cell (F__law_cell.mono (by omega)) D__law_mix (F__law_mix.mono (by omega))
  have F__law_bad_world := ok__law_bad_world (P := l.prog) (w := w) (base := base) (k := 0) B D__law_bad_world
  have F_leads_to_itself := ok_leads_to_itself (P := l.prog) (w := w) (base := base) (k := 0) B D_leads_to_itself
  have F_is_own := ok_is_own (P := l.prog) (w := w) (base := base) (k := 1) B D_is_own D_leads_to_itself (F_leads_to_itself.mono (by omega))
  have F_is_rising := ok_is_rising (P := l.prog) (w := w) (base := base) (k := 0) B D_is_rising
  have F_is_name := ok_is_name (P := l.prog) (w := w) (base := base) (k := 0) B D_is_name g_WORDS g_LETTERS
  have F_are_names := ok_are_names (P := l.prog) (w := w) (base := base) (k := 1) B D_are_names D_is_rising (F_is_rising.mono (by omega)) D_is_name (F_is_name.mono (by omega))
  have F_is_whole := ok_is_whole (P := l.prog) (w := w) (base := base) (k := 0) B D_is_whole
  have F_is_below := ok_is_below (P := l.prog) (w := w) (base := base) (k := 1) B D_is_below D_is_whole (F_is_whole.mono (by omega))
  have F_are_worlds := ok_are_worlds (P := l.prog) (w := w) (base := base) (k := 2) B D_are_worlds D_is_rising (F_is_rising.mono (by omega)) D_is_below (F_is_below.mono (by omega))
  have F_are_ways := ok_are_ways (P := l.prog) (w := w) (base := base) (k := 3) B D_are_ways D_are_worlds (F_are_worlds.mono (by omega))
  have F_is_world := ok_is_world (P := l.prog) (w := w) (base := base) (k := 4) B D_is_world D_are_ways (F_are_ways.mono (by omega)) D_are_names (F_are_names.mono (by omega))
  have F_is_yard := ok_is_yard (P := l.prog) (w := w) (base := base) (k := 5) B D_is_yard D_is_world (F_is_world.mono (by omega))
  have F_law := ok_law (P := l.prog) (w := w) (base := base) (k := 6) B D_law D__law_cell (F__law_cell.mono (by omega)) D__law_yard (F__law_yard.mono (by omega)) D__law_bad_world (F__law_bad_world.mono (by omega)) D_is_yard (F_is_yard.mono (by omega)) D_is_own (F_is_own.mono (by omega))
  exact FnOk.toL F_law

end K02
namespace K02
open PySem PySem.Spec PyProof.Rows L2 Wy Wl
theorem m_mix (c p m : Int) (hp : 0 < p) (hm : 0 < m) : M__law_mix [.int c, .int p, .int m] = .ok (.int (mixI c p m)) := by
  simp [M__law_mix, B__law_mix, begin_, hp, hm, mixI]
theorem m_cell (ns : List Int) (k : Nat) : M__law_cell [dLs ns, .int k] = .ok (.int (cellI ns k)) := by
  by_cases h : k < ns.length
  · have e : atI (ns.map D.int) (k : Int) = some (D.int (cellI ns k)) := atI_nat (by simp [cellI, h, List.getD_eq_getElem?_getD])
    simp [M__law_cell, B__law_cell, begin_, dLs, h, e]
  · have e : cellI ns k = 0 := by simp [cellI, List.getD_eq_getElem?_getD, List.getElem?_eq_none (by omega : ns.length ≤ k)]
    simp [M__law_cell, B__law_cell, begin_, dLs, h, e]
theorem m_whole (d : D) : M_is_whole [d] = .ok (.bl (match d with | .int _ => true | _ => false)) := by
  cases d <;> simp [M_is_whole, B_is_whole, begin_, tyN, gInt, gBool]
def isBelow (d : D) (b : Int) : Bool := match d with
  | .int i => decide (0 ≤ i) && decide (i < b)
  | _ => false
theorem m_below (d : D) (b : Int) : M_is_below [d, .int b] = .ok (.bl (isBelow d b)) := by
  cases d with
  | int i => by_cases h : 0 ≤ i <;> simp [M_is_below, B_is_below, begin_, m_whole, isBelow, h]
  | _ => simp [M_is_below, B_is_below, begin_, m_whole, isBelow]
/-! ### the yard -/
def tName (ns : List Int) (k w : Nat) (acc : List D) (d : D) : List D := match d with
  | .tup [.int i, .str x] => if mixI (cellI ns (k + 1) + 7 * (w : Int) + i) 9929 2 = 0 then acc ++ [.str x] else acc
  | _ => acc
theorem turn_name (ns : List Int) (k w : Nat) (own c : Int) (found acc : List D) (x9 x10 x11 x12 a b : Sl) (i : Int) (x : Str) (hl : acc.length < 16000000) :
    L__law_yard_2 M__law_mix M__law_cell [.val (dLs ns), .val (.int k), .val (.int own), .val (.int c), .own found, .val (.int w), .own acc, .val (.int i), .val (.str x), x9, x10, x11, x12] =
      .nx [.val (dLs ns), .val (.int k), .val (.int own), .val (.int c), .own found, .val (.int w), .own (tName ns k w acc (.tup [.int i, .str x])), .val (.int i), .val (.str x), x9, x10, x11, x12] := by
  have e1 : M__law_cell [dLs ns, .int ((k : Int) + 1)] = .ok (.int (cellI ns (k + 1))) := m_cell ns (k + 1)
  by_cases h : mixI (cellI ns (k + 1) + 7 * (w : Int) + i) 9929 2 = 0
  · simp [L__law_yard_2, e1, m_mix, h, hl, tName]
  · simp [L__law_yard_2, e1, m_mix, h, hl, tName]
theorem names_fold (ns : List Int) (k w : Nat) : (enumL [.str "a", .str "b", .str "zz"]).foldl (tName ns k w) [] = (yNames ns k w).map D.str := by
  show tName ns k w (tName ns k w (tName ns k w [] (.tup [.int ((0 : Nat) : Int), .str "a"])) (.tup [.int ((1 : Nat) : Int), .str "b"])) (.tup [.int ((2 : Nat) : Int), .str "zz"]) = _
  unfold yNames
  simp only [tName]
  by_cases c1 : mixI (cellI ns (k + 1) + 7 * (w : Int) + ((0 : Nat) : Int)) 9929 2 = 0 <;> by_cases c2 : mixI (cellI ns (k + 1) + 7 * (w : Int) + ((1 : Nat) : Int)) 9929 2 = 0 <;> by_cases c3 : mixI (cellI ns (k + 1) + 7 * (w : Int) + ((2 : Nat) : Int)) 9929 2 = 0 <;> simp only [c1, c2, c3, if_true, if_false, List.filter, decide_true, decide_false, List.map, List.nil_append, List.cons_append]
theorem turn_kind (ns : List Int) (k w kind : Nat) (own : Int) (found nms acc : List D) (x7 x8 x11 x12 : Sl) (hl : acc.length < 16000000) :
    ∃ y11 y12, L__law_yard_3 M__law_cell M__law_mix [.val (dLs ns), .val (.int k), .val (.int own), .val (.int (yCount ns k)), .own found, .val (.int w), .own nms, x7, x8, .own acc, .val (.int kind), x11, x12] =
      .nx [.val (dLs ns), .val (.int k), .val (.int own), .val (.int (yCount ns k)), .own found, .val (.int w), .own nms, x7, x8, .own (acc ++ [dRow (yRow ns k own w kind)]), .val (.int kind), y11, y12] := by
  have hc := yCount_le ns k
  have e1 : M__law_cell [dLs ns, .int ((k : Int) + 2 + (kind : Int))] = .ok (.int (cellI ns (k + 2 + kind))) := m_cell ns (k + 2 + kind)
  have eR : rng1 [.int (yCount ns k : Int)] = some ((List.range (yCount ns k)).map fun (j : Nat) => D.int (j : Int)) := rng1_nat (by omega)
  refine ⟨.val (.int (cellI ns (k + 2 + kind) + 31 * (w : Int))), .own ((yRow ns k own w kind).map fun (n : Nat) => D.int (n : Int)), ?_⟩
  have hcomp : ∀ Γ : Ga, Γ = [.val (dLs ns), .val (.int k), .val (.int own), .val (.int (yCount ns k)), .own found, .val (.int w), .own nms, x7, x8, .own acc, .val (.int kind), .val (.int (cellI ns (k + 2 + kind) + 31 * (w : Int))), x12] → 
      compR (tOrR (Wy.tB (e2 eqS (eCall M__law_mix (aCons (e2 (int2 fun i j => some (.int (i + j))) (eV 13) (e2 (int2 mulI) (eC (.int 5)) (eV 0))) (aCons (eC (.int 9923)) (aCons (eC (.int 3)) aNil)))) (eC (.int 0)))) (tAndR (Wy.tB (e2 eqS (eV 4) (eC (.int 1)))) (Wy.tB (e2 eqS (eV 0) (eV 7))))) (eV 0) Γ ((List.range (yCount ns k)).map fun (j : Nat) => D.int (j : Int)) = .ok ((yRow ns k own w kind).map fun (n : Nat) => D.int (n : Int)) := fun Γ hΓ => by
    subst hΓ
    rw [compR_filter (p := fun d => match d with | .int j => decide (mixI (cellI ns (k + 2 + kind) + 31 * (w : Int) + 5 * j) 9923 3 = 0) || (decide (own = 1) && decide (j = (w : Int))) | _ => false) (h := id)]
    · rw [List.map_id, List.filter_map]
      have e : List.filter ((fun d : D => match d with | .int j => decide (mixI (cellI ns (k + 2 + kind) + 31 * (w : Int) + 5 * j) 9923 3 = 0) || (decide (own = 1) && decide (j = (w : Int))) | _ => false) ∘ fun (j : Nat) => D.int (j : Int)) (List.range (yCount ns k)) = yRow ns k own w kind := by
        unfold yRow
        apply List.filter_congr
        intro x _
        have : decide ((x : Int) = (w : Int)) = decide (x = w) := by rw [Bool.eq_iff_iff]; simp; omega
        simp only [Function.comp, this]
      rw [e]
    · intro d hd
      obtain ⟨j, _, rfl⟩ := List.mem_map.mp hd
      by_cases h1 : mixI (cellI ns (k + 2 + kind) + 31 * (w : Int) + 5 * (j : Int)) 9923 3 = 0
      · simp [m_mix, h1]
      · by_cases h2 : own = 1
        · simp [m_mix, h1, h2]
        · simp [m_mix, h1, h2]
    · intro d hd _
      obtain ⟨j, _, rfl⟩ := List.mem_map.mp hd
      simp
  have hl2 : yCount ns k < 16000000 := by omega
  simp [L__law_yard_3, e1, eR, hcomp _ rfl, hl, dRow, hl2]

theorem rows_fold (ns : List Int) (k w : Nat) (own : Int) : ((List.range 3).map fun (j : Nat) => D.int (j : Int)).foldl (fun acc d => match d with | .int i => acc ++ [dRow (yRow ns k own w i.toNat)] | _ => acc) [] = ((List.range 3).map (yRow ns k own w)).map dRow := by
  show [] ++ [dRow (yRow ns k own w 0)] ++ [dRow (yRow ns k own w 1)] ++ [dRow (yRow ns k own w 2)] = _
  rfl
theorem turn_world (ns : List Int) (k w : Nat) (own : Int) (found : List D) (x6 x7 x8 x9 x10 x11 x12 : Sl) (hl : found.length < 16000000) :
    ∃ y6 y7 y8 y9 y10 y11 y12, L__law_yard_1 M__law_mix M__law_cell [.val (dLs ns), .val (.int k), .val (.int own), .val (.int (yCount ns k)), .own found, .val (.int w), x6, x7, x8, x9, x10, x11, x12] =
      .nx [.val (dLs ns), .val (.int k), .val (.int own), .val (.int (yCount ns k)), .own (found ++ [dWd (lawWd ns k own w)]), .val (.int w), y6, y7, y8, y9, y10, y11, y12] := by
  obtain ⟨Γ1, h1, ha, a, b', rfl⟩ := turns_ix (g := gTwo (gName' 7) (gName' 8)) (T := L__law_yard_2 M__law_mix M__law_cell) (fun i acc Γ => acc.length ≤ i ∧ ∃ a b, Γ = [.val (dLs ns), .val (.int k), .val (.int own), .val (.int (yCount ns k)), .own found, .val (.int w), .own acc, a, b, x9, x10, x11, x12]) (tName ns k w)
    (enumL [.str "a", .str "b", .str "zz"]) 0 [] [.val (dLs ns), .val (.int k), .val (.int own), .val (.int (yCount ns k)), .own found, .val (.int w), .own [], x7, x8, x9, x10, x11, x12] (by
      rintro i acc d Γ hd ⟨hi, a, b, rfl⟩
      have hd' := hd
      have hi3 : i < 3 := (List.getElem?_eq_some_iff.mp hd).1
      have hm : ∃ (j : Nat) (x : Str), d = .tup [.int (j : Int), .str x] := by
        match i, hi3, hd with
        | 0, _, hd => cases hd; exact ⟨0, "a", rfl⟩
        | 1, _, hd => cases hd; exact ⟨1, "b", rfl⟩
        | 2, _, hd => cases hd; exact ⟨2, "zz", rfl⟩
      obtain ⟨j, x, rfl⟩ := hm
      refine ⟨_, _, rfl, .inl (turn_name ns k w own (yCount ns k) found acc x9 x10 x11 x12 a b j x (by omega)), ?_, _, _, rfl⟩
      simp only [tName]
      split <;> simp <;> omega) ⟨by simp, _, _, rfl⟩
  rw [names_fold] at h1
  obtain ⟨Γ2, h2, hb, c', d', e', rfl⟩ := turns_ix (g := gName' 10) (T := L__law_yard_3 M__law_cell M__law_mix) (fun i acc Γ => acc.length ≤ i ∧ ∃ c d e, Γ = [.val (dLs ns), .val (.int k), .val (.int own), .val (.int (yCount ns k)), .own found, .val (.int w), .own ((yNames ns k w).map D.str), a, b', .own acc, c, d, e]) (fun acc d => match d with | .int i => acc ++ [dRow (yRow ns k own w i.toNat)] | _ => acc)
    ((List.range 3).map fun (j : Nat) => D.int (j : Int)) 0 [] [.val (dLs ns), .val (.int k), .val (.int own), .val (.int (yCount ns k)), .own found, .val (.int w), .own ((yNames ns k w).map D.str), a, b', .own [], x10, x11, x12] (by
      rintro i acc d Γ hd ⟨hi, c, d', e, rfl⟩
      have hi3 : i < 3 := by simpa using (List.getElem?_eq_some_iff.mp hd).1
      rw [List.getElem?_map, List.getElem?_range hi3] at hd
      cases hd
      obtain ⟨y11, y12, hq⟩ := turn_kind ns k w i own found ((yNames ns k w).map D.str) acc a b' d' e (by omega)
      exact ⟨_, _, rfl, .inl hq, by simp; omega, _, _, _, rfl⟩) ⟨by simp, _, _, _, rfl⟩
  rw [rows_fold] at h2
  have eR3 : rng1 [.int 3] = some ((List.range 3).map fun (j : Nat) => D.int (j : Int)) := rng1_nat (k := 3) (by decide)
  exact ⟨.own ((yNames ns k w).map D.str), a, b', .own (((List.range 3).map (yRow ns k own w)).map dRow), c', d', e', by simp only [L__law_yard_1]; simp [h1, h2, eR3, hl, dWd, lawWd, dNames, dWays]⟩
theorem m_yard (ns : List Int) (k : Nat) (own : Int) : M__law_yard [dLs ns, .int k, .int own] = .ok (dYd (lawYd ns k own)) := by
  have hc := yCount_le ns k
  have e0 : (1 : Int) + cellI ns k % 5 = (yCount ns k : Int) := by
    have h1 := Int.emod_nonneg (cellI ns k) (show (5 : Int) ≠ 0 by decide)
    unfold yCount
    omega
  have eR : rng1 [.int (yCount ns k : Int)] = some ((List.range (yCount ns k)).map fun (j : Nat) => D.int (j : Int)) := rng1_nat (by omega)
  obtain ⟨Γ1, h1, ha, y6, y7, y8, y9, y10, y11, y12, y13, rfl⟩ := turns_ix (g := gName' 5) (T := L__law_yard_1 M__law_mix M__law_cell) (fun i acc Γ => acc.length ≤ i ∧ ∃ a b c d e f g h, Γ = [.val (dLs ns), .val (.int k), .val (.int own), .val (.int (yCount ns k)), .own acc, a, b, c, d, e, f, g, h])
    (fun acc d => match d with | .int i => acc ++ [dWd (lawWd ns k own i.toNat)] | _ => acc)
    ((List.range (yCount ns k)).map fun (j : Nat) => D.int (j : Int)) 0 [] [.val (dLs ns), .val (.int k), .val (.int own), .val (.int (yCount ns k)), .own [], .un, .un, .un, .un, .un, .un, .un, .un] (by
      rintro i acc d Γ hd ⟨hi, a, b, c, d', e, f, g, h, rfl⟩
      have hi3 : i < yCount ns k := by simpa using (List.getElem?_eq_some_iff.mp hd).1
      rw [List.getElem?_map, List.getElem?_range hi3] at hd
      cases hd
      obtain ⟨y6, y7, y8, y9, y10, y11, y12, hq⟩ := turn_world ns k i own acc b c d' e f g h (by omega)
      exact ⟨_, _, rfl, .inl hq, by simp; omega, _, _, _, _, _, _, _, _, rfl⟩) ⟨by simp, _, _, _, _, _, _, _, _, rfl⟩
  have ef : ((List.range (yCount ns k)).map fun (j : Nat) => D.int (j : Int)).foldl (fun acc d => match d with | .int i => acc ++ [dWd (lawWd ns k own i.toNat)] | _ => acc) [] = (lawYd ns k own).map dWd := by
    rw [List.foldl_map]
    have := foldl_app (fun (j : Nat) => dWd (lawWd ns k own j)) (List.range (yCount ns k)) []
    simp only [Int.toNat_natCast]
    rw [this]
    simp [lawYd]
  rw [ef] at h1
  simp [M__law_yard, B__law_yard, begin_, m_cell, e0, eR, h1, dYd]
end K02

namespace K02
open PySem PySem.Spec PyProof.Rows L2 Wy Wl
/-! ### rows -/
theorem atI_row (r : List Nat) (k : Nat) (h : k < r.length) : atI (r.map fun (n : Nat) => D.int (n : Int)) (k : Int) = some (D.int (r.getD k 0 : Nat)) :=
  atI_nat (by simp [h, List.getD_eq_getElem?_getD])
theorem rng_len (r : List Nat) (hl : r.length ≤ 1000) : rng1 [.int ((r.length : Int) - 1)] = some ((List.range (r.length - 1)).map fun (j : Nat) => D.int (j : Int)) := by
  cases r with
  | nil => kernel_rfl
  | cons a r =>
    have : ((a :: r).length : Int) - 1 = ((r.length : Nat) : Int) := by simp
    rw [this, rng1_nat (by simp at hl; omega)]
    simp
theorem m_rising (r : List Nat) (hl : r.length ≤ 1000) (hp : r.Pairwise (· < ·)) : M_is_rising [dRow r] = .ok (.bl true) := by
  have h := all_cp (it := iR1 (aCons (e2 (int2 fun i j => some (.int (i - j))) (eB lenD (aCons (eV 0) aNil)) (eC (.int 1))) aNil)) (f := e2 ltD (e2 ixD (eV 2) (eV 0)) (e2 ixD (eV 2) (e2 (int2 fun i j => some (.int (i + j))) (eV 0) (eC (.int 1))))) (Γ := [.val (dRow r)]) (ds := (List.range (r.length - 1)).map fun (j : Nat) => D.int (j : Int)) (p := fun _ => true)
    (by simp [dRow, rng_len r hl]) (by simp; omega) (by
      intro d hd
      obtain ⟨j, hj, rfl⟩ := List.mem_map.mp hd
      have hj := List.mem_range.mp hj
      have e1 := atI_row r j (by omega)
      have e2 : atI (r.map fun (n : Nat) => D.int (n : Int)) ((j : Int) + 1) = some (D.int (r.getD (j + 1) 0 : Nat)) := atI_row r (j + 1) (by omega)
      have lt : r[j]?.getD 0 < r[j + 1]?.getD 0 := by
        have := List.pairwise_iff_getElem.mp hp j (j + 1) (by omega) (by omega) (by omega)
        simpa [show j < r.length by omega, show j + 1 < r.length by omega] using this
      simp [dRow, e1, e2, lt])
  have e : M_is_rising [dRow r] = .ok (.bl (((List.range (r.length - 1)).map fun (j : Nat) => D.int (j : Int)).all fun _ => true)) := by
    simp only [M_is_rising, B_is_rising, callR_eq, sRet_eq]
    rw [show begin_ N_is_rising [dRow r] = [.val (dRow r)] from rfl, h]
    rfl
  rw [e]
  simp
theorem m_worlds (r : List Nat) (c : Nat) (hl : r.length ≤ 1000) (hp : r.Pairwise (· < ·)) (hb : ∀ n ∈ r, n < c) : M_are_worlds [dRow r, .int c] = .ok (.bl true) := by
  have h := all_cp (it := iT (eV 0)) (f := eCall M_is_below (aCons (eV 0) (aCons (eV 3) aNil))) (Γ := [.val (dRow r), .val (.int c)]) (ds := r.map fun (n : Nat) => D.int (n : Int)) (p := fun d => isBelow d c)
    (by simp [dRow]) (by simp; omega) (by
      intro d hd
      simp [m_below])
  have ha : (r.map fun (n : Nat) => D.int (n : Int)).all (fun d => isBelow d c) = true := by
    rw [List.all_eq_true]
    intro d hd
    obtain ⟨n, hn, rfl⟩ := List.mem_map.mp hd
    have := hb n hn
    simp [isBelow]
    omega
  rw [ha] at h
  simp only [M_are_worlds, B_are_worlds, callR_eq, sRet_eq, eAnd_eq]
  rw [show begin_ N_are_worlds [dRow r, .int c] = [.val (dRow r), .val (.int c)] from rfl, h]
  simp [m_rising r hl hp]
/-- a drawn world's ways -/
theorem m_ways (ws : List (List Nat)) (c : Nat) (h3 : ws.length = 3) (h : ∀ r ∈ ws, r.length ≤ 1000 ∧ r.Pairwise (· < ·) ∧ ∀ n ∈ r, n < c) : M_are_ways [dWays ws, .int c] = .ok (.bl true) := by
  have h := all_cp (it := iT (eV 0)) (f := eCall M_are_worlds (aCons (eV 0) (aCons (eV 3) aNil))) (Γ := [.val (dWays ws), .val (.int c)]) (ds := ws.map dRow) (p := fun _ => true)
    (by simp) (by simp; omega) (by
      intro d hd
      obtain ⟨r, hr, rfl⟩ := List.mem_map.mp hd
      obtain ⟨a, b, c'⟩ := h r hr
      simp [m_worlds r c a b c'])
  simp only [M_are_ways, B_are_ways, callR_eq, sRet_eq, eAnd_eq]
  rw [show begin_ N_are_ways [dWays ws, .int c] = [.val (dWays ws), .val (.int c)] from rfl, h]
  simp [h3]
theorem names8 (ns : List Int) (k w : Nat) : yNames ns k w ∈ ([[], ["a"], ["b"], ["zz"], ["a", "b"], ["a", "zz"], ["b", "zz"], ["a", "b", "zz"]] : List (List Str)) := by
  unfold yNames
  by_cases c1 : mixI (cellI ns (k + 1) + 7 * (w : Int) + ((0 : Nat) : Int)) 9929 2 = 0 <;> by_cases c2 : mixI (cellI ns (k + 1) + 7 * (w : Int) + ((1 : Nat) : Int)) 9929 2 = 0 <;> by_cases c3 : mixI (cellI ns (k + 1) + 7 * (w : Int) + ((2 : Nat) : Int)) 9929 2 = 0 <;> simp only [c1, c2, c3, List.filter, decide_true, decide_false, List.map] <;> simp
theorem m_names (ns : List Int) (k w : Nat) : M_are_names [dNames (yNames ns k w)] = .ok (.bl true) := by
  have := names8 ns k w
  simp only [List.mem_cons, List.not_mem_nil, or_false] at this
  rcases this with h | h | h | h | h | h | h | h <;> (rw [h]; kernel_rfl)
theorem yRow_ok (ns : List Int) (k : Nat) (own : Int) (w kind : Nat) : (yRow ns k own w kind).length ≤ 1000 ∧ (yRow ns k own w kind).Pairwise (· < ·) ∧ ∀ n ∈ yRow ns k own w kind, n < yCount ns k := by
  refine ⟨?_, ?_, ?_⟩
  · have := List.length_filter_le (fun one => decide (mixI (cellI ns (k + 2 + kind) + 31 * (w : Int) + 5 * ((one : Nat) : Int)) 9923 3 = 0) || (decide (own = 1) && decide (one = w))) (List.range (yCount ns k))
    have h5 := yCount_le ns k
    unfold yRow
    rw [List.length_range] at this
    omega
  · exact List.Pairwise.filter _ List.pairwise_lt_range
  · intro n hn
    exact List.mem_range.mp (List.mem_filter.mp hn).1
theorem m_wdOk (ns : List Int) (k : Nat) (own : Int) (w : Nat) : M_are_ways [dWays (lawWd ns k own w).2, .int (yCount ns k)] = .ok (.bl true) := m_ways _ _ rfl (by
  intro r hr
  obtain ⟨kind, _, rfl⟩ := List.mem_map.mp hr
  exact yRow_ok ns k own w kind)
theorem m_world (ns : List Int) (k : Nat) (own : Int) (w : Nat) : M_is_world [dWd (lawWd ns k own w), .int (yCount ns k)] = .ok (.bl true) := by
  have h1 : M_are_names [dNames (lawWd ns k own w).1] = .ok (.bl true) := m_names ns k w
  simp [M_is_world, B_is_world, begin_, h1, m_wdOk]
/-! ### is_yard of any tuple of things of which is_world tells -/
theorem m_isyard (xs : List D) (p : D → Bool) (h0 : xs ≠ []) (hl : xs.length ≤ 1000) (h : ∀ x ∈ xs, M_is_world [x, .int xs.length] = .ok (.bl (p x))) : M_is_yard [.tup xs] = .ok (.bl (xs.all p)) := by
  have h := all_cp (it := iT (eV 0)) (f := eCall M_is_world (aCons (eV 0) (aCons (eB lenD (aCons (eV 2) aNil)) aNil))) (Γ := [.val (.tup xs)]) (ds := xs) (p := p) (by simp) (by omega) (by
    intro d hd
    simp [h d hd])
  have hn : xs.length ≠ 0 := fun z => h0 (List.length_eq_zero_iff.mp z)
  have hi : ¬ ((xs.length : Int) = 0) := by omega
  simp only [M_is_yard, B_is_yard, callR_eq]
  rw [show begin_ N_is_yard [.tup xs] = [.val (.tup xs)] from rfl]
  simp [-eS_eq, h0, h, hi]
def badL (w : Wd) (c : Nat) : List D :=
  [.tup [dNames w.1], .tup [dNames w.1, dWays w.2, .int 0], .lst [dNames w.1, dWays w.2], .non, .tup [.lst (w.1.map .str), dWays w.2], .tup [.tup [.str "b", .str "a"], dWays w.2],
   .tup [.tup [.str "a", .str "a"], dWays w.2], .tup [.tup [.str "A"], dWays w.2], .tup [.tup [.int 1], dWays w.2], .tup [dNames w.1, .tup (cut (w.2.map dRow) none (some 2))],
   .tup [dNames w.1, .tup (w.2.map dRow ++ [.tup []])], .tup [dNames w.1, .lst (w.2.map dRow)], .tup [.str "a", dWays w.2], .tup [.tup [.str "abcde"], dWays w.2], .tup [.tup [.str "and"], dWays w.2],
   .tup [.tup [.str ""], dWays w.2], .tup [dNames w.1, .tup [.tup [.int c], .tup [], .tup []]], .tup [dNames w.1, .tup [.tup [.int (-1)], .tup [], .tup []]], .tup [dNames w.1, .tup [.tup [.int 0, .int 0], .tup [], .tup []]],
   .tup [dNames w.1, .tup [.lst [.int 0], .tup [], .tup []]], .tup [dNames w.1, .tup [.tup [], .tup [.bl true], .tup []]], .tup [dNames w.1, .tup [.tup [], .tup [], .tup [.str "0"]]], .tup [dNames w.1, .non]]
theorem m_bad (w : Wd) (c : Nat) (i : Int) (h3 : w.2.length = 3) : M__law_bad_world [dWd w, .int c, .int i] = R.ofO (atI (badL w c) (i % 23)) := by
  have e1 : gTwo (gName' 3) (gName' 4) (dWd w) [.val (dWd w), .val (.int c), .val (.int i), .un, .un, .un] = some [.val (dWd w), .val (.int c), .val (.int i), .val (dNames w.1), .val (dWays w.2), .un] := rfl
  have e2 : sV 0 [.val (dNames w.1), .val (dWays w.2), .un] = .ok (true, w.1.map .str) := rfl
  have e3 : ∀ sl, sV 0 [.val (dWays w.2), sl] = .ok (true, w.2.map dRow) := fun _ => rfl
  have e4 : slD (dWays w.2) none (some 2) = some (.tup (cut (w.2.map dRow) none (some 2))) := rfl
  have e5 : catD (dWays w.2) (.tup [.tup []]) = some (.tup (w.2.map dRow ++ [.tup []])) := catD_eq (by simp; omega)
  simp [M__law_bad_world, B__law_bad_world, begin_, e1, e2, e3, e4, e5, badL]
theorem nm_bad (ds : List D) (ws : D) (c : Int) (h : M_are_names [.tup ds] = .ok (.bl false)) : M_is_world [.tup [.tup ds, ws], .int c] = .ok (.bl false) := by
  simp [M_is_world, B_is_world, begin_, h, atI_zero]
theorem wy_bad (ns : List Str) (ws : D) (c : Int) (hn : M_are_names [dNames ns] = .ok (.bl true)) (h : M_are_ways [ws, .int c] = .ok (.bl false)) : M_is_world [.tup [dNames ns, ws], .int c] = .ok (.bl false) := by
  simp [M_is_world, B_is_world, begin_, hn, h, atI_zero, atI_one]
theorem ws3 (a b d : D) (x y z : Bool) (c : Int) (h1 : M_are_worlds [a, .int c] = .ok (.bl x)) (h2 : M_are_worlds [b, .int c] = .ok (.bl y)) (h3 : M_are_worlds [d, .int c] = .ok (.bl z)) : M_are_ways [.tup [a, b, d], .int c] = .ok (.bl (x && (y && z))) := by
  simp [M_are_ways, B_are_ways, begin_, compR, h1, h2, h3, allS, asBs]
theorem ws_len (xs : List D) (c : Int) (h : xs.length ≠ 3) : M_are_ways [.tup xs, .int c] = .ok (.bl false) := by
  have : ¬ ((xs.length : Int) = 3) := by omega
  simp [M_are_ways, B_are_ways, begin_, this]
theorem wo_nil (c : Int) : M_are_worlds [.tup [], .int c] = .ok (.bl true) := by kernel_rfl
theorem wo_one (d : D) (c : Int) (h : isBelow d c = false) : M_are_worlds [.tup [d], .int c] = .ok (.bl false) := by
  simp [M_are_worlds, B_are_worlds, begin_, compR, m_below, h, allS, asBs]
theorem wo_lst (xs : List D) (c : Int) : M_are_worlds [.lst xs, .int c] = .ok (.bl false) := by
  simp [M_are_worlds, B_are_worlds, begin_]
theorem ri_00 : M_is_rising [.tup [.int 0, .int 0]] = .ok (.bl false) := by kernel_rfl
theorem wo_00 (c : Int) (h : 0 < c) : M_are_worlds [.tup [.int 0, .int 0], .int c] = .ok (.bl false) := by
  simp [M_are_worlds, B_are_worlds, begin_, compR, m_below, isBelow, h, allS, asBs, ri_00]
theorem bad_false (w : Wd) (c : Nat) (hn : M_are_names [dNames w.1] = .ok (.bl true)) (h3 : w.2.length = 3) (hc : 1 ≤ c) : ∀ d ∈ badL w c, M_is_world [d, .int c] = .ok (.bl false) := by
  unfold badL
  simp only [List.forall_mem_cons]
  refine ⟨?_, ?_, ?_, ?_, ?_, ?_, ?_, ?_, ?_, ?_, ?_, ?_, ?_, ?_, ?_, ?_, ?_, ?_, ?_, ?_, ?_, ?_, ?_, fun _ z => nomatch z⟩
  · simp [M_is_world, B_is_world, begin_]
  · simp [M_is_world, B_is_world, begin_]
  · simp [M_is_world, B_is_world, begin_]
  · simp [M_is_world, B_is_world, begin_]
  · have : M_are_names [.lst (w.1.map .str)] = .ok (.bl false) := by simp [M_are_names, B_are_names, begin_]
    simp [M_is_world, B_is_world, begin_, this, atI_zero]
  · exact nm_bad _ _ _ (by kernel_rfl)
  · exact nm_bad _ _ _ (by kernel_rfl)
  · exact nm_bad _ _ _ (by kernel_rfl)
  · exact nm_bad _ _ _ (by kernel_rfl)
  · refine wy_bad _ _ _ hn (ws_len _ _ ?_)
    match h : w.2, h3 with
    | [a, b, d], _ => show (2 : Nat) ≠ 3; decide
  · exact wy_bad _ _ _ hn (ws_len _ _ (by simp [h3]))
  · refine wy_bad _ _ _ hn ?_
    simp [M_are_ways, B_are_ways, begin_]
  · have : M_are_names [.str "a"] = .ok (.bl false) := by kernel_rfl
    simp [M_is_world, B_is_world, begin_, this, atI_zero]
  · exact nm_bad _ _ _ (by kernel_rfl)
  · exact nm_bad _ _ _ (by kernel_rfl)
  · exact nm_bad _ _ _ (by kernel_rfl)
  · exact wy_bad _ _ _ hn (ws3 _ _ _ _ _ _ _ (wo_one _ _ (by simp [isBelow])) (wo_nil _) (wo_nil _))
  · exact wy_bad _ _ _ hn (ws3 _ _ _ _ _ _ _ (wo_one _ _ (by simp [isBelow])) (wo_nil _) (wo_nil _))
  · exact wy_bad _ _ _ hn (ws3 _ _ _ _ _ _ _ (wo_00 _ (by omega)) (wo_nil _) (wo_nil _))
  · exact wy_bad _ _ _ hn (ws3 _ _ _ _ _ _ _ (wo_lst _ _) (wo_nil _) (wo_nil _))
  · exact wy_bad _ _ _ hn (ws3 _ _ _ _ _ _ _ (wo_nil _) (wo_one _ _ rfl) (wo_nil _))
  · exact wy_bad _ _ _ hn (ws3 _ _ _ _ _ _ _ (wo_nil _) (wo_nil _) (wo_one _ _ rfl))
  · refine wy_bad _ _ _ hn ?_
    simp [M_are_ways, B_are_ways, begin_]
/-! ### own -/
def isOwn (y : List Wd) : Bool := (List.range y.length).all fun n => (y.getD n ([], [])).2.all fun r => decide (n ∈ r)
theorem in_row (n : Nat) (r : List Nat) : inD (.int (n : Int)) (dRow r) = some (.bl (decide (n ∈ r))) := by
  have h1 : (r.map fun (n : Nat) => D.int (n : Int)).all flatD = true := by
    rw [List.all_eq_true]
    intro d hd
    obtain ⟨m, _, rfl⟩ := List.mem_map.mp hd
    rfl
  show (if (flatD (.int (n : Int)) && (r.map fun (n : Nat) => D.int (n : Int)).all flatD) = true then _ else _) = _
  rw [h1, if_pos (by rfl)]
  have e : inV (toV (.int (n : Int))) ((r.map fun (n : Nat) => D.int (n : Int)).map toV) = decide (n ∈ r) := by
    unfold inV
    rw [Bool.eq_iff_iff, List.any_eq_true]
    constructor
    · rintro ⟨v, hv, e⟩
      rw [List.map_map] at hv
      obtain ⟨m, hm, rfl⟩ := List.mem_map.mp hv
      have : (m : Int) = (n : Int) := eq_of_beq e
      have : m = n := by omega
      subst this
      exact decide_eq_true hm
    · intro h
      have h := of_decide_eq_true h
      exact ⟨.int (n : Int), by rw [List.map_map]; exact List.mem_map.mpr ⟨n, h, rfl⟩, by simp [eqV, toV]⟩
  rw [e]
theorem m_leads (y : List Wd) (n : Nat) (w : Wd) (h : y[n]? = some w) (hl : w.2.length ≤ 1000) : M_leads_to_itself [dYd y, .int n] = .ok (.bl (w.2.all fun r => decide (n ∈ r))) := by
  have h2 := all_cp (it := iT (eV 2)) (f := e2 inD (eV 3) (eV 0)) (Γ := [.val (dYd y), .val (.int n), .val (dWays w.2)]) (ds := w.2.map dRow) (p := fun d => match d with | .tup xs => xs.any (fun x => match x with | .int i => i == (n : Int) | _ => false) | _ => false)
    (by simp) (by simp; omega) (by
      intro d hd
      obtain ⟨r, _, rfl⟩ := List.mem_map.mp hd
      have e : ((r.map fun (m : Nat) => D.int (m : Int)).any (fun x => match x with | .int i => i == (n : Int) | _ => false)) = decide (n ∈ r) := by
        rw [List.any_map, Bool.eq_iff_iff, List.any_eq_true]
        simp only [Function.comp, beq_iff_eq, decide_eq_true_eq]
        constructor
        · rintro ⟨m, hm, e⟩
          have : m = n := by omega
          exact this ▸ hm
        · exact fun h => ⟨n, h, rfl⟩
      simp [in_row]
      exact e.symm)
  have e3 : (w.2.map dRow).all (fun d => match d with | .tup xs => xs.any (fun x => match x with | .int i => i == (n : Int) | _ => false) | _ => false) = w.2.all fun r => decide (n ∈ r) := by
    rw [List.all_map]
    congr 1
    funext r
    show (r.map fun (m : Nat) => D.int (m : Int)).any (fun x => match x with | .int i => i == (n : Int) | _ => false) = decide (n ∈ r)
    rw [List.any_map, Bool.eq_iff_iff, List.any_eq_true]
    simp only [Function.comp, beq_iff_eq, decide_eq_true_eq]
    constructor
    · rintro ⟨m, hm, e⟩
      have : m = n := by omega
      exact this ▸ hm
    · exact fun h => ⟨n, h, rfl⟩
  rw [e3] at h2
  simp only [M_leads_to_itself, B_leads_to_itself, callR_eq]
  rw [show begin_ N_leads_to_itself [dYd y, .int n] = [.val (dYd y), .val (.int n), .un] from rfl]
  simp [-eS_eq, yd_at h, h2]
theorem m_own (y : List Wd) (hy : y.length ≤ 1000) (hl : ∀ w ∈ y, w.2.length ≤ 1000) : M_is_own [dYd y] = .ok (.bl (isOwn y)) := by
  have h := all_cp (it := iR1 (aCons (eB lenD (aCons (eV 0) aNil)) aNil)) (f := eCall M_leads_to_itself (aCons (eV 2) (aCons (eV 0) aNil))) (Γ := [.val (dYd y)]) (ds := (List.range y.length).map fun (j : Nat) => D.int (j : Int))
    (p := fun d => match d with | .int i => (y.getD i.toNat ([], [])).2.all fun r => decide (i.toNat ∈ r) | _ => false)
    (by simp [rng1_nat (k := y.length) (by omega)]) (by simp; omega) (by
      intro d hd
      obtain ⟨j, hj, rfl⟩ := List.mem_map.mp hd
      have hj := List.mem_range.mp hj
      have e := m_leads y j y[j] (List.getElem?_eq_getElem hj) (hl _ (List.getElem_mem hj))
      simp [e, hj])
  simp only [M_is_own, B_is_own, callR_eq]
  rw [show begin_ N_is_own [dYd y] = [.val (dYd y)] from rfl]
  have e : ((List.range y.length).map fun (j : Nat) => D.int (j : Int)).all (fun d => match d with | .int i => (y.getD i.toNat ([], [])).2.all fun r => decide (i.toNat ∈ r) | _ => false) = isOwn y := by
    rw [List.all_map]
    rfl
  rw [e] at h
  simp [-eS_eq, h]
/-! ### what the law reckons of own -/
def ownF (b : Bool) (d : D) : Bool := match d with
  | .tup [.int k, .tup [_, .tup ws]] => b && ws.all fun r => match r with | .tup xs => xs.any (fun x => match x with | .int i => i == k | _ => false) | _ => false
  | _ => b
theorem row_any (n : Nat) (r : List Nat) : (match dRow r with | .tup xs => xs.any (fun x => match x with | .int i => i == (n : Int) | _ => false) | _ => false) = decide (n ∈ r) := by
  show (r.map fun (m : Nat) => D.int (m : Int)).any (fun x => match x with | .int i => i == (n : Int) | _ => false) = decide (n ∈ r)
  rw [List.any_map, Bool.eq_iff_iff, List.any_eq_true]
  simp only [Function.comp, beq_iff_eq, decide_eq_true_eq]
  constructor
  · rintro ⟨m, hm, e⟩
    have : m = n := by omega
    exact this ▸ hm
  · exact fun h => ⟨n, h, rfl⟩
theorem turn_due (k : Nat) (w : Wd) (b : Bool) (x0 x1 x2 x3 x4 x8 x9 : Sl) :
    ∃ y8, L_law_1 [x0, x1, x2, x3, x4, .val (.bl b), .val (.int k), .val (dWd w), x8, x9] = .nx [x0, x1, x2, x3, x4, .val (.bl (b && w.2.all fun r => decide (k ∈ r))), .val (.int k), .val (dWd w), y8, x9] := by
  obtain ⟨Γ', h1, y8, rfl⟩ := turns_st (g := gName' 8) (T := L_law_2) (fun (b : Bool) Γ => ∃ y8, Γ = [x0, x1, x2, x3, x4, .val (.bl b), .val (.int k), .val (dWd w), y8, x9]) (fun b d => b && (match d with | .tup xs => xs.any (fun x => match x with | .int i => i == (k : Int) | _ => false) | _ => false)) (w.2.map dRow) b
    [x0, x1, x2, x3, x4, .val (.bl b), .val (.int k), .val (dWd w), x8, x9] (by
      rintro b d Γ hd ⟨y8, rfl⟩
      obtain ⟨r, _, rfl⟩ := List.mem_map.mp hd
      refine ⟨_, _, rfl, .inl ?_, .val (dRow r), rfl⟩
      rw [row_any]
      cases b
      · simp [L_law_2]
      · simp [L_law_2, in_row]) ⟨_, rfl⟩
  refine ⟨y8, ?_⟩
  have ef : ∀ (l : List (List Nat)) (b : Bool), (l.map dRow).foldl (fun b d => b && (match d with | .tup xs => xs.any (fun x => match x with | .int i => i == (k : Int) | _ => false) | _ => false)) b = (b && l.all fun r => decide (k ∈ r)) := by
    intro l
    induction l with
    | nil => intro b; simp
    | cons r l ih =>
      intro b
      rw [List.map_cons, List.foldl_cons, ih, row_any, List.all_cons, Bool.and_assoc]
  rw [ef] at h1
  simp [L_law_1, h1]
theorem due_turns (y : List Wd) (x0 x1 x2 x3 x4 x9 : Sl) : ∃ y6 y7 y8, sTurns (gTwo (gName' 6) (gName' 7)) L_law_1 (enumL (y.map dWd)) [x0, x1, x2, x3, x4, .val (.bl true), .un, .un, .un, x9] = .nx [x0, x1, x2, x3, x4, .val (.bl (isOwn y)), y6, y7, y8, x9] := by
  obtain ⟨Γ', h1, y6, y7, y8, rfl⟩ := turns_ix (g := gTwo (gName' 6) (gName' 7)) (T := L_law_1) (fun i (b : Bool) Γ => ∃ y6 y7 y8, Γ = [x0, x1, x2, x3, x4, .val (.bl b), y6, y7, y8, x9]) (fun b d => match d with | .tup [.int k, _] => b && (y.getD k.toNat ([], [])).2.all fun r => decide (k.toNat ∈ r) | _ => b) (enumL (y.map dWd)) 0 true
    [x0, x1, x2, x3, x4, .val (.bl true), .un, .un, .un, x9] (by
      rintro i b d Γ hd ⟨y6, y7, y8, rfl⟩
      unfold enumL at hd
      have hi : i < y.length := by simpa using (List.getElem?_eq_some_iff.mp hd).1
      rw [List.getElem?_map, List.length_map, List.getElem?_range hi] at hd
      cases hd
      have ew : (y.map dWd).getD i .non = dWd y[i] := by simp [List.getD_eq_getElem?_getD, hi]
      dsimp only
      rw [ew]
      obtain ⟨z8, hz⟩ := turn_due i y[i] b x0 x1 x2 x3 x4 y8 x9
      refine ⟨_, _, rfl, .inl hz, .val (.int i), .val (dWd y[i]), z8, ?_⟩
      simp [List.getD_eq_getElem?_getD, hi]) ⟨_, _, _, rfl⟩
  refine ⟨y6, y7, y8, ?_⟩
  have ef : (enumL (y.map dWd)).foldl (fun b d => match d with | .tup [.int k, _] => b && (y.getD k.toNat ([], [])).2.all fun r => decide (k.toNat ∈ r) | _ => b) true = isOwn y := by
    unfold enumL isOwn
    rw [List.length_map, List.foldl_map]
    simp only [Int.toNat_natCast]
    have : ∀ (l : List Nat) (b : Bool) (p : Nat → Bool), l.foldl (fun b k => b && p k) b = (b && l.all p) := by
      intro l
      induction l with
      | nil => intro b p; simp
      | cons a l ih => intro b p; rw [List.foldl_cons, ih, List.all_cons, Bool.and_assoc]
    rw [this]
    simp
  rw [ef] at h1
  exact h1
/-! ### the law -/
theorem lawYd_len (ns : List Int) (k : Nat) (own : Int) : (lawYd ns k own).length = yCount ns k := by simp [lawYd]
theorem wd_mem (ns : List Int) (k : Nat) (own : Int) (w : Wd) (h : w ∈ lawYd ns k own) : ∃ i, i < yCount ns k ∧ w = lawWd ns k own i := by
  obtain ⟨i, hi, rfl⟩ := List.mem_map.mp h
  exact ⟨i, List.mem_range.mp hi, rfl⟩
theorem yd_true (ns : List Int) (k : Nat) (own : Int) : M_is_yard [dYd (lawYd ns k own)] = .ok (.bl true) := by
  have hc := yCount_le ns k
  have h := m_isyard ((lawYd ns k own).map dWd) (fun _ => true) (by
    intro z
    have := congrArg List.length z
    rw [List.length_map, lawYd_len] at this
    simp at this
    omega) (by rw [List.length_map, lawYd_len]; omega) (by
    intro x hx
    obtain ⟨w, hw, rfl⟩ := List.mem_map.mp hx
    obtain ⟨i, hi, rfl⟩ := wd_mem ns k own w hw
    rw [List.length_map, lawYd_len]
    exact m_world ns k own i)
  rw [show (.tup ((lawYd ns k own).map dWd) : D) = dYd (lawYd ns k own) from rfl] at h
  rw [h]
  simp
theorem yd_bad (ns : List Int) (k at_ : Nat) (own : Int) (b : D) (ha : at_ < yCount ns k) (hb : M_is_world [b, .int (yCount ns k)] = .ok (.bl false)) :
    M_is_yard [.tup (((lawYd ns k own).map dWd).take at_ ++ [b] ++ ((lawYd ns k own).map dWd).drop (at_ + 1))] = .ok (.bl false) := by
  have hc := yCount_le ns k
  have hlen : (((lawYd ns k own).map dWd).take at_ ++ [b] ++ ((lawYd ns k own).map dWd).drop (at_ + 1)).length = yCount ns k := by
    simp only [List.length_append, List.length_take, List.length_drop, List.length_map, lawYd_len, List.length_cons, List.length_nil]
    omega
  have good : ∀ x ∈ (lawYd ns k own).map dWd, M_is_world [x, .int (yCount ns k)] = .ok (.bl true) := by
    intro x hx
    obtain ⟨w, hw, rfl⟩ := List.mem_map.mp hx
    obtain ⟨i, hi, rfl⟩ := wd_mem ns k own w hw
    exact m_world ns k own i
  have h := m_isyard (((lawYd ns k own).map dWd).take at_ ++ [b] ++ ((lawYd ns k own).map dWd).drop (at_ + 1)) (fun x => match M_is_world [x, .int (yCount ns k)] with | .ok (.bl v) => v | _ => false) (by simp) (by rw [hlen]; omega) (by
    intro x hx
    rw [hlen]
    rw [List.mem_append, List.mem_append, List.mem_singleton] at hx
    rcases hx with (hx | hx) | hx
    · rw [good x (List.mem_of_mem_take hx)]
    · rw [hx, hb]
    · rw [good x (List.mem_of_mem_drop hx)])
  rw [h]
  have : (((lawYd ns k own).map dWd).take at_ ++ [b] ++ ((lawYd ns k own).map dWd).drop (at_ + 1)).all (fun x => match M_is_world [x, .int (yCount ns k)] with | .ok (.bl v) => v | _ => false) = false := by
    rw [List.all_append, List.all_append, List.all_cons, hb]
    simp
  rw [this]
theorem yd_one (ns : List Int) (k : Nat) (own : Int) : M_is_yard [.tup [dYd (lawYd ns k own)]] = .ok (.bl false) := by
  have hw : M_is_world [dYd (lawYd ns k own), .int 1] = .ok (.bl false) := by
    by_cases h : yCount ns k = 2
    · have e0 : ixD (dYd (lawYd ns k own)) (.int ((0 : Nat) : Int)) = some (dWd (lawWd ns k own 0)) := yd_at (by simp [lawYd, h])
      have e1 : M_are_names [dWd (lawWd ns k own 0)] = .ok (.bl false) := by
        have n1 : M_is_name [dNames (lawWd ns k own 0).1] = .ok (.bl false) := by simp [M_is_name, B_is_name, begin_, gStr]
        have n2 : M_is_name [dWays (lawWd ns k own 0).2] = .ok (.bl false) := by simp [M_is_name, B_is_name, begin_, gStr]
        have e : dWd (lawWd ns k own 0) = .tup [dNames (lawWd ns k own 0).1, dWays (lawWd ns k own 0).2] := rfl
        rw [e]
        simp [M_are_names, B_are_names, begin_, compR, n1, n2, allS, asBs]
      have e0' : ixD (dYd (lawYd ns k own)) (.int 0) = some (dWd (lawWd ns k own 0)) := e0
      simp [M_is_world, B_is_world, begin_, lawYd_len, h, e0', e1]
    · have : ¬ ((yCount ns k : Int) = 2) := by omega
      simp [M_is_world, B_is_world, begin_, lawYd_len, this]
  have h := m_isyard [dYd (lawYd ns k own)] (fun _ => false) (by simp) (by simp) (by
    intro x hx
    rw [List.mem_singleton.mp hx]
    exact hw)
  rw [h]
  rfl
theorem own_true (ns : List Int) (k : Nat) : isOwn (lawYd ns k 1) = true := by
  unfold isOwn
  rw [List.all_eq_true]
  intro n hn
  rw [List.mem_range, lawYd_len] at hn
  rw [List.all_eq_true]
  intro r hr
  have e : (lawYd ns k 1).getD n ([], []) = lawWd ns k 1 n := by simp [lawYd, List.getD_eq_getElem?_getD, hn]
  rw [e] at hr
  obtain ⟨kind, _, rfl⟩ := List.mem_map.mp hr
  apply decide_eq_true
  unfold yRow
  rw [List.mem_filter]
  exact ⟨List.mem_range.mpr hn, by simp⟩
theorem cut_take {α : Type} (xs : List α) (n : Nat) (h : n ≤ xs.length) : cut xs none (some (n : Int)) = xs.take n := by
  unfold cut
  rw [HT.sIx_nat, HT.sIx_none, Nat.min_eq_left h]
  simp
theorem cut_drop {α : Type} (xs : List α) (n : Nat) (h : n ≤ xs.length) : cut xs (some (n : Int)) none = xs.drop n := by
  unfold cut
  rw [HT.sIx_nat, HT.sIx_none, Nat.min_eq_left h, List.take_of_length_le]
  rw [List.length_drop]
  exact Nat.le_refl _
theorem law_true (ns : List Int) (_ : ns.length ≤ 63) : M_law [.lst (ns.map D.int)] = .ok (.bl true) := by
  show M_law [dLs ns] = _
  have c8 : M__law_cell [dLs ns, .int 8] = .ok (.int (cellI ns 8)) := m_cell ns 8
  have c6 : M__law_cell [dLs ns, .int 6] = .ok (.int (cellI ns 6)) := m_cell ns 6
  have c7 : M__law_cell [dLs ns, .int 7] = .ok (.int (cellI ns 7)) := m_cell ns 7
  generalize ho : cellI ns 8 % 2 = own at *
  have yd : M__law_yard [dLs ns, .int 0, .int own] = .ok (dYd (lawYd ns 0 own)) := m_yard ns 0 own
  have hc := yCount_le ns 0
  obtain ⟨at_, hat⟩ : ∃ a : Nat, cellI ns 6 % ((yCount ns 0 : Nat) : Int) = (a : Int) := ⟨(cellI ns 6 % ((yCount ns 0 : Nat) : Int)).toNat, by
    have := Int.emod_nonneg (cellI ns 6) (show ((yCount ns 0 : Nat) : Int) ≠ 0 by omega)
    omega⟩
  have ha : at_ < yCount ns 0 := by
    have := Int.emod_lt_of_pos (cellI ns 6) (show (0 : Int) < ((yCount ns 0 : Nat) : Int) by omega)
    omega
  have eat : (lawYd ns 0 own)[at_]? = some (lawWd ns 0 own at_) := by simp [lawYd, ha]
  have ix := yd_at eat
  have hn : M_are_names [dNames (lawWd ns 0 own at_).1] = .ok (.bl true) := m_names ns 0 at_
  obtain ⟨b, hb⟩ := atI_some (l := badL (lawWd ns 0 own at_) (yCount ns 0)) (i := cellI ns 7 % 23) (Int.emod_nonneg _ (by decide)) (Int.emod_lt_of_pos _ (by decide))
  have bd := m_bad (lawWd ns 0 own at_) (yCount ns 0) (cellI ns 7) rfl
  rw [hb] at bd
  have bf := bad_false (lawWd ns 0 own at_) (yCount ns 0) hn rfl hc.1 b (atI_mem hb)
  have yb := yd_bad ns 0 at_ own b ha bf
  have sl1 : slD (dYd (lawYd ns 0 own)) none (some (at_ : Int)) = some (.tup (((lawYd ns 0 own).map dWd).take at_)) := by
    show some (D.tup (cut _ _ _)) = _
    rw [cut_take _ _ (by rw [List.length_map, lawYd_len]; omega)]
  have sl2 : slD (dYd (lawYd ns 0 own)) (some ((at_ : Int) + 1)) none = some (.tup (((lawYd ns 0 own).map dWd).drop (at_ + 1))) := by
    show some (D.tup (cut _ (some (((at_ + 1 : Nat)) : Int)) _)) = _
    rw [cut_drop _ _ (by rw [List.length_map, lawYd_len]; omega)]
  have ct1 : catD (.tup (((lawYd ns 0 own).map dWd).take at_)) (.tup [b]) = some (.tup (((lawYd ns 0 own).map dWd).take at_ ++ [b])) := catD_eq (by rw [List.length_take, List.length_map, lawYd_len]; simp; omega)
  have ct2 : catD (.tup (((lawYd ns 0 own).map dWd).take at_ ++ [b])) (.tup (((lawYd ns 0 own).map dWd).drop (at_ + 1))) = some (.tup (((lawYd ns 0 own).map dWd).take at_ ++ [b] ++ ((lawYd ns 0 own).map dWd).drop (at_ + 1))) := catD_eq (by
    simp only [List.length_append, List.length_take, List.length_drop, List.length_map, lawYd_len, List.length_cons, List.length_nil]
    omega)
  have yt := yd_true ns 0 own
  have yl : M_is_yard [.lst ((lawYd ns 0 own).map dWd)] = .ok (.bl false) := by simp [M_is_yard, B_is_yard, begin_]
  have y0 : M_is_yard [.tup []] = .ok (.bl false) := by simp [M_is_yard, B_is_yard, begin_]
  have yn : M_is_yard [.non] = .ok (.bl false) := by simp [M_is_yard, B_is_yard, begin_]
  have y1 := yd_one ns 0 own
  have mo := m_own (lawYd ns 0 own) (by rw [lawYd_len]; omega) (by
    intro w hw
    obtain ⟨i, _, rfl⟩ := wd_mem ns 0 own w hw
    show (3 : Nat) ≤ 1000
    decide)
  have sv : ∀ a b c d e f g, sV 0 [Sl.val (dYd (lawYd ns 0 own)), a, b, c, d, e, f, g] = .ok (true, (lawYd ns 0 own).map dWd) := fun _ _ _ _ _ _ _ => rfl
  have en : enumD (dYd (lawYd ns 0 own)) = some (enumL ((lawYd ns 0 own).map dWd)) := rfl
  have md : modI (cellI ns 6) ((yCount ns 0 : Nat) : Int) = some (.int (at_ : Int)) := by rw [modI_pos (by omega), hat]
  obtain ⟨y6, y7, y8, du⟩ := due_turns (lawYd ns 0 own) (.val (dLs ns)) (.val (.int own)) (.val (dYd (lawYd ns 0 own))) (.val (.int at_)) (.val b) .un
  have ow : own = 0 ∨ own = 1 := by
    have h1 := Int.emod_nonneg (cellI ns 8) (show (2 : Int) ≠ 0 by decide)
    have h2 := Int.emod_lt_of_pos (cellI ns 8) (show (0 : Int) < 2 by decide)
    omega
  simp only [M_law, B_law, callR_eq]
  rw [show begin_ N_law [dLs ns] = [.val (dLs ns), .un, .un, .un, .un, .un, .un, .un, .un, .un] from rfl]
  simp only [List.append_assoc, List.cons_append, List.nil_append] at ct2 yb
  simp [c8, c6, c7, ho, yd, lawYd_len, md, ix, bd, yt, sl1, sl2, ct1, ct2, yb, sv, yl, y0, yn, y1, en, du, mo, gBool]
  rcases ow with h | h
  · simp [h]
  · simp [h, own_true]
end K02

open PySem PySem.W PyProof.Rows
set_option maxRecDepth 100000 in
set_option maxHeartbeats 0 in
theorem PySem.Challenge.cw_worldyard_k02_yards_holds : PySem.Challenge.rw_worldyard_k02_yards.Holds := by
  w_on; o_law; k_head; (case hw => w_witness2)
  k_fill
  refine Wy.walk (l := PySem.Challenge.rw_worldyard_k02_yards) (CX := fun w => L2.CX0) (k := 7) (x := "_law_script") (F := K02.M_law) rfl rfl ⟨rfl, by decide, by decide⟩ (fun w h Y => PySem.W.kIn_of Y) K02.law_true ?F (fun _ _ _ _ _ z => z)
  case F =>
    intro w mg fa h KX G hmg
    refine' K02.all_mk KX G hmg ?a__law_cell ?l__law_cell ?c__law_cell ?k__law_cell ?a__law_mix ?l__law_mix ?c__law_mix ?k__law_mix ?a__law_yard ?l__law_yard ?c__law_yard ?k__law_yard ?a__law_bad_world ?l__law_bad_world ?c__law_bad_world ?k__law_bad_world ?a_leads_to_itself ?l_leads_to_itself ?c_leads_to_itself ?k_leads_to_itself ?a_is_own ?l_is_own ?c_is_own ?k_is_own ?a_is_rising ?l_is_rising ?c_is_rising ?k_is_rising ?a_is_name ?l_is_name ?c_is_name ?k_is_name ?a_are_names ?l_are_names ?c_are_names ?k_are_names ?a_is_whole ?l_is_whole ?c_is_whole ?k_is_whole ?a_is_below ?l_is_below ?c_is_below ?k_is_below ?a_are_worlds ?l_are_worlds ?c_are_worlds ?k_are_worlds ?a_are_ways ?l_are_ways ?c_are_ways ?k_are_ways ?a_is_world ?l_is_world ?c_is_world ?k_is_world ?a_is_yard ?l_is_yard ?c_is_yard ?k_is_yard ?a_law ?l_law ?c_law ?k_law ?a_WORDS ?l_WORDS ?a_LETTERS ?z_isinstance ?z_int ?z_bool ?z_str ?z_tuple ?z_list ?z_len ?z_all ?z_range ?z_enumerate
    (case a__law_cell => k_is)
    (case l__law_cell => k_is)
    (case c__law_cell => k_is)
    (case k__law_cell => k_is)
    (case a__law_mix => k_is)
    (case l__law_mix => k_is)
    (case c__law_mix => k_is)
    (case k__law_mix => k_is)
    (case a__law_yard => k_is)
    (case l__law_yard => k_is)
    (case c__law_yard => k_is)
    (case k__law_yard => k_is)
    (case a__law_bad_world => k_is)
    (case l__law_bad_world => k_is)
    (case c__law_bad_world => k_is)
    (case k__law_bad_world => k_is)
    (case a_leads_to_itself => k_is)
    (case l_leads_to_itself => k_is)
    (case c_leads_to_itself => k_is)
    (case k_leads_to_itself => k_is)
    (case a_is_own => k_is)
    (case l_is_own => k_is)
    (case c_is_own => k_is)
    (case k_is_own => k_is)
    (case a_is_rising => k_is)
    (case l_is_rising => k_is)
    (case c_is_rising => k_is)
    (case k_is_rising => k_is)
    (case a_is_name => k_is)
    (case l_is_name => k_is)
    (case c_is_name => k_is)
    (case k_is_name => k_is)
    (case a_are_names => k_is)
    (case l_are_names => k_is)
    (case c_are_names => k_is)
    (case k_are_names => k_is)
    (case a_is_whole => k_is)
    (case l_is_whole => k_is)
    (case c_is_whole => k_is)
    (case k_is_whole => k_is)
    (case a_is_below => k_is)
    (case l_is_below => k_is)
    (case c_is_below => k_is)
    (case k_is_below => k_is)
    (case a_are_worlds => k_is)
    (case l_are_worlds => k_is)
    (case c_are_worlds => k_is)
    (case k_are_worlds => k_is)
    (case a_are_ways => k_is)
    (case l_are_ways => k_is)
    (case c_are_ways => k_is)
    (case k_are_ways => k_is)
    (case a_is_world => k_is)
    (case l_is_world => k_is)
    (case c_is_world => k_is)
    (case k_is_world => k_is)
    (case a_is_yard => k_is)
    (case l_is_yard => k_is)
    (case c_is_yard => k_is)
    (case k_is_yard => k_is)
    (case a_law => k_is)
    (case l_law => k_is)
    (case c_law => k_is)
    (case k_law => k_is)
    (case a_WORDS => k_is)
    (case l_WORDS => k_is)
    (case a_LETTERS => k_is)
    (case z_isinstance => k_is)
    (case z_int => k_is)
    (case z_bool => k_is)
    (case z_str => k_is)
    (case z_tuple => k_is)
    (case z_list => k_is)
    (case z_len => k_is)
    (case z_all => k_is)
    (case z_range => k_is)
    (case z_enumerate => k_is)

