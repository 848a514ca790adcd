import PyProof.Rows.All
import Wide.All
import OpenK.AllK
import Wide.FinOn
import Lean
import PyProof.EqAt
import PyProof.EqKinds
import PyProof.TupleCall
import PyProof.ExcBaseAll.ValueError
import PyProof.NsDelKeeps
import KE.KIsAll
import PyProof.NeKinds
import PyProof.Rows.StrJoin2
import PyProof.StrCalls3
import PyProof.MinMaxWalk
import PyProof.Rows.SortWalkRead
import PySem.Challenge.RW_worldyard_k04_other_texts
set_option Elab.async false
set_option linter.all false
set_option maxRecDepth 100000

namespace L2
open PySem PySem.Spec PyProof.Rows
abbrev Key := Sum Int Str
def keyIs : Key → Value → Bool
  | .inl k, v => Value.isInt k v
  | .inr x, v => Value.isStrOf x v
def keyH (w : World) : Key → Int
  | .inl k => hashInt k
  | .inr x => hashStr w x
theorem keyIs_shape : ∀ {k : Key} {v : Value}, keyIs k v = true → (∃ i t, k = Sum.inl i ∧ v = Value.int i t) ∨ (∃ x t, k = Sum.inr x ∧ v = Value.str x t)
  | .inl i, v, h => by
    obtain ⟨t, e⟩ := Value.isInt_shape (k := i) (v := v) h
    exact .inl ⟨i, t, rfl, e⟩
  | .inr x, v, h => by
    obtain ⟨t, e⟩ := Value.isStrOf_shape (x := x) (v := v) h
    exact .inr ⟨x, t, rfl, e⟩
theorem key_ll (a b : Int) : decide ((Sum.inl a : Key) = Sum.inl b) = (a == b) := by
  by_cases e : a = b
  · subst e; simp
  · have h : ¬ (Sum.inl a : Key) = Sum.inl b := fun q => e (Sum.inl.inj q)
    rw [decide_eq_false h]
    exact (beq_eq_false_iff_ne.mpr e).symm
theorem key_rr (a b : Str) : decide ((Sum.inr a : Key) = Sum.inr b) = decide (a = b) := by
  by_cases e : a = b
  · subst e; simp
  · have h : ¬ (Sum.inr a : Key) = Sum.inr b := fun q => e (Sum.inr.inj q)
    rw [decide_eq_false h, decide_eq_false e]
theorem key_lr (a : Int) (b : Str) : decide ((Sum.inl a : Key) = Sum.inr b) = false := decide_eq_false (fun q => nomatch q)
theorem key_rl (a : Str) (b : Int) : decide ((Sum.inr a : Key) = Sum.inl b) = false := decide_eq_false (fun q => nomatch q)
def mixKind (prog : Program) (w : World) : PySem.KeyKind prog w Key where
  is := keyIs
  hash := keyH w
  inj := fun v a b ha hb => by
    rcases keyIs_shape ha with ⟨i, t, rfl, rfl⟩ | ⟨x, t, rfl, rfl⟩
    · rcases keyIs_shape hb with ⟨j, u, rfl, e⟩ | ⟨y, u, rfl, e⟩
      · injection e with e1 _; rw [e1]
      · exact nomatch e
    · rcases keyIs_shape hb with ⟨j, u, rfl, e⟩ | ⟨y, u, rfl, e⟩
      · exact nomatch e
      · injection e with e1 _; rw [e1]
  byValue := fun k v h => by
    rcases keyIs_shape h with ⟨i, t, rfl, rfl⟩ | ⟨x, t, rfl, rfl⟩ <;> rfl
  pyHash := fun hv h => by
    rcases keyIs_shape hv with ⟨i, t, rfl, rfl⟩ | ⟨x, t, rfl, rfl⟩
    · exact wpAny_pyHash_int h
    · exact wpAny_pyHash_str h
  eqBool := fun hu hv h => by
    rcases keyIs_shape hu with ⟨i, t, rfl, rfl⟩ | ⟨x, t, rfl, rfl⟩
    · rcases keyIs_shape hv with ⟨j, u, rfl, rfl⟩ | ⟨y, u, rfl, rfl⟩
      · rw [key_ll] at h; exact wpAny_eqBool_int h
      · rw [key_lr] at h; exact SeqAt.EqAt.int_str i t y u _ _ _ _ h
    · rcases keyIs_shape hv with ⟨j, u, rfl, rfl⟩ | ⟨y, u, rfl, rfl⟩
      · rw [key_rl] at h; exact SeqAt.EqAt.str_int x t j u _ _ _ _ h
      · rw [key_rr] at h; exact wpAny_eqBool_str h
  «strs» := fun k x t v h => by
    rcases keyIs_shape h with ⟨i, u, rfl, e⟩ | ⟨y, u, rfl, e⟩
    · exact nomatch e
    · injection e with e1 _
      subst e1
      cases v <;> rfl
end L2
namespace L2
open PySem PySem.Spec PyProof.Rows
inductive V where
  | non | bl (b : Bool) | int (i : Int) | str (x : Str) | byt (b : Array UInt8) | flt (b : UInt64) | ref (a : Addr) | ty (n : String)
  deriving DecidableEq
def RelV : V → Value → Prop
  | .non, u => u = Value.none
  | .bl b, u => u = Value.bool b
  | .int i, u => ∃ t, u = Value.int i t
  | .str x, u => ∃ t, u = Value.str x t
  | .byt b, u => ∃ t, u = Value.bytes b t
  | .flt b, u => ∃ t, u = Value.float b t
  | .ref a, u => u = Value.ref a
  | .ty n, u => u = Value.type n
abbrev Vals : List V → List Value → Prop := Paired RelV
theorem Vals.length {xs : List V} {us : List Value} (r : Vals xs us) : xs.length = us.length := Paired.length r
theorem Vals.get : ∀ {xs : List V} {us : List Value} {i : Nat} {x : V}, Vals xs us → xs[i]? = some x → ∃ u, us[i]? = some u ∧ RelV x u
  | _, _, _, _, .nil, e => by simp at e
  | _, _, 0, _, .cons r _, e => by simp at e; subst e; exact ⟨_, rfl, r⟩
  | _, _, i + 1, x, .cons _ t, e => by
    obtain ⟨u, h1, h2⟩ := Vals.get (i := i) (x := x) t (by simpa using e)
    exact ⟨u, by simpa using h1, h2⟩
theorem Vals.append : ∀ {xs ys : List V} {us ws : List Value}, Vals xs us → Vals ys ws → Vals (xs ++ ys) (us ++ ws)
  | _, _, _, _, .nil, s => s
  | _, _, _, _, .cons r t, s => .cons r (Vals.append t s)
theorem Vals.take : ∀ {xs : List V} {us : List Value} (n : Nat), Vals xs us → Vals (xs.take n) (us.take n)
  | _, _, 0, _ => .nil
  | _, _, _ + 1, .nil => .nil
  | _, _, n + 1, .cons r t => .cons r (Vals.take n t)
theorem Vals.drop : ∀ {xs : List V} {us : List Value} (n : Nat), Vals xs us → Vals (xs.drop n) (us.drop n)
  | _, _, 0, r => r
  | _, _, _ + 1, .nil => .nil
  | _, _, n + 1, .cons _ t => Vals.drop n t
def RelO : Option V → Option Value → Prop
  | some v, some u => RelV v u
  | none, none => True
  | _, _ => False
def KV {κ : Type} : List (κ × V) → List (κ × Value) → Prop := Paired fun (p : κ × V) (q : κ × Value) => p.1 = q.1 ∧ RelV p.2 q.2
def kV : Key → V
  | .inl i => .int i
  | .inr x => .str x
inductive HO where
  | lst (xs : List V)
  | tup (xs : List V)
  | dK (kvs : List (Key × V)) | dT (kvs : List (List Key × V))
  | set (S : Int → Bool) (n : Nat)
  | ins (C dx : Addr) (fs : List (Str × V))
  | own (x : Addr)
  | xd (fs : List (Str × V))
  | met (f x : Addr)
  | rng (lo hi : Int)
  | frz (o : Obj) (u : HO)
  | tbl (ps : Array Value)
  | ext (φ : Heap → Prop)
abbrev Hp := Addr → Option HO
def upd (H : Hp) (a : Addr) (o : HO) : Hp := fun b => if b = a then some o else H b
theorem upd_same {H : Hp} {a : Addr} {o : HO} : upd H a o a = some o := by unfold upd; rw [if_pos rfl]
theorem upd_ne {H : Hp} {a b : Addr} {o : HO} (h : b ≠ a) : upd H a o b = H b := by unfold upd; rw [if_neg h]
theorem ne_of_none {H : Hp} {a b : Addr} {o : HO} (h : H a = some o) (h' : H b = none) : a ≠ b := by
  intro e; subst e; rw [h] at h'; cases h'
section
variable (P : Program) (w : World)
def ObjOk (H : Hp) (h : Heap) (a : Addr) : HO → Prop
  | .lst xs => xs.length ≤ sizeLine ∧ ∃ (its : List Value) (n : Nat), Vals xs its ∧ h.get? a = some { cls := .type "list", data := .seq its.toArray n }
  | .tup xs => xs.length ≤ sizeLine ∧ ∃ its : List Value, Vals xs its ∧ IsTup h a its.toArray
  | .dK kvs => kvs.length ≤ sizeLine ∧ (a == sysModules) = false ∧ ∃ vs, KV kvs vs ∧ h.DictOf (mixKind P w) a vs
  | .dT kvs => kvs.length ≤ sizeLine ∧ (a == sysModules) = false ∧ ∃ xs : List (List Key × Addr × Value),
      Paired (fun (p : List Key × V) (q : List Key × Addr × Value) => p.1 = q.1 ∧ H q.2.1 = some (.tup (p.1.map kV)) ∧ RelV p.2 q.2.2) kvs xs ∧
      ∃ o es ep, h.get? a = some o ∧ o.ExactDict ∧ o.data = .dict es ep ∧ es.toList = xs.map (entryOfKey (tupleKind (mixKind P w))) ∧ (xs.map (·.1)).Nodup
  | .set S n => h.SetOf (intKind P w) a S n
  | .ins C dx fs => H dx = some (.own a) ∧ fs.length ≤ 1000 ∧ dx ≠ a ∧ h.get? a = some (PySem.W.instObj C dx) ∧
      ∃ mA, h.Ns1 dx mA ∧ (∀ f, RelO (fs.lookup f) (mA f)) ∧ PySem.Within mA (fs.map (·.1))
  | .own _ => ∃ o, h.get? a = some o
  | .xd fs => ∃ mA, h.Ns1 a mA ∧ ∀ f, RelO (fs.lookup f) (mA f)
  | .rng lo hi => ∃ t u v, h.get? a = some { cls := .type "range", data := .fields #[.int lo t, .int hi u, .int 1 v] }
  | .frz o u => h.get? a = some o ∧ ObjOk H h a u
  | .tbl ps => h.get? a = some { cls := .none, data := .fields ps }
  | .met f x => h.get? a = some (PySem.W.methodObj (.ref f) (.ref x))
  | .ext φ => φ h ∧ (∃ o, h.get? a = some o) ∧ ∀ h1 h2 : Heap, φ h1 → (∀ o, h1.get? a = some o → h2.get? a = some o) → φ h2
def HOk (H : Hp) (h : Heap) : Prop := ∀ a o, H a = some o → ObjOk P w H h a o
end
section
variable {P : Program} {w : World} {H H' : Hp} {h h' : Heap} {a : Addr} {o : HO}
theorem ObjOk.lt (x : ObjOk P w H h a o) : a < h.objs.size := by
  cases o with
  | lst xs => obtain ⟨_, _, _, _, e⟩ := x; exact Heap.lt_size e
  | tup xs => obtain ⟨_, _, _, p⟩ := x; exact p.lt
  | dK kvs => obtain ⟨_, _, _, _, o, _, _, e, _⟩ := x; exact Heap.lt_size e
  | dT kvs => obtain ⟨_, _, _, _, o, _, _, e, _⟩ := x; exact Heap.lt_size e
  | set S n => obtain ⟨o, _, _, _, e, _⟩ := x; exact Heap.lt_size e
  | ins C dx fs => obtain ⟨_, _, _, e, _⟩ := x; exact Heap.lt_size e
  | own y => obtain ⟨_, e⟩ := x; exact Heap.lt_size e
  | xd fs => obtain ⟨_, ⟨_, _, _, e, _⟩, _⟩ := x; exact Heap.lt_size e
  | rng lo hi => obtain ⟨_, _, _, e⟩ := x; exact Heap.lt_size e
  | frz ob u => obtain ⟨e, _⟩ := x; exact Heap.lt_size e
  | tbl ps => exact Heap.lt_size (show h.get? a = some _ from x)
  | met f y => exact Heap.lt_size (show h.get? a = some _ from x)
  | ext φ => obtain ⟨_, ⟨_, e⟩, _⟩ := x; exact Heap.lt_size e
theorem Paired.mapP {α β : Type} {F G : α → β → Prop} : ∀ {l₁ : List α} {l₂ : List β}, Paired F l₁ l₂ → (∀ a b, F a b → G a b) → Paired G l₁ l₂
  | _, _, .nil, _ => .nil
  | _, _, .cons r t, f => .cons (f _ _ r) (Paired.mapP t f)
theorem ObjOk.stay (x : ObjOk P w H h a o) (k : ∀ b u, (b = a ∨ H b = some (.own a)) → h.get? b = some u → h'.get? b = some u)
    (ho : ∀ b, H b = some (.own a) → H' b = some (.own a)) (ht : ∀ b xs, H b = some (.tup xs) → H' b = some (.tup xs)) : ObjOk P w H' h' a o := by
  induction o with
  | lst xs => obtain ⟨z, its, n, r, e⟩ := x; exact ⟨z, its, n, r, k _ _ (.inl rfl) e⟩
  | tup xs => obtain ⟨z, its, r, ob, e, c⟩ := x; exact ⟨z, its, r, ob, k _ _ (.inl rfl) e, c⟩
  | dK kvs => obtain ⟨z, y, vs, r, ob, es, ep, e, c⟩ := x; exact ⟨z, y, vs, r, ob, es, ep, k _ _ (.inl rfl) e, c⟩
  | dT kvs =>
    obtain ⟨z, y, xs, r, ob, es, ep, e, c⟩ := x
    exact ⟨z, y, xs, Paired.mapP r fun p q z => ⟨z.1, ht _ _ z.2.1, z.2.2⟩, ob, es, ep, k _ _ (.inl rfl) e, c⟩
  | set S n => obtain ⟨ob, es, ep, t, e, c⟩ := x; exact ⟨ob, es, ep, t, k _ _ (.inl rfl) e, c⟩
  | ins C dx fs =>
    obtain ⟨d, z, ne, e, mA, ⟨od, es, ep, e2, c⟩, r⟩ := x
    exact ⟨ho _ d, z, ne, k _ _ (.inl rfl) e, mA, ⟨od, es, ep, k _ _ (.inr d) e2, c⟩, r⟩
  | own y => obtain ⟨ob, e⟩ := x; exact ⟨ob, k _ _ (.inl rfl) e⟩
  | xd fs => obtain ⟨mA, ⟨od, es, ep, e, c⟩, r⟩ := x; exact ⟨mA, ⟨od, es, ep, k _ _ (.inl rfl) e, c⟩, r⟩
  | rng lo hi => obtain ⟨t, u, v, e⟩ := x; exact ⟨t, u, v, k _ _ (.inl rfl) e⟩
  | frz ob u ih => obtain ⟨e, q⟩ := x; exact ⟨k _ _ (.inl rfl) e, ih q⟩
  | tbl ps =>
    have e : h.get? a = some { cls := .none, data := .fields ps } := x
    show h'.get? a = some { cls := .none, data := .fields ps }
    exact k a _ (.inl rfl) e
  | met f y =>
    have e : h.get? a = some (PySem.W.methodObj (.ref f) (.ref y)) := x
    show h'.get? a = some (PySem.W.methodObj (.ref f) (.ref y))
    exact k a _ (.inl rfl) e
  | ext φ => obtain ⟨p, ⟨o, e⟩, st⟩ := x; exact ⟨st _ _ p fun o q => k _ _ (.inl rfl) q, ⟨o, k _ _ (.inl rfl) e⟩, st⟩
theorem HOk.lt (x : HOk P w H h) (e : H a = some o) : a < h.objs.size := (x a o e).lt
theorem HOk.fresh (x : HOk P w H h) (e : h.objs.size ≤ a) : H a = none := by
  cases q : H a with
  | none => rfl
  | some u => exact absurd (Nat.lt_of_lt_of_le (x.lt q) e) (Nat.lt_irrefl _)
theorem HOk.kept (x : HOk P w H h) (k : ∀ b u, h.get? b = some u → h'.get? b = some u) : HOk P w H h' := fun a o e =>
  (x a o e).stay (fun b u _ q => k b u q) (fun _ q => q) fun _ _ q => q
theorem HOk.laid (x : HOk P w H h) (k : ∀ b u, h.get? b = some u → h'.get? b = some u) (hp : h.objs.size ≤ a) (new : ObjOk P w (upd H a o) h' a o) : HOk P w (upd H a o) h' := fun b u e => by
  have hn := x.fresh hp
  by_cases hb : b = a
  · subst hb; rw [upd_same] at e; cases e; exact new
  · rw [upd_ne hb] at e
    exact (x b u e).stay (fun c v _ q => k c v q) (fun c q => by rw [upd_ne (ne_of_none q hn)]; exact q) fun c xs q => by rw [upd_ne (ne_of_none q hn)]; exact q
end
def Rd (H : Hp) (a : Addr) (u : HO) : Prop := H a = some u ∨ ∃ o, H a = some (.frz o u)
theorem Rd.ok {P : Program} {w : World} {H : Hp} {h : Heap} {a : Addr} {u : HO} (r : Rd H a u) (x : HOk P w H h) : ObjOk P w H h a u := by
  rcases r with r | ⟨o, r⟩
  · exact x a u r
  · obtain ⟨_, q⟩ := x a _ r
    exact q
def Mut : Option HO → Prop
  | some (.lst _) => True
  | some (.dK _) => True
  | some (.dT _) => True
  | some (.set _ _) => True
  | some (.ins _ _ _) => True
  | some (.ext _) => True
  | _ => False
section
variable {P : Program} {w : World} {H : Hp} {h h' : Heap} {x e : Addr} {o' : HO}
theorem HOk.write (ok : HOk P w H h) (mu : Mut (H x)) (he : e = x ∨ H e = some (.own x)) (k : ∀ b u, b ≠ e → h.get? b = some u → h'.get? b = some u) (heo : ∃ u, h'.get? e = some u)
    (new : ObjOk P w (upd H x o') h' x o') : HOk P w (upd H x o') h' := fun b u q => by
  have nown : ∀ c y, H c = some (.own y) → c ≠ x := fun c y r z => by subst z; rw [r] at mu; exact mu
  have ntup : ∀ c xs, H c = some (.tup xs) → c ≠ x := fun c xs r z => by subst z; rw [r] at mu; exact mu
  by_cases hb : b = x
  · subst hb; rw [upd_same] at q; cases q; exact new
  · rw [upd_ne hb] at q
    by_cases hbe : b = e
    · have q' : H b = some (.own x) := by
        rcases he with z | z
        · exact absurd (hbe.trans z) hb
        · rw [hbe]; exact z
      rw [q] at q'; cases q'
      obtain ⟨v, hv⟩ := heo
      exact ⟨v, by rw [hbe]; exact hv⟩
    · refine (ok b u q).stay (fun c v hc r => k c v ?_ r) (fun c r => by rw [upd_ne (nown c b r)]; exact r) fun c xs r => by rw [upd_ne (ntup c xs r)]; exact r
      rcases hc with rfl | hc
      · exact hbe
      · rintro rfl
        rcases he with z | z
        · exact nown c b hc z
        · rw [hc] at z; cases z; exact hb rfl
end
structure Un (fs ex : List Addr) (H H' : Hp) (h h' : Heap) : Prop where
  keep : ∀ b o, h.get? b = some o → H b = none → b ∉ fs → b ∉ ex → h'.get? b = some o
  slot : ∀ b o, h.get? b = some o → H b = none → b ∈ fs → b ∉ ex → ∃ sl, h'.get? b = some { o with slots := sl }
  free : ∀ b o, h.get? b = some o → H b = none → b ∉ ex → H' b = none
  there : ∀ b o, h.get? b = some o → b ∉ ex → ∃ o', h'.get? b = some o'
  tups : ∀ b xs, H b = some (.tup xs) → H' b = some (.tup xs)
  frzs : ∀ b o u, H b = some (.frz o u) → H' b = some (.frz o u)
  tbls : ∀ b ps, H b = some (.tbl ps) → ∃ more, H' b = some (.tbl (ps ++ more))
section
variable {fs fs' ex ex' : List Addr} {H H1 H2 : Hp} {h h1 h2 h' : Heap} {a x e : Addr} {o : HO}
theorem Un.any (u : Un fs ex H H1 h h1) {b : Addr} {ob : Obj} (q : h.get? b = some ob) (n : H b = none) (hx : b ∉ ex) : ∃ sl, h1.get? b = some { ob with slots := sl } := by
  by_cases hb : b ∈ fs
  · exact u.slot b ob q n hb hx
  · exact ⟨ob.slots, u.keep b ob q n hb hx⟩
theorem Un.kept (k : ∀ b u, h.get? b = some u → h'.get? b = some u) : Un fs ex H H h h' :=
  ⟨fun b ob q _ _ _ => k b ob q, fun b ob q _ _ _ => ⟨ob.slots, k b ob q⟩, fun _ _ _ n _ => n, fun b ob q _ => ⟨ob, k b ob q⟩, fun _ _ q => q, fun _ _ _ q => q, fun _ ps q => ⟨#[], by rw [q]; simp⟩⟩
theorem Un.refl : Un fs ex H H h h := Un.kept fun _ _ q => q
theorem Un.laid (k : ∀ b u, h.get? b = some u → h'.get? b = some u) (hp : h.objs.size ≤ a) (hn : H a = none) : Un fs ex H (upd H a o) h h' where
  keep := fun b u q _ _ _ => k b u q
  slot := fun b u q _ _ _ => ⟨u.slots, k b u q⟩
  free := fun b u q n _ => by rw [upd_ne (Nat.ne_of_lt (Nat.lt_of_lt_of_le (Heap.lt_size q) hp))]; exact n
  there := fun b u q _ => ⟨u, k b u q⟩
  tups := fun b xs q => by rw [upd_ne (ne_of_none q hn)]; exact q
  frzs := fun b u xs q => by rw [upd_ne (ne_of_none q hn)]; exact q
  tbls := fun b ps q => ⟨#[], by rw [upd_ne (ne_of_none q hn), q]; simp⟩
theorem Un.write (mu : Mut (H x)) (he : e = x ∨ H e = some (.own x)) (k : ∀ b u, b ≠ e → h.get? b = some u → h'.get? b = some u) (heo : ∃ u, h'.get? e = some u) : Un fs ex H (upd H x o) h h' := by
  have hx : ∀ b, H b = none → b ≠ x := fun b n z => by subst z; rw [n] at mu; exact mu
  have hb : ∀ b, H b = none → b ≠ e := fun b n z => by
    subst z
    rcases he with r | r
    · exact hx b n r
    · rw [n] at r; cases r
  have hm : ∀ b u, H b = some u → ¬ Mut (some u) → b ≠ x := fun b u q nm z => by subst z; rw [q] at mu; exact nm mu
  refine ⟨fun b u q n _ _ => k b u (hb b n) q, fun b u q n _ _ => ⟨u.slots, k b u (hb b n) q⟩, fun b u q n _ => by rw [upd_ne (hx b n)]; exact n, fun b u q _ => ?_,
    fun b xs q => by rw [upd_ne (hm b _ q fun z => z)]; exact q, fun b u xs q => by rw [upd_ne (hm b _ q fun z => z)]; exact q, fun b ps q => ⟨#[], by rw [upd_ne (hm b _ q fun z => z), q]; simp⟩⟩
  by_cases hbe : b = e
  · subst hbe; exact heo
  · exact ⟨u, k b u hbe q⟩
end
def trk (h : Heap) (H : Hp) : List Addr := (List.range h.objs.size).filter fun a => (H a).isSome
def hidT (h : Heap) (H : Hp) : Heap := PySem.W.hideAll h (trk h H)
theorem hidT_size (h : Heap) (H : Hp) : (hidT h H).objs.size = h.objs.size := PySem.W.hideAll_size _ _
theorem hidT_get {h : Heap} {H : Hp} {b : Addr} {o : Obj} (e : h.get? b = some o) (n : H b = none) : (hidT h H).get? b = some o :=
  PySem.W.hideAll_get _ e fun hm => by
    have q : (H b).isSome = true := (List.mem_filter.mp hm).2
    rw [n] at q; simp at q
theorem of_hidT {h : Heap} {H : Hp} {b : Addr} {o : Obj} (e : (hidT h H).get? b = some o) : h.get? b = some o ∧ H b = none := by
  have e' : h.get? b = some o := PySem.W.of_hideAll (trk h H) e
  refine ⟨e', ?_⟩
  cases q : H b with
  | none => rfl
  | some x =>
    have hm : b ∈ trk h H := List.mem_filter.mpr ⟨List.mem_range.mpr (Heap.lt_size e'), by simp [q]⟩
    have z : (hidT h H).get? b = none := PySem.W.hideAll_none (trk h H) hm
    rw [z] at e; cases e
end L2
namespace L2
open PySem PySem.Spec PyProof.Rows
structure Mod (K : PySem.W.Frag) (mg : Str → Option Value) (base : Heap) : Prop where
  kin : K.In base
  glob : base.Ns mainGlobals mg
  blt : ∃ mb, base.Ns builtinsNs mb ∧ ∀ x : Str, x ≠ "__name__" → mb x = bootBuiltins x
  nolimit : base.NoLimit
structure Cx where
  prog : Program
  w : World
  K : PySem.W.Frag
  mg : Str → Option Value
  base : Heap
  A : Around
  N : List Str
  s₀ : Shared
  H₀ : Hp
  env : Env
  outer : List Env
  stack : List Env
  ex : List Addr
  fn : Str → Bool
  calm : Bool
  pn : List (Addr × Obj)
  xe : Value → Shared → Prop
def frs (l : List Env) : List Addr := l.filterMap (·.frame)
abbrev Cx.fs (X : Cx) : List Addr := frs X.outer
def Vis (sc : Scope) (x : Str) : Prop := sc.names.lookup x = some .local ∨ sc.names.lookup x = some .cell ∨ sc.names.lookup x = some .free
def Loc (sc : Scope) (x : Str) : Prop := sc.names.lookup x = some .local ∨ sc.names.lookup x = some .cell
def Look (env : Env) (h : Heap) (m : Str → Option Value) (x : Str) (u : Value) : Prop :=
  (env.kindOf x = some .local ∧ m x = some u) ∨ ((env.kindOf x = some .cell ∨ env.kindOf x = some .free) ∧ ∃ c, env.cells.lookup x = some c ∧ h.IsCell c (some u))
structure Cx.Ok (X : Cx) : Prop where
  mod : Mod X.K X.mg X.base
  kind : X.env.scope.kind = .function
  glob : X.env.globals = mainGlobals
  blt : X.env.builtins = builtinsNs
  above : X.s₀.heap.objs.size ≤ X.env.locals
  inj : ∀ x y c, X.env.cells.lookup x = some c → X.env.cells.lookup y = some c → x = y
  has : ∀ x, (X.env.kindOf x = some .cell ∨ X.env.kindOf x = some .free) → ∃ c, X.env.cells.lookup x = some c
  cab : ∀ x c, X.fn x = true → X.env.cells.lookup x = some c → X.s₀.heap.objs.size ≤ c
  hd : X.calm = true → X.A.handled = none
  frames : X.A.frames = some X.stack
  stk : X.stack = X.outer ∨ (X.stack = X.env :: X.outer ∧ X.env.frame = some X.env.locals)
  exf : ∀ b ∈ X.ex, b ≠ X.env.locals ∧ ∀ x c, X.env.cells.lookup x = some c → c ≠ b
  bs : ∀ b o, X.base.get? b = some o → X.s₀.heap.get? b = some o ∧ X.H₀ b = none
  bsz : X.base.objs.size ≤ X.s₀.heap.objs.size
  noex : ∀ b o, X.base.get? b = some o → b ∉ X.ex
  exfs : ∀ b ∈ X.ex, b ∉ X.fs
  funs : X.s₀.heap.FunFrames X.base X.outer
  frf : ∀ b ∈ X.fs, X.H₀ b = none
structure Inv (X : Cx) (pins : List (Addr × Obj)) (σ : List (Option V)) (H : Hp) (s : Shared) : Prop where
  ok : X.Ok
  os : s.os = X.s₀.os
  bare : AllBare s.gens
  base : Un X.fs X.ex X.H₀ H X.s₀.heap s.heap
  loc : ∃ m, s.heap.Ns X.env.locals m ∧ ∀ (i : Nat) (x : Str) (v : V), X.N[i]? = some x → σ[i]? = some (some v) → Vis X.env.scope x → ∃ u, RelV v u ∧ Look X.env s.heap m x u
  cell : ∀ x c, X.env.cells.lookup x = some c → ∃ v, s.heap.IsCell c v
  free : H X.env.locals = none
  freeC : ∀ x c, X.env.cells.lookup x = some c → H c = none
  pin : ∀ p ∈ X.pn ++ pins, s.heap.get? p.1 = some p.2 ∧ H p.1 = none ∧ p.1 ≠ X.env.locals ∧ p.1 ∉ X.fs ∧ ∀ v, p.2.data ≠ .cell v
  hok : HOk X.prog X.w H s.heap
  len : σ.length = X.N.length
section
variable {X : Cx} {pins : List (Addr × Obj)} {σ : List (Option V)} {H H' : Hp} {s : Shared} {h' : Heap}
theorem Cx.Ok.nofr (ok : X.Ok) {b : Addr} {o : Obj} (e : X.base.get? b = some o) : b ∉ X.fs := fun hb => by
  have := (ok.funs.mem hb).1
  rw [e] at this; cases this
theorem Inv.bs (I : Inv X pins σ H s) : ∀ b o, X.base.get? b = some o → s.heap.get? b = some o ∧ H b = none := fun b o e =>
  ⟨I.base.keep b o (I.ok.bs b o e).1 (I.ok.bs b o e).2 (I.ok.nofr e) (I.ok.noex b o e), I.base.free b o (I.ok.bs b o e).1 (I.ok.bs b o e).2 (I.ok.noex b o e)⟩
theorem Inv.bk (I : Inv X pins σ H s) : ∀ b o, X.base.get? b = some o → s.heap.get? b = some o := fun b o e => (I.bs b o e).1
theorem Inv.mod (I : Inv X pins σ H s) : Mod X.K X.mg X.base := I.ok.mod
theorem Inv.kIn (I : Inv X pins σ H s) : X.K.In s.heap := I.ok.mod.kin.keeps I.bk
theorem Inv.lt (I : Inv X pins σ H s) : X.env.locals < s.heap.objs.size := let ⟨_, hn, _⟩ := I.loc; hn.lt
theorem Inv.sz (I : Inv X pins σ H s) : X.s₀.heap.objs.size ≤ s.heap.objs.size := Nat.le_trans I.ok.above (Nat.le_of_lt I.lt)
theorem Inv.nofs (I : Inv X pins σ H s) {a : Addr} (h : s.heap.objs.size ≤ a) : a ∉ X.fs := fun hb => by
  obtain ⟨_, o, ho, _⟩ := I.ok.funs.mem hb
  exact absurd (Nat.lt_of_lt_of_le (Heap.lt_size ho) (Nat.le_trans I.sz h)) (Nat.lt_irrefl _)
theorem Inv.cne (I : Inv X pins σ H s) : ∀ x c, X.env.cells.lookup x = some c → c ≠ X.env.locals := fun x c e z => by
  obtain ⟨v, o, ho, hd⟩ := I.cell x c e
  obtain ⟨m, ⟨o', es, ep, ho', hd', _⟩, _⟩ := I.loc
  rw [z, ho'] at ho; cases ho; rw [hd'] at hd; cases hd
theorem Inv.funs (I : Inv X pins σ H s) : s.heap.FunFrames X.base X.outer := by
  have all : ∀ (l : List Env), (∀ b ∈ frs l, b ∈ X.fs) → X.s₀.heap.FunFrames X.base l → s.heap.FunFrames X.base l := by
    intro l
    induction l with
    | nil => intro _ _; trivial
    | cons env r ih =>
      intro hs hl
      obtain ⟨hk, ⟨L, o, hf, hn, ho, hd⟩, hr⟩ := hl
      have hL : L ∈ X.fs := hs L (by unfold frs; rw [List.filterMap_cons, hf]; exact List.mem_cons_self)
      obtain ⟨sl, e⟩ := I.base.slot L o ho (I.ok.frf L hL) hL fun z => I.ok.exfs L z hL
      exact ⟨hk, ⟨L, _, hf, hn, e, hd⟩, ih (fun b hb => hs b (by unfold frs; rw [List.filterMap_cons, hf]; exact List.mem_cons_of_mem _ hb)) hr⟩
  exact all X.outer (fun _ hb => hb) I.ok.funs
theorem Inv.stack (I : Inv X pins σ H s) : s.heap.FunFrames X.base X.stack := by
  rcases I.ok.stk with e | ⟨e, hf⟩
  · rw [e]; exact I.funs
  · rw [e]
    obtain ⟨m, hn, _⟩ := I.loc
    refine .cons (by rw [I.ok.kind]; decide) hf hn ?_ I.funs
    exact Heap.get?_none_of_le (Nat.le_trans I.ok.bsz I.ok.above)
theorem Inv.stkSub (I : Inv X pins σ H s) : ∀ b ∈ frs X.stack, b ∈ X.env.locals :: X.fs := fun b hb => by
  rcases I.ok.stk with e | ⟨e, hf⟩
  · rw [e] at hb; exact List.mem_cons_of_mem _ hb
  · rw [e] at hb
    unfold frs at hb
    rw [List.filterMap_cons, hf] at hb
    exact hb
theorem Inv.stkFree (I : Inv X pins σ H s) : ∀ b ∈ frs X.stack, H b = none := fun b hb => by
  rcases List.mem_cons.mp (I.stkSub b hb) with e | hb
  · rw [e]; exact I.free
  · obtain ⟨_, o, ho, _⟩ := I.ok.funs.mem hb
    exact I.base.free b o ho (I.ok.frf b hb) fun z => I.ok.exfs b z hb
theorem Inv.step {g' : Array GenState} {t' : Nat} {d' : Drawn} {ch : List Addr} (I : Inv X pins σ H s)
    (hch : ∀ b ∈ ch, (b ∈ X.ex ∨ X.s₀.heap.objs.size ≤ b) ∧ b ≠ X.env.locals ∧ (∀ x c, X.env.cells.lookup x = some c → c ≠ b) ∧ ∀ p ∈ X.pn ++ pins, p.1 ≠ b)
    (keep : ∀ b o, b ≠ X.env.locals → b ∉ X.fs → b ∉ ch → s.heap.get? b = some o → H b = none → h'.get? b = some o)
    (slot : ∀ b o, b ≠ X.env.locals → b ∈ X.fs → b ∉ ch → s.heap.get? b = some o → H b = none → ∃ sl, h'.get? b = some { o with slots := sl }) (free : ∀ b o, b ∉ ch → s.heap.get? b = some o → H b = none → H' b = none)
    (there : ∀ b o, b ∉ ch → s.heap.get? b = some o → ∃ o', h'.get? b = some o')
    (tups : ∀ b xs, H b = some (.tup xs) → H' b = some (.tup xs)) (frzs : ∀ b o u, H b = some (.frz o u) → H' b = some (.frz o u)) (tbls : ∀ b ps, H b = some (.tbl ps) → ∃ more, H' b = some (.tbl (ps ++ more)))
    (ns : ∀ m, s.heap.Ns X.env.locals m → h'.Ns X.env.locals m) (hok : HOk X.prog X.w H' h') (hg : AllBare g') :
    Inv X pins σ H' { s with heap := h', gens := g', drawn := d', toks := t' } := by
  have neL : ∀ b o, X.s₀.heap.get? b = some o → b ≠ X.env.locals := fun b o e => Nat.ne_of_lt (Nat.lt_of_lt_of_le (Heap.lt_size e) I.ok.above)
  have neC : ∀ b o, X.s₀.heap.get? b = some o → b ∉ X.ex → b ∉ ch := fun b o e hx hb => by
    rcases (hch b hb).1 with z | z
    · exact hx z
    · exact absurd (Nat.lt_of_lt_of_le (Heap.lt_size e) z) (Nat.lt_irrefl _)
  have cellK : ∀ x c, X.env.cells.lookup x = some c → ∀ v, s.heap.IsCell c v → h'.IsCell c v := fun x c e v ⟨o, ho, hd⟩ => by
    have nch : c ∉ ch := fun z => (hch c z).2.2.1 x c e rfl
    by_cases hc : c ∈ X.fs
    · obtain ⟨sl, q⟩ := slot c o (I.cne x c e) hc nch ho (I.freeC x c e)
      exact ⟨_, q, hd⟩
    · exact ⟨o, keep c o (I.cne x c e) hc nch ho (I.freeC x c e), hd⟩
  refine ⟨I.ok, I.os, hg, ⟨fun b o e n hb hx => ?_, fun b o e n hb hx => ?_, fun b o e n hx => ?_, fun b o e hx => ?_, fun b xs e => tups b xs (I.base.tups b xs e), fun b o xs e => frzs b o xs (I.base.frzs b o xs e), fun b ps e => ?_⟩, ?_, fun x c e => ?_, ?_, fun x c e => ?_, fun p hp => ?_, hok, I.len⟩
  · exact keep b o (neL b o e) hb (neC b o e hx) (I.base.keep b o e n hb hx) (I.base.free b o e n hx)
  · obtain ⟨sl, e1⟩ := I.base.slot b o e n hb hx
    obtain ⟨sl', e2⟩ := slot b _ (neL b o e) hb (neC b o e hx) e1 (I.base.free b o e n hx)
    exact ⟨sl', e2⟩
  · obtain ⟨o', e1⟩ := I.base.there b o e hx
    exact free b o' (neC b o e hx) e1 (I.base.free b o e n hx)
  · obtain ⟨o', e1⟩ := I.base.there b o e hx
    exact there b o' (neC b o e hx) e1
  · obtain ⟨m1, e1⟩ := I.base.tbls b ps e
    obtain ⟨m2, e2⟩ := tbls b _ e1
    exact ⟨m1 ++ m2, by rw [e2, Array.append_assoc]⟩
  · obtain ⟨m, hn, hl⟩ := I.loc
    refine ⟨m, ns m hn, fun i x v e1 e2 e3 => ?_⟩
    obtain ⟨u, r, l⟩ := hl i x v e1 e2 e3
    refine ⟨u, r, ?_⟩
    rcases l with l | ⟨k, c, e, z⟩
    · exact .inl l
    · exact .inr ⟨k, c, e, cellK x c e _ z⟩
  · obtain ⟨v, z⟩ := I.cell x c e
    exact ⟨v, cellK x c e v z⟩
  · obtain ⟨m, ⟨o, _, _, ho, _⟩, _⟩ := I.loc
    exact free _ o (fun z => (hch _ z).2.1 rfl) ho I.free
  · obtain ⟨v, o, ho, hd⟩ := I.cell x c e
    exact free c o (fun z => (hch c z).2.2.1 x c e rfl) ho (I.freeC x c e)
  · obtain ⟨e, n, ne, nf, d⟩ := I.pin p hp
    have nch : p.1 ∉ ch := fun z => (hch p.1 z).2.2.2 p hp rfl
    exact ⟨keep p.1 p.2 ne nf nch e n, free p.1 p.2 nch e n, ne, nf, d⟩
theorem Inv.un {t' : Nat} (I : Inv X pins σ H s) (u : Un X.fs [] H H' s.heap h') (hok : HOk X.prog X.w H' h') : Inv X pins σ H' { s with heap := h', toks := t' } := by
  obtain ⟨m, ⟨o, es, ep, ho, r⟩, _⟩ := id I.loc
  obtain ⟨sl, hL⟩ := u.any ho I.free (by simp)
  exact I.step (g' := s.gens) (d' := s.drawn) (ch := []) (fun _ z => nomatch z) (fun b o _ hb _ e n => u.keep b o e n hb (by simp)) (fun b o _ hb _ e n => u.slot b o e n hb (by simp)) (fun b o _ e n => u.free b o e n (by simp)) (fun b o _ e => u.there b o e (by simp)) u.tups u.frzs u.tbls (fun m' hm => by
    obtain ⟨o', es', ep', ho', r'⟩ := hm
    rw [ho] at ho'; cases ho'
    exact ⟨_, es', ep', hL, r'⟩) hok I.bare
theorem Inv.call {g' : Array GenState} {t' : Nat} {d' : Drawn} {ch : List Addr} (I : Inv X pins σ H s) (u : Un (frs X.stack) ch H H' s.heap h') (hok : HOk X.prog X.w H' h') (hg : AllBare g')
    (hch : ∀ b ∈ ch, (b ∈ X.ex ∨ X.s₀.heap.objs.size ≤ b) ∧ b ≠ X.env.locals ∧ (∀ x c, X.env.cells.lookup x = some c → c ≠ b) ∧ ∀ p ∈ X.pn ++ pins, p.1 ≠ b) :
    Inv X pins σ H' { s with heap := h', gens := g', drawn := d', toks := t' } := by
  obtain ⟨m, ⟨o, es, ep, ho, r⟩, _⟩ := id I.loc
  obtain ⟨sl, hL⟩ := u.any ho I.free fun z => (hch _ z).2.1 rfl
  exact I.step (ch := ch) hch (fun b o hL hb hc e n => u.keep b o e n (fun z => (List.mem_cons.mp (I.stkSub b z)).elim hL hb) hc) (fun b o _ _ hc e n => u.any e n hc) (fun b o hc e n => u.free b o e n hc) (fun b o hc e => u.there b o e hc) u.tups u.frzs u.tbls (fun m' hm => by
    obtain ⟨o', es', ep', ho', r'⟩ := hm
    rw [ho] at ho'; cases ho'
    exact ⟨_, es', ep', hL, r'⟩) hok hg
theorem Inv.turned {t' : Nat} {it : Addr} (I : Inv X pins σ H s) (k : ∀ b o, b ≠ it → s.heap.get? b = some o → h'.get? b = some o) (hn : H it = none) (hL : it ≠ X.env.locals)
    (h1 : it ∈ X.ex ∨ X.s₀.heap.objs.size ≤ it) (h2 : ∀ x c, X.env.cells.lookup x = some c → c ≠ it) (h3 : ∀ p ∈ X.pn ++ pins, p.1 ≠ it) : Inv X pins σ H { s with heap := h', toks := t' } := by
  have nit : ∀ b u, H b = some u → b ≠ it := fun b u e z => by rw [z, hn] at e; cases e
  refine I.step (g' := s.gens) (d' := s.drawn) (ch := [it]) (fun b hb => ?_) (fun b o _ _ hc e _ => k b o (fun z => hc (by simp [z])) e) (fun b o _ _ hc e _ => ⟨o.slots, k b o (fun z => hc (by simp [z])) e⟩) (fun _ _ _ _ n => n)
    (fun b o hc e => ⟨o, k b o (fun z => hc (by simp [z])) e⟩) (fun _ _ e => e) (fun _ _ _ e => e) (fun b ps e => ⟨#[], by rw [e]; simp⟩) (fun m hm => ?_) (fun b u e => ?_) I.bare
  · have e : b = it := by simpa using hb
    subst e
    exact ⟨h1, hL, h2, h3⟩
  · obtain ⟨o, es, ep, ho, r⟩ := hm
    exact ⟨o, es, ep, k _ o (Ne.symm hL) ho, r⟩
  · refine (I.hok b u e).stay (fun c v hc q => k c v ?_ q) (fun _ q => q) fun _ _ q => q
    rcases hc with z | z
    · rw [z]; exact nit b u e
    · exact nit c _ z
theorem Inv.tok (I : Inv X pins σ H s) (t : Nat) : Inv X pins σ H { s with toks := t } := I.un (h' := s.heap) (t' := t) Un.refl I.hok
theorem Inv.kept {t' : Nat} (I : Inv X pins σ H s) (k : ∀ b u, s.heap.get? b = some u → h'.get? b = some u) : Inv X pins σ H { s with heap := h', toks := t' } := I.un (Un.kept k) (I.hok.kept k)
theorem Inv.laid {a : Addr} {o : HO} {t' : Nat} (I : Inv X pins σ H s) (k : ∀ b u, s.heap.get? b = some u → h'.get? b = some u) (hp : s.heap.objs.size ≤ a) (new : ObjOk X.prog X.w (upd H a o) h' a o) :
    Inv X pins σ (upd H a o) { s with heap := h', toks := t' } := I.un (Un.laid k hp (I.hok.fresh hp)) (I.hok.laid k hp new)
theorem Inv.write {x e : Addr} {o : HO} {t' : Nat} (I : Inv X pins σ H s) (mu : Mut (H x)) (he : e = x ∨ H e = some (.own x)) (k : ∀ b u, b ≠ e → s.heap.get? b = some u → h'.get? b = some u) (heo : ∃ u, h'.get? e = some u)
    (new : ObjOk X.prog X.w (upd H x o) h' x o) : Inv X pins σ (upd H x o) { s with heap := h', toks := t' } := I.un (Un.write mu he k heo) (I.hok.write mu he k heo new)
theorem Inv.pins_of {pins' : List (Addr × Obj)} (I : Inv X pins σ H s) (h : ∀ p ∈ pins', s.heap.get? p.1 = some p.2 ∧ H p.1 = none ∧ p.1 ≠ X.env.locals ∧ p.1 ∉ X.fs ∧ ∀ v, p.2.data ≠ .cell v) : Inv X pins' σ H s :=
  ⟨I.ok, I.os, I.bare, I.base, I.loc, I.cell, I.free, I.freeC, fun p hp => (List.mem_append.mp hp).elim (fun z => I.pin p (List.mem_append_left _ z)) (h p), I.hok, I.len⟩
theorem nodup_ix {N : List Str} (hN : N.Nodup) {i j : Nat} {x : Str} (a : N[i]? = some x) (b : N[j]? = some x) : i = j := by
  obtain ⟨h1, e1⟩ := List.getElem?_eq_some_iff.mp a
  obtain ⟨h2, e2⟩ := List.getElem?_eq_some_iff.mp b
  exact (List.getElem_inj hN).mp (e1.trans e2.symm)
theorem store_ok2 {M : Model} {A : Around} {E : Value → Shared → Prop} {i : Nat} {x : Str} {v : V} {u : Value} {Q : Unit → Shared → Prop} (I : Inv X pins σ H s) (hN : X.N.Nodup) (hi : X.N[i]? = some x) (hx : Loc X.env.scope x) (r : RelV v u)
    (h : ∀ s', Inv X pins (σ.set i (some v)) H s' → (∃ a, Heap.SameBut a s.heap s'.heap ∧ (a = X.env.locals ∨ X.env.cells.lookup x = some a)) → Q () s') (hf : X.fn x = true ∨ X.env.scope.names.lookup x = some .local := by first | exact .inl rfl | exact .inr rfl | assumption) : wpAny M A (storeName X.env x u) Q E s := by
  obtain ⟨m, hn, hl⟩ := id I.loc
  have hcls : (X.env.scope.kind == .class || (X.env.scope.kind == .module && X.env.locals != X.env.globals)) = false := by rw [I.ok.kind]; rfl
  have hiσ : i < σ.length := by rw [I.len]; exact (List.getElem?_eq_some_iff.mp hi).1
  have cne := I.cne
  have tracked : ∀ {a : Addr} {h' : Heap}, (∃ o, s.heap.get? a = some o ∧ H a = none) → Heap.SameBut a s.heap h' → HOk X.prog X.w H h' := fun {a h'} ha hs b ob e => by
    obtain ⟨_, _, hfree⟩ := ha
    refine (I.hok b ob e).stay (fun c w' hc q => (hs.2 c ?_).trans q) (fun _ q => q) fun _ _ q => q
    rintro rfl
    rcases hc with rfl | hc
    · rw [hfree] at e; cases e
    · rw [hfree] at hc; cases hc
  rcases hx with hk | hk
  · refine wpAny_storeName_local hk hn (fun h' hn' hs => ?_) hcls
    obtain ⟨oL, _, _, hoL, _⟩ := id hn
    refine h _ ⟨I.ok, I.os, I.bare, ⟨fun b o e n hb hx => ?_, fun b o e n hb hx => ?_, I.base.free, fun b o e hx => ?_, I.base.tups, I.base.frzs, I.base.tbls⟩, ⟨_, hn', fun j y v' e1 e2 e3 => ?_⟩, fun y c e => ?_, I.free, I.freeC, fun p hp => ?_, tracked ⟨oL, hoL, I.free⟩ hs, by simpa using I.len⟩ ⟨_, hs, .inl rfl⟩
    · exact (hs.2 b (Nat.ne_of_lt (Nat.lt_of_lt_of_le (Heap.lt_size e) I.ok.above))).trans (I.base.keep b o e n hb hx)
    · obtain ⟨sl, e1⟩ := I.base.slot b o e n hb hx
      exact ⟨sl, (hs.2 b (Nat.ne_of_lt (Nat.lt_of_lt_of_le (Heap.lt_size e) I.ok.above))).trans e1⟩
    · obtain ⟨o', e1⟩ := I.base.there b o e hx
      exact ⟨o', (hs.2 b (Nat.ne_of_lt (Nat.lt_of_lt_of_le (Heap.lt_size e) I.ok.above))).trans e1⟩
    · by_cases hj : j = i
      · subst hj
        rw [hi] at e1; cases e1
        rw [List.getElem?_set_self hiσ] at e2
        cases e2
        exact ⟨u, r, .inl ⟨hk, by simp⟩⟩
      · rw [List.getElem?_set_ne (Ne.symm hj)] at e2
        obtain ⟨u', r', q⟩ := hl j y v' e1 e2 e3
        refine ⟨u', r', ?_⟩
        rcases q with ⟨k, e⟩ | ⟨k, c, e, z⟩
        · refine .inl ⟨k, ?_⟩
          have : y ≠ x := fun e => hj (nodup_ix hN e1 (e ▸ hi))
          simp [this, e]
        · exact .inr ⟨k, c, e, z.sameBut hs (cne y c e)⟩
    · obtain ⟨w', z⟩ := I.cell y c e
      exact ⟨w', z.sameBut hs (cne y c e)⟩
    · obtain ⟨e, n, ne, nf, d⟩ := I.pin p hp
      exact ⟨(hs.2 p.1 ne).trans e, n, ne, nf, d⟩
  · have hfn : X.fn x = true := by
      rcases hf with z | z
      · exact z
      · rw [z] at hk; cases hk
    obtain ⟨c, hc⟩ := I.ok.has x (.inl hk)
    obtain ⟨w', z⟩ := I.cell x c hc
    refine wpAny_storeName_cell I.ok.kind hk hc z (fun h' hc' hs => ?_)
    obtain ⟨oc, hoc, hocd⟩ := id z
    refine h { s with heap := h' } ⟨I.ok, I.os, I.bare, ⟨fun b o e n hb hx => ?_, fun b o e n hb hx => ?_, I.base.free, fun b o e hx => ?_, I.base.tups, I.base.frzs, I.base.tbls⟩, ⟨m, hn.sameBut hs (Ne.symm (cne x c hc)), fun j y v' e1 e2 e3 => ?_⟩, fun y c' e => ?_, I.free, I.freeC, fun p hp => ?_, tracked ⟨oc, hoc, I.freeC x c hc⟩ hs, by simpa using I.len⟩ ⟨c, hs, .inr hc⟩
    · exact (hs.2 b (Nat.ne_of_lt (Nat.lt_of_lt_of_le (Heap.lt_size e) (I.ok.cab x c hfn hc)))).trans (I.base.keep b o e n hb hx)
    · obtain ⟨sl, e1⟩ := I.base.slot b o e n hb hx
      exact ⟨sl, (hs.2 b (Nat.ne_of_lt (Nat.lt_of_lt_of_le (Heap.lt_size e) (I.ok.cab x c hfn hc)))).trans e1⟩
    · obtain ⟨o', e1⟩ := I.base.there b o e hx
      exact ⟨o', (hs.2 b (Nat.ne_of_lt (Nat.lt_of_lt_of_le (Heap.lt_size e) (I.ok.cab x c hfn hc)))).trans e1⟩
    · by_cases hj : j = i
      · subst hj
        rw [hi] at e1; cases e1
        rw [List.getElem?_set_self hiσ] at e2
        cases e2
        exact ⟨u, r, .inr ⟨.inl hk, c, hc, hc'⟩⟩
      · rw [List.getElem?_set_ne (Ne.symm hj)] at e2
        obtain ⟨u', r', q⟩ := hl j y v' e1 e2 e3
        refine ⟨u', r', ?_⟩
        rcases q with q | ⟨k, c', e, z'⟩
        · exact .inl q
        · refine .inr ⟨k, c', e, z'.sameBut hs ?_⟩
          rintro rfl
          exact hj (nodup_ix hN e1 (I.ok.inj _ _ _ e hc ▸ hi))
    · by_cases hcc : c' = c
      · subst hcc; exact ⟨_, hc'⟩
      · obtain ⟨w2, z2⟩ := I.cell y c' e
        exact ⟨w2, z2.sameBut hs hcc⟩
    · obtain ⟨e, n, ne, nf, d⟩ := I.pin p hp
      refine ⟨(hs.2 p.1 ?_).trans e, n, ne, nf, d⟩
      intro q
      rw [q, hoc] at e
      have q' : oc = p.2 := Option.some.inj e
      exact d w' (by rw [← q']; exact hocd)
theorem store_ok {M : Model} {A : Around} {E : Value → Shared → Prop} {i : Nat} {x : Str} {v : V} {u : Value} {Q : Unit → Shared → Prop} (I : Inv X pins σ H s) (hN : X.N.Nodup) (hi : X.N[i]? = some x) (hx : Loc X.env.scope x) (r : RelV v u)
    (h : ∀ s', Inv X pins (σ.set i (some v)) H s' → Q () s') (hf : X.fn x = true ∨ X.env.scope.names.lookup x = some .local := by first | exact .inl rfl | exact .inr rfl | assumption) : wpAny M A (storeName X.env x u) Q E s :=
  store_ok2 I hN hi hx r (fun s' I' _ => h s' I') hf
theorem Inv.call' {s' : Shared} {ch : List Addr} (I : Inv X pins σ H s) (ho : s'.os = s.os) (u : Un (frs X.stack) ch H H' s.heap s'.heap) (hok : HOk X.prog X.w H' s'.heap) (hg : AllBare s'.gens)
    (hch : ∀ b ∈ ch, (b ∈ X.ex ∨ X.s₀.heap.objs.size ≤ b) ∧ b ≠ X.env.locals ∧ (∀ x c, X.env.cells.lookup x = some c → c ≠ b) ∧ ∀ p ∈ X.pn ++ pins, p.1 ≠ b) : Inv X pins σ H' s' := by
  obtain ⟨h', g', d', t', o'⟩ := s'
  have e : o' = s.os := ho
  subst e
  exact I.call (g' := g') (t' := t') (d' := d') u hok hg hch
end
abbrev XK := Value → Option Addr → Hp → Prop
abbrev St := List (Option V)
abbrev VK := V → Hp → Prop
abbrev TE := St → Hp → VK → Prop
abbrev TT := St → Hp → (Bool → Hp → Prop) → Prop
abbrev TA := St → Hp → (List V → Hp → Prop) → Prop
structure Ends where
  nx : St → Hp → Prop
  rt : VK
  bk : St → Hp → Prop := fun _ _ => False
  ct : St → Hp → Prop := fun _ _ => False
abbrev TS := Ends → St → Hp → Prop
def EP (X : Cx) (pins : List (Addr × Obj)) (σ : St) (Q : VK) (u : Value) (s' : Shared) : Prop := ∃ v H', Inv X pins σ H' s' ∧ RelV v u ∧ Q v H'
def TP (X : Cx) (pins : List (Addr × Obj)) (σ : St) (Q : Bool → Hp → Prop) (b : Bool) (s' : Shared) : Prop := ∃ H', Inv X pins σ H' s' ∧ Q b H'
def AP (X : Cx) (pins : List (Addr × Obj)) (σ : St) (Q : List V → Hp → Prop) (us : List Value) (s' : Shared) : Prop := ∃ vs H', Inv X pins σ H' s' ∧ Vals vs us ∧ Q vs H'
def SP (X : Cx) (pins : List (Addr × Obj)) (D : Ends) (f : Flow) (s' : Shared) : Prop :=
  match f with
  | .next => ∃ σ' H', Inv X pins σ' H' s' ∧ D.nx σ' H'
  | .brk => ∃ σ' H', Inv X pins σ' H' s' ∧ D.bk σ' H'
  | .cont => ∃ σ' H', Inv X pins σ' H' s' ∧ D.ct σ' H'
  | .ret u => ∃ v σ' H', Inv X pins σ' H' s' ∧ RelV v u ∧ D.rt v H'
def PE (X : Cx) (e : Expr) (t : TE) : Prop :=
  ∀ (pins : List (Addr × Obj)) (s : Shared) (σ : St) (H : Hp) (Q : VK), Inv X pins σ H s → t σ H Q → wpAny (model X.prog X.w) X.A (eval e X.env) (EP X pins σ Q) X.xe s
def PT (X : Cx) (e : Expr) (t : TT) : Prop :=
  ∀ (pins : List (Addr × Obj)) (s : Shared) (σ : St) (H : Hp) (Q : Bool → Hp → Prop), Inv X pins σ H s → t σ H Q → wpAny (model X.prog X.w) X.A (isTrue e X.env (eval e X.env)) (TP X pins σ Q) X.xe s
def PW (X : Cx) (e : Expr) (t : TT) : Prop :=
  ∀ (whole : Sem Value) (pins : List (Addr × Obj)) (s : Shared) (σ : St) (H : Hp) (Q : Bool → Hp → Prop), Inv X pins σ H s → t σ H Q → wpAny (model X.prog X.w) X.A (isTrue e X.env whole) (TP X pins σ Q) X.xe s
theorem PW.pt {X : Cx} {e : Expr} {t : TT} (h : PW X e t) : PT X e t := h _
def PA (X : Cx) (es : List Expr) (t : TA) : Prop :=
  ∀ (pos : Pos) (pins : List (Addr × Obj)) (s : Shared) (σ : St) (H : Hp) (Q : List V → Hp → Prop), Inv X pins σ H s → t σ H Q → wpAny (model X.prog X.w) X.A (spliced (backTo pos (starEach es X.env))) (AP X pins σ Q) X.xe s
def PS (X : Cx) (st : Stmt) (t : TS) : Prop :=
  ∀ (pins : List (Addr × Obj)) (s : Shared) (σ : St) (H : Hp) (D : Ends), Inv X pins σ H s → t D σ H → wpAny (model X.prog X.w) X.A (exec st X.env) (SP X pins D) X.xe s
def PSs (X : Cx) (st : List Stmt) (t : TS) : Prop :=
  ∀ (pins : List (Addr × Obj)) (s : Shared) (σ : St) (H : Hp) (D : Ends), Inv X pins σ H s → t D σ H → wpAny (model X.prog X.w) X.A (execs st X.env) (SP X pins D) X.xe s
theorem thn {α : Type} {t : Sem α} {Q Q' : α → Shared → Prop} {M : Model} {A : Around} {E : Value → Shared → Prop} {s : Shared} (h : wpAny M A t Q E s) (hQ : ∀ a s, Q a s → Q' a s) : wpAny M A t Q' E s := wpAny_mono h hQ fun _ _ x => x
end L2
namespace L2
open PySem PySem.Spec PyProof.Rows
section
variable {X : Cx}
def tVar (i : Nat) : TE := fun σ H Q => ∃ v, σ[i]? = some (some v) ∧ Q v H
def tC (v : V) : TE := fun _ H Q => Q v H
theorem pe_var {i : Nat} {x : Str} {pos : Pos} (hN : X.N[i]? = some x) (hv : Vis X.env.scope x) (hd : (x == ("__debug__" : Str)) = false := by decide) (hcd : (x == ("__classdict__" : Str)) = false := by decide) : PE X (.Name x pos) (tVar i) := by
  intro pins s σ H Q I h
  obtain ⟨v, e, h⟩ := h
  obtain ⟨m, hn, hl⟩ := I.loc
  obtain ⟨u, r, l⟩ := hl i x v hN e hv
  have fin : EP X pins σ Q u s := ⟨v, H, I, r, h⟩
  rcases l with ⟨hk, hm⟩ | ⟨hk, c, hc, hcell⟩
  · exact wpAny_Name (wpAny_loadName_local I.ok.kind hk hn hm fin) hd
  · rcases hk with hk | hk
    · exact wpAny_Name (wpAny_loadName_cell I.ok.kind hk hc hcell fin) hd
    · exact wpAny_Name (wpAny_loadName_free I.ok.kind hk hc hcell fin hcd) hd
theorem pe_int {i j pos} : PE X (.Constant (.int i) j pos) (tC (.int i)) := fun _ _ _ H _ I h => wpAny_Constant_int ⟨.int i, H, I.tok _, ⟨_, rfl⟩, h⟩
theorem pe_bl {b j pos} : PE X (.Constant (.bool b) j pos) (tC (.bl b)) := fun _ _ _ H _ I h => Constant_bool ⟨.bl b, H, I, rfl, h⟩
theorem pe_non {j pos} : PE X (.Constant .none j pos) (tC .non) := fun _ _ _ H _ I h => Constant_none ⟨.non, H, I, rfl, h⟩
theorem pe_str {x j pos} : PE X (.Constant (.str x) j pos) (tC (.str x)) := fun _ _ _ H _ I h => Calls.Constant_str ⟨.str x, H, I.tok _, ⟨_, rfl⟩, h⟩
def Gl (X : Cx) (x : Str) : Prop := X.env.kindOf x = some .globalImplicit
theorem ld_glob {E : Value → Shared → Prop} {pins : List (Addr × Obj)} {s : Shared} {σ : St} {H : Hp} {x : Str} {u : Value} {pos : Pos} {Q : Value → Shared → Prop} (I : Inv X pins σ H s) (hg : Gl X x) (hm : X.mg x = some u) (h : Q u s)
    (hd : (x == ("__debug__" : Str)) = false := by decide) : wpAny (model X.prog X.w) X.A (eval (.Name x pos) X.env) Q E s :=
  Calls.Name_function_global I.ok.kind hg (Calls.loadGlobal_global (by rw [I.ok.glob]; exact I.mod.glob.keeps I.bk) hm h) hd
theorem ld_blt {E : Value → Shared → Prop} {pins : List (Addr × Obj)} {s : Shared} {σ : St} {H : Hp} {x : Str} {u : Value} {pos : Pos} {Q : Value → Shared → Prop} (I : Inv X pins σ H s) (hg : Gl X x) (hm : X.mg x = none) (hv : bootBuiltins x = some u) (h : Q u s)
    (hn : x ≠ "__name__" := by decide) (hd : (x == ("__debug__" : Str)) = false := by decide) : wpAny (model X.prog X.w) X.A (eval (.Name x pos) X.env) Q E s := by
  obtain ⟨mb, h1, h2⟩ := I.mod.blt
  exact Calls.Name_function_global I.ok.kind hg (Calls.loadGlobal_builtin (by rw [I.ok.glob]; exact I.mod.glob.keeps I.bk) hm (by rw [I.ok.blt]; exact h1.keeps I.bk) ((h2 x hn).trans hv) h) hd
theorem pe_glob {x : Str} {v : V} {u : Value} {pos : Pos} (hg : Gl X x) (hm : X.mg x = some u) (r : RelV v u) (hd : (x == ("__debug__" : Str)) = false := by decide) : PE X (.Name x pos) (tC v) :=
  fun _ _ _ H _ I h => ld_glob I hg hm ⟨v, H, I, r, h⟩ hd
theorem pe_bltn {x : Str} {v : V} {u : Value} {pos : Pos} (hg : Gl X x) (hm : X.mg x = none) (hv : bootBuiltins x = some u) (r : RelV v u) (hn : x ≠ "__name__" := by decide) (hd : (x == ("__debug__" : Str)) = false := by decide) : PE X (.Name x pos) (tC v) :=
  fun _ _ _ H _ I h => ld_blt I hg hm hv ⟨v, H, I, r, h⟩ hn hd
variable {a b : Expr} {ta tb : TE} {pos : Pos}
variable {tA tB' : TT} {rest : List Expr}
def tAnd (t u : TT) : TT := fun σ H Q => t σ H fun c H1 => if c = true then u σ H1 Q else Q false H1
def tOr (t u : TT) : TT := fun σ H Q => t σ H fun c H1 => if c = true then Q true H1 else u σ H1 Q
def tNot (t : TT) : TT := fun σ H Q => t σ H fun c H1 => Q (!c) H1
theorem pw_and1 (ha : PT X a tA) : PW X (.BoolOp .And [a] pos) tA := by
  intro wh pins s σ H Q I h
  refine isTrue_and (thn (ha pins s σ H Q I h) fun c s1 e => ?_)
  cases c with
  | true => exact isTrue_and_nil e
  | false => exact e
theorem pw_or1 (ha : PT X a tA) : PW X (.BoolOp .Or [a] pos) tA := by
  intro wh pins s σ H Q I h
  refine isTrue_or (thn (ha pins s σ H Q I h) fun c s1 e => ?_)
  cases c with
  | false => exact isTrue_or_nil e
  | true => exact e
theorem pw_and (ha : PT X a tA) (hb : PW X (.BoolOp .And (b :: rest) pos) tB') : PW X (.BoolOp .And (a :: b :: rest) pos) (tAnd tA tB') := by
  intro wh pins s σ H Q I h
  refine isTrue_and (thn (ha pins s σ H _ I h) fun c s1 ⟨H1, I1, q1⟩ => ?_)
  cases c with
  | true => exact hb wh pins s1 σ H1 Q I1 q1
  | false => exact ⟨H1, I1, q1⟩
theorem pw_or (ha : PT X a tA) (hb : PW X (.BoolOp .Or (b :: rest) pos) tB') : PW X (.BoolOp .Or (a :: b :: rest) pos) (tOr tA tB') := by
  intro wh pins s σ H Q I h
  refine isTrue_or (thn (ha pins s σ H _ I h) fun c s1 ⟨H1, I1, q1⟩ => ?_)
  cases c with
  | true => exact ⟨H1, I1, q1⟩
  | false => exact hb wh pins s1 σ H1 Q I1 q1
theorem pt_not (ha : PT X a tA) : PT X (.UnaryOp .Not a pos) (tNot tA) := by
  intro pins s σ H Q I h
  exact isTrue_not (ha pins s σ H (fun c H1 => Q (!c) H1) I h)
def tAndV (ta tb : TE) : TE := fun σ H Q => ta σ H fun x H1 => ∃ c, x = .bl c ∧ if c = true then tb σ H1 Q else Q (.bl false) H1
def tNotV (ta : TE) : TE := fun σ H Q => ta σ H fun x H1 => ∃ c, x = .bl c ∧ Q (.bl (!c)) H1
theorem pe_one {op} {t : TE} (h : PE X a t) : PE X (.BoolOp op [a] pos) t := fun pins s σ H Q I hw => BoolOp_one (h pins s σ H Q I hw)
theorem pe_and (ha : PE X a ta) (hb : PE X (.BoolOp .And (b :: rest) pos) tb) : PE X (.BoolOp .And (a :: b :: rest) pos) (tAndV ta tb) := by
  intro pins s σ H Q I h
  refine BoolOp_and (thn (ha pins s σ H _ I h) fun v s1 ⟨x, H1, I1, r1, q1⟩ => ?_)
  obtain ⟨c, rfl, q1⟩ := q1
  cases r1
  refine wpAny_truthy_bool ?_
  cases c with
  | true => exact hb pins s1 σ H1 Q I1 q1
  | false => exact ⟨.bl false, H1, I1, rfl, q1⟩
theorem pe_not (ha : PE X a ta) : PE X (.UnaryOp .Not a pos) (tNotV ta) := by
  intro pins s σ H Q I h
  refine UnaryOp_ (thn (ha pins s σ H _ I h) fun v s1 ⟨x, H1, I1, r1, q1⟩ => ?_)
  obtain ⟨c, rfl, q1⟩ := q1
  cases r1
  exact not_of (wpAny_truthy_bool ⟨.bl (!c), H1, I1, rfl, q1⟩)
end
end L2
namespace L2
open PySem PySem.Spec PyProof.Rows
def SqL (K : PySem.W.Frag) (H : Hp) (a : Addr) (xs : List V) : Prop :=
  Rd H a (.lst xs) ∨
    ∃ (o : Obj) (its : Array Value) (n : Nat), K.lookup a = some o ∧ o.cls = .type "list" ∧ o.dict = none ∧ o.data = .seq its n ∧ its.size ≤ sizeLine ∧ Vals xs its.toList
def SqT (K : PySem.W.Frag) (H : Hp) (a : Addr) (xs : List V) : Prop :=
  Rd H a (.tup xs) ∨
    ∃ (o : Obj) (its : Array Value) (n : Nat), K.lookup a = some o ∧ o.cls = .type "tuple" ∧ o.data = .seq its n ∧ its.size ≤ sizeLine ∧ Vals xs its.toList
def absV : Value → Option V
  | .none => some .non
  | .bool b => some (.bl b)
  | .int i _ => some (.int i)
  | .str x _ => some (.str x)
  | .bytes b _ => some (.byt b)
  | .float b _ => some (.flt b)
  | .ref a => some (.ref a)
  | .type n => some (.ty n)
  | _ => none
theorem RelV.abs {x : V} {u : Value} (r : RelV x u) : absV u = some x := by
  cases x with
  | non => cases r; rfl
  | bl _ => cases r; rfl
  | int _ => obtain ⟨t, rfl⟩ := r; rfl
  | str _ => obtain ⟨t, rfl⟩ := r; rfl
  | byt _ => obtain ⟨t, rfl⟩ := r; rfl
  | flt _ => obtain ⟨t, rfl⟩ := r; rfl
  | ref _ => cases r; rfl
  | ty _ => cases r; rfl
theorem RelV.inj {x y : V} {u : Value} (r : RelV x u) (q : RelV y u) : x = y := Option.some.inj (r.abs.symm.trans q.abs)
theorem Vals.inj : ∀ {xs ys : List V} {us : List Value}, Vals xs us → Vals ys us → xs = ys
  | _, _, _, .nil, .nil => rfl
  | _, _, _, .cons r t, .cons r' t' => by rw [r.inj r', Vals.inj t t']
section
variable {X : Cx} {pins : List (Addr × Obj)} {σ : St} {H : Hp} {s : Shared} {a : Addr} {xs ys : List V}
theorem SqL.of {K : PySem.W.Frag} (h : H a = some (.lst xs)) : SqL K H a xs := .inl (.inl h)
theorem SqT.of {K : PySem.W.Frag} (h : H a = some (.tup xs)) : SqT K H a xs := .inl (.inl h)
theorem Inv.list (I : Inv X pins σ H s) (h : SqL X.K H a xs) : ∃ its : List Value, Vals xs its ∧ PlainL s.heap a its.toArray ∧ xs.length ≤ sizeLine := by
  rcases h with h | ⟨o, its, n, hk, hc, hd, hs, hz, r⟩
  · obtain ⟨z, its, n, r, e⟩ := h.ok I.hok
    exact ⟨its, r, ⟨_, n, e, rfl, rfl, rfl⟩, z⟩
  · refine ⟨its.toList, r, ⟨o, n, I.kIn a o hk, hc, hd, by simpa using hs⟩, ?_⟩
    have e := r.length
    simp only [Array.length_toList] at e
    omega
theorem Inv.tuple (I : Inv X pins σ H s) (h : SqT X.K H a xs) : ∃ its : List Value, Vals xs its ∧ IsTup s.heap a its.toArray ∧ xs.length ≤ sizeLine := by
  rcases h with h | ⟨o, its, n, hk, hc, hs, hz, r⟩
  · obtain ⟨z, its, r, p⟩ := h.ok I.hok
    exact ⟨its, r, p, z⟩
  · refine ⟨its.toList, r, ⟨o, I.kIn a o hk, hc, n, by simpa using hs⟩, ?_⟩
    have e := r.length
    simp only [Array.length_toList] at e
    omega
theorem Inv.list_inj (I : Inv X pins σ H s) (h : SqL X.K H a xs) (h' : SqL X.K H a ys) : xs = ys := by
  obtain ⟨its, r, ⟨o, n, e, _, _, d⟩, _⟩ := I.list h
  obtain ⟨its', r', ⟨o', n', e', _, _, d'⟩, _⟩ := I.list h'
  rw [e] at e'; cases e'
  rw [d] at d'
  injection d' with d1 _
  have : its = its' := by simpa using congrArg Array.toList d1
  subst this
  exact r.inj r'
theorem Inv.tuple_inj (I : Inv X pins σ H s) (h : SqT X.K H a xs) (h' : SqT X.K H a ys) : xs = ys := by
  obtain ⟨its, r, ⟨o, e, _, n, d⟩, _⟩ := I.tuple h
  obtain ⟨its', r', ⟨o', e', _, n', d'⟩, _⟩ := I.tuple h'
  rw [e] at e'; cases e'
  rw [d] at d'
  injection d' with d1 _
  have : its = its' := by simpa using congrArg Array.toList d1
  subst this
  exact r.inj r'
end
abbrev Cx.wish (X : Cx) (E : Value → Shared → Prop) : Cx := { X with xe := E }
abbrev Cx.nox (X : Cx) : Cx := X.wish fun _ _ => False
theorem Cx.Ok.wish {X : Cx} (ok : X.Ok) (E : Value → Shared → Prop) : (X.wish E).Ok :=
  ⟨ok.mod, ok.kind, ok.glob, ok.blt, ok.above, ok.inj, ok.has, ok.cab, ok.hd, ok.frames, ok.stk, ok.exf, ok.bs, ok.bsz, ok.noex, ok.exfs, ok.funs, ok.frf⟩
theorem Cx.Ok.unwish {X : Cx} {E : Value → Shared → Prop} (ok : (X.wish E).Ok) : X.Ok :=
  ⟨ok.mod, ok.kind, ok.glob, ok.blt, ok.above, ok.inj, ok.has, ok.cab, ok.hd, ok.frames, ok.stk, ok.exf, ok.bs, ok.bsz, ok.noex, ok.exfs, ok.funs, ok.frf⟩
section
variable {X : Cx} {pins : List (Addr × Obj)} {σ : St} {H : Hp} {s : Shared} {E : Value → Shared → Prop}
theorem Inv.wish (I : Inv X pins σ H s) (E : Value → Shared → Prop) : Inv (X.wish E) pins σ H s := ⟨I.ok.wish E, I.os, I.bare, I.base, I.loc, I.cell, I.free, I.freeC, I.pin, I.hok, I.len⟩
theorem Inv.unwish (I : Inv (X.wish E) pins σ H s) : Inv X pins σ H s := ⟨I.ok.unwish, I.os, I.bare, I.base, I.loc, I.cell, I.free, I.freeC, I.pin, I.hok, I.len⟩
theorem SP.unwish {D : Ends} {f : Flow} {s' : Shared} (h : SP (X.wish E) pins D f s') : SP X pins D f s' := by
  cases f with
  | next => obtain ⟨σ', H', I, q⟩ := h; exact ⟨σ', H', I.unwish, q⟩
  | brk => obtain ⟨σ', H', I, q⟩ := h; exact ⟨σ', H', I.unwish, q⟩
  | cont => obtain ⟨σ', H', I, q⟩ := h; exact ⟨σ', H', I.unwish, q⟩
  | ret u => obtain ⟨v, σ', H', I, r, q⟩ := h; exact ⟨v, σ', H', I.unwish, r, q⟩
end
section
variable {X : Cx} {st : Stmt} {rest : List Stmt} {t u : TS} {e : Expr} {te : TE} {pos : Pos}
def tNext : TS := fun D σ H => D.nx σ H
def tSeq (t u : TS) : TS := fun D σ H => t { D with nx := u D } σ H
theorem pss_nil : PSs X [] tNext := fun _ _ σ H _ I h => wpAny_execs_nil ⟨σ, H, I, h⟩
theorem pss_cons (h1 : PS X st t) (h2 : PSs X rest u) : PSs X (st :: rest) (tSeq t u) := by
  intro pins s σ H D I h
  refine wpAny_execs_cons (thn (h1 pins s σ H { D with nx := u D } I h) fun f s1 q => ?_)
  cases f with
  | next =>
    obtain ⟨σ', H', I', q⟩ := q
    exact h2 pins s1 σ' H' D I' q
  | ret v => exact q
  | brk => exact q
  | cont => exact q
theorem pss_one (h1 : PS X st t) : PSs X [st] t := by
  intro pins s σ H D I h
  refine wpAny_execs_cons (thn (h1 pins s σ H D I h) fun f s1 q => ?_)
  cases f with
  | next => exact wpAny_execs_nil q
  | ret v => exact q
  | brk => exact q
  | cont => exact q
theorem Inv.quiet {pins : List (Addr × Obj)} {σ : St} {H : Hp} {s : Shared} (I : Inv X pins σ H s) : interactive X.env = false := by simp [interactive, I.ok.kind]
def tDrop (te : TE) : TS := fun D σ H => te σ H fun _ H1 => D.nx σ H1
theorem ps_expr (he : PE X e te) (hs : swapsWith e none pos.line X.env = pure false := by rfl) : PS X (.Expr e pos) (tDrop te) := by
  intro pins s σ H D I h
  exact wpAny_Expr_any (thn (he pins s σ H _ I h) fun v s1 ⟨x, H1, I1, r1, q1⟩ => ⟨σ, H1, I1, q1⟩) I.quiet hs
def tRet (te : TE) : TS := fun D σ H => te σ H D.rt
theorem ps_ret (he : PE X e te) : PS X (.Return (some e) pos) (tRet te) := by
  intro pins s σ H D I h
  exact wpAny_Return_some (thn (he pins s σ H _ I h) fun v s1 ⟨x, H1, I1, r1, q1⟩ => ⟨x, σ, H1, I1, r1, q1⟩)
def tIfS (c : TT) (t u : TS) : TS := fun D σ H => c σ H fun b H1 => if b = true then t D σ H1 else u D σ H1
theorem ps_if {c : Expr} {a b : List Stmt} {tc : TT} (hc : PT X c tc) (ha : PSs X a t) (hb : PSs X b u) : PS X (.If c a b pos) (tIfS tc t u) := by
  intro pins s σ H D I h
  refine wpAny_If (thn (hc pins s σ H _ I h) fun d s1 ⟨H1, I1, q1⟩ => ?_)
  cases d with
  | true => exact ha pins s1 σ H1 D I1 q1
  | false => exact hb pins s1 σ H1 D I1 q1
end
abbrev TG := V → St → Hp → (St → Hp → Prop) → Prop
def PG (X : Cx) (target : Expr) (t : TG) : Prop :=
  ∀ (pins : List (Addr × Obj)) (s : Shared) (σ : St) (H : Hp) (v : V) (u : Value) (Q : St → Hp → Prop), Inv X pins σ H s → RelV v u → t v σ H Q →
    wpAny (model X.prog X.w) X.A (assign target X.env u) (fun _ s' => ∃ σ' H', Inv X pins σ' H' s' ∧ Q σ' H') X.xe s
section
variable {X : Cx} {pos : Pos}
def gName (i : Nat) : TG := fun v σ H Q => Q (σ.set i (some v)) H
theorem pg_name {i : Nat} {x : Str} (hN : X.N.Nodup) (hi : X.N[i]? = some x) (hx : Loc X.env.scope x) (hf : X.fn x = true ∨ X.env.scope.names.lookup x = some .local := by first | exact .inl rfl | exact .inr rfl | assumption) : PG X (.Name x pos) (gName i) := by
  intro pins s σ H v u Q I r h
  exact wpAny_assign_Name (store_ok I hN hi hx r (fun s' I' => ⟨_, H, I', h⟩) hf)
def tAsg (te : TE) (g : TG) : TS := fun D σ H => te σ H fun x H1 => g x σ H1 D.nx
theorem ps_set {i : Nat} {x : Str} {e : Expr} {te : TE} {pos' : Pos} (hN : X.N.Nodup) (hi : X.N[i]? = some x) (hx : Loc X.env.scope x) (he : PE X e te) (hs : swapsWith e (some (.Name x pos')) pos.line X.env = pure false := by rfl) (hf : X.fn x = true ∨ X.env.scope.names.lookup x = some .local := by first | exact .inl rfl | exact .inr rfl | assumption) :
    PS X (.Assign [.Name x pos'] e pos) (tAsg te (gName i)) := by
  intro pins s σ H D I h
  refine wpAny_Assign_Name (thn (he pins s σ H _ I h) fun v s1 ⟨y, H1, I1, r1, q1⟩ => ?_) hs
  exact store_ok I1 hN hi hx r1 (fun s2 I2 => ⟨_, H1, I2, q1⟩) hf
end
section
variable {X : Cx} {pos : Pos}
def tWhile (c : TT) (tb : TS) : TS := fun D σ H => ∃ W : Nat → St → Hp → Prop, (∃ m, W m σ H) ∧ ∀ m σ H, W m σ H →
  c σ H fun b H1 => if b = true then ∃ N : St → Hp → Prop, (∀ σ' H', N σ' H' → ∃ m', m' < m ∧ W m' σ' H') ∧ tb { D with nx := N, ct := N, bk := D.nx } σ H1 else D.nx σ H1
theorem ps_while {c : Expr} {body : List Stmt} {tc : TT} {tb : TS} (hp : PassesOwn (model X.prog X.w) X.A X.env X.xe) (hc : PT X c tc) (hb : PSs X body tb) : PS X (.While c body [] pos) (tWhile tc tb) := by
  intro pins s σ H D I h
  obtain ⟨W, ⟨m0, w0⟩, turn⟩ := h
  refine wpAny_While (codeAny_whileLoop (fun n s' => ∃ σ' H', Inv X pins σ' H' s' ∧ W n σ' H') ?_ m0 ⟨σ, H, I, w0⟩)
  rintro n s1 ⟨σ1, H1, I1, w1⟩
  refine wpAny_passesOwn hp (thn (hc pins s1 σ1 H1 _ I1 (turn n σ1 H1 w1)) fun b s2 ⟨H2, I2, q2⟩ => ?_)
  cases b with
  | true =>
    obtain ⟨N, hN, q2⟩ := q2
    rw [if_pos rfl]
    refine wpAny_passesOwn hp (thn (hb pins s2 σ1 H2 _ I2 q2) fun f s3 q3 => ?_)
    cases f with
    | next =>
      obtain ⟨σ3, H3, I3, n3⟩ := q3
      obtain ⟨m', hm, w3⟩ := hN σ3 H3 n3
      exact ⟨m', hm, σ3, H3, I3, w3⟩
    | cont =>
      obtain ⟨σ3, H3, I3, n3⟩ := q3
      obtain ⟨m', hm, w3⟩ := hN σ3 H3 n3
      exact ⟨m', hm, σ3, H3, I3, w3⟩
    | brk => exact q3
    | ret v => exact q3
  | false =>
    rw [if_neg Bool.false_ne_true]
    exact wpAny_execs_nil ⟨σ1, H2, I2, q2⟩
end
structure It where
  go : Nat → Hp → Prop
  yld : Nat → Hp → V → Hp → Prop
  stop : Nat → Hp → Prop
def FpOk (X : Cx) (pins : List (Addr × Obj)) (H : Hp) (b : Addr) : Prop :=
  H b = none ∧ b ≠ X.env.locals ∧ b ∉ X.fs ∧ (b ∈ X.ex ∨ X.s₀.heap.objs.size ≤ b) ∧ (∀ x c, X.env.cells.lookup x = some c → c ≠ b) ∧ ∀ p ∈ X.pn ++ pins, p.1 ≠ b
theorem Inv.fpOk {X : Cx} {pins : List (Addr × Obj)} {σ : St} {H H' : Hp} {s : Shared} {b : Addr} (I : Inv X pins σ H s) (hb : s.heap.objs.size ≤ b) (hn : H' b = none) : FpOk X pins H' b := by
  refine ⟨hn, Nat.ne_of_gt (Nat.lt_of_lt_of_le I.lt hb), I.nofs hb, .inr (Nat.le_trans I.sz hb), fun x c e z => ?_, fun p hp z => ?_⟩
  · obtain ⟨v, q⟩ := I.cell x c e
    exact absurd (Nat.lt_of_lt_of_le q.lt (by rw [z]; exact hb)) (Nat.lt_irrefl _)
  · exact absurd (Nat.lt_of_lt_of_le (Heap.lt_size (I.pin p hp).1) (by rw [z]; exact hb)) (Nat.lt_irrefl _)
structure Turn (P : Program) (w : World) (K : PySem.W.Frag) (tg : Expr) (J : It) (fp : List Addr) (it : Addr) (tn : Nat → Heap → Prop) : Prop where
  mem : it ∈ fp
  obj : ∀ i h, tn i h → ∀ b ∈ fp, ∃ o, h.get? b = some o ∧ ∀ v, o.data ≠ .cell v
  keep : ∀ i h h', tn i h → (∀ b ∈ fp, ∀ o, h.get? b = some o → h'.get? b = some o) → tn i h'
  item : ∀ (X : Cx), X.prog = P → X.w = w → X.K = K → X.calm = true → ∀ (i : Nat) (pins : List (Addr × Obj)) (s : Shared) (σ : St) (H : Hp) (E : Value → Shared → Prop), Inv X pins σ H s → (∀ b ∈ fp, FpOk X pins H b) → tn i s.heap → J.go i H →
    wpAny (model P w) X.A (pyNext (.ref it)) (fun r s1 => ∃ u, r = some u ∧
      wpAny (model P w) X.A (letOwnedTupleGo tg (.ref it) u) (fun _ s2 => ∃ x H', Inv X pins σ H' s2 ∧ RelV x u ∧ J.yld i H x H' ∧ tn (i + 1) s2.heap ∧ ∀ b ∈ fp, H' b = none) E s1) E s
  done : ∀ (X : Cx), X.prog = P → X.w = w → X.K = K → X.calm = true → ∀ (i : Nat) (pins : List (Addr × Obj)) (s : Shared) (σ : St) (H : Hp) (E : Value → Shared → Prop), Inv X pins σ H s → (∀ b ∈ fp, FpOk X pins H b) → tn i s.heap → J.stop i H →
    wpAny (model P w) X.A (pyNext (.ref it)) (fun r s1 => r = none ∧ Inv X pins σ H s1) E s
  self : ∀ (A : Around) (i : Nat) (s : Shared) (Q : Value → Shared → Prop) (E : Value → Shared → Prop), tn i s.heap → Q (.ref it) s → wpAny (model P w) A (pyIter (.ref it)) Q E s
abbrev TI := St → Hp → (It → Hp → Prop) → Prop
def PIE (X : Cx) (pins : List (Addr × Obj)) (σ : St) (tg : Expr) (R : It → Hp → Prop) (itv : Value) (s2 : Shared) : Prop :=
  ∃ (it : Addr) (fp : List Addr) (tn : Nat → Heap → Prop) (J : It) (H' : Hp), itv = .ref it ∧ Inv X pins σ H' s2 ∧ Turn X.prog X.w X.K tg J fp it tn ∧ tn 0 s2.heap ∧ (∀ b ∈ fp, FpOk X pins H' b) ∧ R J H'
def PI (X : Cx) (tg iter : Expr) (wi : TI) : Prop :=
  ∀ (pins : List (Addr × Obj)) (s : Shared) (σ : St) (H : Hp) (R : It → Hp → Prop), Inv X pins σ H s → wi σ H R →
    wpAny (model X.prog X.w) X.A (eval iter X.env) (fun v s1 => wpAny (model X.prog X.w) X.A (pyIter v) (PIE X pins σ tg R) X.xe s1) X.xe s
theorem go_of {M : Model} {A : Around} {E : Value → Shared → Prop} {s : Shared} {tg : Expr} {it : Addr} {u : Value} {o : Obj} {n : String} {vs : Array Value} {Q : Unit → Shared → Prop} (ho : s.heap.get? it = some o) (hc : o.cls = .type n) (hd : o.data = .fields vs)
    (hn : ["enumerate", "zip", "dict_itemiterator", "dict_reverseitemiterator", "odict_iterator", "itertools.zip_longest", "itertools.pairwise"].contains n = false) (hQ : Q () s) : wpAny M A (letOwnedTupleGo tg (.ref it) u) Q E s := by
  unfold letOwnedTupleGo
  cases tg <;> first
    | exact wpAny_pure hQ
    | (cases u <;> first
        | exact wpAny_pure hQ
        | (refine wpAny_bind (wpAny_load ho ?_)
           rw [hc, hd]
           show wpAny M A (if (["enumerate", "zip", "dict_itemiterator", "dict_reverseitemiterator", "odict_iterator", "itertools.zip_longest", "itertools.pairwise"].contains n && vs[0]? == some (rawInt _)) = true then _ else _) Q E s
           rw [if_neg (by intro h; rw [hn, Bool.false_and] at h; cases h)]
           exact wpAny_pure hQ))
def Itl (K : PySem.W.Frag) (a : Addr) : It :=
  ⟨fun i H => ∃ xs x, SqL K H a xs ∧ xs[i]? = some x, fun i H x H' => H' = H ∧ ∀ xs, SqL K H a xs → xs[i]? = some x, fun i H => ∃ xs, SqL K H a xs ∧ xs.length ≤ i⟩
theorem turn_list {P : Program} {w : World} {K : PySem.W.Frag} {tg : Expr} (a it : Addr) : Turn P w K tg (Itl K a) [it] it (fun i h => h.IsListIter it a i) where
  mem := by simp
  obj := fun i h st b hb => by
    have e : b = it := by simpa using hb
    subst e
    obtain ⟨o, e, c, d⟩ := st
    exact ⟨o, e, fun v z => by rw [d] at z; cases z⟩
  keep := fun i h h' st k => st.at fun o e => k it (by simp) o e
  item := by
    intro X hP hw hK hc i pins s σ H E I hf st hg
    subst hP hw hK
    obtain ⟨xs, x, hq, hx⟩ := hg
    obtain ⟨its, rv, p, hz⟩ := I.list hq
    obtain ⟨u, hu, ru⟩ := rv.get hx
    obtain ⟨f0, f1, f2, f3, f4, f5⟩ := hf it (by simp)
    refine wpAny_pyNext_list_item st p.isList (x := u) (by simpa using hu) fun h' st' sb => ?_
    have I1 : Inv X pins σ H { s with heap := h' } := I.turned (t' := s.toks) (fun b o hb e => (sb.2 b hb).trans e) f0 f1 f3 f4 f5
    obtain ⟨o, e, c, d⟩ := id st'
    exact ⟨u, rfl, go_of (s := { s with heap := h' }) e c d (by decide) ⟨x, H, I1, ru, ⟨rfl, fun ys hy => by rw [I.list_inj hy hq]; exact hx⟩, st', fun b hb => (hf b hb).1⟩⟩
  done := by
    intro X hP hw hK hc i pins s σ H E I hf st hg
    subst hP hw hK
    obtain ⟨xs, hq, hx⟩ := hg
    obtain ⟨its, rv, p, hz⟩ := I.list hq
    obtain ⟨f0, f1, f2, f3, f4, f5⟩ := hf it (by simp)
    have hl := rv.length
    exact wpAny_pyNext_list_end (I.ok.hd hc) st p.isList (by simp; omega) fun h' eb => ⟨rfl, I.turned (t' := s.toks) (fun b o hb e => eb b o hb e) f0 f1 f3 f4 f5⟩
  self := fun _ _ _ _ _ st h => wpAny_pyIter_listiter st h
end L2
namespace L2
open PySem PySem.Spec PyProof.Rows
section
variable {X : Cx} {tg : Expr}
def iList (K : PySem.W.Frag) (tl : TE) : TI := fun σ H R => tl σ H fun x H1 => ∃ a, x = .ref a ∧ (∃ xs, SqL K H1 a xs) ∧ R (Itl K a) H1
theorem pi_list {l : Expr} {tl : TE} (hl : PE X l tl) : PI X tg l (iList X.K tl) := by
  intro pins s σ H R I h
  refine thn (hl pins s σ H _ I h) fun v s1 ⟨x, H1, I1, r1, q1⟩ => ?_
  obtain ⟨a, e, ⟨xs, hq⟩, q⟩ := q1
  subst e
  cases r1
  obtain ⟨its, rv, p, hz⟩ := I1.list hq
  refine wpAny_pyIter_list p.isList ?_
  refine ⟨s1.heap.objs.size, [s1.heap.objs.size], _, _, H1, rfl, I1.kept (t' := s1.toks) fun b o e => Heap.get?_push_of_some _ e, turn_list a _, ⟨_, Heap.get?_push_size _ rfl, rfl, rfl⟩, fun b hb => ?_, q⟩
  have e : b = s1.heap.objs.size := by simpa using hb
  subst e
  exact I1.fpOk (Nat.le_refl _) (I1.hok.fresh (Nat.le_refl _))
def tFor (wi : TI) (g : TG) (tb : TS) : TS := fun D σ H => wi σ H fun J H1 => ∃ W : Nat → Nat → St → Hp → Prop, (∃ m, W 0 m σ H1) ∧ ∀ i m σ H, W i m σ H →
  (J.stop i H ∧ D.nx σ H) ∨ (J.go i H ∧ ∃ N : St → Hp → Prop, (∀ σ' H', N σ' H' → ∃ m', m' < m ∧ W (i + 1) m' σ' H') ∧ ∀ x H', J.yld i H x H' → g x σ H' fun σ2 H2 => tb { D with nx := N, ct := N, bk := D.nx } σ2 H2)
def pinsAt (fp : List Addr) (h : Heap) : List (Addr × Obj) := fp.filterMap fun b => (h.get? b).map fun o => (b, o)
theorem mem_pinsAt {fp : List Addr} {h : Heap} {b : Addr} {o : Obj} (hb : b ∈ fp) (e : h.get? b = some o) : (b, o) ∈ pinsAt fp h := List.mem_filterMap.mpr ⟨b, hb, by rw [e]; rfl⟩
theorem of_pinsAt {fp : List Addr} {h : Heap} {p : Addr × Obj} (hp : p ∈ pinsAt fp h) : p.1 ∈ fp ∧ h.get? p.1 = some p.2 := by
  obtain ⟨b, hb, e⟩ := List.mem_filterMap.mp hp
  cases q : h.get? b with
  | none => rw [q] at e; cases e
  | some o =>
    rw [q] at e
    have e' : (b, o) = p := Option.some.inj e
    subst e'
    exact ⟨hb, q⟩
theorem Inv.pinned {pins : List (Addr × Obj)} {σ : St} {H : Hp} {s : Shared} {fp : List Addr} (I : Inv X pins σ H s) (hf : ∀ b ∈ fp, FpOk X pins H b) (ho : ∀ b ∈ fp, ∃ o, s.heap.get? b = some o ∧ ∀ v, o.data ≠ .cell v) : Inv X (pins ++ pinsAt fp s.heap) σ H s :=
  I.pins_of fun p hp => (List.mem_append.mp hp).elim (fun z => I.pin p (List.mem_append_right _ z)) fun z => by
    obtain ⟨hb, e⟩ := of_pinsAt z
    obtain ⟨f0, f1, f2, _⟩ := hf p.1 hb
    obtain ⟨o, e', d⟩ := ho p.1 hb
    rw [e] at e'; cases e'
    exact ⟨e, f0, f1, f2, d⟩
theorem Inv.unpinned {pins pl : List (Addr × Obj)} {σ : St} {H : Hp} {s : Shared} (I : Inv X (pins ++ pl) σ H s) : Inv X pins σ H s := I.pins_of fun p hp => I.pin p (List.mem_append_right _ (List.mem_append_left _ hp))
theorem ps_for {iter : Expr} {body : List Stmt} {wi : TI} {g : TG} {tb : TS} {pos : Pos} (hp : PassesOwn (model X.prog X.w) X.A X.env X.xe) (hc : X.calm = true) (hi : PI X tg iter wi) (hg : PG X tg g) (hb : PSs X body tb)
    (hs : ∀ x, foldedSetIterable iter X.env x = pure x := by intro _; rfl) : PS X (.For tg iter body [] pos) (tFor wi g tb) := by
  intro pins s σ H D I h
  refine wpAny_For (thn (hi pins s σ H _ I h) fun v s1 h1 => thn h1 fun itv s2 h2 => ?_) hs
  obtain ⟨it, fp, tn, J, H2, e, I2, T, st2, f2, W, ⟨m0, w0⟩, turn⟩ := h2
  subst e
  -- what stays true of the iterator's objects through the loop
  have stat : ∀ {H' : Hp}, (∀ b ∈ fp, H' b = none) → ∀ b ∈ fp, FpOk X pins H' b := fun hn b hb => ⟨hn b hb, (f2 b hb).2⟩
  refine codeAny_forLoop_any (fun n s' => ∃ i σ' H', Inv X pins σ' H' s' ∧ tn i s'.heap ∧ (∀ b ∈ fp, H' b = none) ∧ W i n σ' H') ?_ m0 ⟨0, σ, H2, I2, st2, fun b hb => (f2 b hb).1, w0⟩
  rintro n s3 ⟨i, σ3, H3, I3, st3, fr3, w3⟩
  rcases turn i n σ3 H3 w3 with ⟨stop, qn⟩ | ⟨go, N, hN, step⟩
  · refine wpAny_passesOwn hp (thn (T.done X rfl rfl rfl hc i pins s3 σ3 H3 X.xe I3 (stat fr3) st3 stop) fun r s4 ⟨hr, I4⟩ => ?_)
    subst hr
    exact wpAny_execs_nil ⟨σ3, H3, I4, qn⟩
  · refine wpAny_passesOwn hp (thn (T.item X rfl rfl rfl hc i pins s3 σ3 H3 X.xe I3 (stat fr3) st3 go) fun r s4 ⟨u, hr, h4⟩ => ?_)
    subst hr
    refine wpAny_passesOwn hp (thn h4 fun _ s5 ⟨x, H5, I5, r5, y5, st5, fr5⟩ => ?_)
    have I5' := I5.pinned (stat fr5) (T.obj _ _ st5)
    refine wpAny_passesOwn hp (thn (hg _ s5 σ3 H5 x u _ I5' r5 (step x H5 y5)) fun _ s6 ⟨σ6, H6, I6, q6⟩ => ?_)
    refine wpAny_passesOwn hp (thn (hb _ s6 σ6 H6 _ I6 q6) fun f s7 q7 => ?_)
    have again : ∀ {σ7 : St} {H7 : Hp}, Inv X (pins ++ pinsAt fp s5.heap) σ7 H7 s7 → N σ7 H7 → ∃ m, m < n ∧ ∃ i σ' H', Inv X pins σ' H' s7 ∧ tn i s7.heap ∧ (∀ b ∈ fp, H' b = none) ∧ W i m σ' H' := fun {σ7 H7} I7 n7 => by
      obtain ⟨m', hm, w7⟩ := hN σ7 H7 n7
      refine ⟨m', hm, i + 1, σ7, H7, I7.unpinned, T.keep _ _ _ st5 fun b hb o e => (I7.pin (b, o) (List.mem_append_right _ (List.mem_append_right _ (mem_pinsAt hb e)))).1, fun b hb => ?_, w7⟩
      obtain ⟨o, e, d⟩ := T.obj _ _ st5 b hb
      exact (I7.pin (b, o) (List.mem_append_right _ (List.mem_append_right _ (mem_pinsAt hb e)))).2.1
    cases f with
    | next => obtain ⟨σ7, H7, I7, n7⟩ := q7; exact again I7 n7
    | cont => obtain ⟨σ7, H7, I7, n7⟩ := q7; exact again I7 n7
    | brk => obtain ⟨σ7, H7, I7, q7⟩ := q7; exact ⟨σ7, H7, I7.unpinned, q7⟩
    | ret v => obtain ⟨x7, σ7, H7, I7, r7, q7⟩ := q7; exact ⟨x7, σ7, H7, I7.unpinned, r7, q7⟩
end
end L2
namespace L2
open PySem PySem.Spec PyProof.Rows
abbrev R2 := V → V → Hp → VK → Prop
def OpR (X : Cx) (f : Value → Value → Sem Value) (r : R2) : Prop :=
  ∀ (pins : List (Addr × Obj)) (s : Shared) (σ : St) (H : Hp) (x y : V) (v u : Value) (Q : VK), Inv X pins σ H s → RelV x v → RelV y u → r x y H Q →
    wpAny (model X.prog X.w) X.A (f v u) (EP X pins σ Q) X.xe s
def UnR (X : Cx) (f : Value → Sem Value) (r : V → Hp → VK → Prop) : Prop :=
  ∀ (pins : List (Addr × Obj)) (s : Shared) (σ : St) (H : Hp) (x : V) (v : Value) (Q : VK), Inv X pins σ H s → RelV x v → r x H Q →
    wpAny (model X.prog X.w) X.A (f v) (EP X pins σ Q) X.xe s
def CallR (X : Cx) (f : Value) (r : List V → Hp → VK → Prop) : Prop :=
  ∀ (pins : List (Addr × Obj)) (s : Shared) (σ : St) (H : Hp) (xs : List V) (us : List Value) (Q : VK), Inv X pins σ H s → Vals xs us → r xs H Q →
    wpAny (model X.prog X.w) X.A (call f us) (EP X pins σ Q) X.xe s
def TruR (X : Cx) (r : V → Hp → (Bool → Hp → Prop) → Prop) : Prop :=
  ∀ (pins : List (Addr × Obj)) (s : Shared) (σ : St) (H : Hp) (x : V) (v : Value) (Q : Bool → Hp → Prop), Inv X pins σ H s → RelV x v → r x H Q →
    wpAny (model X.prog X.w) X.A (truthy v) (TP X pins σ Q) X.xe s
def tOp (r : R2) (ta tb : TE) : TE := fun σ H Q => ta σ H fun x H1 => tb σ H1 fun y H2 => r x y H2 Q
def tUn (r : V → Hp → VK → Prop) (ta : TE) : TE := fun σ H Q => ta σ H fun x H1 => r x H1 Q
def rI (C : Int → Int → Prop) (g : Int → Int → V) : R2 := fun x y H Q => ∃ i j, x = .int i ∧ y = .int j ∧ C i j ∧ Q (g i j) H
def rI0 (g : Int → Int → V) : R2 := fun x y H Q => ∃ i j, x = .int i ∧ y = .int j ∧ Q (g i j) H
def rU (g : Int → V) : V → Hp → VK → Prop := fun x H Q => ∃ i, x = .int i ∧ Q (g i) H
section
variable {X : Cx} {a b c : Expr} {ta tb tc : TE} {pos : Pos}
theorem binT (ha : PE X a ta) (hb : PE X b tb) {pins : List (Addr × Obj)} {s : Shared} {σ : St} {H : Hp} {R : V → V → Hp → Prop} (I : Inv X pins σ H s)
    (h : ta σ H fun x H1 => tb σ H1 fun y H2 => R x y H2) {Q : Value → Shared → Prop} {f : Value → Value → Sem Value}
    (hf : ∀ v u s2 x y H2, Inv X pins σ H2 s2 → RelV x v → RelV y u → R x y H2 → wpAny (model X.prog X.w) X.A (f v u) Q X.xe s2) :
    wpAny (model X.prog X.w) X.A (eval a X.env) (fun v s₁ => wpAny (model X.prog X.w) X.A (eval b X.env) (fun u s₂ => wpAny (model X.prog X.w) X.A (f v u) Q X.xe s₂) X.xe s₁) X.xe s := by
  refine thn (ha pins s σ H _ I h) fun v s1 ⟨x, H1, I1, r1, q1⟩ => ?_
  refine thn (hb pins s1 σ H1 _ I1 q1) fun u s2 ⟨y, H2, I2, r2, q2⟩ => ?_
  exact hf v u s2 x y H2 I2 r1 r2 q2
theorem pe_op {op : Operator} {r : R2} (ho : OpR X (binaryOp op) r) (ha : PE X a ta) (hb : PE X b tb) : PE X (.BinOp a op b pos) (tOp r ta tb) := by
  intro pins s σ H Q I h
  exact wpAny_BinOp (binT ha hb I h fun v u s2 x y H2 I2 rx ry q => ho pins s2 σ H2 x y v u Q I2 rx ry q)
theorem pe_un {op : UnaryOp} {r : V → Hp → VK → Prop} (ho : UnR X (unaryOp op) r) (ha : PE X a ta) : PE X (.UnaryOp op a pos) (tUn r ta) := by
  intro pins s σ H Q I h
  exact UnaryOp_ (thn (ha pins s σ H _ I h) fun v s1 ⟨x, H1, I1, r1, q1⟩ => ho pins s1 σ H1 x v Q I1 r1 q1)
theorem opI {f : Value → Value → Sem Value} {C : Int → Int → Prop} {g : Int → Int → Int}
    (rule : ∀ (i j : Int) (t u : Tok) (s : Shared) (Q : Value → Shared → Prop) (E : Value → Shared → Prop), C i j → Q (.int (g i j) s.toks) { s with toks := s.toks + 1 } → wpAny (model X.prog X.w) X.A (f (.int i t) (.int j u)) Q E s) :
    OpR X f (rI C fun i j => .int (g i j)) := by
  intro pins s σ H x y v u Q I rx ry h
  obtain ⟨i, j, rfl, rfl, hc, q⟩ := h
  obtain ⟨t, rfl⟩ := rx
  obtain ⟨t', rfl⟩ := ry
  exact rule i j t t' s _ _ hc ⟨.int (g i j), H, I.tok _, ⟨_, rfl⟩, q⟩
theorem opI0 {f : Value → Value → Sem Value} {g : Int → Int → Int}
    (rule : ∀ (i j : Int) (t u : Tok) (s : Shared) (Q : Value → Shared → Prop) (E : Value → Shared → Prop), Q (.int (g i j) s.toks) { s with toks := s.toks + 1 } → wpAny (model X.prog X.w) X.A (f (.int i t) (.int j u)) Q E s) :
    OpR X f (rI0 fun i j => .int (g i j)) := by
  intro pins s σ H x y v u Q I rx ry h
  obtain ⟨i, j, rfl, rfl, q⟩ := h
  obtain ⟨t, rfl⟩ := rx
  obtain ⟨t', rfl⟩ := ry
  exact rule i j t t' s _ _ ⟨.int (g i j), H, I.tok _, ⟨_, rfl⟩, q⟩
theorem opB0 {f : Value → Value → Sem Value} {g : Int → Int → Bool}
    (rule : ∀ (i j : Int) (t u : Tok) (s : Shared) (Q : Value → Shared → Prop) (E : Value → Shared → Prop), Q (.bool (g i j)) s → wpAny (model X.prog X.w) X.A (f (.int i t) (.int j u)) Q E s) :
    OpR X f (rI0 fun i j => .bl (g i j)) := by
  intro pins s σ H x y v u Q I rx ry h
  obtain ⟨i, j, rfl, rfl, q⟩ := h
  obtain ⟨t, rfl⟩ := rx
  obtain ⟨t', rfl⟩ := ry
  exact rule i j t t' s _ _ ⟨.bl (g i j), H, I, rfl, q⟩
def CMul (i j : Int) : Prop := (-(2 ^ 64) < i ∧ i < 2 ^ 64) ∨ (-(2 ^ 64) < j ∧ j < 2 ^ 64)
theorem CMul.ok {i j : Int} (h : CMul i j) : IntMulOk i j := by
  rcases h with ⟨h1, h2⟩ | ⟨h1, h2⟩
  · exact .of_left (intBits_le_64 h1 h2)
  · exact .of_right (intBits_le_64 h1 h2)
theorem op_add : OpR X (binaryOp .Add) (rI0 fun i j => .int (i + j)) := opI0 fun _ _ _ _ _ _ _ q => add_int q
theorem op_sub : OpR X (binaryOp .Sub) (rI0 fun i j => .int (i - j)) := opI0 fun _ _ _ _ _ _ _ q => sub_int q
theorem op_mul : OpR X (binaryOp .Mult) (rI CMul fun i j => .int (i * j)) := opI fun _ _ _ _ _ _ _ hc q => mul_int q hc.ok
theorem op_mod : OpR X (binaryOp .Mod) (rI (fun _ j => 0 < j) fun i j => .int (i % j)) := opI fun i j _ _ _ _ _ hc q => by
  have h1 : (0 : Int) < j := hc
  exact mod_int' (by omega) (by rw [Int.fmod_eq_emod_of_nonneg i (by omega)]; exact q)
theorem unI {f : Value → Sem Value} {g : Int → Int}
    (rule : ∀ (i : Int) (t : Tok) (s : Shared) (Q : Value → Shared → Prop) (E : Value → Shared → Prop), Q (.int (g i) s.toks) { s with toks := s.toks + 1 } → wpAny (model X.prog X.w) X.A (f (.int i t)) Q E s) :
    UnR X f (rU fun i => .int (g i)) := by
  intro pins s σ H x v Q I rx h
  obtain ⟨i, rfl, q⟩ := h
  obtain ⟨t, rfl⟩ := rx
  exact rule i t s _ _ ⟨.int (g i), H, I.tok _, ⟨_, rfl⟩, q⟩
theorem un_neg : UnR X (unaryOp .USub) (rU fun i => .int (-i)) := unI fun _ _ _ _ _ q => neg_int q
end
section
variable {X : Cx} {a b c : Expr} {ta tb tc : TE} {pos : Pos}
theorem fin_bl {pins : List (Addr × Obj)} {σ : St} {H : Hp} {s : Shared} {Q : VK} {k k' : Bool} (I : Inv X pins σ H s) (q : Q (.bl k) H) (e : k = k') : EP X pins σ Q (.bool k') s := by
  subst e
  exact ⟨.bl k, H, I, rfl, q⟩
theorem op_lt : OpR X (compareOp .Lt) (rI0 fun i j => .bl (decide (i < j))) := opB0 fun _ _ _ _ _ _ _ q => lt_int q
theorem op_le : OpR X (compareOp .LtE) (rI0 fun i j => .bl (decide (i ≤ j))) := opB0 fun _ _ _ _ _ _ _ q => le_int q
theorem op_gt : OpR X (compareOp .Gt) (rI0 fun i j => .bl (decide (j < i))) := opB0 fun _ _ _ _ _ _ _ q => gt_int q
theorem op_lt_str : OpR X (compareOp .Lt) (fun x y H Q => ∃ i j, x = .str i ∧ y = .str j ∧ Q (.bl (decide (i.cps.toList < j.cps.toList))) H) := by
  intro pins s σ H x y v u Q I rx ry h
  obtain ⟨i, j, rfl, rfl, q⟩ := h
  obtain ⟨t, rfl⟩ := rx
  obtain ⟨t', rfl⟩ := ry
  exact lt_str (fin_bl I q rfl)
theorem op_in_str : OpR X (compareOp .In) (fun x y H Q => ∃ i j, x = .str i ∧ y = .str j ∧ Q (.bl (!(Builtin.Str.occurrences j i 0 j.length 1).isEmpty)) H) := by
  intro pins s σ H x y v u Q I rx ry h
  obtain ⟨i, j, rfl, rfl, q⟩ := h
  obtain ⟨t, rfl⟩ := rx
  obtain ⟨t', rfl⟩ := ry
  exact in_str (fin_bl I q rfl)
theorem op_notN : OpR X (compareOp .IsNot) (fun x y H Q => y = .non ∧ Q (.bl (!decide (x = .non))) H) := by
  intro pins s σ H x y v u Q I rx ry h
  obtain ⟨rfl, q⟩ := h
  cases ry
  refine isnot_none_gen (fin_bl I q ?_)
  cases x <;> first
    | (cases rx; rfl)
    | (obtain ⟨t, rfl⟩ := rx; rfl)
theorem OpR.or {f : Value → Value → Sem Value} {r r' : R2} (h : OpR X f r) (h' : OpR X f r') : OpR X f (fun x y H Q => r x y H Q ∨ r' x y H Q) := by
  intro pins s σ H x y v u Q I rx ry q
  rcases q with q | q
  · exact h pins s σ H x y v u Q I rx ry q
  · exact h' pins s σ H x y v u Q I rx ry q
theorem nomark (b : Expr) {op : CmpOp} (h : op ≠ .In := by decide) (h2 : op ≠ .NotIn := by decide) : behindInMarks op b = false := by
  have e1 : (op == CmpOp.In) = false := by cases op <;> first | rfl | exact absurd rfl h
  have e2 : (op == CmpOp.NotIn) = false := by cases op <;> first | rfl | exact absurd rfl h2
  cases b <;> simp [behindInMarks, e1, e2]
theorem pe_cmpR {op : CmpOp} {r : R2} (ho : OpR X (compareOp op) r) (ha : PE X a ta) (hb : PE X b tb) (hm : behindInMarks op b = false) : PE X (.Compare a [op] [b] pos) (tOp r ta tb) := by
  intro pins s σ H Q I h
  exact wpAny_Compare1 (binT ha hb I h fun v u s2 x y H2 I2 rx ry q => ho pins s2 σ H2 x y v u Q I2 rx ry q) hm
def tTest (t : TE) : TT := fun σ H Q => t σ H fun x H' => ∃ k, x = .bl k ∧ Q k H'
theorem pt_cmpR {op : CmpOp} {r : R2} (ho : OpR X (compareOp op) r) (ha : PE X a ta) (hb : PE X b tb) (hm : behindInMarks op b = false) : PT X (.Compare a [op] [b] pos) (tTest (tOp r ta tb)) := by
  intro pins s σ H Q I h
  refine wpAny_isTrue_Compare1 (thn (ha pins s σ H _ I h) fun v s1 ⟨x, H1, I1, r1, q1⟩ => thn (hb pins s1 σ H1 _ I1 q1) fun u s2 ⟨y, H2, I2, r2, q2⟩ =>
    thn (ho pins s2 σ H2 x y v u _ I2 r1 r2 q2) fun c s3 ⟨z, H3, I3, r3, k, e, q3⟩ => ?_) hm
  subst e
  cases r3
  exact wpAny_truthy_bool ⟨H3, I3, q3⟩
def tChain (r r' : R2) (ta tb tc : TE) : TE := fun σ H Q => ta σ H fun x H1 => tb σ H1 fun y H2 => r x y H2 fun z H3 => ∃ k, z = .bl k ∧
  (if k = true then tc σ H3 fun w' H4 => r' y w' H4 Q else Q (.bl false) H3)
theorem pe_chain {op op' : CmpOp} {r r' : R2} (ho : OpR X (compareOp op) r) (ho' : OpR X (compareOp op') r') (ha : PE X a ta) (hb : PE X b tb) (hc : PE X c tc)
    (hm : lastMarks [op, op'] [b, c] = false := by with_unfolding_all rfl) : PE X (.Compare a [op, op'] [b, c] pos) (tChain r r' ta tb tc) := by
  intro pins s σ H Q I h
  refine Compare_chain (thn (ha pins s σ H _ I h) fun v s1 ⟨x, H1, I1, r1, q1⟩ => chain_link (thn (hb pins s1 σ H1 _ I1 q1) fun u s2 ⟨y, H2, I2, r2, q2⟩ =>
    thn (ho pins s2 σ H2 x y v u _ I2 r1 r2 q2) fun d s3 ⟨z, H3, I3, r3, k, e, q3⟩ => ?_)) hm
  subst e
  cases r3
  refine wpAny_truthy_bool ?_
  cases k with
  | false => exact ite_ff ⟨.bl false, H3, I3, rfl, q3⟩
  | true => exact ite_tt (chain_last (thn (hc pins s3 σ H3 _ I3 q3) fun w' s4 ⟨z', H4, I4, r4, q4⟩ => ho' pins s4 σ H4 y z' u w' Q I4 r2 r4 q4))
def TruV (K : PySem.W.Frag) (x : V) (H : Hp) (k : Bool) : Prop :=
  match x with
  | .non => k = false
  | .bl b => k = b
  | .int i => k = (i != 0)
  | .str y => y.length ≤ sizeLine ∧ k = ((y.length : Int) != 0)
  | .byt y => y.size ≤ sizeLine ∧ k = ((y.size : Int) != 0)
  | .ref p => (∃ xs, SqL K H p xs ∧ k = !xs.isEmpty) ∨ (∃ xs, SqT K H p xs ∧ k = !xs.isEmpty) ∨ ∃ kvs, H p = some (.dK kvs) ∧ k = !kvs.isEmpty
  | _ => False
theorem isEmpty_kv {κ : Type} {kvs : List (κ × V)} {vs : List (κ × Value)} (r : KV kvs vs) : (!vs.isEmpty) = !kvs.isEmpty := by
  cases r <;> rfl
theorem isEmpty_of {xs : List V} {its : List Value} (r : Vals xs its) : (!its.toArray.isEmpty) = !xs.isEmpty := by
  cases r <;> simp
theorem line63 : (sizeLine : Nat) < 2 ^ 63 := by rw [sizeLine_eq]; decide
theorem tru_ok : TruR X (fun x H Q => ∃ k, TruV X.K x H k ∧ Q k H) := by
  intro pins s σ H x v Q I rx h
  obtain ⟨k, e, q⟩ := h
  have hl := line63
  have hs : sizeLine = 16777216 := sizeLine_eq
  cases x with
  | non =>
    cases rx
    have e' : k = false := e
    subst e'
    exact truthy_none ⟨H, I, q⟩
  | bl b =>
    cases rx
    have e' : k = b := e
    subst e'
    exact wpAny_truthy_bool ⟨H, I, q⟩
  | int i =>
    obtain ⟨t, rfl⟩ := rx
    have e' : k = (i != 0) := e
    subst e'
    exact PySem.P.truthy_int ⟨H, I, q⟩
  | str y =>
    obtain ⟨t, rfl⟩ := rx
    obtain ⟨hy, e'⟩ : y.length ≤ sizeLine ∧ k = ((y.length : Int) != 0) := e
    subst e'
    exact PySem.P.truthy_str (by omega) ⟨H, I.tok _, q⟩
  | byt y =>
    obtain ⟨t, rfl⟩ := rx
    obtain ⟨hy, e'⟩ : y.size ≤ sizeLine ∧ k = ((y.size : Int) != 0) := e
    subst e'
    exact PySem.W.truthy_bytes (by omega) ⟨H, I.tok _, q⟩
  | ref p =>
    cases rx
    have e' : (∃ xs, SqL X.K H p xs ∧ k = !xs.isEmpty) ∨ (∃ xs, SqT X.K H p xs ∧ k = !xs.isEmpty) ∨ ∃ kvs, H p = some (.dK kvs) ∧ k = !kvs.isEmpty := e
    rcases e' with ⟨xs, hx, e'⟩ | ⟨xs, hx, e'⟩ | ⟨kvs, hx, e'⟩
    · subst e'
      obtain ⟨its, r, pl, hz⟩ := I.list hx
      have hlen := r.length
      exact wpAny_truthy_list pl.isList (by simp only [List.size_toArray]; omega) ⟨H, I.tok _, by rw [isEmpty_of r]; exact q⟩
    · subst e'
      obtain ⟨its, r, pl, hz⟩ := I.tuple hx
      have hlen := r.length
      exact truthy_tuple pl (by simp only [List.size_toArray]; omega) ⟨H, I.tok _, by rw [isEmpty_of r]; exact q⟩
    · subst e'
      obtain ⟨hz, hS, vs, r, m⟩ : kvs.length ≤ sizeLine ∧ (p == sysModules) = false ∧ ∃ vs, KV kvs vs ∧ s.heap.DictOf (mixKind X.prog X.w) p vs := I.hok p _ hx
      have hlen : kvs.length = vs.length := Paired.length r
      exact wpAny_truthy_dict hS m (by omega) ⟨H, I.tok _, by rw [isEmpty_kv r]; exact q⟩
  | _ => exact (show False from e).elim
theorem pt_truth (ha : PE X a ta) (he : ∀ whole, isTrue a X.env whole = (do let v ← whole; standAt a.pos; holding [v] (truthy v))) :
    PT X a (fun σ H Q => ta σ H fun x H' => ∃ k, TruV X.K x H' k ∧ Q k H') := by
  intro pins s σ H Q I h
  exact isTrue_plain (thn (ha pins s σ H _ I h) fun v s1 ⟨x, H1, I1, r1, q1⟩ => tru_ok pins s1 σ H1 x v Q I1 r1 q1) (he _)
theorem op_add_str : OpR X (binaryOp .Add) (fun x y H Q => ∃ i j, x = .str i ∧ y = .str j ∧ i.length + j.length ≤ sizeLine ∧ Q (.str (i ++ j)) H) := by
  intro pins s σ H x y v u Q I rx ry h
  obtain ⟨i, j, rfl, rfl, hz, q⟩ := h
  obtain ⟨t, rfl⟩ := rx
  obtain ⟨t', rfl⟩ := ry
  exact add_str (fun t' tk => ⟨.str (i ++ j), H, I.tok _, ⟨_, rfl⟩, q⟩) hz
theorem vals1 {x : V} {us : List Value} (r : Vals [x] us) : ∃ u, us = [u] ∧ RelV x u := by
  cases r with
  | cons r1 r2 => cases r2; exact ⟨_, rfl, r1⟩
theorem call_str_int : CallR X (.type "str") (fun xs H Q => ∃ i, xs = [.int i] ∧ i.natAbs.log2 < 1920 ∧ Q (.str (toString i)) H) := by
  intro pins s σ H xs us Q I r h
  obtain ⟨i, rfl, hz, q⟩ := h
  obtain ⟨u, rfl, t, rfl⟩ := vals1 r
  exact PySem.P.str_of_int hz ⟨.str _, H, I.tok _, ⟨_, rfl⟩, q⟩
def LenV (K : PySem.W.Frag) (x : V) (H : Hp) (n : Nat) : Prop :=
  match x with
  | .str y => y.length ≤ sizeLine ∧ n = y.length
  | .byt y => y.size ≤ sizeLine ∧ n = y.size
  | .ref p => (∃ xs, SqL K H p xs ∧ n = xs.length) ∨ ∃ xs, SqT K H p xs ∧ n = xs.length
  | _ => False
theorem call_len : CallR X (.builtin "len") (fun xs H Q => ∃ x n, xs = [x] ∧ LenV X.K x H n ∧ Q (.int n) H) := by
  intro pins s σ H xs us Q I r h
  obtain ⟨x, n, rfl, e, q⟩ := h
  obtain ⟨u, rfl, rx⟩ := vals1 r
  have hl := line63
  have hs : sizeLine = 16777216 := sizeLine_eq
  cases x with
  | str y =>
    obtain ⟨t, rfl⟩ := rx
    obtain ⟨hy, e'⟩ : y.length ≤ sizeLine ∧ n = y.length := e
    subst e'
    exact len_str (by omega) ⟨.int _, H, I.tok _, ⟨_, rfl⟩, q⟩
  | byt y =>
    obtain ⟨t, rfl⟩ := rx
    obtain ⟨hy, e'⟩ : y.size ≤ sizeLine ∧ n = y.size := e
    subst e'
    exact PySem.W.len_bytes (by omega) ⟨.int _, H, I.tok _, ⟨_, rfl⟩, q⟩
  | ref p =>
    cases rx
    have e' : (∃ xs, SqL X.K H p xs ∧ n = xs.length) ∨ ∃ xs, SqT X.K H p xs ∧ n = xs.length := e
    rcases e' with ⟨xs, hx, e'⟩ | ⟨xs, hx, e'⟩
    · subst e'
      obtain ⟨its, r', pl, hz⟩ := I.list hx
      have hlen := r'.length
      exact Calls.call_len_list pl.isList (by simp only [List.size_toArray]; omega) ⟨.int xs.length, H, I.tok _, ⟨_, by simp only [List.size_toArray]; rw [hlen]⟩, q⟩
    · subst e'
      obtain ⟨its, r', pl, hz⟩ := I.tuple hx
      have hlen := r'.length
      exact len_tuple pl (by simp only [List.size_toArray]; omega) ⟨.int xs.length, H, I.tok _, ⟨_, by simp only [List.size_toArray]; rw [hlen]⟩, q⟩
  | _ => exact (show False from e).elim
end
end L2
namespace L2
open PySem PySem.Spec PyProof.Rows
section
variable {prog : Program} {w : World} {A : Around} {E : Value → Shared → Prop} {s : Shared} {K : PySem.W.Frag} {x dx C f : Addr} {mA : Str → Option Value} {name : Str} {v : Value}
end
section
variable {P : Program} {w : World} {H H' : Hp} {h h' : Heap} {a C dx : Addr} {fs fs' : List (Str × V)}
end
section
variable {X : Cx} {pins : List (Addr × Obj)} {σ : St} {H : Hp} {s : Shared} {a C dx : Addr} {fs : List (Str × V)} {f : Str} {v : V} {A : Around} {E : Value → Shared → Prop}
end
section
variable {X : Cx} {o e value : Expr} {f : Str} {pos pos' tpos : Pos} {ta tv : TE}
end
section
variable {X : Cx} {pins : List (Addr × Obj)} {σ : St} {H : Hp} {s : Shared} {A : Around} {E : Value → Shared → Prop} {Q : Value → Shared → Prop} {c : Value} {b : Bool}
end
end L2
namespace L2
open PySem PySem.Spec PyProof.Rows
structure Room (k : Nat) (A : Around) : Prop where
  hd : A.handled = none
  dp : A.depth + 3 * k + 5 < recursionLimit
  un : A.units + 16 * k + 200 < cLine
theorem Room.mono {j k : Nat} {A : Around} (r : Room k A) (h : j ≤ k) : Room j A := ⟨r.hd, by have := r.dp; omega, by have := r.un; omega⟩
theorem Room.deeper {k : Nat} {A : Around} (r : Room (k + 1) A) (env : Env) : Room k (A.deeper env) :=
  ⟨r.hd, by have := r.dp; show A.depth + 1 + 3 * k + 5 < _; omega, by have := r.un; show A.units + 3 + 16 * k + 200 < _; omega⟩
theorem Room.depth {k : Nat} {A : Around} (r : Room k A) : A.depth < recursionLimit := by have := r.dp; omega
def tNil : TA := fun _ H Q => Q [] H
def tCons (ta : TE) (tr : TA) : TA := fun σ H Q => ta σ H fun x H1 => tr σ H1 fun xs H2 => Q (x :: xs) H2
section
variable {X : Cx} {e : Expr} {es : List Expr} {te : TE} {t : TA} {pos : Pos}
theorem pa_nil : PA X [] tNil := fun _ _ _ _ H Q I h => Calls.spliced_nil ⟨[], H, I, .nil, h⟩
theorem pa_cons (ha : PE X e te) (hr : PA X es t) (hs : starEach (e :: es) X.env = (false, eval e X.env) :: starEach es X.env := by rfl) : PA X (e :: es) (tCons te t) := by
  intro pos pins s σ H Q I h
  rw [hs]
  show wpAny _ _ (spliced ((false, eval e X.env) :: backTo pos (starEach es X.env))) _ _ s
  refine Calls.spliced_cons (thn (ha pins s σ H _ I h) fun u s1 ⟨x, H1, I1, r1, q1⟩ => ?_)
  exact thn (hr pos pins s1 σ H1 _ I1 q1) fun us s2 ⟨xs, H2, I2, r2, q2⟩ => ⟨x :: xs, H2, I2, .cons r1 r2, q2⟩
def tTup (t : TA) : TE := fun σ H Q => t σ H fun xs H1 => xs.length ≤ sizeLine ∧ ∀ p, H1 p = none → Q (.ref p) (upd H1 p (.tup xs))
def tLst (t : TA) : TE := fun σ H Q => t σ H fun xs H1 => xs.length ≤ sizeLine ∧ ∀ p, H1 p = none → Q (.ref p) (upd H1 p (.lst xs))
theorem pe_tup {x1} (h : PA X es t) : PE X (.Tuple es x1 pos) (tTup t) := by
  intro pins s σ H Q I hq
  refine wpAny_Tuple_spliced (thn (h pos pins s σ H _ I hq) fun us s1 ⟨xs, H1, I1, r, z, q⟩ => ⟨by rw [← r.length]; exact z, ?_⟩)
  have hf : H1 s1.heap.objs.size = none := I1.hok.fresh (Nat.le_refl _)
  refine ⟨.ref s1.heap.objs.size, upd H1 s1.heap.objs.size (.tup xs), I1.laid (t' := s1.toks) (fun b u e => Heap.get?_push_of_some _ e) (Nat.le_refl _) ?_, rfl, q _ hf⟩
  exact ⟨z, us, r, ⟨_, Heap.get?_push_size _ rfl, rfl, _, rfl⟩⟩
theorem pe_lst (h : PA X es t) : PE X (.List es pos) (tLst t) := by
  intro pins s σ H Q I hq
  refine wpAny_List_spliced (thn (h pos pins s σ H _ I hq) fun us s1 ⟨xs, H1, I1, r, z, q⟩ => ⟨by rw [← r.length]; exact z, ?_⟩)
  have hf : H1 s1.heap.objs.size = none := I1.hok.fresh (Nat.le_refl _)
  refine ⟨.ref s1.heap.objs.size, upd H1 s1.heap.objs.size (.lst xs), I1.laid (t' := s1.toks) (fun b u e => Heap.get?_push_of_some _ e) (Nat.le_refl _) ?_, rfl, q _ hf⟩
  exact ⟨z, us, 0, r, Heap.get?_push_size _ rfl⟩
end
abbrev Sp := List V → Hp → VK → XK → Prop
abbrev CXT := List Env → Hp → Shared → XK → Value → Shared → Prop
structure Env0 (P : Program) (w : World) (K : PySem.W.Frag) (mg : Str → Option Value) (base : Heap) (A : Around) (outer : List Env) (s : Shared) (H : Hp) : Prop where
  frames : A.frames = some outer
  mod : Mod K mg base
  bs : ∀ b o, base.get? b = some o → s.heap.get? b = some o ∧ H b = none
  bsz : base.objs.size ≤ s.heap.objs.size
  funs : s.heap.FunFrames base outer
  frf : ∀ b ∈ frs outer, H b = none
  hok : HOk P w H s.heap
  bare : AllBare s.gens
def CE (outer : List Env) (P : Program) (w : World) (H : Hp) (s : Shared) (Q : VK) (u : Value) (s' : Shared) : Prop :=
  ∃ v H', s'.os = s.os ∧ AllBare s'.gens ∧ Un (frs outer) [] H H' s.heap s'.heap ∧ HOk P w H' s'.heap ∧ RelV v u ∧ Q v H'
def CR (CX : CXT) (outer : List Env) (P : Program) (w : World) (H : Hp) (s : Shared) (Q : VK) (E : XK) (r : Result) (s' : Shared) : Prop :=
  match r with
  | .ok (.ret u) => CE outer P w H s Q u s'
  | .ok _ => False
  | .error e => CX outer H s E e s'
structure FnOk (P : Program) (w : World) (K : PySem.W.Frag) (mg : Str → Option Value) (base : Heap) (CX : CXT) (k : Nat) (f : Addr) (fd : FuncData) (ps : List Str) (sp : Sp) : Prop where
  len : ∀ vs H Q E, sp vs H Q E → vs.length = ps.length
  run : ∀ (A : Around) (outer : List Env) (s : Shared) (H : Hp) (args : Args) (us : List Value) (vs : List V) (Q : VK) (E : XK), Room k A → Env0 P w K mg base A outer s H → BindsTo s fd args (ps.zip us) → Vals vs us → sp vs H Q E →
    codeAny (model P w) A (.call (.ref f) args) (CR CX outer P w H s Q E) s
theorem FnOk.mono {P : Program} {w : World} {K : PySem.W.Frag} {mg : Str → Option Value} {base : Heap} {CX : CXT} {j k : Nat} {f : Addr} {fd : FuncData} {ps : List Str} {sp : Sp} (F : FnOk P w K mg base CX j f fd ps sp) (h : j ≤ k) :
    FnOk P w K mg base CX k f fd ps sp := ⟨F.len, fun A outer s H args us vs Q E hr => F.run A outer s H args us vs Q E (hr.mono h)⟩
theorem FnOk.imp {P : Program} {w : World} {K : PySem.W.Frag} {mg : Str → Option Value} {base : Heap} {CX : CXT} {k : Nat} {f : Addr} {fd : FuncData} {ps : List Str} {sp sp' : Sp} (F : FnOk P w K mg base CX k f fd ps sp)
    (h : ∀ vs H Q E, sp' vs H Q E → sp vs H Q E) : FnOk P w K mg base CX k f fd ps sp' :=
  ⟨fun vs H Q E q => F.len vs H Q E (h _ _ _ _ q), fun A outer s H args us vs Q E hr he hb hv hs => F.run A outer s H args us vs Q E hr he hb hv (h _ _ _ _ hs)⟩
section
variable {X : Cx} {pins : List (Addr × Obj)} {σ : St} {H : Hp} {s s' : Shared}
theorem Inv.env0 (I : Inv X pins σ H s) : Env0 X.prog X.w X.K X.mg X.base X.A X.stack s H :=
  ⟨I.ok.frames, I.ok.mod, I.bs, Nat.le_trans I.ok.bsz I.sz, I.stack, I.stkFree, I.hok, I.bare⟩
theorem Inv.after {Q : VK} {u : Value} (I : Inv X pins σ H s) (h : CE X.stack X.prog X.w H s Q u s') : EP X pins σ Q u s' := by
  obtain ⟨v, H', os, bare, un, hok, r, q⟩ := h
  obtain ⟨hh, g, d, t, os'⟩ := s'
  obtain rfl : os' = s.os := os
  exact ⟨v, H', I.call (h' := hh) (g' := g) (d' := d) (t' := t) (ch := []) un hok bare (fun b z => absurd z (by simp)), r, q⟩
end
def Binds (K : PySem.W.Frag) (fd : FuncData) (ps : List Str) (ds : List Value) : Prop :=
  ∀ (s : Shared) (us : List Value), K.In s.heap → (us ++ ds).length = ps.length → BindsTo s fd ⟨us, []⟩ (ps.zip (us ++ ds))
theorem Binds.all {K : PySem.W.Frag} {fd : FuncData} {ps : List Str} (h : ∀ us : List Value, us.length = ps.length → bindArgs fd ⟨us, []⟩ = pure (ps.zip us)) : Binds K fd ps [] := fun s us _ hl => by
  rw [List.append_nil] at hl ⊢
  exact .of_eq (h us hl)
section
variable {X : Cx} {CX : CXT} {k : Nat} {f C : Addr} {fd : FuncData} {ps : List Str} {sp : Sp} {dvs : List V} {ds : List Value} {E : XK} {x m : Str} {p pos apos : Pos} {e o : Expr} {es : List Expr} {ta : TE} {t : TA}
end
section
variable {X : Cx} {CX : CXT} {k : Nat} {f C : Addr} {fd : FuncData} {ps ks : List Str} {sp : Sp} {E : XK} {x m : Str} {p pos apos kpos : Pos} {e o : Expr} {es : List Expr} {kws : List Keyword} {te ta : TE} {t tk : TA} {nm : Option Str}
variable {g : List Value → List Value → List Value} {gV : List V → List V → List V}
end
structure FnScope (N P : List Str) (sc : Scope) : Prop where
  kind : sc.kind = .function
  co : sc.isCoroutine = false
  gen : sc.isGenerator = false
  nd : N.Nodup
  pre : N.take P.length = P
  par : ∀ x ∈ P, sc.names.lookup x = some .local ∨ sc.names.lookup x = some .cell
  nofree : ∀ y ∈ sc.names, y.2 ≠ .free
theorem bindL_out {kindOf : Str → Option NameKind} {x : Str} : ∀ {binds : List (Str × Value)} {m : Str → Option Value}, (∀ v, (x, v) ∉ binds) → bindL kindOf binds m x = m x
  | [], _, _ => rfl
  | (n, v) :: r, m, h => by
    unfold bindL
    rw [bindL_out fun w hw => h w (List.mem_cons_of_mem _ hw)]
    split
    · have : x ≠ n := by rintro rfl; exact h v List.mem_cons_self
      simp [this]
    · rfl
theorem bindC_out {kindOf : Str → Option NameKind} {x : Str} : ∀ {binds : List (Str × Value)} {m : Str → Option Value}, (∀ v, (x, v) ∉ binds) → bindC kindOf binds m x = m x
  | [], _, _ => rfl
  | (n, v) :: r, m, h => by
    unfold bindC
    rw [bindC_out fun w hw => h w (List.mem_cons_of_mem _ hw)]
    split
    · rfl
    · have : x ≠ n := by rintro rfl; exact h v List.mem_cons_self
      simp [this]
theorem bindL_get {kindOf : Str → Option NameKind} {x : Str} {v : Value} : ∀ {P : List Str} {vs : List Value} {i : Nat} {m : Str → Option Value}, P.Nodup → P[i]? = some x → vs[i]? = some v → kindOf x = some .local →
    bindL kindOf (P.zip vs) m x = some v
  | [], _, _, _, _, h, _, _ => by simp at h
  | _ :: _, [], _, _, _, _, h, _ => by simp at h
  | p :: P, w :: vs, 0, m, nd, h1, h2, hk => by
    simp at h1 h2; subst h1; subst h2
    show bindL kindOf ((p, w) :: P.zip vs) m p = _
    unfold bindL
    rw [bindL_out fun v hv => (List.nodup_cons.mp nd).1 (List.of_mem_zip hv).1, if_pos hk]
    simp
  | p :: P, w :: vs, i + 1, m, nd, h1, h2, hk => by
    show bindL kindOf ((p, w) :: P.zip vs) m x = _
    unfold bindL
    exact bindL_get (i := i) (List.nodup_cons.mp nd).2 (by simpa using h1) (by simpa using h2) hk
theorem bindC_get {kindOf : Str → Option NameKind} {x : Str} {v : Value} : ∀ {P : List Str} {vs : List Value} {i : Nat} {m : Str → Option Value}, P.Nodup → P[i]? = some x → vs[i]? = some v → kindOf x ≠ some .local →
    bindC kindOf (P.zip vs) m x = some v
  | [], _, _, _, _, h, _, _ => by simp at h
  | _ :: _, [], _, _, _, _, h, _ => by simp at h
  | p :: P, w :: vs, 0, m, nd, h1, h2, hk => by
    simp at h1 h2; subst h1; subst h2
    show bindC kindOf ((p, w) :: P.zip vs) m p = _
    unfold bindC
    rw [bindC_out fun v hv => (List.nodup_cons.mp nd).1 (List.of_mem_zip hv).1, if_neg hk]
    simp
  | p :: P, w :: vs, i + 1, m, nd, h1, h2, hk => by
    show bindC kindOf ((p, w) :: P.zip vs) m x = _
    unfold bindC
    exact bindC_get (i := i) (List.nodup_cons.mp nd).2 (by simpa using h1) (by simpa using h2) hk
def start (N : List Str) (vs : List V) : St := vs.map some ++ List.replicate (N.length - vs.length) none
def cxOf (CX : CXT) (P : Program) (w : World) (K : PySem.W.Frag) (mg : Str → Option Value) (base : Heap) (N : List Str) (qual : Str) (scope : Scope) (f : Addr) (cd : Value) (A : Around) (outer : List Env) (s : Shared) (H : Hp) (E : XK) : Cx where
  prog := P
  w := w
  K := K
  mg := mg
  base := base
  A := A.deeper (envOfC qual scope s.heap.objs.size f cd)
  N := N
  s₀ := s
  H₀ := H
  env := envOfC qual scope s.heap.objs.size f cd
  outer := outer
  stack := envOfC qual scope s.heap.objs.size f cd :: outer
  ex := []
  calm := true
  fn := fun _ => true
  pn := []
  xe := fun e s' => wpAny (model P w) (A.deeper (envOfC qual scope s.heap.objs.size f cd)) (leaving (envOfC qual scope s.heap.objs.size f cd) e) (fun _ s'' => CX outer H s E e s'') (fun e' s'' => CX outer H s E e' s'') s'
theorem cell_has {sc : Scope} {n : Nat} {x : Str} (h : sc.names.lookup x = some .cell) : ∃ c, (cellsFrom n sc.names []).lookup x = some c := by
  have q := PySem.W.cellsFrom_some sc.names n [] (.inl h)
  exact Option.isSome_iff_exists.mp q
theorem inv_start {CX : CXT} {P : Program} {w : World} {K : PySem.W.Frag} {mg : Str → Option Value} {base : Heap} {N ps : List Str} {qual : Str} {scope : Scope} {f : Addr} {cd : Value} {A : Around} {outer : List Env} {s s1 : Shared} {H : Hp} {E : XK} {us : List Value} {vs : List V}
    (S : FnScope N ps scope) (hd : A.handled = none) (e0 : Env0 P w K mg base A outer s H) (hl : vs.length = ps.length) (r : Vals vs us)
    (x : InCallC s s.heap.objs.size (bindL (envOfC qual scope s.heap.objs.size f cd).kindOf (ps.zip us) fun _ => none) (cellsFrom (s.heap.objs.size + 1) scope.names []) (bindC (envOfC qual scope s.heap.objs.size f cd).kindOf (ps.zip us) fun _ => none) s1) :
    Inv (cxOf CX P w K mg base N qual scope f cd A outer s H E) [] (start N vs) H s1 := by
  have hpl : ps.length ≤ N.length := by have := congrArg List.length S.pre; rw [List.length_take] at this; omega
  obtain ⟨h1, tk, rfl, hk⟩ := x.done
  have noA : ∀ b : Addr, b ∉ (cxOf CX P w K mg base N qual scope f cd A outer s H E).ex := fun b z => absurd (show b ∈ ([] : List Addr) from z) (by simp)
  refine ⟨⟨e0.mod, S.kind, rfl, rfl, Nat.le_refl _, fun y z c h1 h2 => ?_, fun y hy => ?_, fun y c _ h => ?_, fun _ => hd, Around.frames_deeper e0.frames, .inr ⟨rfl, rfl⟩, fun b z => absurd z (noA b), e0.bs, e0.bsz, fun b _ _ => noA b, fun b z => absurd z (noA b), e0.funs, e0.frf⟩,
    rfl, e0.bare, Un.kept hk, ⟨_, x.toInCall.ns, fun i y v h1 h2 h3 => ?_⟩, fun y c h => ⟨_, x.cell y c h⟩, e0.hok.fresh (Nat.le_refl _), fun y c h => ?_, fun p hp => absurd (show p ∈ ([] : List (Addr × Obj)) from hp) (by simp), e0.hok.kept hk, ?_⟩
  · exact name_of_addr x.apart (PySem.mem_of_lookup h1) (PySem.mem_of_lookup h2)
  · have hy : scope.names.lookup y = some .cell ∨ scope.names.lookup y = some .free := hy
    rcases hy with hy | hy
    · exact cell_has hy
    · exact absurd rfl (S.nofree _ (PySem.mem_of_lookup hy))
  · exact Nat.le_of_lt (x.above y c (PySem.mem_of_lookup h))
  · have hi : i < vs.length := by
      unfold start at h2
      by_cases hi : i < vs.length
      · exact hi
      · rw [List.getElem?_append_right (by simpa using hi)] at h2
        rw [List.getElem?_replicate] at h2
        split at h2 <;> cases h2
    have ha : vs[i]? = some v := by
      unfold start at h2
      rw [List.getElem?_append_left (by simpa using hi), List.getElem?_map] at h2
      cases e : vs[i]? with
      | none => rw [e] at h2; cases h2
      | some a => rw [e] at h2; cases h2; rfl
    obtain ⟨u, hu, rv⟩ := r.get ha
    have hp : ps[i]? = some y := by
      rw [← S.pre, List.getElem?_take_of_lt (by omega)]; exact h1
    have ndP : ps.Nodup := by rw [← S.pre]; exact S.nd.sublist (List.take_sublist _ _)
    refine ⟨u, rv, ?_⟩
    rcases S.par y (List.mem_of_getElem? hp) with k | k
    · exact .inl ⟨k, bindL_get ndP hp hu k⟩
    · obtain ⟨c, e⟩ := cell_has (n := s.heap.objs.size + 1) k
      refine .inr ⟨.inl k, c, e, ?_⟩
      have q := x.cell y c e
      rw [bindC_get ndP hp hu (by show scope.names.lookup y ≠ _; rw [k]; decide)] at q
      exact q
  · exact e0.hok.fresh (Nat.le_of_lt (x.above y c (PySem.mem_of_lookup h)))
  · unfold start
    show _ = N.length
    rw [List.length_append, List.length_map, List.length_replicate]
    omega
theorem fn_of {CX : CXT} {P : Program} {w : World} {K : PySem.W.Frag} {mg : Str → Option Value} {base : Heap} {k : Nat} {f : Addr} {name qual : Str} {params : Arguments} {body : List Stmt} {scope : Scope} {dV kV doc pm cdv ct oc : Value} {an od : Option Addr}
    {osl : Array (Option Value)} {N ps : List Str} {sp : Sp} (lk : K.lookup f = some ⟨oc, od, .func (PySem.W.fnOf name qual params body scope dV kV doc pm an cdv ct), osl⟩) (hcd : PySem.W.codeIn K cdv qual = true) (S : FnScope N ps scope)
    (len : ∀ vs H Q E, sp vs H Q E → vs.length = ps.length)
    (hbody : ∀ (A : Around) (outer : List Env) (s : Shared) (H : Hp) (vs : List V) (Q : VK) (E : XK), Room k (A.deeper (envOfC qual scope s.heap.objs.size f cdv)) → sp vs H Q E →
      ∃ t, PSs (cxOf CX P w K mg base N qual scope f cdv A outer s H E) body t ∧ t { nx := fun _ H' => Q .non H', rt := Q } (start N vs) H) :
    FnOk P w K mg base CX (k + 1) f (PySem.W.fnOf name qual params body scope dV kV doc pm an cdv ct) ps sp := by
  refine ⟨len, fun A outer s H args us vs Q E hr e0 hb r hsp => ?_⟩
  have hl := len _ _ _ _ hsp
  have KX : K.In s.heap := e0.mod.kin.keeps fun b o e => (e0.bs b o e).1
  have lim : s.heap.NoLimit := e0.mod.nolimit.keeps fun b o e => (e0.bs b o e).1
  have hkind : ∀ y ∈ ps.zip us, scope.names.lookup y.1 = some .local ∨ (scope.names.lookup y.1 = some .cell ∧ ((cellsFrom (s.heap.objs.size + 1) scope.names []).lookup y.1).isSome = true) := fun ⟨n, v⟩ hy => by
    rcases S.par n (List.of_mem_zip hy).1 with q | q
    · exact .inl q
    · exact .inr ⟨q, PySem.W.cellsFrom_some _ _ _ (.inl q)⟩
  refine codeAny_call_function hr.depth (KX _ _ lk) rfl S.co S.gen rfl (PySem.W.codeRec_of KX hcd) (hb _ _ _ _ ?_)
  refine wpAny_newFunctionEnv_cells S.kind hkind fun env he s1 x => ?_
  subst he
  refine ⟨lim.keeps x.toInCall.keep, codeAny_func ?_⟩
  obtain ⟨t, ht, hq⟩ := hbody A outer s H vs Q E (hr.deeper _) hsp
  have I : Inv (cxOf CX P w K mg base N qual scope f cdv A outer s H E) [] (start N vs) H s1 := inv_start S hr.hd e0 hl r x
  refine wpAny_mono (ht [] s1 (start N vs) H _ I hq) (fun fl s' hs => ?_) fun e s' hs => hs
  have fin : ∀ {σ' : St} {H' : Hp} {v : V} {u : Value}, Inv (cxOf CX P w K mg base N qual scope f cdv A outer s H E) [] σ' H' s' → RelV v u → Q v H' → CE outer P w H s Q u s' :=
    fun {σ' H' v u} J rv q => ⟨v, H', J.os, J.bare, J.base, J.hok, rv, q⟩
  cases fl with
  | ret u =>
    obtain ⟨v, σ', H', J, rv, q⟩ := hs
    exact fin J rv q
  | next =>
    obtain ⟨σ', H', J, q⟩ := hs
    exact fin (v := V.non) (u := Value.none) J rfl q
  | brk =>
    obtain ⟨_, _, _, q⟩ := hs
    exact False.elim q
  | cont =>
    obtain ⟨_, _, _, q⟩ := hs
    exact False.elim q
end L2
namespace L2
open PySem PySem.Spec PyProof.Rows
section
variable {X : Cx} {x : Str} {p pos : Pos} {e : Expr} {es : List Expr} {t : TA} {id T : String} {r : List V → Hp → VK → Prop}
def tCB (r : List V → Hp → VK → Prop) (t : TA) : TE := fun σ H Q => t σ H fun vs H1 => r vs H1 Q
theorem pe_callB (hc : CallR X (.builtin id) r) (hg : Gl X x) (hm : X.mg x = none) (hv : bootBuiltins x = some (.builtin id)) (ha : PA X (e :: es) t) (hn : x ≠ "__name__" := by decide) (hdb : (x == ("__debug__" : Str)) = false := by decide)
    (he : starEach (e :: es) X.env = (false, eval e X.env) :: starEach es X.env := by rfl) (hpl : (backTo pos (starEach es X.env)).any (·.1) = false := by rfl) : PE X (.Call (.Name x p) (e :: es) [] pos) (tCB r t) := by
  intro pins s σ H Q I h
  refine wpAny_Call_Name_kw (ld_blt I hg hm hv ?_ hn hdb)
  exact PyProof.Rows.callWith_builtin1 (thn (ha pos pins s σ H _ I h) fun us s1 ⟨vs, H1, I1, r1, q1⟩ => hc pins s1 σ H1 vs us Q I1 r1 q1) he hpl
theorem pe_callTy (hc : CallR X (.type T) r) (hg : Gl X x) (hm : X.mg x = none) (hv : bootBuiltins x = some (.type T)) (ha : PA X (e :: es) t) (hn : x ≠ "__name__" := by decide) (hdb : (x == ("__debug__" : Str)) = false := by decide)
    (he : starEach (e :: es) X.env = (false, eval e X.env) :: starEach es X.env := by rfl) (hpl : (backTo pos (starEach es X.env)).any (·.1) = false := by rfl) : PE X (.Call (.Name x p) (e :: es) [] pos) (tCB r t) := by
  intro pins s σ H Q I h
  refine wpAny_Call_Name_kw (ld_blt I hg hm hv ?_ hn hdb)
  exact PyProof.Rows.callWith_type1 (thn (ha pos pins s σ H _ I h) fun us s1 ⟨vs, H1, I1, r1, q1⟩ => hc pins s1 σ H1 vs us Q I1 r1 q1) he hpl
end
end L2
namespace HT
open PySem PyProof.Rows
section
open PySem.SeqAt
open PySem.AutoSeq1 (wpAny_loadPart')
open PySem.MeetsSeq PySem.MeetsSeq2 PySem.MeetsSeq3
end
section
variable {prog : Program} {w : World} {A : Around} {E : Value → Shared → Prop} {s : Shared}
theorem cat_tup {t b : Addr} {vs ws : List Value} {Q : Value → Shared → Prop} (ht : IsTup s.heap t vs.toArray) (hb : IsTup s.heap b ws.toArray) (hv : vs ≠ [])
    (h1 : ws = [] → Q (.ref t) s) (h2 : ws ≠ [] → Q (.ref s.heap.objs.size) { s with heap := s.heap.push { cls := .type "tuple", data := .seq (vs ++ ws).toArray } })
    (hsz : vs.length + ws.length ≤ sizeLine) : wpAny (model prog w) A (binaryOp .Add (.ref t) (.ref b)) Q E s := by
  obtain ⟨⟨cls, dd, data, sl⟩, ho, hc, n, hd⟩ := id ht
  obtain ⟨⟨cls2, dd2, data2, sl2⟩, ho2, hc2, n2, hd2⟩ := id hb
  simp only at hc hd hc2 hd2
  subst hc hd hc2 hd2
  have e : vs.toArray ++ ws.toArray = (vs ++ ws).toArray := by simp
  by_cases hw : ws = []
  · exact concat_meets ⟨_, ho, rfl⟩ ⟨_, ho2, rfl⟩ noFill_tuple_add seq_tuple_add PySem.F.slot_tuple_add PySem.F.entry_tuple_add (PySem.F.args_tuple_add_2 _ _)
      (tuple_addW1 t b vs.toArray ws.toArray n n2 dd dd2 sl sl2 (by simpa using hv) (by simp [hw])) ⟨ho, ho2, h1 hw⟩
  · refine concat_meets ⟨_, ho, rfl⟩ ⟨_, ho2, rfl⟩ noFill_tuple_add seq_tuple_add PySem.F.slot_tuple_add PySem.F.entry_tuple_add (PySem.F.args_tuple_add_2 _ _)
      (tuple_addW2 t b vs.toArray ws.toArray n n2 dd dd2 sl sl2 (by simpa using hv) (by simpa using hw) (by rw [List.size_toArray, List.size_toArray]; exact hsz)) ⟨ho, ho2, ?_⟩
    rw [e]
    exact h2 hw
def sIx (n d : Nat) : Option Int → Nat
  | none => d
  | some v => if v < 0 then (v + (n : Int)).toNat else min v.toNat n
theorem sIx_le (n d : Nat) (hd : d ≤ n) (o : Option Int) : sIx n d o ≤ n := by
  cases o with
  | none => exact hd
  | some v =>
    show (if v < 0 then (v + (n : Int)).toNat else min v.toNat n) ≤ n
    by_cases hv : v < 0
    · rw [if_pos hv]; omega
    · rw [if_neg hv]; exact Nat.min_le_right _ _
theorem clip_eq (v : Int) (n d : Nat) : (if v < 0 then max (v + (n : Int)) 0 else min v (n : Int)) = ((sIx n d (some v) : Nat) : Int) := by
  show (if v < 0 then max (v + (n : Int)) 0 else min v (n : Int)) = (((if v < 0 then (v + (n : Int)).toNat else min v.toNat n) : Nat) : Int)
  by_cases hv : v < 0
  · simp only [if_pos hv]; omega
  · simp only [if_neg hv]; omega
theorem adjust_gen (lo hi : Option Int) (n : Nat) : Builtin.Slice.sliceAdjust lo hi 1 (n : Int) = (((sIx n 0 lo : Nat) : Int), ((sIx n n hi : Nat) : Int)) := by
  have h1 : ¬ ((1 : Int) < 0) := by omega
  unfold Builtin.Slice.sliceAdjust
  simp only [h1, if_false]
  refine Prod.ext ?_ ?_
  · cases lo with
    | none => rfl
    | some v => exact clip_eq v n 0
  · cases hi with
    | none => rfl
    | some v => exact clip_eq v n n
theorem places_gen (i j : Nat) : Builtin.Slice.slicePlaces (i : Int) (j : Int) 1 = j - i := by
  unfold Builtin.Slice.slicePlaces
  have h1 : (1 : Int) > 0 := by omega
  simp only [h1, if_true, Int.ediv_one]
  split <;> omega
theorem slicePart_ {v : Value} {o : Option Int} {Q : Option Int → Shared → Prop} (p : IsPart v o) (h : Q o s) : wpAny (model prog w) A (Builtin.Slice.slicePartIndex v) Q E s := by
  cases p with
  | none => exact slicePart_none h
  | int i t => exact slicePart_int h
theorem sliceApplied_gen {sl : Addr} {vl vu : Value} {lo hi : Option Int} {n : Nat} {Q : Int × Int × Nat → Shared → Prop} (hs : s.heap.IsSliceOf sl vl vu .none) (pl : IsPart vl lo) (pu : IsPart vu hi)
    (h : Q (((sIx n 0 lo : Nat) : Int), 1, sIx n n hi - sIx n 0 lo) s) : wpAny (model prog w) A (Builtin.Slice.sliceApplied (.ref sl) (pure (n : Int))) Q E s := by
  obtain ⟨os, hos, hcs, hds⟩ := id hs
  unfold Builtin.Slice.sliceApplied Builtin.Slice.sliceFields
  refine wpAny_bind (wpAny_bind (wpAny_field hos hds (x := vl) rfl (wpAny_bind (wpAny_field hos hds (x := vu) rfl (wpAny_bind (wpAny_field hos hds (x := .none) rfl (wpAny_pure ?_)))))))
  refine wpAny_bind (slicePart_none ?_)
  show wpAny _ _ (if ((1 : Int) == 0) = true then _ else _) _ _ s
  rw [if_neg (by decide)]
  refine wpAny_bind (slicePart_ pl (wpAny_bind (slicePart_ pu (wpAny_bind (wpAny_pure ?_)))))
  show wpAny _ _ (match Builtin.Slice.sliceAdjust lo hi 1 (n : Int) with | (lo, hi) => pure (lo, (1 : Int), Builtin.Slice.slicePlaces lo hi 1)) _ _ s
  rw [adjust_gen lo hi n]
  show wpAny _ _ (pure (((sIx n 0 lo : Nat) : Int), (1 : Int), Builtin.Slice.slicePlaces ((sIx n 0 lo : Nat) : Int) ((sIx n n hi : Nat) : Int) 1)) _ _ s
  rw [places_gen]
  exact wpAny_pure h
theorem pick_gen (xs : Array Value) (i k : Nat) : ((List.range k).filterMap fun (m : Nat) => xs[((i : Int) + (m : Int) * 1).toNat]?).toArray = ((xs.toList.drop i).take k).toArray := by
  have e : (fun (m : Nat) => xs[((i : Int) + (m : Int) * 1).toNat]?) = fun m => xs[i + m]? := by
    funext m
    have : ((i : Int) + (m : Int) * 1).toNat = i + m := by omega
    rw [this]
  rw [e]
  have := pick_run xs i k
  rw [List.filterMap_map] at this
  have e2 : ((fun x => xs[x]?) ∘ fun x => i + x) = fun m => xs[i + m]? := rfl
  rw [e2] at this
  rw [this]
theorem getItem_tuple_cut {t sl : Addr} {items : Array Value} {vl vu : Value} {lo hi : Option Int} {Q : Value → Shared → Prop} (ht : IsTup s.heap t items) (hs : s.heap.IsSliceOf sl vl vu .none) (pl : IsPart vl lo) (pu : IsPart vu hi)
    (hw : ¬ (sIx items.size 0 lo = 0 ∧ sIx items.size items.size hi = items.size))
    (h : Q (.ref s.heap.objs.size) { s with heap := s.heap.push { cls := .type "tuple", data := .seq ((items.toList.drop (sIx items.size 0 lo)).take (sIx items.size items.size hi - sIx items.size 0 lo)).toArray } })
    (hsz : items.size ≤ sizeLine) : wpAny (model prog w) A (getItem (.ref t) (.ref sl)) Q E s := by
  have htake : sizeOk (.seq ((items.toList.drop (sIx items.size 0 lo)).take (sIx items.size items.size hi - sIx items.size 0 lo)).toArray) := by
    show ((items.toList.drop (sIx items.size 0 lo)).take (sIx items.size items.size hi - sIx items.size 0 lo)).toArray.size ≤ sizeLine
    rw [List.size_toArray, List.length_take, List.length_drop, Array.length_toList]
    omega
  have hj : sIx items.size items.size hi ≤ items.size := sIx_le _ _ (Nat.le_refl _) hi
  obtain ⟨os, hos, hcs, hds⟩ := id hs
  have hTs : s.TypeIs (.ref sl) "slice" := ⟨os, hos, hcs⟩
  unfold getItem
  try with_reducible refine wpAny_holding ?_
  first | refine wpAny_bind (wpAny_pure ?_) | skip
  refine wpAny_bind (wpAny_sequenceKey ht.typeIs (by decide) ?_)
  refine wpAny_bind (wpAny_callSpecial?_slot (name := Str.ofString "__getitem__") ht.typeIs PyProof.Rows.slot_tuple_getitem
    (wpAny_call_entry PyProof.Rows.slot_tuple_getitem ht.typeIs entry_tuple_getitem ?_ (args_tuple_getitem _ _)))
  show wpAny _ _ (Builtin.Tuple.tupleItemsOf (.ref t) >>= _) _ _ s
  refine wpAny_bind (tupleItemsOf_ ht ?_)
  refine wpAny_bind (wpAny_typeOf hTs ?_)
  rw [if_pos (by decide)]
  refine wpAny_bind (sliceApplied_gen hs pl pu ?_)
  have hno : ¬ ((((sIx items.size 0 lo : Nat) : Int) == 0 && (1 : Int) == 1 && (sIx items.size items.size hi - sIx items.size 0 lo) == items.size) = true) := by
    intro q
    rw [Bool.and_eq_true, Bool.and_eq_true] at q
    have q1 : ((sIx items.size 0 lo : Nat) : Int) = 0 := eq_of_beq q.1.1
    have q2 : sIx items.size items.size hi - sIx items.size 0 lo = items.size := eq_of_beq q.2
    exact hw ⟨by omega, by omega⟩
  show wpAny _ _ (if (((sIx items.size 0 lo : Nat) : Int) == 0 && (1 : Int) == 1 && (sIx items.size items.size hi - sIx items.size 0 lo) == items.size) = true then _ else _) _ _ s
  rw [if_neg hno, pick_gen]
  first
    | exact wpAny_bind (m := Builtin.Tuple.tupleExact _) (wpAny_newObj_type (wpAny_pure ⟨_, rfl, wpAny_pure h⟩) htake)
    | exact wpAny_bind (m := Builtin.Tuple.tupleExact _) (wpAny_newObj_type (wpAny_bind (wpAny_pure (wpAny_pure ⟨_, rfl, wpAny_pure h⟩))) htake)
    | exact wpAny_bind (wpAny_bind (m := Builtin.Tuple.tupleExact _) (wpAny_newObj_type (wpAny_pure (wpAny_pure ⟨_, rfl, wpAny_pure h⟩)) htake))
    | exact wpAny_bind (wpAny_bind (m := Builtin.Tuple.tupleExact _) (wpAny_newObj_type (wpAny_pure ⟨_, rfl, wpAny_pure h⟩) htake))
end
end HT
namespace L2
open PySem PySem.Spec PyProof.Rows
abbrev TO := St → Hp → (Option Int → Hp → Prop) → Prop
def PO (X : Cx) (e : Option Expr) (t : TO) : Prop :=
  ∀ (pins : List (Addr × Obj)) (s : Shared) (σ : St) (H : Hp) (Q : Option Int → Hp → Prop), Inv X pins σ H s → t σ H Q →
    wpAny (model X.prog X.w) X.A (evalPart e X.env) (fun u s' => ∃ o H', Inv X pins σ H' s' ∧ IsPart u o ∧ Q o H') X.xe s
def tNoPart : TO := fun _ H Q => Q none H
def tPart (t : TE) : TO := fun σ H Q => t σ H fun x H1 => ∃ i, x = .int i ∧ Q (some i) H1
section
variable {X : Cx} {e : Expr} {te : TE} {lo hi : Option Expr} {tl th : TO} {pos p2 : Pos}
theorem po_none : PO X none tNoPart := by
  intro pins s σ H Q I h
  rw [evalPart_none]
  exact wpAny_pure ⟨none, H, I, .none, h⟩
theorem po_some (h : PE X e te) : PO X (some e) (tPart te) := by
  intro pins s σ H Q I hw
  rw [evalPart_some]
  refine thn (h pins s σ H _ I hw) fun u s1 ⟨x, H1, I1, r1, q1⟩ => ?_
  obtain ⟨i, rfl, q⟩ := q1
  obtain ⟨t, rfl⟩ := r1
  exact ⟨some i, H1, I1, .int i t, q⟩
def SlR (X : Cx) (r : V → Option Int → Option Int → Hp → VK → Prop) : Prop :=
  ∀ (pins : List (Addr × Obj)) (s : Shared) (σ : St) (H : Hp) (x : V) (v vl vu : Value) (lo hi : Option Int) (sl : Addr) (Q : VK), Inv X pins σ H s → RelV x v → s.heap.IsSliceOf sl vl vu .none → IsPart vl lo → IsPart vu hi → r x lo hi H Q →
    ∃ T id, typeLookup (.type T) "__getitem__" = pure (some (.builtin id)) ∧ s.TypeIs v T ∧ wpAny (model X.prog X.w) X.A (getItem v (.ref sl)) (EP X pins σ Q) X.xe s
theorem SlR.or {r r' : V → Option Int → Option Int → Hp → VK → Prop} (h : SlR X r) (h' : SlR X r') : SlR X (fun x lo hi H Q => r x lo hi H Q ∨ r' x lo hi H Q) := by
  intro pins s σ H x v vl vu lo hi sl Q I rx hs pl pu q
  rcases q with q | q
  · exact h pins s σ H x v vl vu lo hi sl Q I rx hs pl pu q
  · exact h' pins s σ H x v vl vu lo hi sl Q I rx hs pl pu q
def tSl (r : V → Option Int → Option Int → Hp → VK → Prop) (te : TE) (tl th : TO) : TE := fun σ H Q => te σ H fun x H1 => tl σ H1 fun l H2 => th σ H2 fun u H3 => r x l u H3 Q
theorem pe_slice {r : V → Option Int → Option Int → Hp → VK → Prop} (hr : SlR X r) (he : PE X e te) (hl : PO X lo tl) (hu : PO X hi th) : PE X (.Subscript e (.Slice lo hi none p2) pos) (tSl r te tl th) := by
  intro pins s σ H Q I h
  refine Subscript_ (thn (he pins s σ H _ I h) fun v s1 ⟨x, H1, I1, r1, q1⟩ => ?_)
  refine wpAny_Slice (thn (hl pins s1 σ H1 _ I1 q1) fun vl s2 ⟨l, H2, I2, pl, q2⟩ => thn (hu pins s2 σ H2 _ I2 q2) fun vu s3 ⟨u, H3, I3, pu, q3⟩ => ?_)
  rw [evalPart_none]
  refine wpAny_pure ?_
  have I4 : Inv X pins σ H3 { s3 with heap := s3.heap.push { cls := .type "slice", data := .fields #[vl, vu, .none] } } := I3.kept (t' := s3.toks) fun b ob q => Heap.get?_push_of_some _ q
  obtain ⟨T, id, hT, ht, hg⟩ := hr pins { s3 with heap := s3.heap.push { cls := .type "slice", data := .fields #[vl, vu, .none] } } σ H3 x v vl vu l u s3.heap.objs.size Q I4 r1 (Heap.IsSliceOf.new ..) pl pu q3
  show wpAny (model X.prog X.w) X.A (subscriptTail e (.Slice lo hi none p2) v (.ref s3.heap.objs.size)) (EP X pins σ Q) X.xe { s3 with heap := s3.heap.push { cls := .type "slice", data := .fields #[vl, vu, .none] } }
  exact tail_any (ops := [.ref s3.heap.objs.size, v]) ht hT hg (by with_unfolding_all rfl)
def cutV (xs : List V) (lo hi : Option Int) : List V := (xs.drop (HT.sIx xs.length 0 lo)).take (HT.sIx xs.length xs.length hi - HT.sIx xs.length 0 lo)
theorem cutV_length (xs : List V) (lo hi : Option Int) : (cutV xs lo hi).length ≤ xs.length := by
  unfold cutV
  rw [List.length_take, List.length_drop]
  omega
def rSlT (K : PySem.W.Frag) : V → Option Int → Option Int → Hp → VK → Prop := fun x lo hi H Q => ∃ a xs, x = .ref a ∧ SqT K H a xs ∧
  ¬ (HT.sIx xs.length 0 lo = 0 ∧ HT.sIx xs.length xs.length hi = xs.length) ∧ ∀ p, H p = none → Q (.ref p) (upd H p (.tup (cutV xs lo hi)))
theorem sl_tup : SlR X (rSlT X.K) := by
  intro pins s σ H x v vl vu lo hi sl Q I rx hs pl pu h
  obtain ⟨a, xs, rfl, hx, hw, q⟩ := h
  cases rx
  obtain ⟨its, r, ht, hz⟩ := I.tuple hx
  have hlen : its.toArray.size = xs.length := by rw [List.size_toArray]; exact r.length.symm
  refine ⟨"tuple", _, PyProof.Rows.slot_tuple_getitem.lookup, ht.typeIs, ?_⟩
  refine HT.getItem_tuple_cut ht hs pl pu (by rw [hlen]; exact hw) ?_ (by rw [hlen]; exact hz)
  rw [hlen]
  refine ⟨.ref s.heap.objs.size, _, I.laid (t' := s.toks) (o := .tup (cutV xs lo hi)) (fun b ob q => Heap.get?_push_of_some _ q) (Nat.le_refl _) ?_, rfl, q _ (I.hok.fresh (Nat.le_refl _))⟩
  exact ⟨Nat.le_trans (cutV_length xs lo hi) hz, _, (r.drop (HT.sIx xs.length 0 lo)).take (HT.sIx xs.length xs.length hi - HT.sIx xs.length 0 lo), IsTup.new _ _⟩
def rCatT (K : PySem.W.Frag) : R2 := fun x y H Q => ∃ a b xs ys, x = .ref a ∧ y = .ref b ∧ SqT K H a xs ∧ SqT K H b ys ∧ xs ≠ [] ∧ xs.length + ys.length ≤ sizeLine ∧
  (ys = [] → Q (.ref a) H) ∧ (ys ≠ [] → ∀ p, H p = none → Q (.ref p) (upd H p (.tup (xs ++ ys))))
theorem Vals.nil_iff {xs : List V} {us : List Value} (r : Vals xs us) : us = [] ↔ xs = [] := by
  cases r with
  | nil => simp
  | cons _ _ => simp
theorem op_catT : OpR X (binaryOp .Add) (rCatT X.K) := by
  intro pins s σ H x y v u Q I rx ry h
  obtain ⟨a, b, xs, ys, rfl, rfl, ha, hb, hx, hz, q1, q2⟩ := h
  cases rx
  cases ry
  obtain ⟨its, r1, p1, _⟩ := I.tuple ha
  obtain ⟨its2, r2, p2, _⟩ := I.tuple hb
  refine HT.cat_tup p1 p2 (fun z => hx (r1.nil_iff.mp z)) (fun z => ⟨.ref a, H, I, rfl, q1 (r2.nil_iff.mp z)⟩) (fun z => ?_) (by rw [← r1.length, ← r2.length]; exact hz)
  refine ⟨.ref s.heap.objs.size, _, I.laid (t' := s.toks) (o := .tup (xs ++ ys)) (fun b ob q => Heap.get?_push_of_some _ q) (Nat.le_refl _) ?_, rfl, q2 (fun w => z (r2.nil_iff.mpr w)) _ (I.hok.fresh (Nat.le_refl _))⟩
  exact ⟨by rw [List.length_append]; exact hz, _, r1.append r2, IsTup.new _ _⟩
end
end L2
namespace L2
open PySem PySem.Spec PyProof.Rows
def ixN (n : Nat) (i : Int) : Option Nat := if 0 ≤ i then (if i < n then some i.toNat else none) else if -(n : Int) ≤ i then some (i + n).toNat else none
def atI {α : Type} (xs : List α) (i : Int) : Option α := (ixN xs.length i).bind fun j => xs[j]?
theorem ixN_seq {n : Nat} {i : Int} {j : Nat} (h : ixN n i = some j) : seqIndex? i n = some j ∧ j < n ∧ -(n : Int) ≤ i ∧ i < n := by
  unfold ixN at h
  by_cases h0 : 0 ≤ i
  · rw [if_pos h0] at h
    by_cases h1 : i < n
    · rw [if_pos h1] at h
      have e : i.toNat = j := Option.some.inj h
      exact ⟨by rw [seqIndex_of h0 h1, e], by omega, by omega, h1⟩
    · rw [if_neg h1] at h; cases h
  · rw [if_neg h0] at h
    by_cases h1 : -(n : Int) ≤ i
    · rw [if_pos h1] at h
      have e : (i + n).toNat = j := Option.some.inj h
      exact ⟨by rw [seqIndex_neg (by omega) h1, e], by omega, h1, by omega⟩
    · rw [if_neg h1] at h; cases h
theorem atI_get {α : Type} {xs : List α} {i : Int} {v : α} (h : atI xs i = some v) : ∃ j, seqIndex? i xs.length = some j ∧ xs[j]? = some v ∧ j < xs.length ∧ -(xs.length : Int) ≤ i ∧ i < xs.length := by
  unfold atI at h
  cases e : ixN xs.length i with
  | none => rw [e] at h; cases h
  | some j =>
    rw [e] at h
    obtain ⟨h1, h2, h3, h4⟩ := ixN_seq e
    exact ⟨j, h1, h, h2, h3, h4⟩
theorem atI_nat {α : Type} {xs : List α} {j : Nat} {v : α} (h : xs[j]? = some v) : atI xs (j : Int) = some v := by
  have hj : j < xs.length := (List.getElem?_eq_some_iff.mp h).1
  have e : ixN xs.length (j : Int) = some j := by
    unfold ixN
    rw [if_pos (by omega), if_pos (by omega)]; simp
  unfold atI; rw [e]; exact h
def PlainIx (b : Expr) : Prop := ∀ o i, subscripted b false o i = operate [o, i] (getItem o i)
def IxR (X : Cx) (r : R2) : Prop :=
  ∀ (value slice : Expr) (pins : List (Addr × Obj)) (s : Shared) (σ : St) (H : Hp) (x y : V) (v u : Value) (Q : VK), Inv X pins σ H s → RelV x v → RelV y u → r x y H Q →
    subscripted slice false v u = operate [v, u] (getItem v u) → wpAny (model X.prog X.w) X.A (subscriptTail value slice v u) (EP X pins σ Q) X.xe s
def MtR (X : Cx) (id : String) (r : V → List V → Hp → VK → Prop) : Prop :=
  ∀ (pins : List (Addr × Obj)) (s : Shared) (σ : St) (H : Hp) (x : V) (xs : List V) (v : Value) (us : List Value) (Q : VK), Inv X pins σ H s → RelV x v → Vals xs us → r x xs H Q →
    wpAny (model X.prog X.w) X.A (call (.builtin id) (v :: us)) (EP X pins σ Q) X.xe s
section
variable {X : Cx} {a b : Expr} {ta tb : TE} {pos : Pos}
theorem IxR.or {r r' : R2} (h : IxR X r) (h' : IxR X r') : IxR X (fun x y H Q => r x y H Q ∨ r' x y H Q) := by
  intro value slice pins s σ H x y v u Q I rx ry q hs
  rcases q with q | q
  · exact h value slice pins s σ H x y v u Q I rx ry q hs
  · exact h' value slice pins s σ H x y v u Q I rx ry q hs
theorem MtR.or {id : String} {r r' : V → List V → Hp → VK → Prop} (h : MtR X id r) (h' : MtR X id r') : MtR X id (fun x xs H Q => r x xs H Q ∨ r' x xs H Q) := by
  intro pins s σ H x xs v us Q I rx rs q
  rcases q with q | q
  · exact h pins s σ H x xs v us Q I rx rs q
  · exact h' pins s σ H x xs v us Q I rx rs q
theorem pe_ix {r : R2} (hr : IxR X r) (ha : PE X a ta) (hb : PE X b tb) (hs : PlainIx b) : PE X (.Subscript a b pos) (tOp r ta tb) := by
  intro pins s σ H Q I h
  exact Subscript_ (binT ha hb I h fun v u s2 x y H2 I2 rx ry q => hr a b pins s2 σ H2 x y v u Q I2 rx ry q (hs _ _))
def rIxL (K : PySem.W.Frag) : R2 := fun x y H Q => ∃ p xs i v, x = .ref p ∧ y = .int i ∧ SqL K H p xs ∧ atI xs i = some v ∧ Q v H
def rIxT (K : PySem.W.Frag) : R2 := fun x y H Q => ∃ p xs i v, x = .ref p ∧ y = .int i ∧ SqT K H p xs ∧ atI xs i = some v ∧ Q v H
def rIxS : R2 := fun x y H Q => ∃ z i c, x = .str z ∧ y = .int i ∧ z.length ≤ sizeLine ∧ atI z.cps.toList i = some c ∧ Q (.str ⟨#[c]⟩) H
theorem ix_list : IxR X (rIxL X.K) := by
  intro value slice pins s σ H x y v u Q I rx ry h hs
  obtain ⟨p, xs, i, z, rfl, rfl, hq, he, q⟩ := h
  cases rx
  obtain ⟨t, rfl⟩ := ry
  obtain ⟨its, r, pl, hz⟩ := I.list hq
  obtain ⟨j, h1, h2, h3, h4, h5⟩ := atI_get he
  obtain ⟨w, ew, rw'⟩ := r.get h2
  have hl := r.length
  have hn := line63
  have fin : EP X pins σ Q w s := ⟨z, H, I, rw', q⟩
  by_cases h0 : 0 ≤ i
  · have hj : i.toNat = j := by
      rw [seqIndex_of h0 h5] at h1
      exact Option.some.inj h1
    exact item_listR pl.isList h0 (by omega) (by rw [hj]; simpa using ew) fin hs
  · have hj : (i + (its.toArray.size : Int)).toNat = j := by
      rw [seqIndex_neg (by omega) h4] at h1
      rw [List.size_toArray, ← hl]
      exact Option.some.inj h1
    exact subscriptTail_builtinR (x := w) pl.isList.typeIs slot_list_getitem.lookup
      (wpAny_getItem_list_neg (Q := fun r s' => r = w ∧ EP X pins σ Q r s') pl.isList (by omega) (by rw [List.size_toArray] <;> omega) (by omega) (by rw [hj]; simpa using ew) ⟨rfl, fin⟩) hs
theorem ix_tup : IxR X (rIxT X.K) := by
  intro value slice pins s σ H x y v u Q I rx ry h hs
  obtain ⟨p, xs, i, z, rfl, rfl, hq, he, q⟩ := h
  cases rx
  obtain ⟨t, rfl⟩ := ry
  obtain ⟨its, r, pl, hz⟩ := I.tuple hq
  obtain ⟨j, h1, h2, h3, h4, h5⟩ := atI_get he
  obtain ⟨w, ew, rw'⟩ := r.get h2
  have hl := r.length
  have hn := line63
  have fin : EP X pins σ Q w s := ⟨z, H, I, rw', q⟩
  exact subscriptTail_builtinR (x := w) pl.typeIs slot_tuple_getitem.lookup
    (getItem_tuple (j := j) (Q := fun r s' => r = w ∧ EP X pins σ Q r s') pl (by omega) (by omega) (by rw [List.size_toArray, ← hl]; exact h1) (by simpa using ew) ⟨rfl, fin⟩) hs
theorem ix_str : IxR X rIxS := by
  intro value slice pins s σ H x y v u Q I rx ry h hs
  obtain ⟨z, i, c, rfl, rfl, hz, he, q⟩ := h
  obtain ⟨t, rfl⟩ := rx
  obtain ⟨t', rfl⟩ := ry
  obtain ⟨j, h1, h2, h3, h4, h5⟩ := atI_get he
  have hl : z.cps.toList.length = z.length := by simp [Str.length]
  rw [hl] at h1 h4 h5
  have hn := line63
  exact tail_any (typeIs_str s z t) slot_str_getitem.lookup (getItem_str (c := c) (by
    have e1 : decide (i < -(2 ^ 63 : Int)) = false := decide_eq_false (by omega)
    have e2 : decide (i ≥ 2 ^ 63) = false := decide_eq_false (by omega)
    rw [e1, e2, Bool.or_false]) (by rw [h1]; simpa using h2) ⟨.str ⟨#[c]⟩, H, I.tok _, ⟨_, rfl⟩, q⟩) hs
def rIx (K : PySem.W.Frag) : R2 := fun x y H Q => rIxL K x y H Q ∨ rIxT K x y H Q ∨ rIxS x y H Q
theorem ix_seq : IxR X (rIx X.K) := ix_list.or (ix_tup.or ix_str)
theorem slice_bounds (lo hi : Option Int) (n : Nat) : (sliceBounds lo hi none n).1 = ((HT.sIx n 0 lo : Nat) : Int) ∧ (sliceBounds lo hi none n).2.1 = ((HT.sIx n n hi : Nat) : Int) ∧ (sliceBounds lo hi none n).2.2 = 1 := by
  refine ⟨?_, ?_, rfl⟩
  · cases lo with
    | none => simp [sliceBounds, HT.sIx]
    | some i =>
      simp only [sliceBounds, HT.sIx, Option.getD_none, show (1 : Int) > 0 by decide, if_true]
      by_cases h : i < 0
      · simp only [h, if_true] <;> omega
      · simp only [h, if_false] <;> omega
  · cases hi with
    | none => simp [sliceBounds, HT.sIx]
    | some i =>
      simp only [sliceBounds, HT.sIx, Option.getD_none, show (1 : Int) > 0 by decide, if_true]
      by_cases h : i < 0
      · simp only [h, if_true] <;> omega
      · simp only [h, if_false] <;> omega
theorem slicePick_cut (its : List Value) (lo hi : Option Int) : slicePick its.toArray lo hi none = ((its.drop (HT.sIx its.length 0 lo)).take (HT.sIx its.length its.length hi - HT.sIx its.length 0 lo)).toArray := by
  obtain ⟨h1, h2, h3⟩ := slice_bounds lo hi its.toArray.size
  unfold slicePick
  rw [h1, h2, h3]
  simp only [sliceRange_one, pick_run, List.size_toArray] <;> rfl
def rSlL (K : PySem.W.Frag) : V → Option Int → Option Int → Hp → VK → Prop := fun x lo hi H Q => ∃ a xs, x = .ref a ∧ SqL K H a xs ∧ ∀ p, H p = none → Q (.ref p) (upd H p (.lst (cutV xs lo hi)))
theorem sl_list : SlR X (rSlL X.K) := by
  intro pins s σ H x v vl vu lo hi sl Q I rx hs pl pu h
  obtain ⟨a, xs, rfl, hx, q⟩ := h
  cases rx
  obtain ⟨its, r, ht, hz⟩ := I.list hx
  have hlen := r.length
  refine ⟨"list", _, slot_list_getitem.lookup, ht.isList.typeIs, ?_⟩
  refine wpAny_getItem_list_slice ht.isList hs pl pu .none (by simp) ?_ (by rw [List.size_toArray] <;> omega)
  rw [slicePick_cut, ← hlen]
  refine ⟨.ref s.heap.objs.size, _, I.laid (t' := s.toks) (o := .lst (cutV xs lo hi)) (fun b ob q => Heap.get?_push_of_some _ q) (Nat.le_refl _) ?_, rfl, q _ (I.hok.fresh (Nat.le_refl _))⟩
  exact ⟨Nat.le_trans (cutV_length xs lo hi) hz, _, 0, (r.drop (HT.sIx xs.length 0 lo)).take (HT.sIx xs.length xs.length hi - HT.sIx xs.length 0 lo), Heap.get?_push_size _ rfl⟩
def tyV (K : PySem.W.Frag) (T : String) (x : V) (H : Hp) : Prop := match x with
  | .str _ => T = "str"
  | .int _ => T = "int"
  | .ref p => (T = "list" ∧ ∃ xs, SqL K H p xs) ∨ (T = "tuple" ∧ ∃ o, K.lookup p = some o ∧ o.cls = .type "tuple" ∧ o.dict = none) ∨
      (T = "dict" ∧ ((∃ kvs, H p = some (.dK kvs)) ∨ ∃ kvs, H p = some (.dT kvs))) ∨ (T = "set" ∧ ∃ S n, H p = some (.set S n))
  | _ => False
theorem tyV_is {pins : List (Addr × Obj)} {σ : St} {H : Hp} {s : Shared} {T : String} {x : V} {v : Value} (I : Inv X pins σ H s) (r : RelV x v) (ty : tyV X.K T x H) :
    s.TypeIs v T ∧ ∀ a, v = .ref a → ∃ ob, s.heap.get? a = some ob ∧ ob.dict = none := by
  cases x with
  | str z =>
    obtain ⟨t, rfl⟩ := r
    cases (show T = "str" from ty)
    exact ⟨typeIs_str s z t, fun _ e => nomatch e⟩
  | int i =>
    obtain ⟨t, rfl⟩ := r
    cases (show T = "int" from ty)
    exact ⟨typeIs_int s i t, fun _ e => nomatch e⟩
  | ref p =>
    cases r
    rcases ty with ⟨rfl, xs, hq⟩ | ⟨rfl, o, hk, hc, hd⟩ | ⟨rfl, hk⟩ | ⟨rfl, S, n, hk⟩
    · obtain ⟨its, _, pl, _⟩ := I.list hq
      refine ⟨pl.isList.typeIs, fun a e => ?_⟩
      cases e
      obtain ⟨o, n, e, c, hd, _⟩ := pl
      exact ⟨o, e, hd⟩
    · refine ⟨⟨o, I.kIn p o hk, hc⟩, fun a e => ?_⟩
      cases e
      exact ⟨o, I.kIn _ o hk, hd⟩
    · have z : ∃ o, s.heap.get? p = some o ∧ o.ExactDict := by
        rcases hk with ⟨kvs, hk⟩ | ⟨kvs, hk⟩
        · obtain ⟨_, _, _, _, o, _, _, e, ex, _⟩ := I.hok p _ hk
          exact ⟨o, e, ex⟩
        · obtain ⟨_, _, _, _, o, _, _, e, ex, _⟩ := I.hok p _ hk
          exact ⟨o, e, ex⟩
      obtain ⟨o, e, ex⟩ := z
      refine ⟨⟨o, e, ex.1⟩, fun a e2 => ?_⟩
      cases e2
      exact ⟨o, e, ex.2.1⟩
    · obtain ⟨o, _, _, _, e, ex, _⟩ := I.hok p _ hk
      refine ⟨⟨o, e, ex.1⟩, fun a e2 => ?_⟩
      cases e2
      exact ⟨o, e, ex.2.1⟩
  | _ => exact False.elim ty
def tBM0 (K : PySem.W.Frag) (T : String) (r : V → List V → Hp → VK → Prop) (to : TE) : TE := fun σ H Q => to σ H fun x H1 => tyV K T x H1 ∧ r x [] H1 Q
def tBM (K : PySem.W.Frag) (T : String) (r : V → List V → Hp → VK → Prop) (to : TE) (t : TA) : TE := fun σ H Q => to σ H fun x H1 => tyV K T x H1 ∧ t σ H1 fun xs H2 => r x xs H2 Q
variable {o e : Expr} {es : List Expr} {to : TE} {t : TA} {name : Str} {apos cpos : Pos} {T id : String} {r : V → List V → Hp → VK → Prop}
theorem pe_bm0 (pa : PlainAttrs T) (slot : Slot T name id) (hty : typeOf (.builtin id) = pure (.type "method_descriptor")) (hm : MtR X id r) (ho : PE X o to)
    (hbase : attributeBase o name X.env (eval o X.env) = eval o X.env := by rfl) (hline : (apos.endLine == cpos.line) = true := by rfl) : PE X (.Call (.Attribute o name apos) [] [] cpos) (tBM0 X.K T r to) := by
  intro pins s σ H Q I h
  refine wpAny_Call_method0_late hbase hline (thn (ho pins s σ H _ I h) fun v s1 ⟨x, H1, I1, r1, ty, q1⟩ => ?_)
  obtain ⟨h1, h2⟩ := tyV_is I1 r1 ty
  exact ⟨T, id, pa, slot, hty, h1, h2, Calls.callWith_builtin rfl (PySem.evalArgs_none (hm pins s1 σ H1 x [] v [] Q I1 r1 .nil q1))⟩
theorem pe_bm (pa : PlainAttrs T) (slot : Slot T name id) (hty : typeOf (.builtin id) = pure (.type "method_descriptor")) (hm : MtR X id r) (ho : PE X o to) (ha : PA X (e :: es) t)
    (hbase : attributeBase o name X.env (eval o X.env) = eval o X.env := by rfl)
    (hfew : ((backTo cpos (starEach (e :: es) X.env)).all (fun x => !x.1) && (backToKw cpos (keywordEach [] X.env)).all (fun x => x.1.isSome)
      && decide ((e :: es).length + ([] : List Keyword).length + (if ([] : List Keyword).isEmpty then 0 else 1) < 30)) = true := by rfl)
    (hline : (apos.endLine == cpos.line) = true := by rfl) (hs : starEach (e :: es) X.env = (false, eval e X.env) :: starEach es X.env := by rfl) (hplain : (backTo cpos (starEach es X.env)).any (·.1) = false := by rfl) :
    PE X (.Call (.Attribute o name apos) (e :: es) [] cpos) (tBM X.K T r to t) := by
  intro pins s σ H Q I h
  refine wpAny_Call_method_late hbase hfew hline rfl (thn (ho pins s σ H _ I h) fun v s1 ⟨x, H1, I1, r1, ty, q1⟩ => ?_)
  obtain ⟨h1, h2⟩ := tyV_is I1 r1 ty
  refine ⟨T, id, pa, slot, hty, h1, h2, ?_⟩
  have hA := ha cpos pins s1 σ H1 _ I1 q1
  rw [hs] at hA ⊢
  refine Calls.callWith_builtin (by show (false || (backTo cpos (starEach es X.env)).any (·.1)) = false; rw [hplain] <;> rfl) (Calls.evalArgs_plain ?_)
  exact thn hA fun us s2 ⟨vs, H2, I2, r2, q2⟩ => hm pins s2 σ H2 x vs v us Q I2 r1 r2 q2
end
end L2
namespace L2
open PySem PySem.Spec PyProof.Rows
def MtM (X : Cx) (id : String) (r : V → List V → Hp → VK → Prop) : Prop :=
  ∀ (pins : List (Addr × Obj)) (s : Shared) (σ : St) (H : Hp) (x : V) (xs : List V) (v : Value) (us : List Value) (Q : VK), Inv X pins σ H s → RelV x v → Vals xs us → r x xs H Q →
    wpAny (model X.prog X.w) X.A (call (.builtin id) (v :: us)) (EP X pins σ Q) X.xe s
theorem Vals.one : ∀ {x : V} {us : List Value}, Vals [x] us → ∃ u, us = [u] ∧ RelV x u
  | _, _, .cons r .nil => ⟨_, rfl, r⟩
theorem Vals.two : ∀ {x y : V} {us : List Value}, Vals [x, y] us → ∃ u v, us = [u, v] ∧ RelV x u ∧ RelV y v
  | _, _, _, .cons r (.cons q .nil) => ⟨_, _, rfl, r, q⟩
theorem Vals.zero : ∀ {us : List Value}, Vals [] us → us = []
  | _, .nil => rfl
theorem Vals.dropLast {xs : List V} {us : List Value} (h : Vals xs us) : Vals xs.dropLast us.dropLast := by
  induction h with
  | nil => exact .nil
  | cons r t ih =>
    cases t with
    | nil => exact .nil
    | cons q t' => exact .cons r ih
theorem Vals.reverse {xs : List V} {us : List Value} (h : Vals xs us) : Vals xs.reverse us.reverse := by
  induction h with
  | nil => exact .nil
  | cons r t ih => rw [List.reverse_cons, List.reverse_cons]; exact Vals.append ih (.cons r .nil)
theorem erase_last {α : Type} (l : List α) : l.eraseIdx (l.length - 1) = l.dropLast := by
  induction l with
  | nil => rfl
  | cons a r ih =>
    cases r with
    | nil => rfl
    | cons b r =>
      have e : (a :: b :: r).length - 1 = ((b :: r).length - 1) + 1 := by
        have h1 : (a :: b :: r).length = r.length + 2 := rfl
        have h2 : (b :: r).length = r.length + 1 := rfl
        omega
      rw [e, List.eraseIdx_cons_succ, ih]
      all_goals rfl
section
variable {X : Cx} {pins : List (Addr × Obj)} {σ : St} {H : Hp} {s : Shared} {l b : Addr} {xs ys zs : List V}
theorem Inv.lset {its its' : List Value} {n : Nat} {f : Array Value → Array Value} {t' : Nat} (I : Inv X pins σ H s) (hH : H l = some (.lst xs))
    (e : s.heap.get? l = some { cls := .type "list", data := .seq its.toArray n }) (hf : f its.toArray = its'.toArray) (hv : Vals ys its') (hz : ys.length ≤ sizeLine) :
    Inv X pins σ (upd H l (.lst ys)) { s with heap := s.heap.update l (Obj.mapSeq f), toks := t' } := by
  have q := PySem.IsL.update e f
  rw [hf] at q
  refine I.write (x := l) (e := l) (by rw [hH]; exact trivial) (.inl rfl) (fun b' u hb hu => (Heap.get?_update_other s.heap (Obj.mapSeq f) (Ne.symm hb)).trans hu) ⟨_, q⟩ ?_
  exact ⟨hz, its', _, hv, q⟩
theorem Inv.lnew {its : List Value} {t' : Nat} (I : Inv X pins σ H s) (hv : Vals ys its) (hz : ys.length ≤ sizeLine) :
    Inv X pins σ (upd H s.heap.objs.size (.lst ys)) { s with heap := s.heap.push { cls := .type "list", data := .seq its.toArray }, toks := t' } :=
  I.laid (fun _ _ q => Heap.get?_push_of_some _ q) (Nat.le_refl _) ⟨hz, its, 0, hv, Heap.get?_push_size _ rfl⟩
theorem Inv.fresh (I : Inv X pins σ H s) : H s.heap.objs.size = none := I.hok.fresh (Nat.le_refl _)
theorem Inv.lstM (I : Inv X pins σ H s) (hH : H l = some (.lst xs)) : xs.length ≤ sizeLine ∧ ∃ (its : List Value) (n : Nat), Vals xs its ∧ xs.length = its.length ∧ s.heap.get? l = some { cls := .type "list", data := .seq its.toArray n } := by
  obtain ⟨z, its, n, r, e⟩ := I.hok l _ hH
  exact ⟨z, its, n, r, r.length, e⟩
theorem notLongL {n : Nat} (h : n ≤ sizeLine) : Builtin.List.listTooLong n = false := by
  unfold Builtin.List.listTooLong
  exact decide_eq_false (by omega)
end
section
variable {X : Cx}
def rAppend : V → List V → Hp → VK → Prop := fun x vs H Q => ∃ l xs y, x = .ref l ∧ vs = [y] ∧ H l = some (.lst xs) ∧ xs.length < sizeLine ∧ Q .non (upd H l (.lst (xs ++ [y])))
theorem mt_append : MtM X "list.append" rAppend := by
  intro pins s σ H x vs v us Q I rx rv h
  obtain ⟨l, xs, y, rfl, rfl, hH, hz, q⟩ := h
  cases rx
  obtain ⟨u, rfl, ru⟩ := rv.one
  obtain ⟨z, its, n, r, hl, e⟩ := I.lstM hH
  refine call_meets F.slot_list_append ⟨_, e, rfl⟩ F.entry_list_append (F.args_list_append_2 _ _) (PySem.list_append l its.toArray n u (by rw [List.size_toArray]; omega)) ⟨e, ?_⟩
  refine ⟨.non, _, I.lset (its' := its ++ [u]) hH e (by simp) (r.append (.cons ru .nil)) ?_, rfl, q⟩
  rw [List.length_append, List.length_singleton]
  omega
def rPop : V → List V → Hp → VK → Prop := fun x vs H Q => ∃ l xs y, x = .ref l ∧ vs = [] ∧ H l = some (.lst xs) ∧ xs[xs.length - 1]? = some y ∧ Q y (upd H l (.lst xs.dropLast))
theorem mt_pop : MtM X "list.pop" rPop := by
  intro pins s σ H x vs v us Q I rx rv h
  obtain ⟨l, xs, y, rfl, rfl, hH, hy, q⟩ := h
  cases rx
  have hus := rv.zero
  subst hus
  obtain ⟨z, its, n, r, hl, e⟩ := I.lstM hH
  obtain ⟨u, hu, ru⟩ := r.get hy
  have hy' : its.toArray[its.toArray.size - 1]? = some u := by
    show its.toArray[its.length - 1]? = some u
    rw [← Array.getElem?_toList, ← hl]
    exact hu
  refine call_meets F.slot_list_pop ⟨_, e, rfl⟩ F.entry_list_pop (F.args_list_pop_1 _) (MeetsSeq.list_pop_last l its.toArray n u hy' (by rw [List.size_toArray]; omega)) ⟨e, ?_⟩
  refine ⟨y, _, I.lset (its' := its.dropLast) hH e ?_ r.dropLast ?_, ru, q⟩
  · show its.toArray.eraseIdxIfInBounds (its.toArray.size - 1) = its.dropLast.toArray
    rw [List.size_toArray, List.eraseIdxIfInBounds_toArray, erase_last]
  · rw [List.length_dropLast]
    omega
end
section
variable {prog : Program} {w : World} {A : Around} {E : Value → Shared → Prop} {s : Shared}
set_option maxRecDepth 100000 in
end
section
variable {X : Cx}
end
end L2
namespace Att
open PySem PySem.W PySem.Calls PyProof.Rows
theorem ints_of_wellAll {P : Params} {h : Heap} : ∀ (ns : List Int) (vs : List Value), WellAll P h vs (ns.map WData.int) → IntsAre vs ns := by
  intro ns
  induction ns with
  | nil =>
    intro vs w
    rw [List.map_nil] at w
    cases w
    exact .nil
  | cons n ns ih =>
    intro vs w
    rw [List.map_cons] at w
    cases w with
    | cons a b =>
      cases a
      exact .cons _ _ (ih _ b)
theorem script_of {l : OpenLaw} {n : Nat} (hn : l.most = some n) {P : Params} {h : Heap} {args : List WData} {vals : List Value}
    (hpre : l.row.toRowW.claim.pre args = true) (hwl : WellAll P h vals args) :
    ∃ a vs ns, vals = [Value.ref a] ∧ args = [WData.list (ns.map WData.int)] ∧ h.get? a = some { cls := .type "list", data := .seq vs.toArray } ∧ IntsAre vs ns ∧ ns.length ≤ n := by
  have hsh : WShape.hasAll [] args [.list .int] = true := (pre_splitW hpre).1
  have hc : l.pre.holds [] { args := args } = true := (pre_splitW hpre).2
  obtain ⟨d, r, rfl, h1, h2⟩ := hasAllW_cons hsh
  obtain rfl := hasAllW_nil h2
  obtain ⟨xs, rfl, h3⟩ := hasW_list h1
  obtain ⟨ns, rfl⟩ := items_int h3
  have hlen : ns.length ≤ n := by
    unfold OpenLaw.pre at hc
    have h4 : (WTm.not (.lt (.lit (.int (n : Int))) (.len (.arg 0)))).holds [] { args := [.list (ns.map .int)] } = true := by
      have h4 := (holds_andW hc).1
      rw [hn] at h4
      exact h4
    have h5 := condW_of h4 (w_not (w_lt w_lit (w_len_list (w_arg rfl))))
    rw [List.length_map] at h5
    refine Nat.le_of_not_lt fun q => ?_
    have q' : (n : Int) < ((ns.length : Nat) : Int) := by omega
    first
      | (rw [decide_eq_true q'] at h5; exact absurd h5 (by decide))
      | (simp at h5; omega)
  cases hwl with
  | cons w1 w2 =>
    cases w2
    cases w1 with
    | list ho hall => exact ⟨_, _, ns, rfl, rfl, ho, ints_of_wellAll ns _ hall, hlen⟩
theorem post_true (l : OpenLaw) (args : List WData) : l.row.toRowW.claim.post args (.bool true) args = true :=
  postW_of (r := l.row.toRowW) (X := (true == true))
    (show WShape.has [] (.bool true) .bool = true by first | rfl | decide | simp [WShape.has, WShape.arms, WShape.armsAll])
    (show (WTm.eq .res (.lit (.bool true))).value [] { args := args, res := some (.bool true), after := args } = some (.bool (true == true)) from w_eq_bool (w_res rfl) w_lit) rfl
theorem attach_call {l : OpenLaw} {n : Nat} {q : Program} {loose : List Str} {XP : (Str → Option Value) → Heap → Prop} {YP : World → Heap → Prop} {d : DefRec}
    (hn : l.most = some n) (hdf : d.params.defaults = [])
    (call : ∀ (w : World) (s₀ s₁ : Shared) (mg mb : Str → Option Value) (fa : Addr) (o : Obj) (pm cd doc : Value) (a : Addr) (vs : List Value) (ns : List Int),
      Ground q loose [] XP w s₀ mg mb s₁.heap → YP w s₁.heap →
      s₁.heap.get? fa = some o → o.data = .func (docDef d.name d.params d.body d.scope pm cd doc) → s₁.heap.CodeRec cd d.name → mg d.name = some (.ref fa) →
      s₁.heap.get? a = some { cls := .type "list", data := .seq vs.toArray } → IntsAre vs ns → ns.length ≤ n → s₁.gens = #[] →
      codeAny (model l.prog w) callerA (.call (.ref fa) ⟨[.ref a], []⟩) (fun r s' => r = .ok (.ret (.bool true)) ∧ OldK s₁.heap s'.heap ∧ s'.os = s₁.os ∧ AllBare s'.gens) s₁) :
    WalkO q loose XP YP l.row.toRowW d [] (fun f vs => PySem.call f vs) := by
  intro w s₀ s₁ mg mb G Y fa o pm cd doc dV kV ho hd hcd hD hmg hg args vals as hpre hlay hrd hwl hlo
  obtain rfl : dV = .none := Dflts.none hD hdf
  obtain rfl : kV = .none := Dflts.noKw hD
  obtain ⟨a, vs, ns, rfl, rfl, hobj, hints, hlen⟩ := script_of hn hpre hwl
  refine enter_call (codeAny_mono (call w s₀ s₁ mg mb fa o pm cd doc a vs ns G Y ho (fd_plain hd) hcd hmg hobj hints hlen hg) fun r s' hq => ?_)
  obtain ⟨rfl, h2, h3, h4⟩ := hq
  exact ⟨.inl ⟨.bool true, .bool true, [], rfl, fun _ => rfl, .bool true, post_true l _, fun _ => ⟨List.Pairwise.nil, fun _ hm => (nomatch hm)⟩⟩, h2, h3, h4⟩
section
variable {prog : Program} {w : World} {A : Around} {E : Value → Shared → Prop} {s : Shared} {K : Frag}
end
end Att
namespace L2
open PySem PySem.Spec PyProof.Rows
theorem vals_ints : ∀ {vs : List Value} {ns : List Int}, IntsAre vs ns → Vals (ns.map V.int) vs
  | _, _, .nil => .nil
  | _, _, .cons n t h => .cons ⟨t, rfl⟩ (vals_ints h)
def Only (H : Hp) : Prop := ∀ b, H b = none ∨ ∃ o xs, H b = some (.frz o (.lst xs))
theorem law_call {P : Program} {w : World} {K : PySem.W.Frag} {mg mb : Str → Option Value} {CX : CXT} {k : Nat} {fa a : Addr} {fd : FuncData} {x : Str} {sp : Sp} {s₁ : Shared} {vs : List Value} {ns : List Int}
    (KX : K.In s₁.heap) (hns : s₁.heap.Ns mainGlobals mg) (hb : s₁.heap.Ns builtinsNs mb) (hbb : ∀ x : Str, x ≠ "__name__" → mb x = bootBuiltins x) (hlim : s₁.heap.NoLimit) (hg : s₁.gens = #[])
    (ha : s₁.heap.get? a = some { cls := .type "list", data := .seq vs.toArray }) (hi : IntsAre vs ns) (hl : ns.length ≤ sizeLine) (hr : Room k callerA)
    (F : ∀ base : Heap, K.In base → base.Ns mainGlobals mg → FnOk P w K mg base CX k fa fd [x] sp) (hbind : ∀ (s : Shared) (u : Value), BindsTo s fd ⟨[u], []⟩ [(x, u)])
    (hsp : ∀ H : Hp, Only H → SqL K H a (ns.map V.int) → sp [.ref a] H (fun v _ => v = .bl true) fun _ _ _ => False)
    (hCX : ∀ H e s', CX [] H s₁ (fun _ _ _ => False) e s' → False) :
    codeAny (model P w) callerA (.call (.ref fa) ⟨[.ref a], []⟩) (fun r s' => r = .ok (.ret (.bool true)) ∧ OldK s₁.heap s'.heap ∧ s'.os = s₁.os ∧ AllBare s'.gens) s₁ := by
  have rv := vals_ints hi
  have lenV := hi.length
  -- from an abstract heap in which nothing but the script may be tracked
  have core : ∀ H : Hp, Only H → SqL K H a (ns.map V.int) → HOk P w H s₁.heap → (∀ b, H b ≠ none → b = a) → (H a ≠ none → K.lookup a = none) →
      codeAny (model P w) callerA (.call (.ref fa) ⟨[.ref a], []⟩) (fun r s' => r = .ok (.ret (.bool true)) ∧ OldK s₁.heap s'.heap ∧ s'.os = s₁.os ∧ AllBare s'.gens) s₁ := by
    intro H hO hS hok hA hK
    have base_of : ∀ {b : Addr} {o : Obj}, s₁.heap.get? b = some o → H b = none → (hidT s₁.heap H).get? b = some o := fun e n => hidT_get e n
    have noA : ∀ {b : Addr} {o : Obj} {es : Array DictEntry} {ep : Nat}, s₁.heap.get? b = some o → o.data = .dict es ep → H b = none := fun {b o es ep} e d => by
      cases q : H b with
      | none => rfl
      | some u =>
        have e' : b = a := hA b (by rw [q]; simp)
        subst e'
        rw [ha] at e; cases e
        have d' : Data.seq vs.toArray _ = Data.dict es ep := d
        cases d'
    have nsK : ∀ {b : Addr} {m : Str → Option Value}, s₁.heap.Ns b m → (hidT s₁.heap H).Ns b m := fun {b m} ⟨o, es, ep, e, d, r⟩ => ⟨o, es, ep, base_of e (noA e d), d, r⟩
    have hKb : K.In (hidT s₁.heap H) := fun b o e => base_of (KX b o e) (by
      cases q : H b with
      | none => rfl
      | some u =>
        have e' : b = a := hA b (by rw [q]; simp)
        subst e'
        rw [hK (by rw [q]; simp)] at e; cases e)
    have hM : Mod K mg (hidT s₁.heap H) := ⟨hKb, nsK hns, ⟨mb, nsK hb, hbb⟩, let ⟨mc, h1, h2⟩ := hlim; ⟨mc, nsK h1, h2⟩⟩
    have e0 : Env0 P w K mg (hidT s₁.heap H) callerA [] s₁ H := ⟨rfl, hM, fun b o e => of_hidT e, Nat.le_of_eq (hidT_size _ _), trivial, fun b hb => absurd (show b ∈ ([] : List Addr) from hb) (by simp), hok, .of_eq hg⟩
    refine codeAny_mono ((F _ hKb (nsK hns)).run callerA [] s₁ H ⟨[.ref a], []⟩ [.ref a] [.ref a] _ _ hr e0 (hbind s₁ (.ref a)) (.cons rfl .nil) (hsp H hO hS)) fun r s' h => ?_
    cases r with
    | error e => exact (hCX H e s' h).elim
    | ok fl =>
      cases fl with
      | next => exact False.elim h
      | brk => exact False.elim h
      | cont => exact False.elim h
      | ret u =>
        obtain ⟨v, H', os, bare, un, hok', r', q⟩ := h
        have q' : v = .bl true := q
        subst q'
        obtain rfl : u = Value.bool true := r'
        refine ⟨rfl, OldK.of_keep fun b o e => ?_, os, bare⟩
        cases q : H b with
        | none => exact un.keep b o e q (by intro z; exact absurd (show b ∈ ([] : List Addr) from z) (by simp)) (by simp)
        | some u =>
          rcases hO b with z | ⟨ob, xs, z⟩
          · rw [q] at z; cases z
          · have z2 := un.frzs b ob _ z
            obtain ⟨e1, _⟩ := hok b _ z
            obtain ⟨e2, _⟩ := hok' b _ z2
            rw [e] at e1; cases e1
            exact e2
  cases hk : K.lookup a with
  | some o =>
    -- the script is one of the module's own objects
    have e := KX a o hk
    rw [ha] at e
    cases e
    refine core (fun _ => none) (fun _ => .inl rfl) (.inr ⟨_, vs.toArray, _, hk, rfl, rfl, rfl, by rw [List.size_toArray, lenV]; exact hl, by simpa using rv⟩) (fun b u z => by have z' : (none : Option HO) = some u := z; cases z') (fun b z => absurd rfl z) fun z => absurd rfl z
  | none =>
    refine core (fun b => if b = a then some (.frz { cls := .type "list", data := .seq vs.toArray } (.lst (ns.map V.int))) else none) (fun b => ?_) (.inl (.inr ⟨{ cls := .type "list", data := .seq vs.toArray }, if_pos rfl⟩)) (fun b u z => ?_) (fun b z => ?_) fun _ => hk
    · by_cases hb : b = a
      · exact .inr ⟨_, _, if_pos hb⟩
      · exact .inl (if_neg hb)
    · by_cases hb : b = a
      · have z' := (if_pos hb).symm.trans z
        cases z'
        subst hb
        exact ⟨ha, by rw [List.length_map]; exact hl, vs, _, rv, ha⟩
      · have z' := (if_neg hb).symm.trans z
        cases z'
    · by_cases hb : b = a
      · exact hb
      · exact absurd (if_neg hb) z
end L2
namespace L2
open PySem PySem.Spec PyProof.Rows
theorem walk_of {l : PySem.W.OpenLaw} {n k : Nat} {q : Program} {loose : List Str} {XP : (Str → Option Value) → Heap → Prop} {YP : World → Heap → Prop} {d : DefRec} {K : Params → PySem.W.Frag} {CX : World → CXT} {sp : World → Sp} {x : Str}
    (hn : l.most = some n) (hn2 : n ≤ sizeLine) (hdf : d.params.defaults = []) (hr : Room k callerA)
    (hY : ∀ (w : World) (h : Heap), YP w h → (K w.params).In h)
    (F : ∀ (w : World) (mg : Str → Option Value) (fa : Addr) (h : Heap), (K w.params).In h → h.Ns mainGlobals mg → mg d.name = some (.ref fa) →
      ∃ fd : FuncData, (∀ (s : Shared) (u : Value), BindsTo s fd ⟨[u], []⟩ [(x, u)]) ∧
        ∀ base : Heap, (K w.params).In base → base.Ns mainGlobals mg → FnOk l.prog w (K w.params) mg base (CX w) k fa fd [x] (sp w))
    (hsp : ∀ (w : World) (H : Hp) (a : Addr) (ns : List Int), ns.length ≤ n → Only H → SqL (K w.params) H a (ns.map V.int) → sp w [.ref a] H (fun v _ => v = .bl true) fun _ _ _ => False)
    (hCX : ∀ (w : World) (H : Hp) (s : Shared) (e : Value) (s' : Shared), CX w [] H s (fun _ _ _ => False) e s' → False) :
    PySem.W.WalkO q loose XP YP l.row.toRowW d [] (fun f vs => PySem.call f vs) := by
  refine Att.attach_call hn hdf fun w s₀ s₁ mg mb fa o pm cd doc a vs ns G Y ho hd hcd hmg hobj hints hlen hg => ?_
  have KX := hY w _ Y
  obtain ⟨fd, hb, hF⟩ := F w mg fa _ KX G.T.g hmg
  exact law_call KX G.T.g G.T.b G.T.builtins G.T.nolimit hg hobj hints (Nat.le_trans hlen hn2) hr hF hb (fun H hO hS => hsp w H a ns hlen hO hS) fun H e s' => hCX w H s₁ e s'
end L2
namespace L2
open PySem PySem.Spec PyProof.Rows
def defArgs (s : Stmt) : Arguments := match s with
  | .FunctionDef _ a _ _ _ _ _ _ _ _ => a
  | _ => { posonlyargs := [], args := [], vararg := none, kwonlyargs := [], kw_defaults := [], kwarg := none, defaults := [] }
def defBody (s : Stmt) : List Stmt := match s with
  | .FunctionDef _ _ b _ _ _ _ _ _ _ => b
  | _ => []
def defScope (s : Stmt) : Scope := match s with
  | .FunctionDef _ _ _ _ _ _ sc _ _ _ => sc
  | _ => { kind := .function, names := [], isGenerator := false, isCoroutine := false }
abbrev E0 : XK := fun _ _ _ => False
structure Fun (K : PySem.W.Frag) (x qual : Str) (st : Stmt) (f : Addr) (fd : FuncData) : Prop where
  ex : ∃ (oc : Value) (od : Option Addr) (kV doc pm : Value) (an : Option Addr) (cdv ct : Value) (osl : Array (Option Value)),
    fd = PySem.W.fnOf x qual (defArgs st) (defBody st) (defScope st) .none kV doc pm an cdv ct ∧ K.lookup f = some ⟨oc, od, .func fd, osl⟩ ∧ PySem.W.codeIn K cdv qual = true
  kp : PySem.W.keepIn K (.ref f) = true
section
variable {P : Program} {w : World} {K : PySem.W.Frag} {mg : Str → Option Value} {base : Heap}
theorem Fun.binds {x qual : Str} {st : Stmt} {f : Addr} {fd : FuncData} {ps : List Str} (F : Fun K x qual st f fd)
    (h : ∀ (kV doc pm : Value) (an : Option Addr) (cdv ct : Value) (us : List Value), us.length = ps.length → bindArgs (PySem.W.fnOf x qual (defArgs st) (defBody st) (defScope st) .none kV doc pm an cdv ct) ⟨us, []⟩ = pure (ps.zip us)) : Binds K fd ps [] := by
  obtain ⟨oc, od, kV, doc, pm, an, cdv, ct, osl, rfl, lk, hcd⟩ := F.ex
  exact .all (h kV doc pm an cdv ct)
theorem fun_mk {x qual : Str} {st : Stmt} {f : Addr} {oc : Value} {od an : Option Addr} {osl : Array (Option Value)} {kV doc pm cdv ct : Value} (l : K.lookup f = some ⟨oc, od, .func (PySem.W.fnOf x qual (defArgs st) (defBody st) (defScope st) .none kV doc pm an cdv ct), osl⟩)
    (c : PySem.W.codeIn K cdv qual = true) (k : PySem.W.keepIn K (.ref f) = true) : Fun K x qual st f (PySem.W.fnOf x qual (defArgs st) (defBody st) (defScope st) .none kV doc pm an cdv ct) := ⟨⟨oc, od, kV, doc, pm, an, cdv, ct, osl, rfl, l, c⟩, k⟩
end
section
variable {X : Cx}
end
theorem iteF {A B : Prop} (h : B) : if false = true then A else B := by
  rw [if_neg Bool.false_ne_true]
  exact h
theorem iteT {A B : Prop} (h : A) : if true = true then A else B := by
  rw [if_pos rfl]
  exact h
def Same (H H' : Hp) : Prop := ∀ b o, H b = some o → H' b = some o
theorem Same.refl (H : Hp) : Same H H := fun _ _ h => h
theorem Same.trans {H H1 H2 : Hp} (a : Same H H1) (b : Same H1 H2) : Same H H2 := fun c o h => b c o (a c o h)
theorem Same.free {H H' : Hp} (e : Same H H') {l : Addr} (h : H' l = Option.none) : H l = Option.none := by
  cases q : H l with
  | none => rfl
  | some o =>
    rw [e l o q] at h
    cases h
theorem Same.seq {K : PySem.W.Frag} {H H' : Hp} {a : Addr} {xs : List V} (e : Same H H') (h : SqL K H a xs) : SqL K H' a xs := by
  rcases h with (h | ⟨o, h⟩) | h
  · exact .inl (.inl (e _ _ h))
  · exact .inl (.inr ⟨o, e _ _ h⟩)
  · exact .inr h
end L2


namespace Wy
open PySem PySem.Spec PyProof.Rows L2
inductive D where
  | non | bl (b : Bool) | int (i : Int) | str (x : Str) | tup (xs : List D) | lst (xs : List D)
mutual
def Den (K : PySem.W.Frag) (G : Hp) : D → V → Prop
  | .non, v => v = .non
  | .bl b, v => v = .bl b
  | .int i, v => v = .int i
  | .str x, v => v = .str x
  | .tup ds, v => ∃ a vs, v = .ref a ∧ SqT K G a vs ∧ DenL K G ds vs
  | .lst ds, v => ∃ a vs, v = .ref a ∧ SqL K G a vs ∧ DenL K G ds vs
def DenL (K : PySem.W.Frag) (G : Hp) : List D → List V → Prop
  | [], vs => vs = []
  | d :: ds, vs => ∃ v r, vs = v :: r ∧ Den K G d v ∧ DenL K G ds r
end
theorem Same.seqT {K : PySem.W.Frag} {H H' : Hp} {a : Addr} {xs : List V} (e : Same H H') (h : SqT K H a xs) : SqT K H' a xs := by
  rcases h with (h | ⟨o, h⟩) | h
  · exact .inl (.inl (e _ _ h))
  · exact .inl (.inr ⟨o, e _ _ h⟩)
  · exact .inr h
section
variable {K : PySem.W.Frag} {G G' : Hp}
mutual
theorem Den.mono (e : Same G G') : (d : D) → (v : V) → Den K G d v → Den K G' d v
  | .non, _, h => h
  | .bl _, _, h => h
  | .int _, _, h => h
  | .str _, _, h => h
  | .tup ds, _, h => by
    unfold Den at h ⊢
    obtain ⟨a, vs, e1, s, l⟩ := h
    exact ⟨a, vs, e1, Same.seqT e s, DenL.mono e ds vs l⟩
  | .lst ds, _, h => by
    unfold Den at h ⊢
    obtain ⟨a, vs, e1, s, l⟩ := h
    exact ⟨a, vs, e1, e.seq s, DenL.mono e ds vs l⟩
theorem DenL.mono (e : Same G G') : (ds : List D) → (vs : List V) → DenL K G ds vs → DenL K G' ds vs
  | [], _, h => by unfold DenL at h ⊢; exact h
  | d :: ds, vs, h => by
    unfold DenL at h ⊢
    obtain ⟨v, r, e1, h1, h2⟩ := h
    exact ⟨v, r, e1, Den.mono e d v h1, DenL.mono e ds r h2⟩
end
theorem Den.up {d : D} {v : V} (h : Den K G d v) (e : Same G G') : Den K G' d v := Den.mono e d v h
theorem DenL.up {ds : List D} {vs : List V} (h : DenL K G ds vs) (e : Same G G') : DenL K G' ds vs := DenL.mono e ds vs h
theorem denL_nil {vs : List V} : DenL K G [] vs ↔ vs = [] := by unfold DenL; exact Iff.rfl
theorem denL_cons {d : D} {ds : List D} {vs : List V} : DenL K G (d :: ds) vs ↔ ∃ v r, vs = v :: r ∧ Den K G d v ∧ DenL K G ds r := by
  constructor
  · intro h; unfold DenL at h; exact h
  · intro h; unfold DenL; exact h
theorem den_tup {ds : List D} {v : V} : Den K G (.tup ds) v ↔ ∃ a vs, v = .ref a ∧ SqT K G a vs ∧ DenL K G ds vs := by
  constructor
  · intro h; unfold Den at h; exact h
  · intro h; unfold Den; exact h
theorem den_lst {ds : List D} {v : V} : Den K G (.lst ds) v ↔ ∃ a vs, v = .ref a ∧ SqL K G a vs ∧ DenL K G ds vs := by
  constructor
  · intro h; unfold Den at h; exact h
  · intro h; unfold Den; exact h
theorem DenL.one {d : D} {v : V} (h : Den K G d v) : DenL K G [d] [v] := denL_cons.mpr ⟨v, [], rfl, h, denL_nil.mpr rfl⟩
theorem DenL.length : ∀ {ds : List D} {vs : List V}, DenL K G ds vs → ds.length = vs.length
  | [], vs, h => by rw [denL_nil.mp h]; rfl
  | d :: ds, vs, h => by
    obtain ⟨v, r, rfl, _, h2⟩ := denL_cons.mp h
    simp [DenL.length h2]
theorem DenL.get : ∀ {ds : List D} {vs : List V} {i : Nat} {d : D}, DenL K G ds vs → ds[i]? = some d → ∃ v, vs[i]? = some v ∧ Den K G d v
  | [], _, _, _, _, e => by simp at e
  | d :: ds, vs, 0, x, h, e => by
    obtain ⟨v, r, rfl, h1, _⟩ := denL_cons.mp h
    simp at e; subst e
    exact ⟨v, rfl, h1⟩
  | d :: ds, vs, i + 1, x, h, e => by
    obtain ⟨v, r, rfl, _, h2⟩ := denL_cons.mp h
    obtain ⟨u, e1, e2⟩ := DenL.get (i := i) (d := x) h2 (by simpa using e)
    exact ⟨u, by simpa using e1, e2⟩
theorem DenL.append : ∀ {ds es : List D} {vs us : List V}, DenL K G ds vs → DenL K G es us → DenL K G (ds ++ es) (vs ++ us)
  | [], _, vs, _, h, h' => by rw [denL_nil.mp h]; exact h'
  | d :: ds, es, vs, us, h, h' => by
    obtain ⟨v, r, rfl, h1, h2⟩ := denL_cons.mp h
    exact denL_cons.mpr ⟨v, r ++ us, rfl, h1, DenL.append h2 h'⟩
theorem DenL.take : ∀ {ds : List D} {vs : List V} (n : Nat), DenL K G ds vs → DenL K G (ds.take n) (vs.take n)
  | _, _, 0, _ => by rw [List.take_zero, List.take_zero]; exact denL_nil.mpr rfl
  | [], vs, n + 1, h => by rw [denL_nil.mp h]; exact denL_nil.mpr (by simp)
  | d :: ds, vs, n + 1, h => by
    obtain ⟨v, r, rfl, h1, h2⟩ := denL_cons.mp h
    exact denL_cons.mpr ⟨v, r.take n, rfl, h1, DenL.take n h2⟩
theorem DenL.drop : ∀ {ds : List D} {vs : List V} (n : Nat), DenL K G ds vs → DenL K G (ds.drop n) (vs.drop n)
  | _, _, 0, h => h
  | [], vs, n + 1, h => by rw [denL_nil.mp h]; exact denL_nil.mpr (by simp)
  | d :: ds, vs, n + 1, h => by
    obtain ⟨v, r, rfl, h1, h2⟩ := denL_cons.mp h
    exact DenL.drop n h2
theorem DenL.dropLast {ds : List D} {vs : List V} (h : DenL K G ds vs) : DenL K G ds.dropLast vs.dropLast := by
  rw [List.dropLast_eq_take, List.dropLast_eq_take, h.length]
  exact h.take _
end
structure Ext (H G H' G' : Hp) : Prop where
  gg : Same G G'
  gh : Same G' H'
  hh : Same H H'
  fr : ∀ a, H a ≠ none → G' a = G a
theorem Ext.refl {H G : Hp} (h : Same G H) : Ext H G H G := ⟨Same.refl _, h, Same.refl _, fun _ _ => rfl⟩
theorem some_ne {α : Type} {o : Option α} {x : α} (h : o = some x) : o ≠ none := by rw [h]; exact fun z => nomatch z
theorem Same.ne {H H' : Hp} (e : Same H H') {a : Addr} (h : H a ≠ none) : H' a ≠ none := by
  cases q : H a with
  | none => exact absurd q h
  | some o => exact some_ne (e a o q)
theorem Ext.trans {H G H1 G1 H2 G2 : Hp} (a : Ext H G H1 G1) (b : Ext H1 G1 H2 G2) : Ext H G H2 G2 :=
  ⟨a.gg.trans b.gg, b.gh, a.hh.trans b.hh, fun c h => (b.fr c (Same.ne a.hh h)).trans (a.fr c h)⟩
theorem same_upd {H : Hp} {p : Addr} (h : H p = none) (o : HO) : Same H (upd H p o) := fun b u q => by rw [upd_ne (ne_of_none q h)]; exact q
theorem Ext.alloc {H G : Hp} {p : Addr} (h : Same G H) (hp : H p = none) (o : HO) : Ext H G (upd H p o) (upd G p o) where
  gg := same_upd (h.free hp) o
  gh := fun b u q => by
    by_cases e : b = p
    · subst e; rw [upd_same] at q ⊢; exact q
    · rw [upd_ne e] at q ⊢; exact h b u q
  hh := same_upd hp o
  fr := fun a ha => upd_ne (fun e => ha (by rw [e]; exact hp))
theorem Ext.own {H G : Hp} {p : Addr} (h : Same G H) (hp : H p = none) (o : HO) : Ext H G (upd H p o) G :=
  ⟨Same.refl _, h.trans (same_upd hp o), same_upd hp o, fun _ _ => rfl⟩
theorem Ext.take {H G H' G' : Hp} {p : Addr} {o : HO} (e : Ext H G H' G') (hp : H p = none) (h' : H' p = some o) (g' : G' p = none) : Ext H G H' (upd G' p o) where
  gg := e.gg.trans (same_upd g' o)
  gh := fun b u q => by
    by_cases z : b = p
    · subst z; rw [upd_same] at q; rw [h']; exact q
    · rw [upd_ne z] at q; exact e.gh b u q
  hh := e.hh
  fr := fun a ha => (upd_ne (fun z => ha (by rw [z]; exact hp))).trans (e.fr a ha)
inductive Sl where
  | un | val (d : D) | own (xs : List D) | exc (c : Str) | fn (a : Addr) | par (a : Addr) (xs : List D)
def Sl.mu : Sl → Bool
  | .own _ => true
  | .par _ _ => true
  | _ => false
def Sl.cont : Sl → Option (List D)
  | .own xs => some xs
  | .par _ xs => some xs
  | _ => none
def Sl.put (x : Sl) (ys : List D) : Sl := match x with
  | .own _ => .own ys
  | .par a _ => .par a ys
  | y => y
def ExcIs (a C : Addr) : Heap → Prop := fun h => ∃ o, h.get? a = some o ∧ o.cls = .ref C
def XcIs (K : PySem.W.Frag) (G : Hp) (c : Str) (v : V) : Prop := ∃ a C, v = .ref a ∧ PySem.W.nsIn K mainGlobals c = some (some (.ref C)) ∧ G a = some (.ext (ExcIs a C))
theorem XcIs.up {K : PySem.W.Frag} {G G' : Hp} {c : Str} {v : V} (h : XcIs K G c v) (e : Same G G') : XcIs K G' c v := by
  obtain ⟨a, C, e1, e2, e3⟩ := h
  exact ⟨a, C, e1, e2, e _ _ e3⟩
abbrev Ga := List Sl
def SlOk (K : PySem.W.Frag) (H₀ H G : Hp) : Sl → Option (Option V) → Prop
  | .un, _ => True
  | .val d, o => ∃ v, o = some (some v) ∧ Den K G d v
  | .own xs, o => ∃ a vs, o = some (some (.ref a)) ∧ H a = some (.lst vs) ∧ H₀ a = none ∧ G a = none ∧ DenL K G xs vs
  | .exc c, o => ∃ v, o = some (some v) ∧ XcIs K G c v
  | .fn a, o => o = some (some (.ref a))
  | .par a xs, o => o = some (some (.ref a)) ∧ ∃ vs, H a = some (.lst vs) ∧ H₀ a = none ∧ G a = none ∧ DenL K G xs vs
structure Rep (K : PySem.W.Frag) (H₀ G₀ : Hp) (Γ : Ga) (σ : L2.St) (H G : Hp) : Prop where
  ex : Ext H₀ G₀ H G
  ln : Γ.length = σ.length
  all : ∀ (i : Nat) x, Γ[i]? = some x → SlOk K H₀ H G x σ[i]?
  di : ∀ (i j : Nat) x y a, Γ[i]? = some x → Γ[j]? = some y → x.mu = true → y.mu = true → σ[i]? = some (some (V.ref a)) → σ[j]? = some (some (V.ref a)) → i = j
section
variable {K : PySem.W.Frag} {H₀ G₀ H G H' G' : Hp} {Γ : Ga} {σ : L2.St}
theorem Rep.gh (R : Rep K H₀ G₀ Γ σ H G) : Same G H := R.ex.gh
theorem Rep.vl (R : Rep K H₀ G₀ Γ σ H G) (i : Nat) (d : D) (h : Γ[i]? = some (.val d)) : ∃ v, σ[i]? = some (some v) ∧ Den K G d v := R.all i _ h
theorem Rep.ow (R : Rep K H₀ G₀ Γ σ H G) (i : Nat) (xs : List D) (h : Γ[i]? = some (.own xs)) : ∃ a vs, σ[i]? = some (some (.ref a)) ∧ H a = some (.lst vs) ∧ H₀ a = none ∧ G a = none ∧ DenL K G xs vs := R.all i _ h
theorem Rep.xc (R : Rep K H₀ G₀ Γ σ H G) (i : Nat) (c : Str) (h : Γ[i]? = some (.exc c)) : ∃ v, σ[i]? = some (some v) ∧ XcIs K G c v := R.all i _ h
theorem Rep.mo (R : Rep K H₀ G₀ Γ σ H G) {i : Nat} {x : Sl} {xs : List D} (h : Γ[i]? = some x) (hc : x.cont = some xs) : ∃ a vs, σ[i]? = some (some (.ref a)) ∧ H a = some (.lst vs) ∧ H₀ a = none ∧ G a = none ∧ DenL K G xs vs := by
  have q := R.all i x h
  cases x <;> first | cases hc | skip
  · exact q
  · obtain ⟨q1, vs, q2⟩ := q
    exact ⟨_, vs, q1, q2⟩
theorem Sl.mu_of {x : Sl} {xs : List D} (h : x.cont = some xs) : x.mu = true := by cases x <;> first | rfl | cases h
theorem Sl.cont_of {x : Sl} (h : x.mu = true) : ∃ xs, x.cont = some xs := by cases x <;> first | exact ⟨_, rfl⟩ | cases h
theorem SlOk.after {x : Sl} {o : Option (Option V)} (h : SlOk K H₀ H G x o) (e : Ext H G H' G') : SlOk K H₀ H' G' x o := by
  cases x with
  | un => trivial
  | val d => obtain ⟨v, e1, e2⟩ := h; exact ⟨v, e1, e2.up e.gg⟩
  | own xs =>
    obtain ⟨a, vs, e1, e2, e3, e4, e5⟩ := h
    exact ⟨a, vs, e1, e.hh _ _ e2, e3, (e.fr a (some_ne e2)).trans e4, e5.up e.gg⟩
  | exc c => obtain ⟨v, e1, e2⟩ := h; exact ⟨v, e1, e2.up e.gg⟩
  | fn a => exact h
  | par a xs =>
    obtain ⟨e1, vs, e2, e3, e4, e5⟩ := h
    exact ⟨e1, vs, e.hh _ _ e2, e3, (e.fr a (some_ne e2)).trans e4, e5.up e.gg⟩
theorem Rep.after (R : Rep K H₀ G₀ Γ σ H G) (e : Ext H G H' G') : Rep K H₀ G₀ Γ σ H' G' := ⟨R.ex.trans e, R.ln, fun i x h => (R.all i x h).after e, R.di⟩
theorem get_set_self {α : Type} {l : List α} {i : Nat} {x y : α} (h : (l.set i x)[i]? = some y) : y = x := by
  rw [List.getElem?_set] at h
  simp at h
  exact h.2.symm
theorem set_at {α : Type} {l : List α} {i j : Nat} {x y : α} (h : (l.set i x)[j]? = some y) : (j = i ∧ y = x ∧ i < l.length) ∨ (i ≠ j ∧ l[j]? = some y) := by
  by_cases e : i = j
  · subst e
    have hi := (List.getElem?_eq_some_iff.mp h).1
    rw [List.length_set] at hi
    exact .inl ⟨rfl, get_set_self h, hi⟩
  · rw [List.getElem?_set_ne e] at h
    exact .inr ⟨e, h⟩
theorem Rep.putS (R : Rep K H₀ G₀ Γ σ H G) (i : Nat) {x : Sl} {o : Option V} (h : SlOk K H₀ H G x (some o))
    (nw : x.mu = true → ∀ (j : Nat) y a, j ≠ i → Γ[j]? = some y → y.mu = true → o = some (V.ref a) → σ[j]? ≠ some (some (V.ref a))) : Rep K H₀ G₀ (Γ.set i x) (σ.set i o) H G where
  ex := R.ex
  ln := by rw [List.length_set, List.length_set]; exact R.ln
  all := fun j y q => by
    rcases set_at q with ⟨rfl, rfl, hi⟩ | ⟨ne, q⟩
    · rw [List.getElem?_set_self (by rw [← R.ln]; exact hi)]; exact h
    · rw [List.getElem?_set_ne ne]; exact R.all j y q
  di := fun j k y z a q1 q2 m1 m2 s1 s2 => by
    rcases set_at q1 with ⟨e1, e2, hi⟩ | ⟨n1, r1⟩
    · rcases set_at q2 with ⟨e3, e4, _⟩ | ⟨n2, r2⟩
      · exact e1.trans e3.symm
      · subst e1 e2
        rw [List.getElem?_set_ne n2] at s2
        rw [List.getElem?_set_self (by rw [← R.ln]; exact hi)] at s1
        exact absurd s2 (nw m1 k z a (Ne.symm n2) r2 m2 (Option.some.inj s1))
    · rw [List.getElem?_set_ne n1] at s1
      rcases set_at q2 with ⟨e3, e4, hi⟩ | ⟨n2, r2⟩
      · subst e3 e4
        rw [List.getElem?_set_self (by rw [← R.ln]; exact hi)] at s2
        exact absurd s1 (nw m2 j y a (Ne.symm n1) r1 m1 (Option.some.inj s2))
      · rw [List.getElem?_set_ne n2] at s2
        exact R.di j k y z a r1 r2 m1 m2 s1 s2
theorem Rep.setV (R : Rep K H₀ G₀ Γ σ H G) (i : Nat) {d : D} {v : V} (h : Den K G d v) : Rep K H₀ G₀ (Γ.set i (.val d)) (σ.set i (some v)) H G :=
  R.putS i (x := .val d) ⟨v, rfl, h⟩ fun z => nomatch z
theorem Rep.setO (R : Rep K H₀ G₀ Γ σ H G) (i : Nat) {xs : List D} {a : Addr} {vs : List V} (h : H a = some (.lst vs)) (h0 : H₀ a = none) (hg : G a = none) (hd : DenL K G xs vs)
    (nw : ∀ (j : Nat) y, j ≠ i → Γ[j]? = some y → y.mu = true → σ[j]? ≠ some (some (.ref a))) : Rep K H₀ G₀ (Γ.set i (.own xs)) (σ.set i (some (.ref a))) H G :=
  R.putS i (x := .own xs) ⟨a, vs, rfl, h, h0, hg, hd⟩ fun _ j y b hj hy hm e => by cases e; exact nw j y hj hy hm
theorem Rep.setX (R : Rep K H₀ G₀ Γ σ H G) (i : Nat) {c : Str} {v : V} (h : XcIs K G c v) : Rep K H₀ G₀ (Γ.set i (.exc c)) (σ.set i (some v)) H G :=
  R.putS i (x := .exc c) ⟨v, rfl, h⟩ fun z => nomatch z
theorem Rep.setU (R : Rep K H₀ G₀ Γ σ H G) (i : Nat) : Rep K H₀ G₀ (Γ.set i .un) (σ.set i none) H G := R.putS i (x := .un) trivial fun z => nomatch z
theorem Rep.mutG (R : Rep K H₀ G₀ Γ σ H G) {i : Nat} {x : Sl} {xs ys : List D} {a : Addr} {us : List V} (hi : Γ[i]? = some x) (hx : x.cont = some xs) (hs : σ[i]? = some (some (.ref a))) (hd : DenL K G ys us) :
    Rep K H₀ G₀ (Γ.set i (x.put ys)) σ (upd H a (.lst us)) G := by
  obtain ⟨a', vs, e1, e2, e3, e4, e5⟩ := R.mo hi hx
  rw [hs] at e1
  cases e1
  have gne : ∀ b o, G b = some o → b ≠ a := fun b o q z => by rw [z, e4] at q; cases q
  have hne : ∀ b o, H₀ b = some o → b ≠ a := fun b o q z => by rw [z, e3] at q; cases q
  have pm : (x.put ys).mu = true := by cases x <;> first | rfl | cases hx
  refine ⟨⟨R.ex.gg, fun b o q => ?_, fun b o q => ?_, R.ex.fr⟩, by rw [List.length_set]; exact R.ln, fun j y q => ?_, fun j k y z b q1 q2 m1 m2 s1 s2 => ?_⟩
  · rw [upd_ne (gne b o q)]; exact R.ex.gh b o q
  · rw [upd_ne (hne b o q)]; exact R.ex.hh b o q
  · rcases set_at q with ⟨rfl, rfl, _⟩ | ⟨ne, q⟩
    · cases x with
      | own zs => exact ⟨a, us, hs, upd_same, e3, e4, hd⟩
      | par b zs =>
        have := (R.all j _ hi).1
        rw [hs] at this
        cases this
        exact ⟨hs, us, upd_same, e3, e4, hd⟩
      | _ => cases hx
    · have old := R.all j y q
      have nb : ∀ b, y.mu = true → σ[j]? = some (some (V.ref b)) → b ≠ a := fun b hm hb z => by
        subst z
        exact ne (R.di i j _ _ b hi q (Sl.mu_of hx) hm hs hb)
      cases y with
      | un => trivial
      | val d => exact old
      | exc c => exact old
      | fn c => exact old
      | own zs =>
        obtain ⟨b, ws, f1, f2, f3, f4, f5⟩ := old
        exact ⟨b, ws, f1, by rw [upd_ne (nb b rfl f1)]; exact f2, f3, f4, f5⟩
      | par b zs =>
        obtain ⟨f1, ws, f2, f3, f4, f5⟩ := old
        exact ⟨f1, ws, by rw [upd_ne (nb b rfl f1)]; exact f2, f3, f4, f5⟩
  · have o1 : ∀ (j : Nat) y, (Γ.set i (x.put ys))[j]? = some y → y.mu = true → ∃ y', Γ[j]? = some y' ∧ y'.mu = true := fun j y q hm => by
      rcases set_at q with ⟨rfl, rfl, _⟩ | ⟨ne, q⟩
      · exact ⟨_, hi, Sl.mu_of hx⟩
      · exact ⟨_, q, hm⟩
    obtain ⟨z1, r1, r1'⟩ := o1 j y q1 m1
    obtain ⟨z2, r2, r2'⟩ := o1 k z q2 m2
    exact R.di j k _ _ b r1 r2 r1' r2' s1 s2
theorem Rep.mut (R : Rep K H₀ G₀ Γ σ H G) {i : Nat} {xs ys : List D} {a : Addr} {us : List V} (hi : Γ[i]? = some (.own xs)) (hs : σ[i]? = some (some (.ref a))) (hd : DenL K G ys us) :
    Rep K H₀ G₀ (Γ.set i (.own ys)) σ (upd H a (.lst us)) G := R.mutG hi rfl hs hd
theorem Rep.weak (R : Rep K H₀ G₀ Γ σ H G) {Γ' : Ga} (hl : Γ'.length = Γ.length) (h : ∀ (i : Nat) x, Γ'[i]? = some x → x = .un ∨ Γ[i]? = some x) : Rep K H₀ G₀ Γ' σ H G where
  ex := R.ex
  ln := hl.trans R.ln
  all := fun i x q => by
    rcases h i _ q with z | z
    · subst z; trivial
    · exact R.all i x z
  di := fun i j x y a q1 q2 m1 m2 => by
    rcases h i _ q1 with z | z
    · subst z; cases m1
    · rcases h j _ q2 with z' | z'
      · subst z'; cases m2
      · exact R.di i j x y a z z' m1 m2
end
end Wy


namespace Wy
open PySem PySem.Spec PyProof.Rows L2
theorem nr {α : Type} {a b : α} (h : a = b) : a = b := h
inductive R (α : Type) where
  | ok (a : α) | ex (c : Str) | no
namespace R
variable {α β : Type}
def bind (x : R α) (f : α → R β) : R β := match x with
  | .ok a => f a
  | .ex c => .ex c
  | .no => .no
def want (x : R α) (E : Str → Prop) (P : α → Prop) : Prop := match x with
  | .ok a => P a
  | .ex c => E c
  | .no => False
def ofO (o : Option α) : R α := match o with
  | some a => .ok a
  | none => .no
@[simp] theorem bind_ok (a : α) (f : α → R β) : (R.ok a).bind f = f a := nr rfl
@[simp] theorem bind_ex (c : Str) (f : α → R β) : (R.ex c : R α).bind f = .ex c := nr rfl
@[simp] theorem ofO_some (a : α) : ofO (some a) = .ok a := nr rfl
theorem _root_.Wy.wImp {x : R α} {E E' : Str → Prop} {P P' : α → Prop} (w : x.want E P) (he : ∀ c, E c → E' c) (h : ∀ a, P a → P' a) : x.want E' P' := by
  cases x with
  | ok a => exact h a w
  | ex c => exact he c w
  | no => exact w
theorem _root_.Wy.wStep {x : R α} {f : α → R β} {E E' : Str → Prop} {P : β → Prop} {P' : α → Prop} (w : (x.bind f).want E P) (he : ∀ c, E c → E' c) (h : ∀ a, (f a).want E P → P' a) : x.want E' P' := by
  cases x with
  | ok a => exact h a w
  | ex c => exact he c w
  | no => exact w
theorem _root_.Wy.wOfO {o : Option α} {E : Str → Prop} {P : α → Prop} (w : (ofO o).want E P) : ∃ a, o = some a ∧ P a := by
  cases o with
  | some a => exact ⟨a, rfl, w⟩
  | none => exact w.elim
theorem _root_.Wy.wOfOb {o : Option α} {f : α → R β} {E : Str → Prop} {P : β → Prop} (w : ((ofO o).bind f).want E P) : ∃ a, o = some a ∧ (f a).want E P := by
  cases o with
  | some a => exact ⟨a, rfl, w⟩
  | none => exact w.elim
end R
def R.calm {α : Type} (x : R α) : R α := match x with
  | .ex _ => .no
  | r => r
theorem calm_ok {α : Type} {x : R α} {a : α} (h : x.calm = .ok a) : x = .ok a := by
  cases x with
  | ok b => exact h
  | ex c => cases h
  | no => cases h
@[simp] theorem calm_of_ok {α : Type} (a : α) : (R.ok a).calm = .ok a := nr rfl
section
variable {K : PySem.W.Frag} {G : Hp}
theorem den_non : Den K G .non .non := by unfold Den; rfl
theorem den_bl {b : Bool} : Den K G (.bl b) (.bl b) := by unfold Den; rfl
theorem den_int {i : Int} : Den K G (.int i) (.int i) := by unfold Den; rfl
theorem den_str {x : Str} : Den K G (.str x) (.str x) := by unfold Den; rfl
theorem den_nonE {v : V} (h : Den K G .non v) : v = .non := by unfold Den at h; exact h
theorem den_blE {b : Bool} {v : V} (h : Den K G (.bl b) v) : v = .bl b := by unfold Den at h; exact h
theorem den_intE {i : Int} {v : V} (h : Den K G (.int i) v) : v = .int i := by unfold Den at h; exact h
theorem den_strE {x : Str} {v : V} (h : Den K G (.str x) v) : v = .str x := by unfold Den at h; exact h
end
abbrev XP := Str → L2.St → Hp → Hp → Prop
abbrev XP0 : XP := fun _ _ _ _ => False
def exAt (W : XP) (σ : L2.St) (H G : Hp) : Str → Prop := fun c => ∀ H' G', Ext H G H' G' → W c σ H' G'
theorem exAt.up {W : XP} {σ : L2.St} {H G H1 G1 : Hp} {c : Str} (h : exAt W σ H G c) (e : Ext H G H1 G1) : exAt W σ H1 G1 c := fun H' G' e' => h H' G' (e.trans e')
def Tells (K : PySem.W.Frag) (W : XP) (t : TE) (f : Ga → R D) : Prop :=
  ∀ (H₀ G₀ : Hp) (Γ : Ga) (σ : L2.St) (H G : Hp), Rep K H₀ G₀ Γ σ H G → ∀ Q : VK, (f Γ).want (exAt W σ H G) (fun d => ∀ v H' G', Ext H G H' G' → Den K G' d v → Q v H') → t σ H Q
def EvD (X : Cx) (W : XP) (e : Expr) (f : Ga → R D) : Prop := ∃ t, PE X e t ∧ Tells X.K W t f
def TellsL (K : PySem.W.Frag) (W : XP) (t : TA) (f : Ga → R (List D)) : Prop :=
  ∀ (H₀ G₀ : Hp) (Γ : Ga) (σ : L2.St) (H G : Hp), Rep K H₀ G₀ Γ σ H G → ∀ Q : List V → Hp → Prop, (f Γ).want (exAt W σ H G) (fun ds => ∀ vs H' G', Ext H G H' G' → DenL K G' ds vs → Q vs H') → t σ H Q
def AvD (X : Cx) (W : XP) (es : List Expr) (f : Ga → R (List D)) : Prop := ∃ t, PA X es t ∧ (∀ Γ ds, f Γ = .ok ds → ds.length = es.length) ∧ TellsL X.K W t f
def TellsT (K : PySem.W.Frag) (W : XP) (t : TT) (f : Ga → R Bool) : Prop :=
  ∀ (H₀ G₀ : Hp) (Γ : Ga) (σ : L2.St) (H G : Hp), Rep K H₀ G₀ Γ σ H G → ∀ Q : Bool → Hp → Prop, (f Γ).want (exAt W σ H G) (fun b => ∀ H' G', Ext H G H' G' → Q b H') → t σ H Q
def TvD (X : Cx) (W : XP) (e : Expr) (f : Ga → R Bool) : Prop := ∃ t, PT X e t ∧ TellsT X.K W t f
def WvD (X : Cx) (W : XP) (e : Expr) (f : Ga → R Bool) : Prop := ∃ t, PW X e t ∧ TellsT X.K W t f
def SqP (K : PySem.W.Frag) (H G : Hp) (b : Bool) (a : Addr) (vs : List V) : Prop := match b with
  | true => SqT K G a vs
  | false => SqL K H a vs
theorem SqP.up {K : PySem.W.Frag} {H G H' G' : Hp} {b : Bool} {a : Addr} {vs : List V} (h : SqP K H G b a vs) (e : Ext H G H' G') : SqP K H' G' b a vs := by
  cases b with
  | true => exact Same.seqT e.gg h
  | false => exact e.hh.seq h
theorem SqP.or {K : PySem.W.Frag} {H G : Hp} {b : Bool} {a : Addr} {vs : List V} (h : SqP K H G b a vs) (g : Same G H) : SqL K H a vs ∨ SqT K H a vs := by
  cases b with
  | true => exact .inr (Same.seqT g h)
  | false => exact .inl h
def TellsS (K : PySem.W.Frag) (W : XP) (t : TE) (f : Ga → R (Bool × List D)) : Prop :=
  ∀ (H₀ G₀ : Hp) (Γ : Ga) (σ : L2.St) (H G : Hp), Rep K H₀ G₀ Γ σ H G → ∀ Q : VK, (f Γ).want (exAt W σ H G) (fun p => ∀ a vs H' G', Ext H G H' G' → SqP K H' G' p.1 a vs → DenL K G' p.2 vs → Q (.ref a) H') → t σ H Q
def SqD (X : Cx) (W : XP) (e : Expr) (f : Ga → R (Bool × List D)) : Prop := ∃ t, PE X e t ∧ TellsS X.K W t f
def TellsO (K : PySem.W.Frag) (W : XP) (t : TE) (f : Ga → R (List D)) : Prop :=
  ∀ (H₀ G₀ : Hp) (Γ : Ga) (σ : L2.St) (H G : Hp), Rep K H₀ G₀ Γ σ H G → ∀ Q : VK, (f Γ).want (exAt W σ H G) (fun ds => ∀ p vs H' G', Ext H G H' G' → H p = none → H' p = some (.lst vs) → G' p = none → DenL K G' ds vs → Q (.ref p) H') → t σ H Q
def OwD (X : Cx) (W : XP) (e : Expr) (f : Ga → R (List D)) : Prop := ∃ t, PE X e t ∧ TellsO X.K W t f
section
variable {X : Cx} {W : XP} {a b c e : Expr} {es rest : List Expr} {fa fb fc f : Ga → R D} {fl : Ga → R (List D)} {pos : Pos}
def eC (d : D) : Ga → R D := fun _ => .ok d
theorem eC_tells {v : V} {d : D} (h : ∀ G, Den X.K G d v) : Tells X.K W (tC v) (eC d) := fun _ _ _ _ H G R Q w => w _ H G (.refl R.gh) (h G)
theorem ev_int {i j} : EvD X W (.Constant (.int i) j pos) (eC (.int i)) := ⟨_, pe_int, eC_tells fun _ => den_int⟩
theorem ev_bl {i j} : EvD X W (.Constant (.bool i) j pos) (eC (.bl i)) := ⟨_, pe_bl, eC_tells fun _ => den_bl⟩
theorem ev_non {j} : EvD X W (.Constant .none j pos) (eC .non) := ⟨_, pe_non, eC_tells fun _ => den_non⟩
theorem ev_str {i j} : EvD X W (.Constant (.str i) j pos) (eC (.str i)) := ⟨_, pe_str, eC_tells fun _ => den_str⟩
def eV (i : Nat) : Ga → R D := fun Γ => match Γ[i]? with
  | some (.val d) => .ok d
  | _ => .no
theorem ev_var (i : Nat) {x : Str} (hN : X.N[i]? = some x := by rfl) (hv : Vis X.env.scope x := by first | exact Or.inl rfl | exact Or.inr (Or.inl rfl) | exact Or.inr (Or.inr rfl)) (hd : (x == ("__debug__" : Str)) = false := by decide)
    (hcd : (x == ("__classdict__" : Str)) = false := by decide) : EvD X W (.Name x pos) (eV i) :=
  ⟨_, pe_var hN hv hd hcd, fun _ _ Γ _ H G R Q w => by
    unfold eV at w
    split at w
    · rename_i d q
      obtain ⟨v, e1, e2⟩ := R.vl i d q
      exact ⟨v, e1, w v H G (.refl R.gh) e2⟩
    · exact w.elim⟩
def sV (i : Nat) : Ga → R (Bool × List D) := fun Γ => match Γ[i]? with
  | some (.val (.tup ds)) => .ok (true, ds)
  | some (.val (.lst ds)) => .ok (false, ds)
  | some (.own ds) => .ok (false, ds)
  | some (.par _ ds) => .ok (false, ds)
  | _ => .no
theorem sq_var (i : Nat) {x : Str} (hN : X.N[i]? = some x := by rfl) (hv : Vis X.env.scope x := by first | exact Or.inl rfl | exact Or.inr (Or.inl rfl) | exact Or.inr (Or.inr rfl)) (hd : (x == ("__debug__" : Str)) = false := by decide)
    (hcd : (x == ("__classdict__" : Str)) = false := by decide) : SqD X W (.Name x pos) (sV i) :=
  ⟨_, pe_var hN hv hd hcd, fun _ _ Γ _ H G R Q w => by
    unfold sV at w
    split at w
    · rename_i z
      obtain ⟨v, e1, e2⟩ := R.vl i _ z
      obtain ⟨a, vs, rfl, s, l⟩ := den_tup.mp e2
      exact ⟨_, e1, w a vs H G (.refl R.gh) s l⟩
    · rename_i z
      obtain ⟨v, e1, e2⟩ := R.vl i _ z
      obtain ⟨a, vs, rfl, s, l⟩ := den_lst.mp e2
      exact ⟨_, e1, w a vs H G (.refl R.gh) (R.gh.seq s) l⟩
    · rename_i z
      obtain ⟨a, vs, e1, e2, _, _, e5⟩ := R.ow i _ z
      exact ⟨_, e1, w a vs H G (.refl R.gh) (SqL.of e2) e5⟩
    · rename_i z
      obtain ⟨e1, vs, e2, _, _, e5⟩ := R.all i _ z
      exact ⟨_, e1, w _ vs H G (.refl R.gh) (SqL.of e2) e5⟩
    · exact w.elim⟩
def seqOf : D → Option (Bool × List D)
  | .tup ds => some (true, ds)
  | .lst ds => some (false, ds)
  | _ => none
def sE (f : Ga → R D) : Ga → R (Bool × List D) := fun Γ => (f Γ).bind fun d => .ofO (seqOf d)
theorem sq_ev (h : EvD X W e f) : SqD X W e (sE f) := by
  obtain ⟨t, p, q⟩ := h
  refine ⟨t, p, fun H₀ G₀ Γ σ H G R Q w => ?_⟩
  refine q _ _ _ _ _ _ R _ (wStep w (fun _ h => h) fun d w v H' G' E1 d1 => ?_)
  obtain ⟨⟨b, ds⟩, e2, w⟩ := wOfO w
  cases d with
  | tup xs =>
    cases e2
    obtain ⟨a, vs, rfl, s, l⟩ := den_tup.mp d1
    exact w a vs H' G' E1 s l
  | lst xs =>
    cases e2
    obtain ⟨a, vs, rfl, s, l⟩ := den_lst.mp d1
    exact w a vs H' G' E1 (E1.gh.seq s) l
  | _ => cases e2
def sO (fl : Ga → R (List D)) : Ga → R (Bool × List D) := fun Γ => (fl Γ).bind fun ds => .ok (false, ds)
theorem sq_ow (h : OwD X W e fl) : SqD X W e (sO fl) := by
  obtain ⟨t, p, q⟩ := h
  refine ⟨t, p, fun H₀ G₀ Γ σ H G R Q w => ?_⟩
  exact q _ _ _ _ _ _ R _ (wStep w (fun _ h => h) fun ds w p vs H' G' E1 hp h' g' l => w p vs H' G' E1 (SqL.of h') l)
def eO (fl : Ga → R (List D)) : Ga → R D := fun Γ => (fl Γ).bind fun ds => .ok (.lst ds)
theorem ev_ow (h : OwD X W e fl) : EvD X W e (eO fl) := by
  obtain ⟨t, p, q⟩ := h
  refine ⟨t, p, fun H₀ G₀ Γ σ H G R Q w => ?_⟩
  refine q _ _ _ _ _ _ R _ (wStep w (fun _ h => h) fun ds w p vs H' G' E1 hp h' g' l => ?_)
  exact w _ H' (upd G' p (.lst vs)) (E1.take hp h' g') (den_lst.mpr ⟨p, vs, rfl, SqL.of upd_same, l.up (same_upd g' _)⟩)
theorem ev_glob {x : Str} {v : V} {u : Value} {d : D} (hg : Gl X x) (hm : X.mg x = some u) (r : RelV v u) (hd : Den X.K (fun _ => none) d v) (hdb : (x == ("__debug__" : Str)) = false := by decide) : EvD X W (.Name x pos) (eC d) :=
  ⟨_, pe_glob hg hm r hdb, eC_tells fun _ => hd.up fun _ _ z => nomatch z⟩
def aNil : Ga → R (List D) := fun _ => .ok []
def aCons (f : Ga → R D) (fl : Ga → R (List D)) : Ga → R (List D) := fun Γ => (f Γ).bind fun d => (fl Γ).bind fun ds => .ok (d :: ds)
theorem av_nil : AvD X W [] aNil := ⟨_, pa_nil, fun _ _ e => by cases e; rfl, fun _ _ _ _ H G R Q w => w [] H G (.refl R.gh) (denL_nil.mpr rfl)⟩
theorem av_cons (ha : EvD X W e f) (hr : AvD X W es fl) (hs : starEach (e :: es) X.env = (false, eval e X.env) :: starEach es X.env := by rfl) : AvD X W (e :: es) (aCons f fl) := by
  obtain ⟨t, p, q⟩ := ha
  obtain ⟨ts, ps, hl, qs⟩ := hr
  refine ⟨_, pa_cons p ps hs, fun Γ ds e' => ?_, fun H₀ G₀ Γ σ H G R Q w => ?_⟩
  · unfold aCons at e'
    cases h1 : f Γ with
    | ok d =>
      rw [h1] at e'
      cases h2 : fl Γ with
      | ok r =>
        rw [h2] at e'
        cases e'
        simp [hl Γ r h2]
      | _ => rw [h2] at e'; cases e'
    | _ => rw [h1] at e'; cases e'
  · refine q _ _ _ _ _ _ R _ (wStep w (fun _ h => h) fun d w v H1 G1 E1 d1 => ?_)
    refine qs _ _ _ _ _ _ (R.after E1) _ (wStep w (fun _ h => h.up E1) fun ds w vs H2 G2 E2 d2 => ?_)
    exact w _ H2 G2 (E1.trans E2) (denL_cons.mpr ⟨v, vs, rfl, d1.up E2.gg, d2⟩)
theorem small24 {n : Nat} (h : n ≤ 1000) : n ≤ sizeLine := Nat.le_trans h (by decide)
theorem wLen {x : R (List D)} {n : Nat} {E : Str → Prop} {P : List D → Prop} (hl : ∀ ds, x = .ok ds → ds.length = n) (w : x.want E P) : x.want E (fun ds => ds.length = n ∧ P ds) := by
  cases x with
  | ok ds => exact ⟨hl ds rfl, w⟩
  | ex c => exact w
  | no => exact w
def eTup (fl : Ga → R (List D)) : Ga → R D := fun Γ => (fl Γ).bind fun ds => .ok (.tup ds)
theorem ev_tup {k : Nat} (h : AvD X W es fl) (hl : es.length ≤ 1000 := by decide) : EvD X W (.Tuple es k pos) (eTup fl) := by
  obtain ⟨t, p, hn, q⟩ := h
  refine ⟨_, pe_tup p, fun H₀ G₀ Γ σ H G R Q w => ?_⟩
  refine q _ _ _ _ _ _ R _ (wImp (wLen (hn Γ) (wStep w (fun _ h => h) fun ds w => w)) (fun _ h => h) fun ds ⟨hd, w⟩ vs H1 G1 E1 d1 => ?_)
  refine ⟨by rw [← d1.length, hd]; exact small24 hl, fun p hp => ?_⟩
  have A := Ext.alloc (o := .tup vs) E1.gh hp
  exact w _ _ _ (E1.trans A) (den_tup.mpr ⟨p, vs, rfl, SqT.of upd_same, d1.up A.gg⟩)
theorem ow_lst (h : AvD X W es fl) (hl : es.length ≤ 1000 := by decide) : OwD X W (.List es pos) fl := by
  obtain ⟨t, p, hn, q⟩ := h
  refine ⟨_, pe_lst p, fun H₀ G₀ Γ σ H G R Q w => ?_⟩
  refine q _ _ _ _ _ _ R _ (wImp (wLen (hn Γ) w) (fun _ h => h) fun ds ⟨hd, w⟩ vs H1 G1 E1 d1 => ?_)
  refine ⟨by rw [← d1.length, hd]; exact small24 hl, fun p hp => ?_⟩
  exact w p vs _ G1 (E1.trans (.own E1.gh hp _)) (E1.hh.free hp) upd_same (E1.gh.free hp) d1
def OpD (X : Cx) (g : Value → Value → Sem Value) (F : D → D → Option D) : Prop :=
  ∃ r, OpR X g r ∧ ∀ (H G : Hp) (x y : V) (d1 d2 d : D), Same G H → Den X.K G d1 x → Den X.K G d2 y → F d1 d2 = some d → ∀ Q : VK, (∀ v H' G', Ext H G H' G' → Den X.K G' d v → Q v H') → r x y H Q
def e2 (F : D → D → Option D) (fa fb : Ga → R D) : Ga → R D := fun Γ => (fa Γ).bind fun x => (fb Γ).bind fun y => .ofO (F x y)
theorem ev_op {op : Operator} {F : D → D → Option D} (ho : OpD X (binaryOp op) F) (ha : EvD X W a fa) (hb : EvD X W b fb) : EvD X W (.BinOp a op b pos) (e2 F fa fb) := by
  obtain ⟨r, hr, ht⟩ := ho
  obtain ⟨ta, pa, qa⟩ := ha
  obtain ⟨tb, pb, qb⟩ := hb
  refine ⟨_, pe_op hr pa pb, fun H₀ G₀ Γ σ H G R Q w => ?_⟩
  refine qa _ _ _ _ _ _ R _ (wStep w (fun _ h => h) fun x w v H1 G1 E1 d1 => ?_)
  refine qb _ _ _ _ _ _ (R.after E1) _ (wStep w (fun _ h => h.up E1) fun y w u H2 G2 E2 d2 => ?_)
  obtain ⟨d, e', w⟩ := wOfO w
  exact ht _ _ _ _ _ _ _ E2.gh (d1.up E2.gg) d2 e' _ fun w' H3 G3 E3 d3 => w _ _ _ (E1.trans (E2.trans E3)) d3
theorem ev_cmp {op : CmpOp} {F : D → D → Option D} (ho : OpD X (compareOp op) F) (ha : EvD X W a fa) (hb : EvD X W b fb) (hm : behindInMarks op b = false := by first | exact nomark _ | with_unfolding_all rfl) : EvD X W (.Compare a [op] [b] pos) (e2 F fa fb) := by
  obtain ⟨r, hr, ht⟩ := ho
  obtain ⟨ta, pa, qa⟩ := ha
  obtain ⟨tb, pb, qb⟩ := hb
  refine ⟨_, pe_cmpR hr pa pb hm, fun H₀ G₀ Γ σ H G R Q w => ?_⟩
  refine qa _ _ _ _ _ _ R _ (wStep w (fun _ h => h) fun x w v H1 G1 E1 d1 => ?_)
  refine qb _ _ _ _ _ _ (R.after E1) _ (wStep w (fun _ h => h.up E1) fun y w u H2 G2 E2 d2 => ?_)
  obtain ⟨d, e', w⟩ := wOfO w
  exact ht _ _ _ _ _ _ _ E2.gh (d1.up E2.gg) d2 e' _ fun w' H3 G3 E3 d3 => w _ _ _ (E1.trans (E2.trans E3)) d3
def asB : D → Option Bool
  | .bl b => some b
  | _ => none
theorem asB_eq {d : D} {k : Bool} (h : asB d = some k) : d = .bl k := by
  cases d <;> first | (cases h; rfl) | cases h
def tB (f : Ga → R D) : Ga → R Bool := fun Γ => (f Γ).bind fun d => .ofO (asB d)
theorem tv_of_test {t : TE} (p : PT X e (tTest t)) (q : Tells X.K W t f) : TvD X W e (tB f) := by
  refine ⟨_, p, fun H₀ G₀ Γ σ H G R Q w => ?_⟩
  refine q _ _ _ _ _ _ R _ (wStep w (fun _ h => h) fun d w v H' G' E1 d1 => ?_)
  obtain ⟨kb, e2, w⟩ := wOfO w
  cases asB_eq e2
  exact ⟨kb, den_blE d1, w _ _ E1⟩
theorem op_tells {r : R2} {F : D → D → Option D} {ta tb : TE}
    (ht : ∀ (H G : Hp) (x y : V) (d1 d2 d : D), Same G H → Den X.K G d1 x → Den X.K G d2 y → F d1 d2 = some d → ∀ Q : VK, (∀ v H' G', Ext H G H' G' → Den X.K G' d v → Q v H') → r x y H Q)
    (qa : Tells X.K W ta fa) (qb : Tells X.K W tb fb) : Tells X.K W (tOp r ta tb) (e2 F fa fb) := by
  intro H₀ G₀ Γ σ H G R Q w
  refine qa _ _ _ _ _ _ R _ (wStep w (fun _ h => h) fun x w v H1 G1 E1 d1 => ?_)
  refine qb _ _ _ _ _ _ (R.after E1) _ (wStep w (fun _ h => h.up E1) fun y w u H2 G2 E2 d2 => ?_)
  obtain ⟨d, e', w⟩ := wOfO w
  exact ht _ _ _ _ _ _ _ E2.gh (d1.up E2.gg) d2 e' _ fun w' H3 G3 E3 d3 => w _ _ _ (E1.trans (E2.trans E3)) d3
theorem tv_cmp {op : CmpOp} {F : D → D → Option D} (ho : OpD X (compareOp op) F) (ha : EvD X W a fa) (hb : EvD X W b fb) (hm : behindInMarks op b = false := by first | exact nomark _ | with_unfolding_all rfl) : TvD X W (.Compare a [op] [b] pos) (tB (e2 F fa fb)) := by
  obtain ⟨r, hr, ht⟩ := ho
  obtain ⟨ta, pa, qa⟩ := ha
  obtain ⟨tb, pb, qb⟩ := hb
  exact tv_of_test (pt_cmpR hr pa pb hm) (op_tells ht qa qb)
def e3 (F F' : D → D → Option D) (fa fb fc : Ga → R D) : Ga → R D := fun Γ => (fa Γ).bind fun x => (fb Γ).bind fun y => (R.ofO (F x y)).bind fun z => match z with
  | .bl true => (fc Γ).bind fun w => .ofO (F' y w)
  | .bl false => .ok (.bl false)
  | _ => .no
theorem chain_tells {r r' : R2} {F F' : D → D → Option D} {ta tb tc : TE}
    (ht : ∀ (H G : Hp) (x y : V) (d1 d2 d : D), Same G H → Den X.K G d1 x → Den X.K G d2 y → F d1 d2 = some d → ∀ Q : VK, (∀ v H' G', Ext H G H' G' → Den X.K G' d v → Q v H') → r x y H Q)
    (ht' : ∀ (H G : Hp) (x y : V) (d1 d2 d : D), Same G H → Den X.K G d1 x → Den X.K G d2 y → F' d1 d2 = some d → ∀ Q : VK, (∀ v H' G', Ext H G H' G' → Den X.K G' d v → Q v H') → r' x y H Q)
    (qa : Tells X.K W ta fa) (qb : Tells X.K W tb fb) (qc : Tells X.K W tc fc) : Tells X.K W (tChain r r' ta tb tc) (e3 F F' fa fb fc) := by
  intro H₀ G₀ Γ σ H G R Q w
  refine qa _ _ _ _ _ _ R _ (wStep w (fun _ h => h) fun x w v H1 G1 E1 d1 => ?_)
  refine qb _ _ _ _ _ _ (R.after E1) _ (wStep w (fun _ h => h.up E1) fun y w u H2 G2 E2 d2 => ?_)
  obtain ⟨z, ez, w⟩ := wOfOb w
  refine ht _ _ _ _ _ _ _ E2.gh (d1.up E2.gg) d2 ez _ fun w' H3 G3 E3 d3 => ?_
  have R3 := (R.after E1).after (E2.trans E3)
  split at w
  · refine ⟨true, den_blE d3, ?_⟩
    rw [if_pos rfl]
    refine qc _ _ _ _ _ _ R3 _ (wStep w (fun _ h => h.up (E1.trans (E2.trans E3))) fun w' w w'' H4 G4 E4 d4 => ?_)
    obtain ⟨d, e', w⟩ := wOfO w
    exact ht' _ _ _ _ _ _ _ E4.gh (d2.up (E3.gg.trans E4.gg)) d4 e' _ fun w5 H5 G5 E5 d5 => w _ _ _ (E1.trans (E2.trans (E3.trans (E4.trans E5)))) d5
  · refine ⟨false, den_blE d3, ?_⟩
    rw [if_neg Bool.false_ne_true]
    exact w _ _ _ (E1.trans (E2.trans E3)) den_bl
  · exact w.elim
theorem ev_chain {op op' : CmpOp} {F F' : D → D → Option D} (ho : OpD X (compareOp op) F) (ho' : OpD X (compareOp op') F') (ha : EvD X W a fa) (hb : EvD X W b fb) (hc : EvD X W c fc)
    (hm : lastMarks [op, op'] [b, c] = false := by with_unfolding_all rfl) : EvD X W (.Compare a [op, op'] [b, c] pos) (e3 F F' fa fb fc) := by
  obtain ⟨r, hr, ht⟩ := ho
  obtain ⟨r', hr', ht'⟩ := ho'
  obtain ⟨ta, pa, qa⟩ := ha
  obtain ⟨tb, pb, qb⟩ := hb
  obtain ⟨tc, pc, qc⟩ := hc
  exact ⟨_, pe_chain hr hr' pa pb pc hm, chain_tells (X := X) ht ht' qa qb qc⟩
def eAnd (fa fb : Ga → R D) : Ga → R D := fun Γ => (fa Γ).bind fun x => match x with
  | .bl true => fb Γ
  | .bl false => .ok (.bl false)
  | _ => .no
def eNot (fa : Ga → R D) : Ga → R D := fun Γ => (fa Γ).bind fun x => match x with
  | .bl k => .ok (.bl (!k))
  | _ => .no
theorem ev_one {op} (h : EvD X W a f) : EvD X W (.BoolOp op [a] pos) f := let ⟨t, p, q⟩ := h; ⟨t, pe_one p, q⟩
theorem ev_and (ha : EvD X W a fa) (hb : EvD X W (.BoolOp .And (b :: rest) pos) fb) : EvD X W (.BoolOp .And (a :: b :: rest) pos) (eAnd fa fb) := by
  obtain ⟨ta, pa, qa⟩ := ha
  obtain ⟨tb, pb, qb⟩ := hb
  refine ⟨_, pe_and pa pb, fun H₀ G₀ Γ σ H G R Q w => ?_⟩
  refine qa _ _ _ _ _ _ R _ (wStep w (fun _ h => h) fun x w v H1 G1 E1 d1 => ?_)
  split at w
  · refine ⟨true, den_blE d1, ?_⟩
    rw [if_pos rfl]
    exact qb _ _ _ _ _ _ (R.after E1) _ (wImp w (fun _ h => h.up E1) fun d w u H2 G2 E2 d2 => w _ _ _ (E1.trans E2) d2)
  · refine ⟨false, den_blE d1, ?_⟩
    rw [if_neg Bool.false_ne_true]
    exact w _ _ _ E1 den_bl
  · exact w.elim
theorem ev_not (ha : EvD X W a fa) : EvD X W (.UnaryOp .Not a pos) (eNot fa) := by
  obtain ⟨ta, pa, qa⟩ := ha
  refine ⟨_, pe_not pa, fun H₀ G₀ Γ σ H G R Q w => ?_⟩
  refine qa _ _ _ _ _ _ R _ (wStep w (fun _ h => h) fun x w v H1 G1 E1 d1 => ?_)
  split at w
  · rename_i kb
    exact ⟨kb, den_blE d1, w _ _ _ E1 den_bl⟩
  · exact w.elim
variable {ga gb : Ga → R Bool}
theorem WvD.tv (h : WvD X W e ga) : TvD X W e ga := let ⟨t, p, q⟩ := h; ⟨t, p.pt, q⟩
def tAndR (ga gb : Ga → R Bool) : Ga → R Bool := fun Γ => (ga Γ).bind fun k => match k with
  | true => gb Γ
  | false => .ok false
def tOrR (ga gb : Ga → R Bool) : Ga → R Bool := fun Γ => (ga Γ).bind fun k => match k with
  | true => .ok true
  | false => gb Γ
def tNotR (ga : Ga → R Bool) : Ga → R Bool := fun Γ => (ga Γ).bind fun k => .ok (!k)
theorem wv_and1 (h : TvD X W a ga) : WvD X W (.BoolOp .And [a] pos) ga := let ⟨t, p, q⟩ := h; ⟨t, pw_and1 p, q⟩
theorem wv_or1 (h : TvD X W a ga) : WvD X W (.BoolOp .Or [a] pos) ga := let ⟨t, p, q⟩ := h; ⟨t, pw_or1 p, q⟩
theorem wv_and (ha : TvD X W a ga) (hb : WvD X W (.BoolOp .And (b :: rest) pos) gb) : WvD X W (.BoolOp .And (a :: b :: rest) pos) (tAndR ga gb) := by
  obtain ⟨ta, pa, qa⟩ := ha
  obtain ⟨tb, pb, qb⟩ := hb
  refine ⟨_, pw_and pa pb, fun H₀ G₀ Γ σ H G R Q w => ?_⟩
  refine qa _ _ _ _ _ _ R _ (wStep w (fun _ h => h) fun x w H1 G1 E1 => ?_)
  cases x with
  | true => exact iteT (qb _ _ _ _ _ _ (R.after E1) _ (wImp w (fun _ h => h.up E1) fun d w H2 G2 E2 => w _ _ (E1.trans E2)))
  | false => exact iteF (w _ _ E1)
theorem wv_or (ha : TvD X W a ga) (hb : WvD X W (.BoolOp .Or (b :: rest) pos) gb) : WvD X W (.BoolOp .Or (a :: b :: rest) pos) (tOrR ga gb) := by
  obtain ⟨ta, pa, qa⟩ := ha
  obtain ⟨tb, pb, qb⟩ := hb
  refine ⟨_, pw_or pa pb, fun H₀ G₀ Γ σ H G R Q w => ?_⟩
  refine qa _ _ _ _ _ _ R _ (wStep w (fun _ h => h) fun x w H1 G1 E1 => ?_)
  cases x with
  | true => exact iteT (w _ _ E1)
  | false => exact iteF (qb _ _ _ _ _ _ (R.after E1) _ (wImp w (fun _ h => h.up E1) fun d w H2 G2 E2 => w _ _ (E1.trans E2)))
theorem tv_not (ha : TvD X W a ga) : TvD X W (.UnaryOp .Not a pos) (tNotR ga) := by
  obtain ⟨ta, pa, qa⟩ := ha
  refine ⟨_, pt_not pa, fun H₀ G₀ Γ σ H G R Q w => ?_⟩
  exact qa _ _ _ _ _ _ R _ (wStep w (fun _ h => h) fun x w H1 G1 E1 => w _ _ E1)
def truD : D → Option Bool
  | .non => some false
  | .bl b => some b
  | .int i => some (i != 0)
  | .str x => if x.length ≤ 10000 then some ((x.length : Int) != 0) else none
  | .tup ds => some (!ds.isEmpty)
  | .lst ds => some (!ds.isEmpty)
theorem isEmpty_den {K : PySem.W.Frag} {G : Hp} {ds : List D} {vs : List V} (h : DenL K G ds vs) : (!ds.isEmpty) = (!vs.isEmpty) := by
  cases ds with
  | nil => rw [denL_nil.mp h]; rfl
  | cons d ds => obtain ⟨v, r, rfl, _⟩ := denL_cons.mp h; rfl
theorem big24 {n : Nat} (h : n ≤ 10000) : n ≤ sizeLine := Nat.le_trans h (by decide)
theorem tru_den {K : PySem.W.Frag} {H G : Hp} {d : D} {v : V} {k : Bool} (g : Same G H) (h : Den K G d v) (e : truD d = some k) : TruV K v H k := by
  cases d with
  | non => cases e; rw [den_nonE h]; rfl
  | bl b => cases e; rw [den_blE h]; rfl
  | int i => cases e; rw [den_intE h]; rfl
  | str x =>
    rw [den_strE h]
    have e : (if x.length ≤ 10000 then some ((x.length : Int) != 0) else none) = some k := e
    split at e
    · rename_i hl
      cases e
      exact ⟨big24 hl, rfl⟩
    · cases e
  | tup ds =>
    cases e
    obtain ⟨a, vs, rfl, s, l⟩ := den_tup.mp h
    exact .inr (.inl ⟨vs, Same.seqT g s, isEmpty_den l⟩)
  | lst ds =>
    cases e
    obtain ⟨a, vs, rfl, s, l⟩ := den_lst.mp h
    exact .inl ⟨vs, g.seq s, isEmpty_den l⟩
def tTru (f : Ga → R D) : Ga → R Bool := fun Γ => (f Γ).bind fun d => .ofO (truD d)
theorem tv_val (h : EvD X W a f) (he : ∀ whole, isTrue a X.env whole = (do let v ← whole; standAt a.pos; holding [v] (truthy v)) := by intro _; rfl) : TvD X W a (tTru f) := by
  obtain ⟨t, p, q⟩ := h
  refine ⟨_, pt_truth p he, fun H₀ G₀ Γ σ H G R Q w => ?_⟩
  refine q _ _ _ _ _ _ R _ (wStep w (fun _ h => h) fun d w v H' G' E1 d1 => ?_)
  obtain ⟨kb, e2, w⟩ := wOfO w
  exact ⟨kb, tru_den E1.gh d1 e2, w _ _ E1⟩
end
def ClsIs (K : PySem.W.Frag) (c : Str) (cls : Value) : Prop := ∃ C, cls = .ref C ∧ PySem.W.nsIn K mainGlobals c = some (some (.ref C))
def spF (K : PySem.W.Frag) (mg : Str → Option Value) (n : Nat) (F : List D → R D) : Sp := fun vs H Q E => ∃ (G : Hp) (ds : List D), Same G H ∧ DenL K G ds vs ∧ ds.length = n ∧
  (F ds).want (fun c => ∀ cls dx H' G', ClsIs K c cls → Ext H G H' G' → E cls dx H') (fun d => ∀ v H' G', Ext H G H' G' → Den K G' d v → Q v H')
def xkOf (K : PySem.W.Frag) (W : XP) (σ : L2.St) : XK := fun cls _ H' => ∃ c G', ClsIs K c cls ∧ W c σ H' G'
def PassW (CX : CXT) (X : Cx) (W : XP) : Prop := ∀ (pins : List (Addr × Obj)) (σ : L2.St) (H : Hp) (s : Shared) (e : Value) (s' : Shared), Inv X pins σ H s → CX X.stack H s (xkOf X.K W σ) e s' → X.xe e s'
section
variable {X : Cx} {W : XP} {e : Expr} {es : List Expr} {f : Ga → R D} {fl : Ga → R (List D)} {pos p : Pos}
def tCallX (K : PySem.W.Frag) (W : XP) (sp : Sp) (t : TA) : TE := fun σ H Q => t σ H fun vs H1 => sp vs H1 Q (xkOf K W σ)
theorem pe_callX {CX : CXT} {k : Nat} {fa : Addr} {fd : FuncData} {ps : List Str} {sp : Sp} {x : Str} {t : TA} (F : FnOk X.prog X.w X.K X.mg X.base CX k fa fd ps sp) (hr : Room k X.A) (hg : Gl X x) (hm : X.mg x = some (.ref fa))
    (hk : PySem.W.keepIn X.K (.ref fa) = true) (hb : Binds X.K fd ps []) (hx : PassW CX X W) (ha : PA X (e :: es) t) (hdb : (x == ("__debug__" : Str)) = false)
    (he : starEach (e :: es) X.env = (false, eval e X.env) :: starEach es X.env) (hpl : (backTo pos (starEach es X.env)).any (·.1) = false) : PE X (.Call (.Name x p) (e :: es) [] pos) (tCallX X.K W sp t) := by
  intro pins s σ H Q I h
  refine wpAny_Call_Name_kw (ld_glob I hg hm ?_ hdb)
  refine PySem.W.callWith_K (h₀ := X.base) I.ok.mod.kin hk (thn (ha pos pins s σ H _ I h) fun us s1 ⟨vs, H1, I1, r, q⟩ => ⟨I1.kIn, ?_⟩) he hpl
  have hl : us.length = ps.length := by rw [← r.length]; exact F.len _ _ _ _ q
  have bb := hb s1 us I1.kIn (by rw [List.append_nil]; exact hl)
  rw [List.append_nil] at bb
  refine wpAny_call (codeAny_mono (F.run X.A X.stack s1 H1 ⟨us, []⟩ us vs Q _ hr I1.env0 bb r q) fun r s' hq => ?_)
  cases r with
  | error e => exact hx pins σ H1 s1 e s' I1 hq
  | ok fl =>
    cases fl with
    | ret u => exact I1.after hq
    | next => exact False.elim hq
    | brk => exact False.elim hq
    | cont => exact False.elim hq
def eCall (F : List D → R D) (fl : Ga → R (List D)) : Ga → R D := fun Γ => (fl Γ).bind F
theorem ev_call {CX : CXT} {k : Nat} {fa : Addr} {fd : FuncData} {ps : List Str} {F : List D → R D} {x : Str} (Fn : FnOk X.prog X.w X.K X.mg X.base CX k fa fd ps (spF X.K X.mg ps.length F)) (hx : PassW CX X W) (hr : Room k X.A) (hg : Gl X x) (hm : X.mg x = some (.ref fa))
    (hk : PySem.W.keepIn X.K (.ref fa) = true) (hb : Binds X.K fd ps []) (ha : AvD X W (e :: es) fl) (hn : (e :: es).length = ps.length := by rfl) (hdb : (x == ("__debug__" : Str)) = false := by decide)
    (he : starEach (e :: es) X.env = (false, eval e X.env) :: starEach es X.env := by rfl) (hpl : (backTo pos (starEach es X.env)).any (·.1) = false := by rfl) :
    EvD X W (.Call (.Name x p) (e :: es) [] pos) (eCall F fl) := by
  obtain ⟨t, pt, hl, q⟩ := ha
  refine ⟨_, pe_callX Fn hr hg hm hk hb hx pt hdb he hpl, fun H₀ G₀ Γ σ H G R Q w => ?_⟩
  refine q _ _ _ _ _ _ R _ (wImp (wLen (hl Γ) (wStep w (fun _ h => h) fun ds w => w)) (fun _ h => h) fun ds ⟨hd, w⟩ vs H1 G1 E1 d1 => ?_)
  exact ⟨G1, ds, E1.gh, d1, hd.trans hn, wImp w (fun c h cls dx H' G' hc E2 => ⟨c, G', hc, h H' G' (E1.trans E2)⟩) fun d w v H' G' E2 d2 => w v H' G' (E1.trans E2) d2⟩
def CallD (X : Cx) (g : Value) (F : List D → Option D) : Prop :=
  ∃ r, CallR X g r ∧ ∀ (H G : Hp) (vs : List V) (ds : List D) (d : D), Same G H → DenL X.K G ds vs → F ds = some d → ∀ Q : VK, (∀ v H' G', Ext H G H' G' → Den X.K G' d v → Q v H') → r vs H Q
def eB (F : List D → Option D) (fl : Ga → R (List D)) : Ga → R D := fun Γ => (fl Γ).bind fun ds => .ofO (F ds)
theorem ev_callB {id : String} {F : List D → Option D} {x : Str} (hc : CallD X (.builtin id) F) (hg : Gl X x) (hm : X.mg x = none) (hv : bootBuiltins x = some (.builtin id)) (ha : AvD X W (e :: es) fl) (hn : x ≠ "__name__" := by decide)
    (hdb : (x == ("__debug__" : Str)) = false := by decide) (he : starEach (e :: es) X.env = (false, eval e X.env) :: starEach es X.env := by rfl) (hpl : (backTo pos (starEach es X.env)).any (·.1) = false := by rfl) :
    EvD X W (.Call (.Name x p) (e :: es) [] pos) (eB F fl) := by
  obtain ⟨r, hr, ht⟩ := hc
  obtain ⟨t, pt, hl, q⟩ := ha
  refine ⟨_, pe_callB hr hg hm hv pt hn hdb he hpl, fun H₀ G₀ Γ σ H G R Q w => ?_⟩
  refine q _ _ _ _ _ _ R _ (wStep w (fun _ h => h) fun ds w vs H1 G1 E1 d1 => ?_)
  obtain ⟨d, e2, w⟩ := wOfO w
  exact ht _ _ _ _ _ E1.gh d1 e2 _ fun v H' G' E2 d2 => w v H' G' (E1.trans E2) d2
theorem ev_callT {id : String} {F : List D → Option D} {x : Str} (hc : CallD X (.type id) F) (hg : Gl X x) (hm : X.mg x = none) (hv : bootBuiltins x = some (.type id)) (ha : AvD X W (e :: es) fl) (hn : x ≠ "__name__" := by decide)
    (hdb : (x == ("__debug__" : Str)) = false := by decide) (he : starEach (e :: es) X.env = (false, eval e X.env) :: starEach es X.env := by rfl) (hpl : (backTo pos (starEach es X.env)).any (·.1) = false := by rfl) :
    EvD X W (.Call (.Name x p) (e :: es) [] pos) (eB F fl) := by
  obtain ⟨r, hr, ht⟩ := hc
  obtain ⟨t, pt, hl, q⟩ := ha
  refine ⟨_, pe_callTy hr hg hm hv pt hn hdb he hpl, fun H₀ G₀ Γ σ H G R Q w => ?_⟩
  refine q _ _ _ _ _ _ R _ (wStep w (fun _ h => h) fun ds w vs H1 G1 E1 d1 => ?_)
  obtain ⟨d, e2, w⟩ := wOfO w
  exact ht _ _ _ _ _ E1.gh d1 e2 _ fun v H' G' E2 d2 => w v H' G' (E1.trans E2) d2
def CallS (X : Cx) (g : Value) (F : Bool × List D → Option D) : Prop :=
  ∃ r, CallR X g r ∧ ∀ (H G : Hp) (b : Bool) (ds : List D) (d : D) (a : Addr) (vs : List V), Same G H → SqP X.K H G b a vs → DenL X.K G ds vs → F (b, ds) = some d → ∀ Q : VK, (∀ v H' G', Ext H G H' G' → Den X.K G' d v → Q v H') → r [.ref a] H Q
variable {fs : Ga → R (Bool × List D)}
def eS (F : Bool × List D → Option D) (fs : Ga → R (Bool × List D)) : Ga → R D := fun Γ => (fs Γ).bind fun p => .ofO (F p)
theorem ev_callBS {id : String} {F : Bool × List D → Option D} {x : Str} (hc : CallS X (.builtin id) F) (hg : Gl X x) (hm : X.mg x = none) (hv : bootBuiltins x = some (.builtin id)) (ha : SqD X W e fs) (hn : x ≠ "__name__" := by decide)
    (hdb : (x == ("__debug__" : Str)) = false := by decide) (he : starEach [e] X.env = [(false, eval e X.env)] := by rfl) : EvD X W (.Call (.Name x p) [e] [] pos) (eS F fs) := by
  obtain ⟨r, hr, ht⟩ := hc
  obtain ⟨t, pt, q⟩ := ha
  refine ⟨_, pe_callB hr hg hm hv (pa_cons pt pa_nil he) hn hdb he rfl, fun H₀ G₀ Γ σ H G R Q w => ?_⟩
  refine q _ _ _ _ _ _ R _ (wStep w (fun _ h => h) fun ⟨b, ds⟩ w a vs H1 G1 E1 s1 d1 => ?_)
  obtain ⟨d, e2, w⟩ := wOfO w
  exact ht _ _ _ _ _ _ _ E1.gh s1 d1 e2 _ fun v H' G' E2 d2 => w v H' G' (E1.trans E2) d2
end
end Wy


namespace Wy
open PySem PySem.Spec PyProof.Rows L2
inductive RS where
  | nx (Γ : Ga) | rt (d : D) | bk (Γ : Ga) | ct (Γ : Ga) | ex (c : Str) (Γ : Ga) | no
def RS.of {α : Type} (x : R α) (Γ : Ga) (k : α → RS) : RS := match x with
  | .ok a => k a
  | .ex c => .ex c Γ
  | .no => .no
@[simp] theorem RS.of_ok {α : Type} (a : α) (Γ : Ga) (k : α → RS) : RS.of (.ok a) Γ k = k a := nr rfl
@[simp] theorem RS.of_ex {α : Type} (c : Str) (Γ : Ga) (k : α → RS) : RS.of (.ex c) Γ k = .ex c Γ := nr rfl
def Lifts (K : PySem.W.Frag) (W : XP) (H₀ G₀ : Hp) (r : RS) (D : Ends) : Prop := match r with
  | .nx Γ => ∀ σ H G, Rep K H₀ G₀ Γ σ H G → D.nx σ H
  | .rt d => ∀ v H G, Ext H₀ G₀ H G → Den K G d v → D.rt v H
  | .bk Γ => ∀ σ H G, Rep K H₀ G₀ Γ σ H G → D.bk σ H
  | .ct Γ => ∀ σ H G, Rep K H₀ G₀ Γ σ H G → D.ct σ H
  | .ex c Γ => ∀ σ H G, Rep K H₀ G₀ Γ σ H G → W c σ H G
  | .no => False
theorem wS {K : PySem.W.Frag} {W : XP} {H₀ G₀ : Hp} {α : Type} {x : R α} {Γ : Ga} {k : α → RS} {D : Ends} {σ : L2.St} {H G : Hp} {P : α → Prop} (r : Rep K H₀ G₀ Γ σ H G) (w : Lifts K W H₀ G₀ (RS.of x Γ k) D)
    (h : ∀ a, Lifts K W H₀ G₀ (k a) D → P a) : x.want (exAt W σ H G) P := by
  cases x with
  | ok a => exact h a w
  | ex c => exact fun H' G' e => w σ H' G' (r.after e)
  | no => exact w.elim
theorem Ext.unbase {H₀ G₀ H1 G1 H G : Hp} (e : Ext H₀ G₀ H1 G1) (r : Ext H₀ G1 H G) : Ext H₀ G₀ H G := ⟨e.gg.trans r.gg, r.gh, r.hh, fun a h => (r.fr a h).trans (e.fr a h)⟩
theorem Rep.base {K : PySem.W.Frag} {H₀ G₀ H G : Hp} {Γ : Ga} {σ : L2.St} (R : Rep K H₀ G₀ Γ σ H G) : Rep K H₀ G Γ σ H G := ⟨⟨Same.refl _, R.ex.gh, R.ex.hh, fun _ _ => rfl⟩, R.ln, R.all, R.di⟩
theorem Rep.unbase {K : PySem.W.Frag} {H₀ G₀ H1 G1 H G : Hp} {Γ : Ga} {σ : L2.St} (e : Ext H₀ G₀ H1 G1) (R : Rep K H₀ G1 Γ σ H G) : Rep K H₀ G₀ Γ σ H G := ⟨e.unbase R.ex, R.ln, R.all, R.di⟩
theorem Lifts.base {K : PySem.W.Frag} {W : XP} {H₀ G₀ H1 G1 : Hp} {r : RS} {D : Ends} (e : Ext H₀ G₀ H1 G1) (w : Lifts K W H₀ G₀ r D) : Lifts K W H₀ G1 r D := by
  cases r with
  | nx Γ => exact fun σ H G R => w σ H G (R.unbase e)
  | rt d => exact fun v H G r => w v H G (e.unbase r)
  | bk Γ => exact fun σ H G R => w σ H G (R.unbase e)
  | ct Γ => exact fun σ H G R => w σ H G (R.unbase e)
  | ex c Γ => exact fun σ H G R => w σ H G (R.unbase e)
  | no => exact w
def Does (K : PySem.W.Frag) (W : XP) (t : TS) (s : Ga → RS) : Prop := ∀ (H₀ G₀ : Hp) (Γ : Ga) (σ : L2.St) (H G : Hp), Rep K H₀ G₀ Γ σ H G → ∀ D : Ends, Lifts K W H₀ G₀ (s Γ) D → t D σ H
def ExD (X : Cx) (W : XP) (st : Stmt) (s : Ga → RS) : Prop := ∃ t, PS X st t ∧ Does X.K W t s
def ExDs (X : Cx) (W : XP) (sts : List Stmt) (s : Ga → RS) : Prop := ∃ t, PSs X sts t ∧ Does X.K W t s
def TgD (X : Cx) (tg : Expr) (g : D → Ga → Option Ga) : Prop := ∃ t : TG, PG X tg t ∧ ∀ (H₀ G₀ : Hp) (Γ : Ga) (σ : L2.St) (H G : Hp) (d : D) (v : V) (Γ' : Ga), Rep X.K H₀ G₀ Γ σ H G → Den X.K G d v → g d Γ = some Γ' →
  ∀ Q : L2.St → Hp → Prop, (∀ σ' , Rep X.K H₀ G₀ Γ' σ' H G → Q σ' H) → t v σ H Q
section
variable {X : Cx} {W : XP} {st : Stmt} {rest sa sb : List Stmt} {T U : Ga → RS} {e c : Expr} {f : Ga → R D} {fl : Ga → R (List D)} {fs : Ga → R (Bool × List D)} {g : Ga → R Bool} {pos pos' apos cpos : Pos} {x y : Str} {i j : Nat}
def sNext : Ga → RS := fun Γ => .nx Γ
def sSeq (T U : Ga → RS) : Ga → RS := fun Γ => match T Γ with
  | .nx Γ' => U Γ'
  | r => r
theorem xs_nil : ExDs X W [] sNext := ⟨_, pss_nil, fun _ _ Γ σ H G R D w => w σ H G R⟩
theorem Lifts.seq {K : PySem.W.Frag} {H₀ G₀ : Hp} {D : Ends} {u : TS} {Γ : Ga} (q : Does K W u U) (w : Lifts K W H₀ G₀ (sSeq T U Γ) D) : Lifts K W H₀ G₀ (T Γ) { D with nx := u D } := by
  unfold sSeq at w
  cases h : T Γ with
  | nx Γ' => rw [h] at w; exact fun σ H G R => q H₀ G₀ Γ' σ H G R D w
  | rt d => rw [h] at w; exact w
  | bk d => rw [h] at w; exact w
  | ct d => rw [h] at w; exact w
  | ex c d => rw [h] at w; exact w
  | no => rw [h] at w; exact w
theorem xs_cons (h1 : ExD X W st T) (h2 : ExDs X W rest U) : ExDs X W (st :: rest) (sSeq T U) := by
  obtain ⟨t, p, q⟩ := h1
  obtain ⟨u, p', q'⟩ := h2
  exact ⟨_, pss_cons p p', fun H₀ G₀ Γ σ H G R D w => q H₀ G₀ Γ σ H G R _ (Lifts.seq q' w)⟩
theorem xs_one (h1 : ExD X W st T) : ExDs X W [st] T := let ⟨t, p, q⟩ := h1; ⟨t, pss_one p, q⟩
def sRet (f : Ga → R D) : Ga → RS := fun Γ => .of (f Γ) Γ fun d => .rt d
theorem x_ret (h : EvD X W e f) : ExD X W (.Return (some e) pos) (sRet f) := by
  obtain ⟨t, p, q⟩ := h
  refine ⟨_, ps_ret p, fun H₀ G₀ Γ σ H G R D w => ?_⟩
  exact q _ _ _ _ _ _ R _ (wS R w fun d w v H' G' E1 d1 => w v H' G' (R.ex.trans E1) d1)
def sRetO (i : Nat) : Ga → RS := fun Γ => match Γ[i]? with
  | some (.own xs) => .rt (.lst xs)
  | _ => .no
theorem x_retO (i : Nat) (hN : X.N[i]? = some x := by rfl) (hv : Vis X.env.scope x := by first | exact Or.inl rfl | exact Or.inr (Or.inl rfl) | exact Or.inr (Or.inr rfl)) (hd : (x == ("__debug__" : Str)) = false := by decide)
    (hcd : (x == ("__classdict__" : Str)) = false := by decide) : ExD X W (.Return (some (.Name x pos')) pos) (sRetO i) := by
  refine ⟨_, ps_ret (pe_var hN hv hd hcd), fun H₀ G₀ Γ σ H G R D w => ?_⟩
  unfold sRetO at w
  split at w
  · rename_i xs e1
    obtain ⟨a, vs, s1, s2, s3, s4, s5⟩ := R.ow i xs e1
    exact ⟨_, s1, w _ H _ (R.ex.take s3 s2 s4) (den_lst.mpr ⟨a, vs, rfl, SqL.of upd_same, s5.up (same_upd s4 _)⟩)⟩
  · exact w.elim
def sSet (i : Nat) (f : Ga → R D) : Ga → RS := fun Γ => .of (f Γ) Γ fun d => .nx (Γ.set i (.val d))
theorem x_set (i : Nat) (he : EvD X W e f) (hN : X.N.Nodup) (hi : X.N[i]? = some x := by rfl) (hx : Loc X.env.scope x := by first | exact Or.inl rfl | exact Or.inr rfl) (hs : swapsWith e (some (.Name x pos')) pos.line X.env = pure false := by rfl)
    (hf : X.fn x = true ∨ X.env.scope.names.lookup x = some .local := by first | exact .inl rfl | exact .inr rfl | assumption) : ExD X W (.Assign [.Name x pos'] e pos) (sSet i f) := by
  obtain ⟨t, p, q⟩ := he
  refine ⟨_, ps_set hN hi hx p hs hf, fun H₀ G₀ Γ σ H G R D w => ?_⟩
  exact q _ _ _ _ _ _ R _ (wS R w fun d w v H' G' E1 d1 => w _ H' G' ((R.after E1).setV i d1))
theorem own_new {K : PySem.W.Frag} {H₀ G₀ H G : Hp} {Γ : Ga} {σ : L2.St} {p : Addr} (R : Rep K H₀ G₀ Γ σ H G) (hp : H p = none) : ∀ (j : Nat) y, Γ[j]? = some y → y.mu = true → σ[j]? ≠ some (some (.ref p)) := fun j y hy hm hs => by
  obtain ⟨ys, hc⟩ := Sl.cont_of hm
  obtain ⟨a, us, s1, s2, _⟩ := R.mo hy hc
  rw [hs] at s1
  cases s1
  rw [hp] at s2
  cases s2
def sSetO (i : Nat) (fl : Ga → R (List D)) : Ga → RS := fun Γ => .of (fl Γ) Γ fun ds => .nx (Γ.set i (.own ds))
theorem x_setO (i : Nat) (he : OwD X W e fl) (hN : X.N.Nodup) (hi : X.N[i]? = some x := by rfl) (hx : Loc X.env.scope x := by first | exact Or.inl rfl | exact Or.inr rfl) (hs : swapsWith e (some (.Name x pos')) pos.line X.env = pure false := by rfl)
    (hf : X.fn x = true ∨ X.env.scope.names.lookup x = some .local := by first | exact .inl rfl | exact .inr rfl | assumption) : ExD X W (.Assign [.Name x pos'] e pos) (sSetO i fl) := by
  obtain ⟨t, p, q⟩ := he
  refine ⟨_, ps_set hN hi hx p hs hf, fun H₀ G₀ Γ σ H G R D w => ?_⟩
  exact q _ _ _ _ _ _ R _ (wS R w fun d w p vs H' G' E1 hp h' g' l => w _ H' G' ((R.after E1).setO i h' (R.ex.hh.free hp) g' l fun j ys hj hy => own_new R hp j ys hy))
def sDrop (f : Ga → R D) : Ga → RS := fun Γ => .of (f Γ) Γ fun _ => .nx Γ
theorem x_expr (he : EvD X W e f) (hs : swapsWith e none pos.line X.env = pure false := by rfl) : ExD X W (.Expr e pos) (sDrop f) := by
  obtain ⟨t, p, q⟩ := he
  refine ⟨_, ps_expr p hs, fun H₀ G₀ Γ σ H G R D w => ?_⟩
  exact q _ _ _ _ _ _ R _ (wS R w fun d w v H' G' E1 d1 => w _ H' G' (R.after E1))
def sIf (g : Ga → R Bool) (T U : Ga → RS) : Ga → RS := fun Γ => .of (g Γ) Γ fun k => match k with
  | true => T Γ
  | false => U Γ
theorem x_if (hc : TvD X W c g) (ha : ExDs X W sa T) (hb : ExDs X W sb U) : ExD X W (.If c sa sb pos) (sIf g T U) := by
  obtain ⟨t, p, q⟩ := hc
  obtain ⟨ta, pa, qa⟩ := ha
  obtain ⟨tb, pb, qb⟩ := hb
  refine ⟨_, ps_if p pa pb, fun H₀ G₀ Γ σ H G R D w => ?_⟩
  refine q _ _ _ _ _ _ R _ (wS R w fun k w H' G' E1 => ?_)
  cases k with
  | true => exact iteT (qa _ _ _ _ _ _ (R.after E1) D w)
  | false => exact iteF (qb _ _ _ _ _ _ (R.after E1) D w)
theorem lt24 {n : Nat} (h : n < 16000000) : n < sizeLine := Nat.lt_of_lt_of_le h (by decide)
def sApp (i : Nat) (f : Ga → R D) : Ga → RS := fun Γ => match Γ[i]? with
  | some (.own xs) => .of (f Γ) Γ fun d => if xs.length < 16000000 then .nx (Γ.set i (.own (xs ++ [d]))) else .no
  | _ => .no
theorem x_app (i : Nat) (he : EvD X W e f) (hN : X.N[i]? = some x := by rfl) (hv : Vis X.env.scope x := by first | exact Or.inl rfl | exact Or.inr (Or.inl rfl) | exact Or.inr (Or.inr rfl)) (hd : (x == ("__debug__" : Str)) = false := by decide)
    (hcd : (x == ("__classdict__" : Str)) = false := by decide) (hs : starEach [e] X.env = [(false, eval e X.env)] := by rfl) (hline : (apos.endLine == cpos.line) = true := by rfl)
    (hsw : swapsWith (.Call (.Attribute (.Name x pos') "append" apos) [e] [] cpos) none pos.line X.env = pure false := by rfl)
    (hbase : attributeBase (.Name x pos') "append" X.env (eval (.Name x pos') X.env) = eval (.Name x pos') X.env := by rfl)
    (hfew : ((backTo cpos (starEach [e] X.env)).all (fun x => !x.1) && (backToKw cpos (keywordEach [] X.env)).all (fun x => x.1.isSome)
      && decide ([e].length + ([] : List Keyword).length + (if ([] : List Keyword).isEmpty then 0 else 1) < 30)) = true := by rfl) :
    ExD X W (.Expr (.Call (.Attribute (.Name x pos') "append" apos) [e] [] cpos) pos) (sApp i f) := by
  obtain ⟨t, p, q⟩ := he
  refine ⟨_, ps_expr (pe_bm PySem.F.plainAttrs_list PySem.F.slot_list_append PySem.F.type_list_append mt_append (pe_var hN hv hd hcd) (pa_cons p pa_nil hs) hbase hfew hline hs rfl) hsw, fun H₀ G₀ Γ σ H G R D w => ?_⟩
  unfold sApp at w
  split at w
  · rename_i xs e1
    obtain ⟨a, vs, s1, s2, s3, s4, s5⟩ := R.ow i xs e1
    refine ⟨_, s1, .inl ⟨rfl, vs, SqL.of s2⟩, ?_⟩
    refine q _ _ _ _ _ _ R _ (wS R w fun d w v H' G' E1 d1 => ?_)
    have l1 := s5.up E1.gg
    split at w
    · rename_i hz
      exact ⟨a, vs, v, rfl, rfl, E1.hh _ _ s2, by rw [← l1.length]; exact lt24 hz, w _ _ G' ((R.after E1).mut e1 s1 (l1.append (.one d1)))⟩
    · exact w.elim
  · exact w.elim
def sPop (i j : Nat) : Ga → RS := fun Γ => match Γ[i]? with
  | some (.own xs) => match xs.getLast? with
    | some d => .nx ((Γ.set i (.own xs.dropLast)).set j (.val d))
    | none => .no
  | _ => .no
theorem x_pop (i j : Nat) (hnd : X.N.Nodup) (hN : X.N[i]? = some x := by rfl) (hv : Vis X.env.scope x := by first | exact Or.inl rfl | exact Or.inr (Or.inl rfl) | exact Or.inr (Or.inr rfl)) (hj : X.N[j]? = some y := by rfl)
    (hy : Loc X.env.scope y := by first | exact Or.inl rfl | exact Or.inr rfl) (hd : (x == ("__debug__" : Str)) = false := by decide)
    (hcd : (x == ("__classdict__" : Str)) = false := by decide) (hline : (apos.endLine == cpos.line) = true := by rfl) {py : Pos}
    (hsw : swapsWith (.Call (.Attribute (.Name x pos') "pop" apos) [] [] cpos) (some (.Name y py)) pos.line X.env = pure false := by rfl)
    (hf : X.fn y = true ∨ X.env.scope.names.lookup y = some .local := by first | exact .inl rfl | exact .inr rfl | assumption)
    (hbase : attributeBase (.Name x pos') "pop" X.env (eval (.Name x pos') X.env) = eval (.Name x pos') X.env := by rfl) :
    ExD X W (.Assign [.Name y py] (.Call (.Attribute (.Name x pos') "pop" apos) [] [] cpos) pos) (sPop i j) := by
  refine ⟨_, ps_set hnd hj hy (pe_bm0 PySem.F.plainAttrs_list PySem.F.slot_list_pop PySem.F.type_list_pop mt_pop (pe_var hN hv hd hcd) hbase hline) hsw hf, fun H₀ G₀ Γ σ H G R D w => ?_⟩
  unfold sPop at w
  split at w
  · rename_i zs e1
    split at w
    · rename_i d hlast
      obtain ⟨a, vs, s1, s2, s3, s4, s5⟩ := R.ow i _ e1
      obtain ⟨xs, rfl⟩ := List.getLast?_eq_some_iff.mp hlast
      rw [List.dropLast_concat] at w
      have hl := s5.length
      rw [List.length_append, List.length_singleton] at hl
      obtain ⟨v, hv1, hv2⟩ := s5.get (i := xs.length) (d := d) (by simp)
      have dl := s5.dropLast
      rw [List.dropLast_concat] at dl
      refine ⟨_, s1, .inl ⟨rfl, vs, SqL.of s2⟩, a, vs, v, rfl, rfl, s2, by rw [← hl]; exact hv1, ?_⟩
      exact w _ _ G ((R.mut e1 s1 dl).setV j hv2)
    · exact w.elim
  · exact w.elim
def sWhileN (g : Ga → R Bool) (T : Ga → RS) : Nat → Ga → RS
  | 0, _ => .no
  | n + 1, Γ => .of (g Γ) Γ fun k => match k with
    | false => .nx Γ
    | true => match T Γ with
      | .nx Γ' => sWhileN g T n Γ'
      | .ct Γ' => sWhileN g T n Γ'
      | .bk Γ' => .nx Γ'
      | r => r
def FUEL : Nat := 1000000
def sWhile (g : Ga → R Bool) (T : Ga → RS) : Ga → RS := sWhileN g T FUEL
theorem x_while (hc : TvD X W c g) (hb : ExDs X W sa T) (hp : PassesOwn (model X.prog X.w) X.A X.env X.xe := by exact PassesOwn.never) : ExD X W (.While c sa [] pos) (sWhile g T) := by
  obtain ⟨t, p, q⟩ := hc
  obtain ⟨tb, pb, qb⟩ := hb
  refine ⟨_, ps_while hp p pb, fun H₀ G₀ Γ σ H G R D w => ?_⟩
  refine ⟨fun m σ H => ∃ Γ G, Rep X.K H₀ G₀ Γ σ H G ∧ Lifts X.K W H₀ G₀ (sWhileN g T m Γ) D, ⟨FUEL, Γ, G, R, w⟩, fun m σ H ⟨Γ, G, R, w⟩ => ?_⟩
  cases m with
  | zero => exact w.elim
  | succ n =>
    unfold sWhileN at w
    refine q _ _ _ _ _ _ R _ (wS R w fun k w H' G' E1 => ?_)
    cases k with
    | false => exact iteF (w _ _ _ (R.after E1))
    | true =>
      refine iteT ⟨fun σ' H' => ∃ m', m' < n + 1 ∧ ∃ Γ G, Rep X.K H₀ G₀ Γ σ' H' G ∧ Lifts X.K W H₀ G₀ (sWhileN g T m' Γ) D, fun σ' H' h => h, ?_⟩
      refine qb _ _ _ _ _ _ (R.after E1) _ ?_
      dsimp only at w
      cases h : T Γ with
      | nx Γ' => rw [h] at w; exact fun σ H G R => ⟨n, Nat.lt_succ_self _, Γ', G, R, w⟩
      | ct Γ' => rw [h] at w; exact fun σ H G R => ⟨n, Nat.lt_succ_self _, Γ', G, R, w⟩
      | bk Γ' => rw [h] at w; exact w
      | rt d => rw [h] at w; exact w
      | ex c d => rw [h] at w; exact w
      | no => rw [h] at w; exact w
def gName' (i : Nat) : D → Ga → Option Ga := fun d Γ => some (Γ.set i (.val d))
theorem tg_name (i : Nat) (hN : X.N.Nodup) (hi : X.N[i]? = some x := by rfl) (hx : Loc X.env.scope x := by first | exact Or.inl rfl | exact Or.inr rfl)
    (hf : X.fn x = true ∨ X.env.scope.names.lookup x = some .local := by first | exact .inl rfl | exact .inr rfl | assumption) : TgD X (.Name x pos) (gName' i) :=
  ⟨_, pg_name hN hi hx hf, fun H₀ G₀ Γ σ H G d v Γ' R h e Q q => by cases e; exact q _ (R.setV i h)⟩
def sTurns (g : D → Ga → Option Ga) (T : Ga → RS) : List D → Ga → RS
  | [], Γ => .nx Γ
  | d :: ds, Γ => match g d Γ with
    | none => .no
    | some Γ1 => match T Γ1 with
      | .nx Γ' => sTurns g T ds Γ'
      | .ct Γ' => sTurns g T ds Γ'
      | .bk Γ' => .nx Γ'
      | r => r
end
def begin_ (N : List Str) (ds : List D) : Ga := ds.map Sl.val ++ List.replicate (N.length - ds.length) Sl.un
theorem begin_at {N : List Str} {ds : List D} {i : Nat} {x : Sl} (h : (begin_ N ds)[i]? = some x) : x = .un ∨ ∃ d, x = .val d ∧ ds[i]? = some d := by
  unfold begin_ at h
  by_cases hi : i < ds.length
  · rw [List.getElem?_append_left (by simpa using hi), List.getElem?_map] at h
    obtain ⟨d', e1, e2⟩ := Option.map_eq_some_iff.mp h
    exact .inr ⟨d', e2.symm, e1⟩
  · rw [List.getElem?_append_right (by simpa using hi)] at h
    obtain ⟨_, e⟩ := List.getElem?_eq_some_iff.mp h
    rw [List.getElem_replicate] at e
    exact .inl e.symm
theorem start_at {N : List Str} {vs : List V} {i : Nat} {v : V} (h : vs[i]? = some v) : (L2.start N vs)[i]? = some (some v) := by
  unfold L2.start
  rw [List.getElem?_append_left (by rw [List.length_map]; exact (List.getElem?_eq_some_iff.mp h).1), List.getElem?_map, h]
  rfl
theorem rep_begin {K : PySem.W.Frag} {H G : Hp} {N : List Str} {ds : List D} {vs : List V} (g : Same G H) (l : DenL K G ds vs) : Rep K H G (begin_ N ds) (L2.start N vs) H G where
  ex := .refl g
  ln := by unfold begin_ L2.start; simp [l.length]
  all := fun i x h => by
    rcases begin_at h with rfl | ⟨d, rfl, e⟩
    · trivial
    · obtain ⟨v, e3, e4⟩ := l.get e
      exact ⟨v, start_at e3, e4⟩
  di := fun i j x y a h _ m => by
    rcases begin_at h with rfl | ⟨d, rfl, e⟩ <;> cases m
def callR (N : List Str) (s : Ga → RS) (ds : List D) : R D := match s (begin_ N ds) with
  | .rt d => .ok d
  | .nx _ => .ok .non
  | .ex c _ => .ex c
  | _ => .no
section
variable {P : Program} {w : World} {K : PySem.W.Frag} {mg : Str → Option Value} {base : Heap}
end
end Wy


namespace Wy
open PySem PySem.Spec PyProof.Rows L2
def Yields (K : PySem.W.Frag) (J : It) (G : Hp) (ds : List D) : Prop := ∀ (k : Nat) (H' G' : Hp), Same G G' → Same G' H' →
  (∀ d, ds[k]? = some d → J.go k H' ∧ ∀ x H'', J.yld k H' x H'' → ∃ G'', Ext H' G' H'' G'' ∧ Den K G'' d x) ∧ (ds.length ≤ k → J.stop k H')
def ItD (X : Cx) (W : XP) (tg iter : Expr) (f : Ga → R (List D)) : Prop := ∃ wi, PI X tg iter wi ∧ ∀ (H₀ G₀ : Hp) (Γ : Ga) (σ : L2.St) (H G : Hp), Rep X.K H₀ G₀ Γ σ H G →
  ∀ R : It → Hp → Prop, (f Γ).want (exAt W σ H G) (fun ds => ∀ J H' G', Ext H G H' G' → Yields X.K J G' ds → R J H') → wi σ H R
section
variable {X : Cx} {W : XP} {tg e : Expr} {f : Ga → R D} {fl : Ga → R (List D)} {pos pos' : Pos} {sa : List Stmt} {T : Ga → RS}
def asL : D → Option (List D)
  | .lst ds => some ds
  | _ => none
theorem asL_eq {d : D} {ds : List D} (h : asL d = some ds) : d = .lst ds := by cases d <;> first | (cases h; rfl) | cases h
def iL (f : Ga → R D) : Ga → R (List D) := fun Γ => (f Γ).bind fun d => .ofO (asL d)
theorem it_list (he : EvD X W e f) : ItD X W tg e (iL f) := by
  obtain ⟨t, p, q⟩ := he
  refine ⟨_, pi_list p, fun H₀ G₀ Γ σ H G R Q w => ?_⟩
  refine q _ _ _ _ _ _ R _ (wStep w (fun _ h => h) fun d w v H' G' E1 d1 => ?_)
  obtain ⟨ds, e2, k⟩ := wOfO w
  cases asL_eq e2
  obtain ⟨a, vs, rfl, s, l⟩ := den_lst.mp d1
  refine ⟨a, rfl, ⟨vs, E1.gh.seq s⟩, k _ H' G' E1 fun i H2 G2 g2 h2 => ⟨fun d hd => ?_, fun hi => ⟨vs, (g2.trans h2).seq s, by rw [← l.length]; exact hi⟩⟩⟩
  obtain ⟨v, hv, dv⟩ := l.get hd
  refine ⟨⟨vs, v, (g2.trans h2).seq s, hv⟩, fun x H3 ⟨z, y⟩ => ?_⟩
  subst z
  have q := y vs ((g2.trans h2).seq s)
  rw [hv] at q
  cases q
  exact ⟨G2, .refl h2, dv.up g2⟩
def sFor (fl : Ga → R (List D)) (g : D → Ga → Option Ga) (T : Ga → RS) : Ga → RS := fun Γ => .of (fl Γ) Γ fun ds => sTurns g T ds Γ
theorem drop_at {α : Type} : ∀ {l : List α} {k : Nat} (h : k < l.length), ∃ d, l[k]? = some d ∧ l.drop k = d :: l.drop (k + 1) := fun {l k} h => ⟨l[k], List.getElem?_eq_getElem h, List.drop_eq_getElem_cons h⟩
theorem x_for {gg : D → Ga → Option Ga} (hc : X.calm = true) (he : ItD X W tg e fl) (ht : TgD X tg gg) (hb : ExDs X W sa T) (hs : ∀ x, foldedSetIterable e X.env x = pure x := by intro _; rfl) (hp : PassesOwn (model X.prog X.w) X.A X.env X.xe := by exact PassesOwn.never) :
    ExD X W (.For tg e sa [] pos) (sFor fl gg T) := by
  obtain ⟨wi, p, q⟩ := he
  obtain ⟨t', p', q'⟩ := ht
  obtain ⟨tb, pb, qb⟩ := hb
  refine ⟨_, ps_for hp hc p p' pb hs, fun H₀ G₀ Γ σ H G R D w => ?_⟩
  refine q _ _ _ _ _ _ R _ (wS R w fun ds hr J H' G' E1 y => ?_)
  have R1 := (R.after E1).base
  have hr := hr.base (R.after E1).ex
  refine ⟨fun k m σ H => ∃ Γ G, Rep X.K H₀ G' Γ σ H G ∧ Lifts X.K W H₀ G' (sTurns gg T (ds.drop k) Γ) D ∧ m + k = ds.length, ⟨ds.length, Γ, G', R1, hr, rfl⟩, fun k m σ H ⟨Γ, G, R, hr, hm⟩ => ?_⟩
  have Y := y k H G R.ex.gg R.gh
  by_cases hk : k < ds.length
  · obtain ⟨d, hd, hdr⟩ := drop_at hk
    obtain ⟨go, yl⟩ := Y.1 d hd
    rw [hdr] at hr
    unfold sTurns at hr
    cases g1 : gg d Γ with
    | none => rw [g1] at hr; exact hr.elim
    | some Γ1 =>
      rw [g1] at hr
      dsimp only at hr
      refine .inr ⟨go, fun σ' H' => ∃ Γ G, Rep X.K H₀ G' Γ σ' H' G ∧ Lifts X.K W H₀ G' (sTurns gg T (ds.drop (k + 1)) Γ) D, fun σ' H' ⟨Γ, G, R, h⟩ => ⟨m - 1, by omega, Γ, G, R, h, by omega⟩, fun x H2 hy => ?_⟩
      obtain ⟨G2, E2, dv⟩ := yl x H2 hy
      refine q' _ _ _ _ _ _ _ _ _ (R.after E2) dv g1 _ fun σ' R1 => ?_
      refine qb _ _ _ _ _ _ R1 _ ?_
      cases h : T Γ1 with
      | nx Γ' => rw [h] at hr; exact fun σ H G R => ⟨Γ', G, R, hr⟩
      | ct Γ' => rw [h] at hr; exact fun σ H G R => ⟨Γ', G, R, hr⟩
      | bk Γ' => rw [h] at hr; exact hr
      | rt d => rw [h] at hr; exact hr
      | ex c d => rw [h] at hr; exact hr
      | no => rw [h] at hr; exact hr
  · have z : ds.drop k = [] := List.drop_eq_nil_of_le (by omega)
    rw [z] at hr
    exact .inl ⟨Y.2 (by omega), hr _ _ _ R⟩
end
def dots (n : Nat) : Str := ⟨Array.replicate n 46⟩
def dum (n : Nat) : Str := dots (2 * n + 3)
def accN (n : Nat) : Str := dots (2 * n + 2)
def blkN (x : Str) (N : List Str) : List Str := x :: accN N.length :: N.map fun y => if y = x then dum N.length else y
def blk (X : Cx) (scope : Scope) (cl : List (Str × Addr)) (C : Addr) (x : Str) (s₀ : Shared) (H₀ : Hp) (ex : List Addr) : Cx :=
  { X with N := blkN x X.N, s₀ := s₀, H₀ := H₀, env := compEnvC scope cl C X.env, outer := X.stack, stack := X.stack, ex := ex, fn := fun _ => false, pn := [], xe := fun _ _ => False }
structure BlkOk (X : Cx) (scope : Scope) (cl : List (Str × Addr)) (x : Str) : Prop where
  kind : scope.kind = .function
  cells : ∀ y ∈ scope.names, y.2 ≠ .cell
  clos : closureFor scope X.env = pure cl
  names : ∀ y ∈ scope.names, y.2 = .local → scope.names.lookup y.1 = some .local
  var : scope.names.lookup x = some .local
  nd : (blkN x X.N).Nodup
  cl1 : ∀ y c, cl.lookup y = some c → X.env.cells.lookup y = some c
  cl2 : ∀ y, ((relabel scope X.env).names.lookup y = some .cell ∨ (relabel scope X.env).names.lookup y = some .free) → ∃ c, cl.lookup y = some c
  acc : ¬ Vis (relabel scope X.env) (accN X.N.length)
  vis : ∀ y ∈ X.N, (if y = x then dum X.N.length else y) ∈ blkN x X.N → Vis (relabel scope X.env) (if y = x then dum X.N.length else y) → y ≠ x ∧ ((relabel scope X.env).names.lookup y = some .cell ∨ (relabel scope X.env).names.lookup y = some .free) ∧ (X.env.kindOf y = some .cell ∨ X.env.kindOf y = some .free)
section
variable {X : Cx} {pins : List (Addr × Obj)} {σ : L2.St} {H : Hp} {s : Shared} {scope : Scope} {cl : List (Str × Addr)} {x : Str} {fp : List Addr}
theorem blk_ok (B : BlkOk X scope cl x) (I : Inv X pins σ H s) (hf : ∀ b ∈ fp, FpOk X pins H b) (hfp : ∀ b ∈ fp, b < s.heap.objs.size) {C : Addr} (hC : s.heap.objs.size ≤ C) : (blk X scope cl C x s H fp).Ok where
  mod := I.ok.mod
  kind := B.kind
  glob := I.ok.glob
  blt := I.ok.blt
  above := hC
  inj := fun y z c h1 h2 => I.ok.inj y z c (B.cl1 y c h1) (B.cl1 z c h2)
  has := fun y h => B.cl2 y h
  cab := fun _ _ h => nomatch h
  hd := I.ok.hd
  frames := I.ok.frames
  stk := .inl rfl
  exf := fun b hb => ⟨Nat.ne_of_lt (Nat.lt_of_lt_of_le (hfp b hb) hC), fun y c h => (hf b hb).2.2.2.2.1 y c (B.cl1 y c h)⟩
  bs := I.bs
  bsz := Nat.le_trans I.ok.bsz I.sz
  noex := fun b o e hb => by
    rcases (hf b hb).2.2.2.1 with z | z
    · exact I.ok.noex b o e z
    · exact absurd (Nat.lt_of_lt_of_le (Heap.lt_size e) (Nat.le_trans I.ok.bsz z)) (Nat.lt_irrefl _)
  exfs := fun b hb z => by
    rcases List.mem_cons.mp (I.stkSub b z) with e | e
    · exact (hf b hb).2.1 e
    · exact (hf b hb).2.2.1 e
  funs := I.stack
  frf := I.stkFree
theorem blk_inv (B : BlkOk X scope cl x) (I : Inv X pins σ H s) (hf : ∀ b ∈ fp, FpOk X pins H b) (hfp : ∀ b ∈ fp, b < s.heap.objs.size) {C Dd : Addr} {h1 : Heap} {tk : Nat} {m : Str → Option Value}
    (hC : s.heap.objs.size ≤ C) (hD : s.heap.objs.size ≤ Dd) (hDC : Dd ≠ C) (hn : h1.Ns C m) (hd : h1.get? Dd = some { cls := .type "list", data := .seq #[] 0 }) (k : ∀ b o, s.heap.get? b = some o → h1.get? b = some o) :
    Inv (blk X scope cl C x s H fp) [] (none :: some (V.ref Dd) :: σ) (upd H Dd (.lst [])) { s with heap := h1, toks := tk } where
  ok := blk_ok B I hf hfp hC
  os := rfl
  bare := I.bare
  base := Un.laid k hD (I.hok.fresh hD)
  loc := by
    refine ⟨m, hn, fun i y v e1 e2 e3 => ?_⟩
    match i, e1, e2 with
    | 0, e1, e2 => cases e2
    | 1, e1, e2 =>
      have e : y = accN X.N.length := by
        have := e1
        simp only [blk, blkN, List.getElem?_cons_succ, List.getElem?_cons_zero] at this
        exact (Option.some.inj this).symm
      subst e
      exact absurd e3 B.acc
    | i + 2, e1, e2 =>
      have e1' : (X.N.map fun y => if y = x then dum X.N.length else y)[i]? = some y := e1
      have e2' : σ[i]? = some (some v) := e2
      rw [List.getElem?_map] at e1'
      obtain ⟨z, hz, ez⟩ := Option.map_eq_some_iff.mp e1'
      subst ez
      have hmem : z ∈ X.N := List.mem_of_getElem? hz
      obtain ⟨hne, hk1, hk2⟩ := B.vis z hmem (List.mem_cons_of_mem _ (List.mem_cons_of_mem _ (List.mem_map_of_mem (f := fun y => if y = x then dum X.N.length else y) hmem))) e3
      rw [if_neg hne]
      obtain ⟨m0, _, hl⟩ := I.loc
      obtain ⟨u, r, l⟩ := hl i z v hz e2' (hk2.elim (fun q => .inr (.inl q)) fun q => .inr (.inr q))
      refine ⟨u, r, .inr ⟨hk1, ?_⟩⟩
      rcases l with ⟨q, _⟩ | ⟨_, c, hc, hcell⟩
      · rcases hk2 with q' | q' <;> (rw [q] at q'; cases q')
      · obtain ⟨c', hc'⟩ := B.cl2 z hk1
        have := B.cl1 z c' hc'
        rw [hc] at this
        cases this
        obtain ⟨o, ho, hod⟩ := hcell
        exact ⟨c, hc', o, k _ _ ho, hod⟩
  cell := fun y c h => by
    obtain ⟨v, o, ho, hod⟩ := I.cell y c (B.cl1 y c h)
    exact ⟨v, o, k _ _ ho, hod⟩
  free := by
    show upd H Dd (.lst []) C = none
    rw [upd_ne (Ne.symm hDC)]
    exact I.hok.fresh hC
  freeC := fun y c h => by
    obtain ⟨v, o, ho, hod⟩ := I.cell y c (B.cl1 y c h)
    show upd H Dd (.lst []) c = none
    rw [upd_ne (fun e => absurd (Nat.lt_of_lt_of_le (Heap.lt_size ho) (by rw [e]; exact hD)) (Nat.lt_irrefl _))]
    exact I.freeC y c (B.cl1 y c h)
  pin := fun p hp => nomatch hp
  hok := I.hok.laid k hD ⟨Nat.zero_le _, [], 0, .nil, hd⟩
  len := by
    show (none :: some (V.ref Dd) :: σ).length = (blkN x X.N).length
    simp [blkN, I.len]
end
theorem bind_ok' {α β : Type} {x : R α} {f : α → R β} {b : β} (h : x.bind f = .ok b) : ∃ a, x = .ok a ∧ f a = .ok b := by
  cases x with
  | ok a => exact ⟨a, rfl, h⟩
  | ex c => cases h
  | no => cases h
def compR (c : Ga → R Bool) (f : Ga → R D) (Γ : Ga) : List D → R (List D)
  | [] => .ok []
  | d :: ds => (c (.val d :: .un :: Γ)).calm.bind fun k => match k with
    | true => (f (.val d :: .un :: Γ)).calm.bind fun y => (compR c f Γ ds).bind fun r => .ok (y :: r)
    | false => compR c f Γ ds
theorem compR_calm (c : Ga → R Bool) (f : Ga → R D) (Γ : Ga) : ∀ ds x, compR c f Γ ds ≠ .ex x
  | [], x, h => by cases h
  | d :: ds, x, h => by
    unfold compR at h
    cases h1 : c (.val d :: .un :: Γ) with
    | ok k =>
      rw [h1] at h
      cases k with
      | false => exact compR_calm c f Γ ds x h
      | true =>
        simp only [calm_of_ok, R.bind_ok] at h
        cases h2 : f (.val d :: .un :: Γ) with
        | ok y =>
          rw [h2] at h
          simp only [calm_of_ok, R.bind_ok] at h
          cases h3 : compR c f Γ ds with
          | ok r => rw [h3] at h; cases h
          | ex z => exact compR_calm c f Γ ds z h3
          | no => rw [h3] at h; cases h
        | ex z => rw [h2] at h; cases h
        | no => rw [h2] at h; cases h
    | ex z => rw [h1] at h; cases h
    | no => rw [h1] at h; cases h
def TsD (X : Cx) (ifs : List Expr) (c : Ga → R Bool) : Prop :=
  ∀ (pins : List (Addr × Obj)) (s : Shared) (σ : L2.St) (H : Hp) (H₀ G₀ : Hp) (Γ : Ga) (G : Hp) (b : Bool), Inv X pins σ H s → Rep X.K H₀ G₀ Γ σ H G → c Γ = .ok b →
    wpAny (model X.prog X.w) X.A (forIn ifs true fun t r => if r = true then do let ok ← isTrue t X.env (eval t X.env); pure (ForInStep.yield ok) else pure (ForInStep.yield r)) (fun ok s' => ok = b ∧ ∃ H' G', Inv X pins σ H' s' ∧ Ext H G H' G') X.xe s
def cTrue : Ga → R Bool := fun _ => .ok true
theorem ts_nil {X : Cx} : TsD X [] cTrue := fun pins s σ H H₀ G₀ Γ G b I R e => by
  cases e
  exact wpAny_tests_nil ⟨rfl, H, G, I, .refl R.gh⟩
section
variable {prog : Program} {w : World} {A : Around} {R : Result → Shared → Prop} {s : Shared}
theorem compLoop_own {elt target iter : Expr} {ifs : List Expr} {scope : Scope} {pos : Pos} {it acc : Value} {env : Env} (I : Nat → Shared → Prop)
    (turn : ∀ n s, I n s → wpAny (model prog w) A (pyNext it) (fun r s₁ => match r with
      | none => R (.ok .next) s₁
      | some v => wpAny (model prog w) A (letOwnedTupleGo target it v) (fun _ s₁ => wpAny (model prog w) A (assign target env v) (fun _ s₂ =>
          wpAny (model prog w) A (forIn ifs true fun c r => if r = true then do let ok ← isTrue c env (eval c env); pure (ForInStep.yield ok) else pure (ForInStep.yield r)) (fun ok s₃ =>
            if ok = true then wpAny (model prog w) A (eval elt env) (fun x s₄ =>
              wpAny (model prog w) A (call (.builtin "list.append") [acc, x]) (fun _ s₅ => ∃ m, m < n ∧ I m s₅) (fun _ _ => False) s₄) (fun _ _ => False) s₃
            else ∃ m, m < n ∧ I m s₃) (fun _ _ => False) s₂) (fun _ _ => False) s₁) (fun _ _ => False) s₁) (fun _ _ => False) s)
    (n : Nat) (h : I n s) :
    codeAny (model prog w) A (.compLoop (.ListComp elt [⟨target, iter, ifs, 0⟩] scope pos) 0 it acc env) R s := by
  refine codeAny_loop rfl I (fun n s hI => ?_) n h
  show wpAny _ A ((compTurn (.ListComp elt [⟨target, iter, ifs, 0⟩] scope pos) 0 it acc env).onRaise (fun x => do noteFrame x env; theTreesLotGoes x)) _ _ s
  refine wpAny_noted ?_
  rw [compTurn_list]
  refine wpAny_bind (wpAny_standAt (wpAny_bind (wpAny_mono (turn n s hI) (fun r s₁ h₁ => ?_) fun _ _ h' => h'.elim)))
  cases r with
  | none => exact wpAny_pure h₁
  | some v =>
    refine wpAny_bind (wpAny_mono h₁ (fun _ s₁ h₁ => ?_) fun _ _ h' => h'.elim)
    refine wpAny_bind (wpAny_mono h₁ (fun _ s₂ h₂ => wpAny_bind (wpAny_mono h₂ (fun ok s₃ h₃ => ?_) fun _ _ h' => h'.elim)) fun _ _ h' => h'.elim)
    cases ok with
    | false => exact wpAny_pure ⟨rfl, h₃⟩
    | true =>
      exact wpAny_bind (wpAny_bind (wpAny_mono h₃ (fun x s₄ h₄ => wpAny_bind (wpAny_mono h₄ (fun _ s₅ h₅ => wpAny_pure (wpAny_pure ⟨rfl, h₅⟩)) fun _ _ h' => h'.elim)) fun _ _ h' => h'.elim))
end
theorem Rep.consUn {K : PySem.W.Frag} {H₀ G₀ H G : Hp} {Γ : Ga} {σ : L2.St} (R : Rep K H₀ G₀ Γ σ H G) (o : Option V) : Rep K H₀ G₀ (.un :: Γ) (o :: σ) H G where
  ex := R.ex
  ln := by simp [R.ln]
  all := fun i x h => by
    cases i with
    | zero => cases h; trivial
    | succ i => exact R.all i x (by simpa using h)
  di := fun i j x y a h1 h2 m1 m2 h3 h4 => by
    cases i with
    | zero => cases h1; cases m1
    | succ i =>
      cases j with
      | zero => cases h2; cases m2
      | succ j => exact congrArg (· + 1) (R.di i j x y a (by simpa using h1) (by simpa using h2) m1 m2 (by simpa using h3) (by simpa using h4))
section
variable {X : Cx} {pins : List (Addr × Obj)} {σ : L2.St} {H H₀ G₀ G : Hp} {Γ : Ga} {s : Shared} {scope : Scope} {cl : List (Str × Addr)} {x : Str} {px pos : Pos} {fp : List Addr} {elt iter : Expr} {ifs : List Expr} {c : Ga → R Bool} {f : Ga → R D}
theorem comp_core {J : It} {it : Addr} {tn : Nat → Heap → Prop} {ds outs : List D} {E : Value → Shared → Prop} (B : BlkOk X scope cl x) (hcalm : X.calm = true) (I : Inv X pins σ H s) (R : Rep X.K H₀ G₀ Γ σ H G)
    (T : Turn X.prog X.w X.K (.Name x px) J fp it tn) (st : tn 0 s.heap) (hf : ∀ b ∈ fp, FpOk X pins H b) (Y : Yields X.K J G ds)
    (hT : ∀ C, TsD (blk X scope cl C x s H fp) ifs c) (hE : ∀ C, EvD (blk X scope cl C x s H fp) XP0 elt f) (hc : compR c f Γ ds = .ok outs) (hlen : ds.length < 16000000)
    {RR : Value → Addr → Result → Shared → Prop}
    (hRR : ∀ Dd C s' H' G' vs m, s'.os = s.os → AllBare s'.gens → Un (frs X.stack) fp H H' s.heap s'.heap → HOk X.prog X.w H' s'.heap → s.heap.objs.size ≤ C → H' C = none → s'.heap.Ns C m →
      Ext H G H' G' → H Dd = none → H' Dd = some (.lst vs) → G' Dd = none → DenL X.K G' outs vs → RR (.ref Dd) C (.ok .next) s') :
    wpAny (model X.prog X.w) X.A (newList []) (fun acc s₃ => wpAny (model X.prog X.w) X.A (newFunctionEnv scope X.env.globals cl [] X.env.qual none .none (some X.env)) (fun cenv s₄ =>
      codeAny (model X.prog X.w) X.A (.compStart (.ListComp elt [⟨.Name x px, iter, ifs, 0⟩] scope pos) 0 (.ref it) acc { cenv with scope := relabel scope X.env }) (RR acc cenv.locals) s₄) E s₃) E s := by
  have hfp : ∀ b ∈ fp, b < s.heap.objs.size := fun b hb => by
    obtain ⟨o, e, _⟩ := T.obj 0 _ st b hb
    exact Heap.lt_size e
  refine wpAny_newObj_type (wpAny_newFunctionEnv B.cells (by intro y hy; simp at hy) (fun h₁ hns₁ hsb₁ => ?_) B.kind)
  dsimp only at hns₁ hsb₁ ⊢
  generalize hH2 : s.heap.push { cls := .type "list", dict := none, data := .seq ([] : List Value).toArray } = H2 at hns₁ hsb₁ ⊢
  have hC : H2.objs.size = s.heap.objs.size + 1 := by rw [← hH2, Heap.size_push]
  have hDC : s.heap.objs.size ≠ H2.objs.size := by rw [hC]; exact Nat.ne_of_lt (Nat.lt_succ_self _)
  have hCle : s.heap.objs.size ≤ H2.objs.size := by rw [hC]; exact Nat.le_succ _
  have old : ∀ b o, s.heap.get? b = some o → h₁.get? b = some o := fun b o e => hsb₁.extBut b o (by rw [hC]; exact Nat.ne_of_lt (Nat.lt_succ_of_lt (Heap.lt_size e))) (Heap.get?_push_of_some _ (hH2 ▸ Heap.get?_push_of_some _ e))
  have hacc : h₁.get? s.heap.objs.size = some { cls := .type "list", data := .seq #[] 0 } := hsb₁.extBut _ _ hDC (Heap.get?_push_of_some _ (hH2 ▸ Heap.get?_push_size _ rfl))
  have I0 := blk_inv (tk := s.toks + ([] : List (Str × Value)).length) B I hf hfp hCle (Nat.le_refl _) hDC hns₁ hacc old
  have hp : H s.heap.objs.size = none := I.fresh
  have E0 : Ext H G (upd H s.heap.objs.size (.lst [])) G := .own R.gh hp _
  have R0 : Rep X.K H₀ G₀ (.un :: .own [] :: Γ) (none :: some (V.ref s.heap.objs.size) :: σ) (upd H s.heap.objs.size (.lst [])) G := by
    have r1 := ((R.after E0).consUn (some (V.ref s.heap.objs.size)))
    have r2 := r1.setO 0 (xs := []) (a := s.heap.objs.size) (vs := []) upd_same (R.ex.hh.free hp) (R.gh.free hp) (denL_nil.mpr rfl) (fun j ys hj hy hm hs => ?_)
    · exact r2.consUn none
    · cases j with
      | zero => exact hj rfl
      | succ j =>
        obtain ⟨zs, hz⟩ := Sl.cont_of hm
        obtain ⟨a, us, s1, s2, _⟩ := R.mo (i := j) (x := ys) (by simpa using hy) hz
        have hs' : σ[j]? = some (some (V.ref s.heap.objs.size)) := by simpa using hs
        rw [hs'] at s1
        cases s1
        rw [hp] at s2
        cases s2
  generalize hX : blk X scope cl H2.objs.size x s H fp = X' at I0
  have eK : X'.K = X.K := by rw [← hX]; rfl
  have eP : X'.prog = X.prog := by rw [← hX]; rfl
  have eW : X'.w = X.w := by rw [← hX]; rfl
  have eA : X'.A = X.A := by rw [← hX]; rfl
  have eE : X'.env = compEnvC scope cl H2.objs.size X.env := by rw [← hX]; rfl
  have eX : X'.xe = fun _ _ => False := by rw [← hX]; rfl
  have eN : X'.N = blkN x X.N := by rw [← hX]; rfl
  have eF : X'.fs = frs X.stack := by rw [← hX]; rfl
  have eCa : X'.calm = true := by rw [← hX]; exact hcalm
  have hT' : TsD X' ifs c := hX ▸ hT _
  have hE' : EvD X' XP0 elt f := hX ▸ hE _
  have fpok : ∀ {H' : Hp}, (∀ b ∈ fp, H' b = none) → ∀ b ∈ fp, FpOk X' [] H' b := fun hn b hb => by
    refine ⟨hn b hb, ?_, ?_, .inl (by rw [← hX]; exact hb), ?_, fun p hp => by rw [← hX] at hp; exact nomatch hp⟩
    · rw [← hX]; exact Nat.ne_of_lt (Nat.lt_of_lt_of_le (hfp b hb) hCle)
    · rw [eF]
      intro z
      rcases List.mem_cons.mp (I.stkSub b z) with e | e
      · exact (hf b hb).2.1 e
      · exact (hf b hb).2.2.1 e
    · rw [eE]; exact fun y c' h => (hf b hb).2.2.2.2.1 y c' (B.cl1 y c' h)
  obtain ⟨te, pe, qe⟩ := hE'
  have pg : PG X' (.Name x px) (gName 0) := pg_name (by rw [eN]; exact B.nd) (by rw [eN]; rfl) (by rw [eE]; exact .inl (lookup_relabel_local B.var)) (by rw [eE]; exact .inr (lookup_relabel_local B.var))
  have loop : ∀ s₃ : Shared, s₃ = { s with heap := h₁, toks := s.toks + ([] : List (Str × Value)).length } →
      codeAny (model X.prog X.w) X.A (.compLoop (.ListComp elt [⟨.Name x px, iter, ifs, 0⟩] scope pos) 0 (.ref it) (.ref s.heap.objs.size) (compEnvC scope cl H2.objs.size X.env)) (RR (.ref s.heap.objs.size) H2.objs.size) s₃ := by
    rintro s₃ rfl
    refine compLoop_own (fun n s' => ∃ (k : Nat) (sl : Sl) (o : Option V) (H' G' : Hp) (dn rs : List D), Inv X' [] (o :: some (V.ref s.heap.objs.size) :: σ) H' s' ∧ tn k s'.heap ∧ (∀ b ∈ fp, H' b = none) ∧
      Rep X.K H₀ G₀ (sl :: .own dn :: Γ) (o :: some (V.ref s.heap.objs.size) :: σ) H' G' ∧ Ext H G H' G' ∧ compR c f Γ (ds.drop k) = .ok rs ∧ dn ++ rs = outs ∧ dn.length ≤ k ∧ k ≤ ds.length ∧ n + k = ds.length) ?_ ds.length
      ⟨0, .un, none, _, G, [], outs, I0, T.keep _ _ _ st (fun b hb o e => old b o e), fun b hb => by
        rw [upd_ne (Nat.ne_of_lt (hfp b hb))]; exact (hf b hb).1, R0, E0, hc, rfl, Nat.zero_le _, Nat.zero_le _, rfl⟩
    rintro n s' ⟨k, sl, o, H', G', dn, rs, I', st', fr', R', E', hc', ho, hdn, hkl, hn⟩
    have Yk := Y k H' G' E'.gg E'.gh
    by_cases hk : k < ds.length
    · obtain ⟨d, hd, hdr⟩ := drop_at hk
      obtain ⟨go, yl⟩ := Yk.1 d hd
      rw [hdr] at hc'
      have it1 := T.item X' eP eW eK eCa k [] s' _ H' (fun _ _ => False) I' (fpok fr') st' go
      rw [eA] at it1
      refine wpAny_mono it1 (fun r s1 ⟨u, hr, h4⟩ => ?_) fun _ _ z => z
      subst hr
      refine wpAny_mono h4 (fun _ s5 ⟨xv, H5, I5, r5, y5, st5, fr5⟩ => ?_) fun _ _ z => z
      obtain ⟨G5, E5, d5⟩ := yl xv H5 y5
      have I5' := I5.pinned (fpok fr5) (T.obj _ _ st5)
      have R5 := R'.after E5
      have asg := pg _ s5 _ H5 xv u (fun σ' H' => σ' = some xv :: some (V.ref s.heap.objs.size) :: σ ∧ H' = H5) I5' r5 ⟨rfl, rfl⟩
      rw [eP, eW, eA, eE, eX] at asg
      refine wpAny_mono asg (fun _ s6 ⟨σ6, H6, I6, q6, q6'⟩ => ?_) fun _ _ z => z
      subst q6 q6'
      have R6 : Rep X.K H₀ G₀ (.val d :: .own dn :: Γ) (some xv :: some (V.ref s.heap.objs.size) :: σ) H6 G5 := R5.setV 0 d5
      have R6u : Rep X'.K H₀ G₀ (.val d :: .un :: Γ) (some xv :: some (V.ref s.heap.objs.size) :: σ) H6 G5 := by
        rw [eK]
        refine R6.weak rfl fun i y h => ?_
        match i, h with
        | 0, h => exact .inr h
        | 1, h => cases h; exact .inl rfl
        | i + 2, h => exact .inr h
      unfold compR at hc'
      obtain ⟨kb, ec, hc'⟩ := bind_ok' hc'
      have ec := calm_ok ec
      have tst := hT' _ s6 _ H6 _ _ _ _ _ I6 R6u ec
      rw [eP, eW, eA, eE, eX] at tst
      refine wpAny_mono tst (fun ok s7 ⟨hok, H7, G7, I7, E7⟩ => ?_) fun _ _ z => z
      subst hok
      have R7 := R6.after E7
      have back : ∀ {s8 : Shared} {H8 : Hp} {G8 : Hp} {dn' rs' : List D}, Inv X' (([] : List (Addr × Obj)) ++ pinsAt fp s5.heap) (some xv :: some (V.ref s.heap.objs.size) :: σ) H8 s8 → Rep X.K H₀ G₀ (.val d :: .own dn' :: Γ) (some xv :: some (V.ref s.heap.objs.size) :: σ) H8 G8 → Ext H G H8 G8 →
          compR c f Γ (ds.drop (k + 1)) = .ok rs' → dn' ++ rs' = outs → dn'.length ≤ k + 1 → ∃ m, m < n ∧ ∃ (k : Nat) (sl : Sl) (o : Option V) (H' G' : Hp) (dn rs : List D), Inv X' [] (o :: some (V.ref s.heap.objs.size) :: σ) H' s8 ∧ tn k s8.heap ∧ (∀ b ∈ fp, H' b = none) ∧
            Rep X.K H₀ G₀ (sl :: .own dn :: Γ) (o :: some (V.ref s.heap.objs.size) :: σ) H' G' ∧ Ext H G H' G' ∧ compR c f Γ (ds.drop k) = .ok rs ∧ dn ++ rs = outs ∧ dn.length ≤ k ∧ k ≤ ds.length ∧ m + k = ds.length := fun {s8 H8 G8 dn' rs'} I8 R8 E8 c8 o8 l8 => by
        refine ⟨n - 1, by omega, k + 1, _, _, H8, G8, dn', rs', I8.unpinned, T.keep _ _ _ st5 fun b hb o e => (I8.pin (b, o) (List.mem_append_right _ (List.mem_append_right _ (mem_pinsAt hb e)))).1, fun b hb => ?_, R8, E8, c8, o8, l8, by omega, by omega⟩
        obtain ⟨o, e, _⟩ := T.obj _ _ st5 b hb
        exact (I8.pin (b, o) (List.mem_append_right _ (List.mem_append_right _ (mem_pinsAt hb e)))).2.1
      have E57 : Ext H G H7 G7 := E'.trans (E5.trans E7)
      cases ok with
      | false =>
        rw [if_neg Bool.false_ne_true]
        exact back I7 R7 E57 hc' ho (by omega)
      | true =>
        rw [if_pos rfl]
        obtain ⟨y, ey, hc'⟩ := bind_ok' hc'
        have ey := calm_ok ey
        obtain ⟨r', er, hc'⟩ := bind_ok' hc'
        cases hc'
        have R7u := R6u.after E7
        have ev := pe _ s7 _ H7 (fun v H8 => ∃ G8, Ext H7 G7 H8 G8 ∧ Den X'.K G8 y v) I7 (qe _ _ _ _ _ _ R7u _ (by rw [ey]; exact fun v H8 G8 E8 d8 => ⟨G8, E8, d8⟩))
        rw [eP, eW, eA, eE, eX] at ev
        refine wpAny_mono ev (fun yv s8 ⟨v8, H8, I8, r8, G8, E8, d8⟩ => ?_) fun _ _ z => z
        rw [eK] at d8
        have R8 := R7.after E8
        obtain ⟨a, vs, q1, q2, q3, q4, q5⟩ := R8.ow 1 dn rfl
        cases q1
        have ap := mt_append (X := X') _ s8 _ H8 (.ref s.heap.objs.size) [v8] _ _ (fun v H9 => v = .non ∧ H9 = upd H8 s.heap.objs.size (.lst (vs ++ [v8]))) I8 rfl (.cons r8 .nil) ⟨_, vs, v8, rfl, rfl, q2, by rw [← q5.length]; exact lt24 (by omega), rfl, rfl⟩
        rw [eP, eW, eA, eX] at ap
        refine wpAny_mono ap (fun _ s9 ⟨_, H9, I9, _, _, q9⟩ => ?_) fun _ _ z => z
        subst q9
        refine back I9 (R8.mut (i := 1) rfl rfl (q5.append (.one d8))) ⟨(E57.trans E8).gg, fun b o q => ?_, fun b o q => ?_, (E57.trans E8).fr⟩ er (by rw [List.append_assoc]; exact ho) (by rw [List.length_append, List.length_singleton]; omega)
        · rw [upd_ne (fun z => by rw [z, q4] at q; cases q)]; exact E8.gh b o q
        · rw [upd_ne (fun z => by rw [z, hp] at q; cases q)]; exact (E57.trans E8).hh b o q
    · have z : ds.drop k = [] := List.drop_eq_nil_of_le (by omega)
      rw [z] at hc'
      cases hc'
      rw [List.append_nil] at ho
      subst ho
      have dn1 := T.done X' eP eW eK eCa k [] s' _ H' (fun _ _ => False) I' (fpok fr') st' (Yk.2 (by omega))
      rw [eA] at dn1
      refine wpAny_mono dn1 (fun r s1 ⟨hr, I1⟩ => ?_) fun _ _ z => z
      subst hr
      obtain ⟨a, vs, q1, q2, q3, q4, q5⟩ := R'.ow 1 dn rfl
      cases q1
      obtain ⟨m, hm, _⟩ := I1.loc
      have base := I1.base
      rw [eF] at base
      refine hRR s.heap.objs.size H2.objs.size s1 H' G' vs m ?_ I1.bare ?_ ?_ hCle ?_ ?_ E' hp q2 q4 q5
      · have := I1.os; rw [← hX] at this; exact this
      · rw [← hX] at base; exact base
      · have := I1.hok; rw [eP, eW] at this; exact this
      · have := I1.free; rw [eE] at this; exact this
      · rw [eE] at hm; exact hm
  exact codeAny_compStart_list (loop _ rfl) (T.self _ 0 _ _ _ (T.keep _ _ _ st fun b hb o e => old b o e) (loop _ rfl))
end
section
variable {X : Cx} {scope : Scope} {cl : List (Str × Addr)} {x y : Str} {px py pos spos : Pos} {elt iter : Expr} {ifs : List Expr} {c : Ga → R Bool} {f : Ga → R D} {fl : Ga → R (List D)}
def cpR (fl : Ga → R (List D)) (c : Ga → R Bool) (f : Ga → R D) : Ga → R (List D) := fun Γ => (fl Γ).bind fun ds => if ds.length < 16000000 then compR c f Γ ds else .no
theorem cp_want {Γ : Ga} {ds : List D} {E : Str → Prop} {P : List D → Prop} (h : R.want (if ds.length < 16000000 then compR c f Γ ds else .no) E P) : ∃ outs, ds.length < 16000000 ∧ compR c f Γ ds = .ok outs ∧ P outs := by
  split at h
  · rename_i hl
    cases q : compR c f Γ ds with
    | ok outs => rw [q] at h; exact ⟨outs, hl, rfl, h⟩
    | ex z => exact absurd q (compR_calm c f Γ ds z)
    | no => rw [q] at h; exact h.elim
  · exact h.elim
theorem after_block {pins : List (Addr × Obj)} {σ : L2.St} {H H' : Hp} {s s' : Shared} {fp : List Addr} (I : Inv X pins σ H s) (hf : ∀ b ∈ fp, FpOk X pins H b) (os : s'.os = s.os) (bare : AllBare s'.gens) (un : Un (frs X.stack) fp H H' s.heap s'.heap) (hok : HOk X.prog X.w H' s'.heap) : Inv X pins σ H' s' :=
  I.call' (ch := fp) os un hok bare fun b hb => ⟨(hf b hb).2.2.2.1, (hf b hb).2.1, (hf b hb).2.2.2.2.1, (hf b hb).2.2.2.2.2⟩
theorem turned_C {pins : List (Addr × Obj)} {σ : L2.St} {H H' : Hp} {s s' : Shared} {σ' : L2.St} {C : Addr} {h'' : Heap} (I : Inv X pins σ H s) (I' : Inv X pins σ' H' s') (hC : s.heap.objs.size ≤ C) (hCn : H' C = none) (hsb : Heap.SameBut C s'.heap h'') : Inv X pins σ' H' { s' with heap := h'' } := by
  have q := I.fpOk (H' := H') hC hCn
  exact I'.turned (it := C) (t' := s'.toks) (fun b o hb e => (hsb.2 b hb).trans e) hCn q.2.1 q.2.2.2.1 q.2.2.2.2.1 q.2.2.2.2.2
theorem ow_comp {W : XP} (B : BlkOk X scope cl x) (hcalm : X.calm = true) (hi : ItD X W (.Name x px) iter fl) (hT : ∀ C s H fp, TsD (blk X scope cl C x s H fp) ifs c) (hE : ∀ C s H fp, EvD (blk X scope cl C x s H fp) XP0 elt f)
    (hs : ∀ x, foldedSetIterable iter X.env x = pure x := by intro _; rfl) : OwD X W (.ListComp elt [⟨.Name x px, iter, ifs, 0⟩] scope pos) (cpR fl c f) := by
  obtain ⟨wi, pI, qI⟩ := hi
  refine ⟨fun σ H Q => ∃ (H₀ G₀ : Hp) (Γ : Ga) (G : Hp), Rep X.K H₀ G₀ Γ σ H G ∧ (cpR fl c f Γ).want (exAt W σ H G) fun outs => ∀ p vs H' G', Ext H G H' G' → H p = none → H' p = some (.lst vs) → G' p = none → DenL X.K G' outs vs → Q (.ref p) H', ?_, fun H₀ G₀ Γ σ H G R Q w => ⟨H₀, G₀, Γ, G, R, w⟩⟩
  rintro pins s σ H Q I ⟨H₀, G₀, Γ, G, R, w⟩
  rw [eval_ListComp]
  refine wpAny_comprehension_free (use := none) rfl hs B.clos B.kind B.names ?_
  have h1 := pI pins s σ H (fun J H' => ∃ G' ds outs, Ext H G H' G' ∧ Yields X.K J G' ds ∧ ds.length < 16000000 ∧ compR c f Γ ds = .ok outs ∧ ∀ p vs H' G', Ext H G H' G' → H p = none → H' p = some (.lst vs) → G' p = none → DenL X.K G' outs vs → Q (.ref p) H') I
    (qI _ _ _ _ _ _ R _ (wStep w (fun _ h => h) fun ds w J H' G' E1 y => let ⟨outs, hl, e2, k⟩ := cp_want w; ⟨G', ds, outs, E1, y, hl, e2, k⟩))
  refine thn h1 fun xv s1 h1 => thn h1 fun itv s2 ⟨it, fp, tn, J, H2, e, I2, T, st, hf, G2, ds, outs, E2, y2, hl, e2, k⟩ => ?_
  subst e
  refine comp_core (RR := fun acc C => compPost (model X.prog X.w) X.A X.xe none (EP X pins σ Q) acc C) B hcalm I2 (R.after E2) T st hf y2 (fun C => hT _ _ _ _) (fun C => hE _ _ _ _) e2 hl ?_
  intro Dd C s' H' G' vs m os bare un hok hC hCn hns E' hp h' g' l
  refine ⟨m, hns, fun h'' hsb => ?_⟩
  have I3 := turned_C I2 (after_block I2 hf os bare un hok) hC hCn hsb
  exact ⟨.ref Dd, H', I3, rfl, k Dd vs H' G' (E2.trans E') (E2.hh.free hp) h' g' l⟩
end
end Wy


namespace HT
open PySem PySem.Spec PyProof.Rows L2
section
variable {prog : Program} {w : World} {A : Around} {E : Value → Shared → Prop} {s : Shared}
theorem getItem_tuple_whole {t sl : Addr} {items : Array Value} {vl vu : Value} {lo hi : Option Int} {Q : Value → Shared → Prop} (ht : IsTup s.heap t items) (hs : s.heap.IsSliceOf sl vl vu .none) (pl : IsPart vl lo) (pu : IsPart vu hi)
    (hw : sIx items.size 0 lo = 0 ∧ sIx items.size items.size hi = items.size) (h : Q (.ref t) s) : wpAny (model prog w) A (getItem (.ref t) (.ref sl)) Q E s := by
  obtain ⟨os, hos, hcs, hds⟩ := id hs
  have hTs : s.TypeIs (.ref sl) "slice" := ⟨os, hos, hcs⟩
  unfold getItem
  try with_reducible refine wpAny_holding ?_
  first | refine wpAny_bind (wpAny_pure ?_) | skip
  refine wpAny_bind (wpAny_sequenceKey ht.typeIs (by decide) ?_)
  refine wpAny_bind (wpAny_callSpecial?_slot (name := Str.ofString "__getitem__") ht.typeIs PyProof.Rows.slot_tuple_getitem
    (wpAny_call_entry PyProof.Rows.slot_tuple_getitem ht.typeIs entry_tuple_getitem ?_ (args_tuple_getitem _ _)))
  show wpAny _ _ (Builtin.Tuple.tupleItemsOf (.ref t) >>= _) _ _ s
  refine wpAny_bind (tupleItemsOf_ ht ?_)
  refine wpAny_bind (wpAny_typeOf hTs ?_)
  rw [if_pos (by decide)]
  refine wpAny_bind (sliceApplied_gen hs pl pu ?_)
  have hno : (((sIx items.size 0 lo : Nat) : Int) == 0 && (1 : Int) == 1 && (sIx items.size items.size hi - sIx items.size 0 lo) == items.size) = true := by
    rw [hw.1, hw.2]
    simp
  show wpAny _ _ (if (((sIx items.size 0 lo : Nat) : Int) == 0 && (1 : Int) == 1 && (sIx items.size items.size hi - sIx items.size 0 lo) == items.size) = true then _ else _) _ _ s
  rw [if_pos hno]
  unfold Builtin.Tuple.tupleIsExact
  refine wpAny_bind (wpAny_bind (wpAny_typeOf ht.typeIs (wpAny_pure ?_)))
  rw [if_pos (by decide)]
  exact wpAny_bind (wpAny_rule (wpAny_bind (wpAny_pure (wpAny_pure ⟨_, rfl, wpAny_pure h⟩))))
end
end HT
namespace Wy
open PySem PySem.Spec PyProof.Rows L2
section
variable {X : Cx}
def rSlTA (K : PySem.W.Frag) : V → Option Int → Option Int → Hp → VK → Prop := fun x lo hi H Q => ∃ a xs, x = .ref a ∧ SqT K H a xs ∧
  ((HT.sIx xs.length 0 lo = 0 ∧ HT.sIx xs.length xs.length hi = xs.length) → Q (.ref a) H) ∧ (¬ (HT.sIx xs.length 0 lo = 0 ∧ HT.sIx xs.length xs.length hi = xs.length) → ∀ p, H p = none → Q (.ref p) (upd H p (.tup (cutV xs lo hi))))
theorem sl_tupA : SlR X (rSlTA X.K) := by
  intro pins s σ H x v vl vu lo hi sl Q I rx hs pl pu h
  obtain ⟨a, xs, rfl, hx, q1, q2⟩ := h
  by_cases hw : HT.sIx xs.length 0 lo = 0 ∧ HT.sIx xs.length xs.length hi = xs.length
  · cases rx
    obtain ⟨its, r, ht, hz⟩ := I.tuple hx
    have hlen : its.toArray.size = xs.length := by rw [List.size_toArray]; exact r.length.symm
    refine ⟨"tuple", _, PyProof.Rows.slot_tuple_getitem.lookup, ht.typeIs, ?_⟩
    exact HT.getItem_tuple_whole ht hs pl pu (by rw [hlen]; exact hw) ⟨.ref a, H, I, rfl, q1 hw⟩
  · exact sl_tup pins s σ H _ v vl vu lo hi sl Q I rx hs pl pu ⟨a, xs, rfl, hx, hw, q2 hw⟩
end
end Wy


namespace Wy
open PySem PySem.Spec PyProof.Rows L2
def int2 (g : Int → Int → Option D) : D → D → Option D
  | .int i, .int j => g i j
  | _, _ => none
theorem int2_some {g : Int → Int → Option D} {d1 d2 d : D} (h : int2 g d1 d2 = some d) : ∃ i j, d1 = .int i ∧ d2 = .int j ∧ g i j = some d := by
  cases d1 <;> cases d2 <;> first | exact ⟨_, _, rfl, rfl, h⟩ | cases h
def mulI (i j : Int) : Option D := if (-(2 ^ 64) < i ∧ i < 2 ^ 64) ∨ (-(2 ^ 64) < j ∧ j < 2 ^ 64) then some (.int (i * j)) else none
def modI (i j : Int) : Option D := if 0 < j then some (.int (i % j)) else none
section
variable {X : Cx}
theorem opd_add : OpD X (binaryOp .Add) (int2 fun i j => some (.int (i + j))) := ⟨_, op_add, fun H G x y d1 d2 d g h1 h2 e Q q => by
  obtain ⟨i, j, rfl, rfl, e⟩ := int2_some e
  cases e
  exact ⟨i, j, den_intE h1, den_intE h2, q _ H G (.refl g) den_int⟩⟩
theorem opd_sub : OpD X (binaryOp .Sub) (int2 fun i j => some (.int (i - j))) := ⟨_, op_sub, fun H G x y d1 d2 d g h1 h2 e Q q => by
  obtain ⟨i, j, rfl, rfl, e⟩ := int2_some e
  cases e
  exact ⟨i, j, den_intE h1, den_intE h2, q _ H G (.refl g) den_int⟩⟩
theorem opd_mul : OpD X (binaryOp .Mult) (int2 mulI) := ⟨_, op_mul, fun H G x y d1 d2 d g h1 h2 e Q q => by
  obtain ⟨i, j, rfl, rfl, e2⟩ := int2_some e
  clear e
  unfold mulI at e2
  split at e2
  · rename_i hc
    cases e2
    exact ⟨i, j, den_intE h1, den_intE h2, hc, q _ H G (.refl g) den_int⟩
  · cases e2⟩
theorem opd_mod : OpD X (binaryOp .Mod) (int2 modI) := ⟨_, op_mod, fun H G x y d1 d2 d g h1 h2 e Q q => by
  obtain ⟨i, j, rfl, rfl, e2⟩ := int2_some e
  clear e
  unfold modI at e2
  split at e2
  · rename_i hc
    cases e2
    exact ⟨i, j, den_intE h1, den_intE h2, hc, q _ H G (.refl g) den_int⟩
  · cases e2⟩
theorem opd_le : OpD X (compareOp .LtE) (int2 fun i j => some (.bl (decide (i ≤ j)))) := ⟨_, op_le, fun H G x y d1 d2 d g h1 h2 e Q q => by
  obtain ⟨i, j, rfl, rfl, e⟩ := int2_some e
  cases e
  exact ⟨i, j, den_intE h1, den_intE h2, q _ H G (.refl g) den_bl⟩⟩
theorem opd_gt : OpD X (compareOp .Gt) (int2 fun i j => some (.bl (decide (j < i)))) := ⟨_, op_gt, fun H G x y d1 d2 d g h1 h2 e Q q => by
  obtain ⟨i, j, rfl, rfl, e⟩ := int2_some e
  cases e
  exact ⟨i, j, den_intE h1, den_intE h2, q _ H G (.refl g) den_bl⟩⟩
def ltD : D → D → Option D
  | .int i, .int j => some (.bl (decide (i < j)))
  | .str x, .str y => some (.bl (decide (x.cps.toList < y.cps.toList)))
  | _, _ => none
theorem opd_lt : OpD X (compareOp .Lt) ltD := ⟨_, op_lt.or op_lt_str, fun H G x y d1 d2 d g h1 h2 e Q q => by
  cases d1 <;> cases d2 <;> first | cases e | skip
  · exact .inl ⟨_, _, den_intE h1, den_intE h2, q _ H G (.refl g) den_bl⟩
  · exact .inr ⟨_, _, den_strE h1, den_strE h2, q _ H G (.refl g) den_bl⟩⟩
def inStr (x y : Str) : Bool := !(Builtin.Str.occurrences y x 0 y.length 1).isEmpty
theorem is_bl_val {x : V} {v : Value} {b : Bool} (r : RelV x v) : plainIs v (.bool b) = true ∧ (v == Value.bool b) = decide (x = .bl b) := by
  cases x with
  | non => obtain rfl : v = Value.none := r; exact ⟨rfl, by rw [decide_eq_false (by intro z; cases z)]; rfl⟩
  | bl c =>
    obtain rfl : v = Value.bool c := r
    refine ⟨rfl, ?_⟩
    cases b <;> cases c <;> rfl
  | int i => obtain ⟨t, rfl⟩ := r; exact ⟨rfl, by rw [decide_eq_false (by intro z; cases z)]; rfl⟩
  | str i => obtain ⟨t, rfl⟩ := r; exact ⟨rfl, by rw [decide_eq_false (by intro z; cases z)]; rfl⟩
  | byt i => obtain ⟨t, rfl⟩ := r; exact ⟨rfl, by rw [decide_eq_false (by intro z; cases z)]; rfl⟩
  | flt i => obtain ⟨t, rfl⟩ := r; exact ⟨rfl, by rw [decide_eq_false (by intro z; cases z)]; rfl⟩
  | ref a => obtain rfl : v = Value.ref a := r; exact ⟨rfl, by rw [decide_eq_false (by intro z; cases z)]; rfl⟩
  | ty n => obtain rfl : v = Value.type n := r; exact ⟨rfl, by rw [decide_eq_false (by intro z; cases z)]; rfl⟩
theorem op_isnot_bl : OpR X (compareOp .IsNot) (fun x y H Q => ∃ b, y = .bl b ∧ Q (.bl (!decide (x = .bl b))) H) := by
  rintro pins s σ H x y v u Q I rx ry ⟨b, rfl, q⟩
  obtain rfl : u = Value.bool b := ry
  obtain ⟨p, e⟩ := is_bl_val (b := b) rx
  exact wpAny_isNot_plain p ⟨_, H, I, by rw [e]; rfl, q⟩
def isB (x : D) (b : Bool) : Bool := match x with
  | .bl c => c == b
  | _ => false
theorem isB_den {K : PySem.W.Frag} {G : Hp} {d : D} {v : V} {b : Bool} (h : Den K G d v) : decide (v = .bl b) = isB d b := by
  cases d with
  | non => rw [den_nonE h]; rfl
  | bl c => rw [den_blE h]; cases b <;> cases c <;> rfl
  | int c => rw [den_intE h]; rfl
  | str c => rw [den_strE h]; rfl
  | tup c => obtain ⟨a, vs, rfl, _⟩ := den_tup.mp h; rfl
  | lst c => obtain ⟨a, vs, rfl, _⟩ := den_lst.mp h; rfl
def isnotD (x : D) : D → Option D
  | .bl b => some (.bl (!isB x b))
  | _ => none
theorem opd_isnot : OpD X (compareOp .IsNot) isnotD := ⟨_, op_isnot_bl, fun H G x y d1 d2 d g h1 h2 e Q q => by
  cases d2 <;> first | cases e | skip
  exact ⟨_, den_blE h2, by rw [isB_den h1]; exact q _ H G (.refl g) den_bl⟩⟩
def lenD : List D → Option D
  | [.str x] => if x.length ≤ 10000 then some (.int x.length) else none
  | [.tup ds] => some (.int ds.length)
  | [.lst ds] => some (.int ds.length)
  | _ => none
theorem calld_len : CallD X (.builtin "len") lenD := ⟨_, call_len, fun H G vs ds d g l e Q q => by
  unfold lenD at e
  split at e
  · split at e
    · rename_i hx
      cases e
      obtain ⟨v, r, rfl, h1, h2⟩ := denL_cons.mp l
      cases denL_nil.mp h2
      cases den_strE h1
      exact ⟨_, _, rfl, ⟨big24 hx, rfl⟩, q _ H G (.refl g) den_int⟩
    · cases e
  · cases e
    obtain ⟨v, r, rfl, h1, h2⟩ := denL_cons.mp l
    cases denL_nil.mp h2
    obtain ⟨a, vs, rfl, s, l⟩ := den_tup.mp h1
    exact ⟨_, _, rfl, .inr ⟨vs, Same.seqT g s, rfl⟩, q _ H G (.refl g) (by rw [l.length]; exact den_int)⟩
  · cases e
    obtain ⟨v, r, rfl, h1, h2⟩ := denL_cons.mp l
    cases denL_nil.mp h2
    obtain ⟨a, vs, rfl, s, l⟩ := den_lst.mp h1
    exact ⟨_, _, rfl, .inl ⟨vs, g.seq s, rfl⟩, q _ H G (.refl g) (by rw [l.length]; exact den_int)⟩
  · cases e⟩
theorem calls_len : CallS X (.builtin "len") (fun p => some (.int p.2.length)) := ⟨_, call_len, fun H G b ds d a vs g s l e Q q => by
  cases e
  refine ⟨_, _, rfl, ?_, q _ H G (.refl g) (by rw [l.length]; exact den_int)⟩
  rcases s.or g with z | z
  · exact .inl ⟨vs, z, rfl⟩
  · exact .inr ⟨vs, z, rfl⟩⟩
variable {W : XP}
theorem atI_den {K : PySem.W.Frag} {G : Hp} {ds : List D} {vs : List V} {i : Int} {d : D} (l : DenL K G ds vs) (h : atI ds i = some d) : ∃ v, atI vs i = some v ∧ Den K G d v := by
  unfold atI at h ⊢
  rw [← l.length]
  obtain ⟨j, e1, e2⟩ := Option.bind_eq_some_iff.mp h
  obtain ⟨v, e3, e4⟩ := l.get e2
  exact ⟨v, by rw [e1]; exact e3, e4⟩
def ixD : D → D → Option D
  | .tup ds, .int i => atI ds i
  | .lst ds, .int i => atI ds i
  | .str z, .int i => if z.length ≤ 10000 then (atI z.cps.toList i).bind fun c => some (.str ⟨#[c]⟩) else none
  | _, _ => none
variable {a b e : Expr} {fa fb f : Ga → R D} {fs : Ga → R (Bool × List D)} {pos : Pos}
theorem ev_ix (ha : EvD X W a fa) (hb : EvD X W b fb) (hs : PlainIx b := by intro _ _; rfl) : EvD X W (.Subscript a b pos) (e2 ixD fa fb) := by
  obtain ⟨ta, pa, qa⟩ := ha
  obtain ⟨tb, pb, qb⟩ := hb
  refine ⟨_, pe_ix ix_seq pa pb hs, fun H₀ G₀ Γ σ H G R Q w => ?_⟩
  refine qa _ _ _ _ _ _ R _ (wStep w (fun _ h => h) fun x w v H1 G1 E1 d1 => ?_)
  refine qb _ _ _ _ _ _ (R.after E1) _ (wStep w (fun _ h => h.up E1) fun y w u H2 G2 E2 d2 => ?_)
  obtain ⟨d, e', k⟩ := wOfO w
  unfold ixD at e'
  split at e'
  · obtain ⟨p, vs, rfl, s, l⟩ := den_tup.mp (d1.up E2.gg)
    obtain ⟨v, h1, h2⟩ := atI_den l e'
    exact .inr (.inl ⟨p, vs, _, v, rfl, den_intE d2, Same.seqT E2.gh s, h1, k _ _ _ (E1.trans E2) h2⟩)
  · obtain ⟨p, vs, rfl, s, l⟩ := den_lst.mp (d1.up E2.gg)
    obtain ⟨v, h1, h2⟩ := atI_den l e'
    exact .inl ⟨p, vs, _, v, rfl, den_intE d2, E2.gh.seq s, h1, k _ _ _ (E1.trans E2) h2⟩
  · split at e'
    · rename_i hz
      obtain ⟨c, ec, e'⟩ := Option.bind_eq_some_iff.mp e'
      cases e'
      exact .inr (.inr ⟨_, _, c, den_strE d1, den_intE d2, big24 hz, ec, k _ _ _ (E1.trans E2) den_str⟩)
    · cases e'
  · cases e'
def ixS : Bool × List D → D → Option D := fun p y => match y with
  | .int i => atI p.2 i
  | _ => none
def eIxS (fs : Ga → R (Bool × List D)) (fb : Ga → R D) : Ga → R D := fun Γ => (fs Γ).bind fun p => (fb Γ).bind fun y => .ofO (ixS p y)
theorem ev_ixS (ha : SqD X W a fs) (hb : EvD X W b fb) (hs : PlainIx b := by intro _ _; rfl) : EvD X W (.Subscript a b pos) (eIxS fs fb) := by
  obtain ⟨ta, pa, qa⟩ := ha
  obtain ⟨tb, pb, qb⟩ := hb
  refine ⟨_, pe_ix ix_seq pa pb hs, fun H₀ G₀ Γ σ H G R Q w => ?_⟩
  refine qa _ _ _ _ _ _ R _ (wStep w (fun _ h => h) fun ⟨b, ds⟩ w p vs H1 G1 E1 s1 l1 => ?_)
  refine qb _ _ _ _ _ _ (R.after E1) _ (wStep w (fun _ h => h.up E1) fun y w u H2 G2 E2 d2 => ?_)
  obtain ⟨d, e', k⟩ := wOfO w
  unfold ixS at e'
  split at e'
  · obtain ⟨v, h1, h2⟩ := atI_den (l1.up E2.gg) e'
    rcases (s1.up E2).or E2.gh with z | z
    · exact .inl ⟨p, vs, _, v, rfl, den_intE d2, z, h1, k _ _ _ (E1.trans E2) h2⟩
    · exact .inr (.inl ⟨p, vs, _, v, rfl, den_intE d2, z, h1, k _ _ _ (E1.trans E2) h2⟩)
  · cases e'
def OvD (X : Cx) (W : XP) (o : Option Expr) (g : Ga → R (Option Int)) : Prop := ∃ t, PO X o t ∧ ∀ (H₀ G₀ : Hp) (Γ : Ga) (σ : L2.St) (H G : Hp), Rep X.K H₀ G₀ Γ σ H G → ∀ Q : Option Int → Hp → Prop, (g Γ).want (exAt W σ H G) (fun b => ∀ H' G', Ext H G H' G' → Q b H') → t σ H Q
def oN : Ga → R (Option Int) := fun _ => .ok none
theorem ov_none : OvD X W none oN := ⟨_, po_none, fun _ _ _ _ H G R Q w => w H G (.refl R.gh)⟩
def asI : D → Option Int
  | .int i => some i
  | _ => none
def oI (f : Ga → R D) : Ga → R (Option Int) := fun Γ => (f Γ).bind fun d => (R.ofO (asI d)).bind fun i => .ok (some i)
theorem ov_some (h : EvD X W e f) : OvD X W (some e) (oI f) := by
  obtain ⟨t, p, q⟩ := h
  refine ⟨_, po_some p, fun H₀ G₀ Γ σ H G R Q w => ?_⟩
  refine q _ _ _ _ _ _ R _ (wStep w (fun _ h => h) fun d w v H' G' E1 d1 => ?_)
  obtain ⟨i, e2, k⟩ := wOfOb w
  cases d <;> first | cases e2 | skip
  exact ⟨_, den_intE d1, k _ _ E1⟩
def cut {α : Type} (xs : List α) (lo hi : Option Int) : List α := (xs.drop (HT.sIx xs.length 0 lo)).take (HT.sIx xs.length xs.length hi - HT.sIx xs.length 0 lo)
theorem cut_whole {α : Type} {xs : List α} {lo hi : Option Int} (h : HT.sIx xs.length 0 lo = 0 ∧ HT.sIx xs.length xs.length hi = xs.length) : cut xs lo hi = xs := by
  unfold cut
  rw [h.1, h.2]
  simp
theorem cut_den {K : PySem.W.Frag} {G : Hp} {ds : List D} {vs : List V} (l : DenL K G ds vs) (lo hi : Option Int) : DenL K G (cut ds lo hi) (cutV vs lo hi) := by
  unfold cut cutV
  rw [← l.length]
  exact (l.drop _).take _
variable {lo hi : Option Expr} {gl gh : Ga → R (Option Int)} {p2 : Pos}
def cutS (p : Bool × List D) (l h : Option Int) : Option (List D) := match p with
  | (false, ds) => some (cut ds l h)
  | _ => none
def oSl (fs : Ga → R (Bool × List D)) (gl gh : Ga → R (Option Int)) : Ga → R (List D) := fun Γ => (fs Γ).bind fun d => (gl Γ).bind fun l => (gh Γ).bind fun h => .ofO (cutS d l h)
theorem ow_slL (he : SqD X W e fs) (hl : OvD X W lo gl) (hh : OvD X W hi gh) : OwD X W (.Subscript e (.Slice lo hi none p2) pos) (oSl fs gl gh) := by
  obtain ⟨t, p, q⟩ := he
  obtain ⟨t1, p1, q1⟩ := hl
  obtain ⟨t2, p2, q2⟩ := hh
  refine ⟨_, pe_slice sl_list p p1 p2, fun H₀ G₀ Γ σ H G R Q w => ?_⟩
  refine q _ _ _ _ _ _ R _ (wStep w (fun _ h => h) fun ⟨b, ds⟩ w a vs H1 G1 E1 s1 d1 => ?_)
  refine q1 _ _ _ _ _ _ (R.after E1) _ (wStep w (fun _ h => h.up E1) fun l w H2 G2 E2 => ?_)
  refine q2 _ _ _ _ _ _ ((R.after E1).after E2) _ (wStep w (fun _ h => h.up (E1.trans E2)) fun h w H3 G3 E3 => ?_)
  obtain ⟨d, e', k⟩ := wOfO w
  cases b with
  | true => cases e'
  | false =>
    cases e'
    have E13 := E1.trans (E2.trans E3)
    refine ⟨a, vs, rfl, (s1.up E2).up E3, fun p hp => ?_⟩
    exact k p _ _ G3 (E13.trans (.own E13.gh hp _)) (E13.hh.free hp) upd_same (E13.gh.free hp) (cut_den (d1.up (E2.gg.trans E3.gg)) l h)
theorem bools_of {bs : List Bool} : ∀ {us : List Value}, Vals (bs.map V.bl) us → LSm.BoolsAre us bs := by
  induction bs with
  | nil => intro us h; cases h; exact .nil
  | cons b bs ih =>
    intro us h
    cases h with
    | cons r t =>
      obtain rfl := (show _ = Value.bool b from r)
      exact .cons b (ih t)
theorem call_all : CallR X (.builtin "all") (fun xs H Q => X.calm = true ∧ ∃ (p : Addr) (bs : List Bool), xs = [.ref p] ∧ SqL X.K H p (bs.map V.bl) ∧ Q (.bl (bs.all id)) H) := by
  rintro pins s σ H xs us Q I rv ⟨hc, p, bs, rfl, hs, q⟩
  obtain ⟨u, rfl, ru⟩ := rv.one
  obtain rfl : u = Value.ref p := ru
  obtain ⟨its, vv, ⟨o, n, h1, h2, h3, h4⟩, hl⟩ := I.list hs
  have hb := bools_of vv
  have hL : s.heap.IsList p its.toArray := ⟨o, h1, h2, n, h4⟩
  have hlt : p < s.heap.objs.size := Heap.lt_size h1
  refine call_all_walk (wpAny_pyIter_list hL ?_)
  refine ⟨s.heap.objs.size, [s.heap.objs.size, p], [s.heap.objs.size], its.toArray.size, _, _, fun i => (bs[i]?).getD true, rfl, Walks.list (A := X.A.in1) (I.ok.hd hc) _ p (Nat.ne_of_lt hlt) its.toArray,
    ⟨⟨_, Heap.get?_push_size _ rfl, rfl, rfl⟩, hL.push _⟩, fun i v s' Q' E' hP hQ => ?_, fun h' tk hk => ?_⟩
  · obtain ⟨b, e, rfl⟩ := hb.get i v (by simpa using hP)
    simp only [e, Option.getD_some] at hQ
    exact wpAny_truthy_bool hQ
  · have e : ((List.range its.toArray.size).all fun i => (bs[i]?).getD true) = bs.all id := by
      rw [List.size_toArray, hb.length]; exact LSm.range_all bs
    rw [e]
    exact ⟨.bl _, H, I.kept (LSm.kept_iter hk), rfl, q⟩
def asBs : List D → Option (List Bool)
  | [] => some []
  | .bl b :: ds => (asBs ds).bind fun r => some (b :: r)
  | _ => none
theorem asBs_den {K : PySem.W.Frag} {G : Hp} : ∀ {ds : List D} {vs : List V} {bs : List Bool}, DenL K G ds vs → asBs ds = some bs → vs = bs.map V.bl
  | [], vs, bs, h, e => by cases e; exact denL_nil.mp h
  | d :: ds, vs, bs, h, e => by
    obtain ⟨v, r, rfl, h1, h2⟩ := denL_cons.mp h
    cases d <;> first | cases e | skip
    obtain ⟨r', e1, e2⟩ := Option.bind_eq_some_iff.mp e
    cases e2
    rw [den_blE h1, asBs_den h2 e1]
    rfl
theorem calls_all (hc : X.calm = true) : CallS X (.builtin "all") (fun p => match p with | (false, ds) => (asBs ds).bind fun bs => some (.bl (bs.all id)) | _ => none) := ⟨_, call_all, fun H G b ds d a vs g s l e Q q => by
  cases b with
  | true => cases e
  | false =>
    obtain ⟨bs, e1, e2⟩ := Option.bind_eq_some_iff.mp e
    cases e2
    have := asBs_den l e1
    subst this
    exact ⟨hc, a, bs, rfl, s, q _ H G (.refl g) den_bl⟩⟩
def tyN : D → String
  | .non => "NoneType"
  | .bl _ => "bool"
  | .int _ => "int"
  | .str _ => "str"
  | .tup _ => "tuple"
  | .lst _ => "list"
def tyK (K : PySem.W.Frag) (H : Hp) (x : V) (t : String) : Prop := match x with
  | .non => t = "NoneType"
  | .bl _ => t = "bool"
  | .int _ => t = "int"
  | .str _ => t = "str"
  | .ref a => (t = "tuple" ∧ ∃ vs, SqT K H a vs) ∨ (t = "list" ∧ ∃ vs, SqL K H a vs)
  | _ => False
theorem tyK_den {K : PySem.W.Frag} {H G : Hp} {d : D} {v : V} (g : Same G H) (h : Den K G d v) : tyK K H v (tyN d) := by
  cases d with
  | non => rw [den_nonE h]; rfl
  | bl b => rw [den_blE h]; rfl
  | int b => rw [den_intE h]; rfl
  | str b => rw [den_strE h]; rfl
  | tup _ => obtain ⟨a, vs, rfl, s, _⟩ := den_tup.mp h; exact .inl ⟨rfl, vs, Same.seqT g s⟩
  | lst _ => obtain ⟨a, vs, rfl, s, _⟩ := den_lst.mp h; exact .inr ⟨rfl, vs, g.seq s⟩
theorem call_isi : CallR X (.builtin "isinstance") (fun xs H Q => ∃ x T t b, xs = [x, .ty T] ∧ tyK X.K H x t ∧ PySem.W.kitOne X.K (.type t) (.type T) = some b ∧ Q (.bl b) H) := by
  rintro pins s σ H xs us Q I rv ⟨x, T, t, b, rfl, ty, e, q⟩
  obtain ⟨u, c, rfl, rx, rc⟩ := rv.two
  obtain rfl : c = Value.type T := rc
  have fin : ∀ tk, EP X pins σ Q (.bool b) { s with toks := tk } := fun tk => ⟨.bl b, H, I.tok tk, rfl, q⟩
  cases x with
  | non => obtain rfl : t = _ := ty; cases (show u = Value.none from rx); exact PySem.W.kia_one PySem.W.kitx_none I.kIn True.intro e (fun z => nomatch z) fin
  | bl y => obtain rfl : t = _ := ty; cases (show u = Value.bool y from rx); exact PySem.W.kia_one PySem.W.kitx_bool I.kIn True.intro e (fun z => nomatch z) fin
  | int i => obtain rfl : t = _ := ty; obtain ⟨t, z⟩ := (show ∃ t, u = Value.int i t from rx); cases z; exact PySem.W.kia_one PySem.W.kitx_int I.kIn True.intro e (fun z => nomatch z) fin
  | str y => obtain rfl : t = _ := ty; obtain ⟨t, z⟩ := (show ∃ t, u = Value.str y t from rx); cases z; exact PySem.W.kia_one PySem.W.kitx_str I.kIn True.intro e (fun z => nomatch z) fin
  | ref a =>
    cases (show u = Value.ref a from rx)
    rcases ty with ⟨rfl, vs, h⟩ | ⟨rfl, vs, h⟩
    · obtain ⟨its, _, ⟨o, h1, h2, _⟩, _⟩ := I.tuple h
      exact PySem.W.kia_one PySem.W.kitx_tuple I.kIn ⟨o, h1, h2⟩ e (fun z => nomatch z) fin
    · obtain ⟨its, _, ⟨o, n, h1, h2, _⟩, _⟩ := I.list h
      exact PySem.W.kia_one PySem.W.kitx_list I.kIn ⟨o, h1, h2⟩ e (fun z => nomatch z) fin
  | byt _ => exact ty.elim
  | flt _ => exact ty.elim
  | ty _ => exact ty.elim
def eIsi (g : String → Bool) (fa : Ga → R D) : Ga → R D := fun Γ => (fa Γ).bind fun d => .ok (.bl (g (tyN d)))
theorem ev_isi {T : String} {nT : Str} {g : String → Bool} {p p3 : Pos} (hg : Gl X "isinstance") (hm : X.mg "isinstance" = none) (hgT : Gl X nT) (hmT : X.mg nT = none) (hv : bootBuiltins nT = some (.type T)) (ha : EvD X W a fa)
    (hk : ∀ d : D, PySem.W.kitOne X.K (.type (tyN d)) (.type T) = some (g (tyN d))) (hvi : bootBuiltins "isinstance" = some (.builtin "isinstance")) (hn : nT ≠ "__name__" := by decide) (hdb : (nT == ("__debug__" : Str)) = false := by decide)
    (hs : starEach [a, .Name nT p3] X.env = (false, eval a X.env) :: starEach [.Name nT p3] X.env := by rfl) (hs2 : starEach [.Name nT p3] X.env = [(false, eval (.Name nT p3) X.env)] := by rfl) :
    EvD X W (.Call (.Name "isinstance" p) [a, .Name nT p3] [] pos) (eIsi g fa) := by
  obtain ⟨t, pt, q⟩ := ha
  have pT : PE X (.Name nT p3) (tC (.ty T)) := pe_bltn hgT hmT hv rfl hn hdb
  refine ⟨_, pe_callB call_isi hg hm hvi (pa_cons pt (pa_cons pT pa_nil hs2) hs) (by decide) (by decide) hs (by rw [hs2]; rfl), fun H₀ G₀ Γ σ H G R Q w => ?_⟩
  refine q _ _ _ _ _ _ R _ (wStep w (fun _ h => h) fun d k v H1 G1 E1 d1 => ?_)
  exact ⟨v, T, _, _, rfl, tyK_den E1.gh d1, hk d, k _ _ _ E1 den_bl⟩
end
end Wy


namespace Wy
open PySem PySem.Spec PyProof.Rows L2
def Its (x : Str) : It := ⟨fun i _ => i < x.cps.size, fun i H v H' => H' = H ∧ ∃ c, x.cps[i]? = some c ∧ v = .str ⟨#[c]⟩, fun i _ => x.cps.size ≤ i⟩
theorem turn_str {P : Program} {w : World} {K : PySem.W.Frag} {tg : Expr} (x : Str) (t : Tok) (it : Addr) : Turn P w K tg (Its x) [it] it (fun i h => h.IsStrIter it "str_ascii_iterator" x t i) where
  mem := by simp
  obj := fun i h st b hb => by
    have e : b = it := by simpa using hb
    subst e
    obtain ⟨o, e, c, d⟩ := st
    exact ⟨o, e, fun v z => by rw [d] at z; cases z⟩
  keep := fun i h h' st k => by
    obtain ⟨o, e, c, d⟩ := st
    exact ⟨o, k it (by simp) o e, c, d⟩
  item := by
    intro X hP hw hK hc i pins s σ H E I hf st hg
    subst hP hw hK
    have hg' : i < x.cps.size := hg
    obtain ⟨f0, f1, f2, f3, f4, f5⟩ := hf it (by simp)
    refine wpAny_pyNext_ascii_item st (c := x.cps[i]) (by rw [Array.getElem?_eq_getElem hg']) fun h' st' sb => ?_
    have I1 : Inv X pins σ H { s with heap := h', toks := s.toks + 1 } := I.turned (t' := s.toks + 1) (fun b o hb e => (sb.2 b hb).trans e) f0 f1 f3 f4 f5
    obtain ⟨o, e, c, d⟩ := id st'
    exact ⟨_, rfl, go_of (s := { s with heap := h', toks := s.toks + 1 }) e c d (by decide) ⟨.str ⟨#[x.cps[i]]⟩, H, I1, ⟨_, rfl⟩, ⟨rfl, _, by rw [Array.getElem?_eq_getElem hg'], rfl⟩, st', fun b hb => (hf b hb).1⟩⟩
  done := by
    intro X hP hw hK hc i pins s σ H E I hf st hg
    subst hP hw hK
    obtain ⟨f0, f1, f2, f3, f4, f5⟩ := hf it (by simp)
    have hg' : x.cps.size ≤ i := hg
    exact wpAny_pyNext_ascii_end (I.ok.hd hc) st (by rw [Array.getElem?_eq_none hg']) fun h' eb => ⟨rfl, I.turned (t' := s.toks) (fun b o hb e => eb b o hb e) f0 f1 f3 f4 f5⟩
  self := fun _ _ _ _ _ st h => wpAny_pyIter_striter_ascii st h
section
variable {X : Cx} {W : XP} {tg e : Expr} {f : Ga → R D} {te : TE}
def iStr (tl : TE) : TI := fun σ H R => tl σ H fun x H1 => ∃ z, x = .str z ∧ z.cps.all (· < 128) = true ∧ R (Its z) H1
theorem pi_str {l : Expr} {tl : TE} (hl : PE X l tl) : PI X tg l (iStr tl) := by
  intro pins s σ H R I h
  refine thn (hl pins s σ H _ I h) fun v s1 ⟨x, H1, I1, r1, q1⟩ => ?_
  obtain ⟨z, rfl, hz, q⟩ := q1
  obtain ⟨t, rfl⟩ := r1
  refine wpAny_pyIter_ascii hz ?_
  refine ⟨s1.heap.objs.size, [s1.heap.objs.size], _, _, H1, rfl, I1.kept (t' := s1.toks) fun b o e => Heap.get?_push_of_some _ e, turn_str z t _, ⟨_, Heap.get?_push_size _ rfl, rfl, rfl⟩, fun b hb => ?_, q⟩
  have e : b = s1.heap.objs.size := by simpa using hb
  subst e
  exact I1.fpOk (Nat.le_refl _) (I1.hok.fresh (Nat.le_refl _))
def signs (z : Str) : List D := z.cps.toList.map fun c => D.str ⟨#[c]⟩
def asSigns : D → Option (List D)
  | .str z => if z.cps.all (· < 128) = true then some (signs z) else none
  | _ => none
def iS (f : Ga → R D) : Ga → R (List D) := fun Γ => (f Γ).bind fun d => .ofO (asSigns d)
theorem it_str (he : EvD X W e f) : ItD X W tg e (iS f) := by
  obtain ⟨t, p, q⟩ := he
  refine ⟨_, pi_str p, fun H₀ G₀ Γ σ H G R Q w => ?_⟩
  refine q _ _ _ _ _ _ R _ (wStep w (fun _ h => h) fun d w v H' G' E1 d1 => ?_)
  obtain ⟨ds, e2, k⟩ := wOfO w
  unfold asSigns at e2
  split at e2
  · rename_i z
    split at e2
    · rename_i hz
      cases e2
      refine ⟨z, den_strE d1, hz, k _ H' G' E1 fun i H2 G2 g2 h2 => ⟨fun d hd => ?_, fun hi => by have h := hi; simp [signs] at h; exact h⟩⟩
      unfold signs at hd
      rw [List.getElem?_map] at hd
      obtain ⟨c, ec, rfl⟩ := Option.map_eq_some_iff.mp hd
      have ec' : z.cps[i]? = some c := by simpa using ec
      refine ⟨(Array.getElem?_eq_some_iff.mp ec').1, fun x H3 ⟨y, c', hc', hx⟩ => ?_⟩
      subst y
      rw [ec'] at hc'
      cases hc'
      subst hx
      exact ⟨G2, .refl h2, den_str⟩
    · cases e2
  · cases e2
end
section
open PySem.SeqAt
open PySem.AutoSeq1 (wpAny_loadPart')
open PySem.MeetsSeq PySem.MeetsSeq2 PySem.MeetsSeq3 PySem.AutoSeq1
theorem list_extend_tup (l : Addr) (items : Array Value) (n : Nat) (b : Addr) (items2 : Array Value) (n2 : Nat) (dd : Option Addr) (sl : Array (Option Value)) (hs0 : ¬(!items.isEmpty && Builtin.List.listTooLong (items.size + items2.size)) = true) (hs1 : items.size ≤ sizeLine) (hs2 : items.size + items2.size ≤ sizeLine + 1) :
    Meets (Builtin.«list.extend» ⟨[.ref l, .ref b], []⟩) (fun _ R s => s.heap.get? l = some { cls := .type "list", dict := none, data := .seq items n, slots := #[] } ∧ s.heap.get? b = some { cls := .type "tuple", dict := dd, data := .seq items2 n2, slots := sl } ∧ R (.ok (.ret Value.none)) { s with heap := s.heap.update l (Obj.mapSeq fun x => x ++ items2), toks := s.toks }) :=
  .of_wp fun prog w A R s h => by
    obtain ⟨hp, g, d, tk, os⟩ := s; obtain ⟨hl, hb, h⟩ := h; have f1 := idx_int; have f2 := AutoSeq1.sub_tuple_tuple; have f3 := AutoSeq1.sub_list_list; have f4 := AutoSeq1.sub_tuple_list; have f5 := AutoSeq1.sub_list_tuple;
    have hz' : (items ++ items2).size ≤ sizeLine + 1 := by rw [Array.size_append]; exact hs2
    wp_walk using (wpAny_updateSeq hl rfl (hz := hs1) (_hz' := hz')), wpAny_loadPart' hl, wpAny_loadPart' hb; exact ⟨_, rfl, h⟩
end
section
variable {X : Cx}
def rExtT (K : PySem.W.Frag) : V → List V → Hp → VK → Prop := fun x vs H Q => ∃ l b xs zs, x = .ref l ∧ vs = [.ref b] ∧ H l = some (.lst xs) ∧ SqT K H b zs ∧ xs.length + zs.length ≤ sizeLine ∧ Q .non (upd H l (.lst (xs ++ zs)))
theorem mt_extT : MtR X "list.extend" (rExtT X.K) := by
  intro pins s σ H x vs v us Q I rx rv h
  obtain ⟨l, b, xs, zs, rfl, rfl, hH, hB, hz, q⟩ := h
  cases rx
  obtain ⟨u, rfl, ru⟩ := rv.one
  cases ru
  obtain ⟨z, its, n, r, hl, e⟩ := I.lstM hH
  obtain ⟨its2, r2, ⟨⟨c2, d2, dt2, s2⟩, e2, hc2, n2, hd2⟩, z2⟩ := I.tuple hB
  have hl2 := r2.length
  cases hc2
  cases hd2
  have hsz : its.toArray.size + its2.toArray.size ≤ sizeLine := by rw [List.size_toArray, List.size_toArray]; omega
  have hlong : ¬ (!its.toArray.isEmpty && Builtin.List.listTooLong (its.toArray.size + its2.toArray.size)) = true := by
    rw [notLongL hsz, Bool.and_false]
    exact Bool.false_ne_true
  refine call_meets F.slot_list_extend ⟨_, e, rfl⟩ F.entry_list_extend (F.args_list_extend_2 _ _)
    (list_extend_tup l its.toArray n b its2.toArray n2 d2 s2 hlong (by rw [List.size_toArray]; omega) (by omega)) ⟨e, e2, ?_⟩
  refine ⟨.non, _, I.lset (its' := its ++ its2) hH e (by simp) (r.append r2) ?_, rfl, q⟩
  rw [List.length_append]
  omega
variable {W : XP} {e : Expr} {f : Ga → R D} {pos pos' apos cpos : Pos} {x : Str}
end
end Wy


namespace Wy
open PySem PySem.Spec PyProof.Rows L2
def relS (scope osc : Scope) : Scope :=
  { scope with names := scope.names.map fun (n, k) => if (k == .free && osc.kind == .function && osc.names.lookup n == some .cell) then (n, .cell) else (n, k) }
theorem relS_eq (scope : Scope) (env : Env) : relabel scope env = relS scope env.scope := rfl
def isCF (k : Option NameKind) : Bool := k == some .cell || k == some .free
def visB (sc : Scope) (x : Str) : Bool := sc.names.lookup x == some .local || isCF (sc.names.lookup x)
theorem visB_of {sc : Scope} {x : Str} (h : Vis sc x) : visB sc x = true := by
  unfold visB isCF
  rcases h with h | h | h <;> (rw [h]; rfl)
theorem isCF_iff {k : Option NameKind} (h : isCF k = true) : k = some .cell ∨ k = some .free := by
  unfold isCF at h
  rw [Bool.or_eq_true] at h
  exact h.imp (fun z => beq_iff_eq.mp z) (fun z => beq_iff_eq.mp z)
theorem isCF_of {k : Option NameKind} (h : k = some .cell ∨ k = some .free) : isCF k = true := by
  rcases h with rfl | rfl <;> rfl
def blkCheck (scope osc : Scope) (N keys : List Str) (x : Str) : Bool :=
  scope.kind == .function && scope.names.all (fun y => y.2 != .cell) && scope.names.all (fun y => y.2 != .local || scope.names.lookup y.1 == some .local) && (scope.names.lookup x == some .local) &&
  decide (blkN x N).Nodup && (relS scope osc).names.all (fun y => !isCF ((relS scope osc).names.lookup y.1) || keys.contains y.1) && !visB (relS scope osc) (accN N.length) &&
  N.all (fun y => !visB (relS scope osc) (if y = x then dum N.length else y) || (decide (y ≠ x) && isCF ((relS scope osc).names.lookup y) && isCF (osc.names.lookup y)))
theorem mem_of_lookup {α : Type} {l : List (Str × α)} {x : Str} {a : α} (h : l.lookup x = some a) : ∃ p ∈ l, p.1 = x ∧ p.2 = a := by
  induction l with
  | nil => cases h
  | cons p l ih =>
    obtain ⟨y, b⟩ := p
    rw [List.lookup_cons] at h
    split at h
    · rename_i hx
      cases h
      exact ⟨_, List.mem_cons_self, (beq_iff_eq.mp hx).symm, rfl⟩
    · obtain ⟨p, hp, e⟩ := ih h
      exact ⟨p, List.mem_cons_of_mem _ hp, e⟩
theorem lookup_of_key {α : Type} {l : List (Str × α)} {x : Str} (h : (l.map (·.1)).contains x = true) : ∃ a, l.lookup x = some a := by
  induction l with
  | nil => cases h
  | cons p l ih =>
    obtain ⟨y, b⟩ := p
    rw [List.lookup_cons]
    by_cases hx : (x == y) = true
    · rw [hx]; exact ⟨b, rfl⟩
    · rw [Bool.eq_false_iff.mpr hx]
      apply ih
      rw [List.map_cons, List.contains_cons] at h
      rw [Bool.eq_false_iff.mpr hx, Bool.false_or] at h
      exact h
theorem blk_mk {X : Cx} {scope : Scope} {cl : List (Str × Addr)} {x : Str} (osc : Scope) (N keys : List Str) (e1 : X.env.scope = osc) (e2 : X.N = N) (clos : closureFor scope X.env = pure cl) (hk : keys.all (fun y => (cl.map (·.1)).contains y) = true)
    (hc : ∀ p ∈ cl, X.env.cells.lookup p.1 = some p.2) (chk : blkCheck scope osc N keys x = true) : BlkOk X scope cl x := by
  subst e1 e2
  unfold blkCheck at chk
  simp only [Bool.and_eq_true] at chk
  obtain ⟨⟨⟨⟨⟨⟨⟨c1, c2⟩, c3⟩, c4⟩, c5⟩, c6⟩, c7⟩, c8⟩ := chk
  refine ⟨beq_iff_eq.mp c1, fun y hy => ?_, clos, fun y hy hl => ?_, beq_iff_eq.mp c4, of_decide_eq_true c5, fun y c h => ?_, fun y h => ?_, fun h => ?_, fun y hy _ hv => ?_⟩
  · exact bne_iff_ne.mp (List.all_eq_true.mp c2 y hy)
  · have := List.all_eq_true.mp c3 y hy
    rw [hl] at this
    exact beq_iff_eq.mp (by simpa using this)
  · obtain ⟨p, hp, rfl, rfl⟩ := mem_of_lookup h
    exact hc p hp
  · have hcf := isCF_of h
    rw [relS_eq] at hcf
    obtain ⟨k, hkk⟩ : ∃ k, (relS scope X.env.scope).names.lookup y = some k := by
      rcases h with h | h
      · exact ⟨_, h⟩
      · exact ⟨_, h⟩
    obtain ⟨p, hp, rfl, _⟩ := mem_of_lookup hkk
    have := List.all_eq_true.mp c6 p hp
    rw [hcf] at this
    exact lookup_of_key (List.all_eq_true.mp hk p.1 (List.contains_iff_mem.mp (by simpa using this)))
  · rw [relS_eq] at h
    rw [visB_of h] at c7
    cases c7
  · rw [relS_eq] at hv ⊢
    have := List.all_eq_true.mp c8 y hy
    rw [visB_of hv] at this
    simp only [Bool.not_true, Bool.false_or, Bool.and_eq_true] at this
    exact ⟨of_decide_eq_true this.1.1, isCF_iff this.1.2, isCF_iff this.2⟩
def gInt : String → Bool := fun t => t == "int" || t == "bool"
def gBool : String → Bool := fun t => t == "bool"
def gStr : String → Bool := fun t => t == "str"
def gTuple : String → Bool := fun t => t == "tuple"
theorem kit_int (K : PySem.W.Frag) (d : D) : PySem.W.kitOne K (.type (tyN d)) (.type "int") = some (gInt (tyN d)) := by cases d <;> kernel_rfl
theorem kit_bool (K : PySem.W.Frag) (d : D) : PySem.W.kitOne K (.type (tyN d)) (.type "bool") = some (gBool (tyN d)) := by cases d <;> kernel_rfl
theorem kit_str (K : PySem.W.Frag) (d : D) : PySem.W.kitOne K (.type (tyN d)) (.type "str") = some (gStr (tyN d)) := by cases d <;> kernel_rfl
theorem kit_tuple (K : PySem.W.Frag) (d : D) : PySem.W.kitOne K (.type (tyN d)) (.type "tuple") = some (gTuple (tyN d)) := by cases d <;> kernel_rfl
structure Def (K : PySem.W.Frag) (mg : Str → Option Value) (x : Str) (st : Stmt) (ps : List Str) (f : Addr) (fd : FuncData) : Prop where
  fn : Fun K x x st f fd
  bd : Binds K fd ps []
  mg : mg x = some (.ref f)
theorem def_mk {K : PySem.W.Frag} {h : Heap} {mg : Str → Option Value} (X : K.In h) (G : h.Ns mainGlobals mg) {x : Str} {st : Stmt} {ps : List Str} {f : Addr} {oc : Value} {od an : Option Addr} {osl : Array (Option Value)} {kV doc pm cdv ct : Value}
    (a : PySem.W.nsIn K mainGlobals x = some (some (.ref f))) (l : K.lookup f = some ⟨oc, od, .func (PySem.W.fnOf x x (defArgs st) (defBody st) (defScope st) .none kV doc pm an cdv ct), osl⟩)
    (c : PySem.W.codeIn K cdv x = true) (k : PySem.W.keepIn K (.ref f) = true)
    (b : ∀ (kV doc pm : Value) (an : Option Addr) (cdv ct : Value) (us : List Value), us.length = ps.length → bindArgs (PySem.W.fnOf x x (defArgs st) (defBody st) (defScope st) .none kV doc pm an cdv ct) ⟨us, []⟩ = pure (ps.zip us)) :
    ∃ fd, Def K mg x st ps f fd := ⟨_, fun_mk l c k, (fun_mk (st := st) l c k).binds b, PySem.W.mg_of X G a⟩
def spL (K : PySem.W.Frag) (F : List D → R D) : Sp := fun vs H Q E => ∃ (G : Hp) (ds : List D), Same G H ∧ DenL K G ds vs ∧ ds.length = 1 ∧ (F ds).want (fun _ => False) (fun d => ∀ v H' G', Ext H G H' G' → Den K G' d v → Q v H')
theorem spL_of {K : PySem.W.Frag} {H : Hp} {a : Addr} {ns : List Int} {F : List D → R D} {E : XK} (h : SqL K H a (ns.map V.int)) (hF : F [.lst (ns.map D.int)] = .ok (.bl true)) : spL K F [.ref a] H (fun v _ => v = .bl true) E := by
  have l : ∀ ns : List Int, DenL K H (ns.map D.int) (ns.map V.int) := fun ns => by
    induction ns with
    | nil => exact denL_nil.mpr rfl
    | cons n ns ih => exact denL_cons.mpr ⟨_, _, rfl, den_int, ih⟩
  exact ⟨H, _, Same.refl _, .one (den_lst.mpr ⟨a, _, rfl, h, l ns⟩), rfl, by rw [hF]; exact fun v H' G' _ d => den_blE d⟩
theorem FnOk.toL {P : Program} {w : World} {K : PySem.W.Frag} {mg : Str → Option Value} {base : Heap} {CX : CXT} {k : Nat} {f : Addr} {fd : FuncData} {ps : List Str} {F : List D → R D} (h : FnOk P w K mg base CX k f fd ps (spF K mg 1 F)) : FnOk P w K mg base CX k f fd ps (spL K F) :=
  h.imp fun vs H Q E ⟨G, ds, a, b, c, d⟩ => ⟨G, ds, a, b, c, wImp d (fun _ z => z.elim) fun _ z => z⟩
def GlobC (K : PySem.W.Frag) (mg : Str → Option Value) (x : Str) (d : D) : Prop := ∃ (u : Value) (v : V), mg x = some u ∧ RelV v u ∧ Den K (fun _ => none) d v
theorem ev_globC {X : Cx} {W : XP} {x : Str} {d : D} {pos : Pos} (h : GlobC X.K X.mg x d) (hg : Gl X x) (hdb : (x == ("__debug__" : Str)) = false := by decide) : EvD X W (.Name x pos) (eC d) :=
  let ⟨_, _, h1, h2, h3⟩ := h
  ev_glob hg h1 h2 h3 hdb
theorem compR_map {f : Ga → R D} {Γ : Ga} {h : D → D} : ∀ {ds : List D}, (∀ d ∈ ds, f (.val d :: .un :: Γ) = .ok (h d)) → compR cTrue f Γ ds = .ok (ds.map h)
  | [], _ => rfl
  | d :: ds, H => by
    unfold compR
    show (f (.val d :: .un :: Γ)).calm.bind _ = _
    rw [H d List.mem_cons_self]
    show (compR _ f Γ ds).bind _ = _
    rw [compR_map fun x hx => H x (List.mem_cons_of_mem _ hx)]
    rfl
theorem asBs_map {α : Type} (g : α → Bool) : ∀ xs : List α, asBs (xs.map fun x => D.bl (g x)) = some (xs.map g)
  | [] => rfl
  | x :: xs => by
    show (asBs (xs.map fun x => D.bl (g x))).bind _ = _
    rw [asBs_map g xs]
    rfl
theorem whileN_inv {g : Ga → R Bool} {T : Ga → RS} (I : Nat → Ga → Prop) (E : RS → Prop)
    (turn : ∀ m Γ, I m Γ → (g Γ = .ok false ∧ E (.nx Γ)) ∨ (g Γ = .ok true ∧ ((∃ Γ' m', (T Γ = .nx Γ' ∨ T Γ = .ct Γ') ∧ m' < m ∧ I m' Γ') ∨ (∃ Γ', T Γ = .bk Γ' ∧ E (.nx Γ')) ∨ (∃ d, T Γ = .rt d ∧ E (.rt d)) ∨ (∃ c Γ', T Γ = .ex c Γ' ∧ E (.ex c Γ'))))) :
    ∀ (n m : Nat) (Γ : Ga), I m Γ → m < n → E (sWhileN g T n Γ)
  | 0, m, Γ, _, h => by omega
  | n + 1, m, Γ, hI, h => by
    unfold sWhileN
    rcases turn m Γ hI with ⟨hg, hE⟩ | ⟨hg, ht⟩
    · rw [hg]; exact hE
    · rw [hg]
      show E (match T Γ with
          | .nx Γ' => sWhileN g T n Γ'
          | .ct Γ' => sWhileN g T n Γ'
          | .bk Γ' => .nx Γ'
          | r => r)
      rcases ht with ⟨Γ', m', hT, hm, hI'⟩ | ⟨Γ', hT, hE⟩ | ⟨d, hT, hE⟩ | ⟨c, Γ', hT, hE⟩
      · rcases hT with hT | hT <;> (rw [hT]; exact whileN_inv I E turn n m' Γ' hI' (by omega))
      · rw [hT]; exact hE
      · rw [hT]; exact hE
      · rw [hT]; exact hE
theorem while_inv {g : Ga → R Bool} {T : Ga → RS} (I : Nat → Ga → Prop) (E : RS → Prop) {m : Nat} {Γ : Ga} (h0 : I m Γ) (hm : m < FUEL)
    (turn : ∀ m Γ, I m Γ → (g Γ = .ok false ∧ E (.nx Γ)) ∨ (g Γ = .ok true ∧ ((∃ Γ' m', (T Γ = .nx Γ' ∨ T Γ = .ct Γ') ∧ m' < m ∧ I m' Γ') ∨ (∃ Γ', T Γ = .bk Γ' ∧ E (.nx Γ')) ∨ (∃ d, T Γ = .rt d ∧ E (.rt d)) ∨ (∃ c Γ', T Γ = .ex c Γ' ∧ E (.ex c Γ'))))) :
    E (sWhile g T Γ) := whileN_inv I E turn FUEL m Γ h0 hm
theorem atI_mem {α : Type} {l : List α} {i : Int} {x : α} (h : atI l i = some x) : x ∈ l := by
  unfold atI at h
  obtain ⟨j, _, e⟩ := Option.bind_eq_some_iff.mp h
  exact List.mem_of_getElem? e
theorem atI_some {α : Type} {l : List α} {i : Int} (h0 : 0 ≤ i) (h1 : i < l.length) : ∃ x, atI l i = some x := by
  unfold atI ixN
  rw [if_pos h0, if_pos h1]
  exact ⟨l[i.toNat]'(by omega), List.getElem?_eq_getElem (by omega)⟩
theorem fn_none {P : Program} {w : World} {K : PySem.W.Frag} {mg : Str → Option Value} {base : Heap} {CX : CXT} {k n : Nat} {f : Addr} {fd : FuncData} {ps : List Str} : FnOk P w K mg base CX k f fd ps (spF K mg n fun _ => .no) := by
  have no : ∀ vs H Q E, ¬ spF K mg n (fun _ => .no) vs H Q E := fun vs H Q E ⟨G, ds, _, _, _, e⟩ => e
  exact ⟨fun vs H Q E z => absurd z (no vs H Q E), fun A outer s H args us vs Q E _ _ _ _ z => absurd z (no vs H Q E)⟩
theorem globS {K : PySem.W.Frag} {h : Heap} {mg : Str → Option Value} (X : K.In h) (G : h.Ns mainGlobals mg) {x : Str} {y : Str} {t : Tok} (a : PySem.W.nsIn K mainGlobals x = some (some (.str y t))) : GlobC K mg x (.str y) :=
  ⟨_, .str y, PySem.W.mg_of X G a, ⟨t, rfl⟩, den_str⟩
theorem globT {K : PySem.W.Frag} {h : Heap} {mg : Str → Option Value} (X : K.In h) (G : h.Ns mainGlobals mg) {x : Str} {p : Addr} {od : Option Addr} {its : Array Value} {n : Nat} {sl : Array (Option Value)} {ds : List D} {vs : List V}
    (a : PySem.W.nsIn K mainGlobals x = some (some (.ref p))) (l : K.lookup p = some ⟨.type "tuple", od, .seq its n, sl⟩) (hz : its.size ≤ sizeLine) (hv : Vals vs its.toList) (hd : DenL K (fun _ => none) ds vs) : GlobC K mg x (.tup ds) :=
  ⟨_, .ref p, PySem.W.mg_of X G a, rfl, den_tup.mpr ⟨p, vs, rfl, .inr ⟨_, its, n, l, rfl, rfl, hz, hv⟩, hd⟩⟩
theorem walk {l : PySem.W.OpenLaw} {CX : World → CXT} {k : Nat} {x : Str} {F : List D → R D} {q : Program} {loose : List Str} {XP : (Str → Option Value) → Heap → Prop} {YP : World → Heap → Prop} {d : DefRec} {K : Params → PySem.W.Frag} (hn : l.most = some 63) (hdf : d.params.defaults = []) (hr : Room k callerA)
    (hY : ∀ (w : World) (h : Heap), YP w h → (K w.params).In h) (hF : ∀ ns : List Int, ns.length ≤ 63 → F [.lst (ns.map D.int)] = .ok (.bl true))
    (A : ∀ (w : World) (mg : Str → Option Value) (fa : Addr) (h : Heap), (K w.params).In h → h.Ns mainGlobals mg → mg d.name = some (.ref fa) →
      ∃ fd : FuncData, (∀ (s : Shared) (u : Value), BindsTo s fd ⟨[u], []⟩ [(x, u)]) ∧ ∀ base : Heap, (K w.params).In base → base.Ns mainGlobals mg → FnOk l.prog w (K w.params) mg base (CX w) k fa fd [x] (spL (K w.params) F))
    (hCX : ∀ (w : World) (H : Hp) (s : Shared) (e : Value) (s' : Shared), CX w [] H s E0 e s' → False) :
    PySem.W.WalkO q loose XP YP l.row.toRowW d [] (fun f vs => PySem.call f vs) :=
  L2.walk_of (n := 63) (k := k) (x := x) (CX := CX) (sp := fun w => spL (K w.params) F) hn (by decide) hdf hr hY A (fun _ _ a ns hl _ hS => spL_of hS (hF ns hl)) hCX
end Wy


namespace Wy
open PySem PySem.Spec PyProof.Rows L2
section
variable {X : Cx}
theorem op_cat0 : OpR X (binaryOp .Add) (fun x y H Q => ∃ a b ys, x = .ref a ∧ y = .ref b ∧ SqT X.K H a [] ∧ SqT X.K H b ys ∧ Q (.ref b) H) := by
  rintro pins s σ H x y v u Q I rx ry ⟨a, b, ys, rfl, rfl, ha, hb, q⟩
  obtain rfl : v = Value.ref a := rx
  obtain rfl : u = Value.ref b := ry
  obtain ⟨ia, ra, ⟨⟨c1, d1, t1, s1⟩, g1, hc1, n1, hd1⟩, _⟩ := I.tuple ha
  obtain ⟨ib, rb, ⟨⟨c2, d2, t2, s2⟩, g2, hc2, n2, hd2⟩, _⟩ := I.tuple hb
  cases ra
  cases hc1
  cases hd1
  cases hc2
  cases hd2
  exact concat_meets ⟨_, g1, rfl⟩ ⟨_, g2, rfl⟩ noFill_tuple_add seq_tuple_add PySem.F.slot_tuple_add PySem.F.entry_tuple_add (PySem.F.args_tuple_add_2 _ _) (tuple_addW0 a b _ ib.toArray n1 n2 d1 d2 s1 s2 rfl) ⟨g1, g2, .ref b, H, I, rfl, q⟩
def catD : D → D → Option D
  | .tup xs, .tup ys => if 100000 < xs.length + ys.length then none else some (.tup (xs ++ ys))
  | _, _ => none
theorem opd_cat : OpD X (binaryOp .Add) catD := ⟨_, op_cat0.or op_catT, fun H G x y d1 d2 d g h1 h2 e Q q => by
  unfold catD at e
  split at e
  · rename_i xs ys
    split at e
    · cases e
    · rename_i hz
      cases e
      obtain ⟨a, vs, rfl, sa, la⟩ := den_tup.mp h1
      obtain ⟨b, us, rfl, sb, lb⟩ := den_tup.mp h2
      cases xs with
      | nil =>
        cases denL_nil.mp la
        exact .inl ⟨a, b, us, rfl, rfl, Same.seqT g sa, Same.seqT g sb, q _ H G (.refl g) h2⟩
      | cons x1 xs =>
        have zv : vs ≠ [] := fun z => by have := la.length; rw [z] at this; cases this
        refine .inr ⟨a, b, vs, us, rfl, rfl, Same.seqT g sa, Same.seqT g sb, zv, by rw [← la.length, ← lb.length]; exact Nat.le_trans (Nat.le_of_not_lt hz) (by decide), fun z => ?_, fun z p hp => ?_⟩
        · have : ys = [] := List.length_eq_zero_iff.mp (by rw [lb.length, z]; rfl)
          subst this
          exact q _ H G (.refl g) (by rw [List.append_nil]; exact h1)
        · have A := Ext.alloc (o := .tup (vs ++ us)) g hp
          exact q _ _ _ A (den_tup.mpr ⟨p, _, rfl, SqT.of upd_same, (la.append lb).up A.gg⟩)
  · cases e⟩
end
section
variable {prog : Program} {w : World} {A : Around} {E : Value → Shared → Prop} {s : Shared}
end
section
open PySem.AutoSeq1 (wpAny_loadPart')
end
section
variable {X : Cx} {pins : List (Addr × Obj)} {σ : L2.St} {H : Hp} {s : Shared}
end
section
variable {X : Cx} {W : XP} {a : Expr} {f : Ga → R D} {p pos tpos : Pos} {elts : List Expr} {x1 : Nat}
end
end Wy


namespace Wy
open PySem PySem.Spec PyProof.Rows L2
def lenS : Bool × List D → Option D := fun p => some (.int p.2.length)
def allS : Bool × List D → Option D := fun p => match p with
  | (false, ds) => (asBs ds).bind fun bs => some (.bl (bs.all id))
  | _ => none
def RS.seq (r : RS) (U : Ga → RS) : RS := match r with
  | .nx Γ' => U Γ'
  | r => r
def RS.fin (r : RS) : R D := match r with
  | .rt d => .ok d
  | .nx _ => .ok .non
  | .ex c _ => .ex c
  | _ => .no
@[simp] theorem callR_eq (N : List Str) (s : Ga → RS) (ds : List D) : callR N s ds = (s (begin_ N ds)).fin := nr rfl
section
variable {α β : Type} {Γ Γ' : Ga} {d x y : D} {xs : List D} {f fa fb fc : Ga → R D} {fl : Ga → R (List D)} {fs : Ga → R (Bool × List D)} {g ga gb : Ga → R Bool} {T U : Ga → RS} {F F' : D → D → Option D} {n : Nat} {sl : Sl} {c : Str}
@[simp] theorem seq_nx : RS.seq (.nx Γ) U = U Γ := nr rfl
@[simp] theorem seq_rt : RS.seq (.rt d) U = .rt d := nr rfl
@[simp] theorem seq_ex : RS.seq (.ex c Γ) U = .ex c Γ := nr rfl
@[simp] theorem fin_rt : RS.fin (.rt d) = .ok d := nr rfl
@[simp] theorem fin_ex : RS.fin (.ex c Γ) = .ex c := nr rfl
@[simp] theorem seq_ite {p : Prop} [Decidable p] {a b : RS} : RS.seq (if p then a else b) U = if p then RS.seq a U else RS.seq b U := by split <;> rfl
@[simp] theorem fin_ite {p : Prop} [Decidable p] {a b : RS} : RS.fin (if p then a else b) = if p then RS.fin a else RS.fin b := by split <;> rfl
@[simp] theorem eC_eq : eC d Γ = .ok d := nr rfl
@[simp] theorem eV_zero : eV 0 (.val d :: Γ) = .ok d := nr rfl
@[simp] theorem eV_succ : eV (n + 1) (sl :: Γ) = eV n Γ := by simp [eV]
@[simp] theorem sV_own : sV 0 (.own xs :: Γ) = .ok (false, xs) := nr rfl
@[simp] theorem sV_succ : sV (n + 1) (sl :: Γ) = sV n Γ := by simp [sV]
@[simp] theorem sE_eq : sE f Γ = (f Γ).bind fun d => .ofO (seqOf d) := nr rfl
@[simp] theorem seqOf_tup : seqOf (.tup xs) = some (true, xs) := nr rfl
@[simp] theorem seqOf_lst : seqOf (.lst xs) = some (false, xs) := nr rfl
@[simp] theorem sO_eq : sO fl Γ = (fl Γ).bind fun ds => .ok (false, ds) := nr rfl
@[simp] theorem eO_eq : eO fl Γ = (fl Γ).bind fun ds => .ok (.lst ds) := nr rfl
@[simp] theorem aNil_eq : aNil Γ = .ok [] := nr rfl
@[simp] theorem aCons_eq : aCons f fl Γ = (f Γ).bind fun d => (fl Γ).bind fun ds => .ok (d :: ds) := nr rfl
@[simp] theorem eTup_eq : eTup fl Γ = (fl Γ).bind fun ds => .ok (.tup ds) := nr rfl
@[simp] theorem e2_eq : e2 F fa fb Γ = (fa Γ).bind fun x => (fb Γ).bind fun y => .ofO (F x y) := nr rfl
@[simp] theorem asB_bl {b : Bool} : asB (.bl b) = some b := nr rfl
@[simp] theorem tB_eq : Wy.tB f Γ = (f Γ).bind fun d => .ofO (asB d) := nr rfl
def chainK (k : D) (r : R D) : R D := match k with
  | .bl true => r
  | .bl false => .ok (.bl false)
  | _ => .no
@[simp] theorem chainK_bl {b : Bool} {r : R D} : chainK (.bl b) r = if b = true then r else .ok (.bl false) := by cases b <;> rfl
@[simp] theorem e3_eq : e3 F F' fa fb fc Γ = (fa Γ).bind fun x => (fb Γ).bind fun y => (R.ofO (F x y)).bind fun z => chainK z ((fc Γ).bind fun w => .ofO (F' y w)) := nr rfl
@[simp] theorem eAnd_eq : eAnd fa fb Γ = (fa Γ).bind fun x => chainK x (fb Γ) := nr rfl
def notK (k : D) : R D := match k with
  | .bl k => .ok (.bl (!k))
  | _ => .no
@[simp] theorem notK_bl {b : Bool} : notK (.bl b) = .ok (.bl (!b)) := nr rfl
@[simp] theorem eNot_eq : eNot fa Γ = (fa Γ).bind notK := nr rfl
@[simp] theorem tAndR_eq : tAndR ga gb Γ = (ga Γ).bind fun k => if k = true then gb Γ else .ok false := by
  show (ga Γ).bind _ = _
  congr 1; funext k; cases k <;> rfl
@[simp] theorem tOrR_eq : tOrR ga gb Γ = (ga Γ).bind fun k => if k = true then .ok true else gb Γ := by
  show (ga Γ).bind _ = _
  congr 1; funext k; cases k <;> rfl
@[simp] theorem tNotR_eq : tNotR ga Γ = (ga Γ).bind fun k => .ok (!k) := nr rfl
@[simp] theorem tTru_eq : tTru f Γ = (f Γ).bind fun d => .ofO (truD d) := nr rfl
@[simp] theorem truD_bl {b : Bool} : truD (.bl b) = some b := nr rfl
@[simp] theorem eCall_eq {M : List D → R D} : eCall M fl Γ = (fl Γ).bind M := nr rfl
@[simp] theorem eB_eq {M : List D → Option D} : eB M fl Γ = (fl Γ).bind fun ds => .ofO (M ds) := nr rfl
@[simp] theorem eS_eq {M : Bool × List D → Option D} : eS M fs Γ = (fs Γ).bind fun p => .ofO (M p) := nr rfl
@[simp] theorem lenD_tup : lenD [.tup xs] = some (.int xs.length) := nr rfl
@[simp] theorem lenD_lst : lenD [.lst xs] = some (.int xs.length) := nr rfl
@[simp] theorem lenS_eq {b : Bool} : lenS (b, xs) = some (.int xs.length) := nr rfl
@[simp] theorem ixD_tup {i : Int} : ixD (.tup xs) (.int i) = atI xs i := nr rfl
@[simp] theorem ixD_lst {i : Int} : ixD (.lst xs) (.int i) = atI xs i := nr rfl
@[simp] theorem ixS_int {b : Bool} {i : Int} : ixS (b, xs) (.int i) = atI xs i := nr rfl
@[simp] theorem eIxS_eq : eIxS fs fb Γ = (fs Γ).bind fun p => (fb Γ).bind fun y => .ofO (ixS p y) := nr rfl
@[simp] theorem oN_eq : oN Γ = .ok none := nr rfl
@[simp] theorem asI_int {i : Int} : asI (.int i) = some i := nr rfl
@[simp] theorem oI_eq : oI f Γ = (f Γ).bind fun d => (R.ofO (asI d)).bind fun i => .ok (some i) := nr rfl
@[simp] theorem cutS_eq {l h : Option Int} : cutS (false, xs) l h = some (cut xs l h) := nr rfl
@[simp] theorem oSl_eq {gl gh : Ga → R (Option Int)} : oSl fs gl gh Γ = (fs Γ).bind fun d => (gl Γ).bind fun l => (gh Γ).bind fun h => .ofO (cutS d l h) := nr rfl
@[simp] theorem sPop_eq {m : Nat} : sPop n m Γ = match Γ[n]? with | some (.own xs) => (match xs.getLast? with | some d => .nx ((Γ.set n (.own xs.dropLast)).set m (.val d)) | none => .no) | _ => .no := nr rfl
@[simp] theorem eIsi_eq {k : String → Bool} : eIsi k fa Γ = (fa Γ).bind fun d => .ok (.bl (k (tyN d))) := nr rfl
@[simp] theorem int2_int {k : Int → Int → Option D} {i j : Int} : int2 k (.int i) (.int j) = k i j := nr rfl
@[simp] theorem ltD_int {i j : Int} : ltD (.int i) (.int j) = some (.bl (decide (i < j))) := nr rfl
@[simp] theorem mulI_r {i j : Int} (h : -(2 ^ 64) < j ∧ j < 2 ^ 64) : mulI i j = some (.int (i * j)) := if_pos (.inr h)
@[simp] theorem modI_pos {i j : Int} (h : 0 < j) : modI i j = some (.int (i % j)) := if_pos h
@[simp] theorem sNext_eq : sNext Γ = .nx Γ := nr rfl
@[simp] theorem sSeq_eq : sSeq T U Γ = RS.seq (T Γ) U := nr rfl
@[simp] theorem sRet_eq : sRet f Γ = .of (f Γ) Γ fun d => .rt d := nr rfl
@[simp] theorem sRetO_eq : sRetO n Γ = match Γ[n]? with | some (.own xs) => .rt (.lst xs) | _ => .no := nr rfl
@[simp] theorem sSet_eq : sSet n f Γ = .of (f Γ) Γ fun d => .nx (Γ.set n (.val d)) := nr rfl
@[simp] theorem sSetO_eq : sSetO n fl Γ = .of (fl Γ) Γ fun d => .nx (Γ.set n (.own d)) := nr rfl
@[simp] theorem sDrop_eq : sDrop f Γ = .of (f Γ) Γ fun _ => .nx Γ := nr rfl
@[simp] theorem sIf_eq : sIf g T U Γ = .of (g Γ) Γ fun k => if k = true then T Γ else U Γ := by
  show RS.of (g Γ) Γ _ = _
  congr 1; funext k; cases k <;> rfl
@[simp] theorem sApp_eq : sApp n f Γ = match Γ[n]? with | some (.own xs) => .of (f Γ) Γ fun d => if xs.length < 16000000 then .nx (Γ.set n (.own (xs ++ [d]))) else .no | _ => .no := nr rfl
@[simp] theorem iL_eq : iL f Γ = (f Γ).bind fun d => .ofO (asL d) := nr rfl
@[simp] theorem asL_lst : asL (.lst xs) = some xs := nr rfl
@[simp] theorem iS_eq : iS f Γ = (f Γ).bind fun d => .ofO (asSigns d) := nr rfl
@[simp] theorem sFor_eq {gg : D → Ga → Option Ga} : sFor fl gg T Γ = .of (fl Γ) Γ fun ds => sTurns gg T ds Γ := nr rfl
@[simp] theorem cpR_eq : cpR fl g f Γ = (fl Γ).bind fun ds => if ds.length < 16000000 then compR g f Γ ds else .no := nr rfl
theorem allS_eq {bs : List Bool} : allS (false, bs.map D.bl) = some (.bl (bs.all id)) := by
  show (asBs (bs.map D.bl)).bind _ = _
  have := asBs_map id bs
  rw [show (bs.map D.bl) = (bs.map fun x => D.bl (id x)) from rfl, this]
  simp
theorem atI_zero {α : Type} (x : α) (xs : List α) : atI (x :: xs) 0 = some x := atI_nat (j := 0) rfl
theorem atI_one {α : Type} (x y : α) (xs : List α) : atI (x :: y :: xs) 1 = some y := atI_nat (j := 1) rfl
end
end Wy


namespace Wy
open PySem PySem.Spec PyProof.Rows L2
theorem turns_st {α : Type} {g : D → Ga → Option Ga} {T : Ga → RS} (P : α → Ga → Prop) (F : α → D → α) : ∀ (ds : List D) (a : α) (Γ : Ga), (∀ a d Γ, d ∈ ds → P a Γ → ∃ Γ1 Γ', g d Γ = some Γ1 ∧ (T Γ1 = .nx Γ' ∨ T Γ1 = .ct Γ') ∧ P (F a d) Γ') → P a Γ → ∃ Γ', sTurns g T ds Γ = .nx Γ' ∧ P (ds.foldl F a) Γ'
  | [], a, Γ, _, h => ⟨Γ, rfl, h⟩
  | d :: ds, a, Γ, H, h => by
    obtain ⟨Γ1, Γ2, h1, h2, h3⟩ := H a d Γ List.mem_cons_self h
    obtain ⟨Γ', e, q⟩ := turns_st P F ds (F a d) Γ2 (fun a x Γ hx => H a x Γ (List.mem_cons_of_mem _ hx)) h3
    refine ⟨Γ', ?_, q⟩
    unfold sTurns
    rw [h1]
    rcases h2 with h2 | h2 <;> (dsimp only; rw [h2]; exact e)
theorem all_cp {it : Ga → R (List D)} {f : Ga → R D} {Γ : Ga} {ds : List D} {p : D → Bool} (h1 : it Γ = .ok ds) (h2 : ds.length < 16000000) (h3 : ∀ d ∈ ds, f (.val d :: .un :: Γ) = .ok (.bl (p d))) :
    eS allS (sO (cpR it cTrue f)) Γ = .ok (.bl (ds.all p)) := by
  have e := compR_map (f := f) (Γ := Γ) (h := fun d => D.bl (p d)) h3
  have e2 : allS (false, ds.map fun d => D.bl (p d)) = some (.bl (ds.all p)) := by
    have := allS_eq (bs := ds.map p)
    rw [List.map_map] at this
    rw [show (D.bl ∘ p) = fun d => D.bl (p d) from rfl] at this
    rw [this]
    simp [Function.comp_def]
  simp [h1, h2, e, e2]
end Wy
namespace Wl
open PySem PySem.Spec PyProof.Rows L2 Wy
def dLs (ns : List Int) : D := .lst (ns.map D.int)
def cellI (ns : List Int) (k : Nat) : Int := ns.getD k 0
def mixI (c p m : Int) : Int := c * 48271 % p % m
theorem mix_lt (c p m : Int) (h : 0 < m) : 0 ≤ mixI c p m ∧ mixI c p m < m := ⟨Int.emod_nonneg _ (by omega), Int.emod_lt_of_pos _ h⟩
section
variable {r : List Nat} {nms : List Str} {ws : List (List Nat)} {w : Wd} {y : List Wd}
end
@[simp] theorem ty_tup {xs : List D} : tyN (.tup xs) = "tuple" := nr rfl
@[simp] theorem ty_non : tyN .non = "NoneType" := nr rfl
@[simp] theorem ty_str {x : Str} : tyN (.str x) = "str" := nr rfl
@[simp] theorem ty_int {x : Int} : tyN (.int x) = "int" := nr rfl
end Wl


namespace Wy
open PySem PySem.Spec PyProof.Rows L2
structure Chg (F ch : List Addr) (h h' : Heap) : Prop where
  keep : ∀ b o, h.get? b = some o → b ∉ F → b ∉ ch → h'.get? b = some o
  slot : ∀ b o, h.get? b = some o → b ∈ F → b ∉ ch → ∃ sl, h'.get? b = some { o with slots := sl }
  there : ∀ b o, h.get? b = some o → b ∉ ch → ∃ o', h'.get? b = some o'
theorem Chg.trans {F ch : List Addr} {h h1 h2 : Heap} (a : Chg F ch h h1) (b : Chg F ch h1 h2) : Chg F ch h h2 where
  keep := fun c o e h1 h2 => b.keep c o (a.keep c o e h1 h2) h1 h2
  slot := fun c o e h1 h2 => by
    obtain ⟨sl, e1⟩ := a.slot c o e h1 h2
    obtain ⟨sl', e2⟩ := b.slot c _ e1 h1 h2
    exact ⟨sl', e2⟩
  there := fun c o e h2 => by
    obtain ⟨o', e1⟩ := a.there c o e h2
    exact b.there c o' e1 h2
theorem Chg.of_slots {F ch : List Addr} {h h' : Heap} (x : Heap.SlotsOnly F h h') : Chg F ch h h' :=
  ⟨fun b o e hb _ => (x.2.1 b hb).trans e, fun b o e _ _ => x.2.2 b o e, fun b o e _ => let ⟨_, q⟩ := x.2.2 b o e; ⟨_, q⟩⟩
theorem Chg.push {F ch : List Addr} {h : Heap} (o : Obj) : Chg F ch h (h.push o) :=
  ⟨fun b _ e _ _ => Heap.get?_push_of_some _ e, fun b o' e _ _ => ⟨o'.slots, Heap.get?_push_of_some _ e⟩, fun b o' e _ => ⟨o', Heap.get?_push_of_some _ e⟩⟩
theorem Chg.update {F ch : List Addr} {h : Heap} {a : Addr} {f : Obj → Obj} (ha : a ∈ ch) : Chg F ch h (h.update a f) := by
  have ne : ∀ b, b ∉ ch → a ≠ b := fun b hb z => hb (z ▸ ha)
  exact ⟨fun b o e _ hc => (Heap.get?_update_other _ _ (ne b hc)).trans e, fun b o e _ hc => ⟨o.slots, (Heap.get?_update_other _ _ (ne b hc)).trans e⟩, fun b o e hc => ⟨o, (Heap.get?_update_other _ _ (ne b hc)).trans e⟩⟩
structure DefCx (X : Cx) : Prop where
  stk : X.stack = X.env :: X.outer
  frm : X.env.frame = some X.env.locals
  ex : X.ex = []
structure Fp (X : Cx) (pins : List (Addr × Obj)) (H : Hp) (b : Addr) : Prop where
  fr : H b = none
  loc : b ≠ X.env.locals
  fs : b ∉ X.fs
  new : X.s₀.heap.get? b = none
  cel : ∀ x c, X.env.cells.lookup x = some c → c ≠ b
  pin : ∀ p ∈ X.pn ++ pins, p.1 ≠ b
section
variable {X : Cx} {pins : List (Addr × Obj)} {σ : L2.St} {H H' : Hp} {s : Shared}
theorem inv_fp {b : Addr} (Dc : DefCx X) (I : Inv X pins σ H s) (hb : s.heap.get? b = none) (hn : H' b = none) : Fp X pins H' b := by
  refine ⟨hn, fun z => ?_, fun z => ?_, ?_, fun x c e z => ?_, fun p hp z => ?_⟩
  · obtain ⟨m, ⟨o, _, _, ho, _⟩, _⟩ := I.loc
    rw [← z, hb] at ho; cases ho
  · obtain ⟨_, o, ho, _⟩ := I.funs.mem z
    rw [hb] at ho; cases ho
  · cases q : X.s₀.heap.get? b with
    | none => rfl
    | some o =>
      obtain ⟨o', e⟩ := I.base.there b o q (by rw [Dc.ex]; simp)
      rw [hb] at e; cases e
  · obtain ⟨v, o, ho, _⟩ := I.cell x c e
    rw [z, hb] at ho; cases ho
  · have := (I.pin p hp).1
    rw [z, hb] at this; cases this
theorem chg_inv {ch : List Addr} {h' : Heap} {t' : Nat} (I : Inv X pins σ H s) (c : Chg (frs X.stack) ch s.heap h') (hch : ∀ b ∈ ch, Fp X pins H b) : Inv X pins σ H { s with heap := h', toks := t' } := by
  have nt : ∀ b o, H b = some o → b ∉ frs X.stack ∧ b ∉ ch := fun b o e => ⟨fun z => (by rw [I.stkFree b z] at e; cases e), fun z => (by rw [(hch b z).fr] at e; cases e)⟩
  have nold : ∀ b o, X.s₀.heap.get? b = some o → b ∉ ch := fun b o e z => by rw [(hch b z).new] at e; cases e
  have nfr : ∀ b, b ≠ X.env.locals → b ∉ X.fs → b ∉ frs X.stack := fun b h1 h2 z => (List.mem_cons.mp (I.stkSub b z)).elim h1 h2
  have noL : ∀ b o, X.s₀.heap.get? b = some o → b ≠ X.env.locals := fun b o e => Nat.ne_of_lt (Nat.lt_of_lt_of_le (Heap.lt_size e) I.ok.above)
  have any : ∀ b o, s.heap.get? b = some o → b ∉ ch → ∃ sl, h'.get? b = some { o with slots := sl } := fun b o e hc => by
    by_cases z : b ∈ frs X.stack
    · exact c.slot b o e z hc
    · exact ⟨o.slots, c.keep b o e z hc⟩
  have cellK : ∀ x k, X.env.cells.lookup x = some k → ∀ v, s.heap.IsCell k v → h'.IsCell k v := fun x k e v ⟨o, ho, hd⟩ => by
    obtain ⟨sl, q⟩ := any k o ho fun z => (hch k z).cel x k e rfl
    exact ⟨_, q, hd⟩
  refine ⟨I.ok, I.os, I.bare, ⟨fun b o e n hb hx => ?_, fun b o e n hb hx => ?_, I.base.free, fun b o e hx => ?_, I.base.tups, I.base.frzs, I.base.tbls⟩, ?_, fun x k e => ?_, I.free, I.freeC, fun p hp => ?_, fun b u e => ?_, I.len⟩
  · exact c.keep b o (I.base.keep b o e n hb hx) (nfr b (noL b o e) hb) (nold b o e)
  · obtain ⟨sl, e1⟩ := I.base.slot b o e n hb hx
    obtain ⟨sl', e2⟩ := any b _ e1 (nold b o e)
    exact ⟨sl', e2⟩
  · obtain ⟨o', e1⟩ := I.base.there b o e hx
    exact c.there b o' e1 (nold b o e)
  · obtain ⟨m, ⟨o, es, ep, ho, r⟩, hl⟩ := I.loc
    obtain ⟨sl, q⟩ := any _ o ho fun z => (hch _ z).loc rfl
    refine ⟨m, ⟨_, es, ep, q, r⟩, fun i x v e1 e2 e3 => ?_⟩
    obtain ⟨u, rv, l⟩ := hl i x v e1 e2 e3
    refine ⟨u, rv, ?_⟩
    rcases l with l | ⟨k, d, e, z⟩
    · exact .inl l
    · exact .inr ⟨k, d, e, cellK x d e _ z⟩
  · obtain ⟨v, z⟩ := I.cell x k e
    exact ⟨v, cellK x k e v z⟩
  · obtain ⟨e, n, ne, nf, d⟩ := I.pin p hp
    exact ⟨c.keep p.1 p.2 e (nfr p.1 ne nf) fun z => (hch p.1 z).pin p hp rfl, n, ne, nf, d⟩
  · refine (I.hok b u e).stay (fun d v hc q => ?_) (fun _ q => q) fun _ _ q => q
    rcases hc with z | z
    · subst z; exact c.keep d v q (nt d u e).1 (nt d u e).2
    · exact c.keep d v q (nt d _ z).1 (nt d _ z).2
theorem inv_unpin (I : Inv X pins σ H s) : Inv X [] σ H s := ⟨I.ok, I.os, I.bare, I.base, I.loc, I.cell, I.free, I.freeC, fun p hp => I.pin p (by rw [List.append_nil] at hp; exact List.mem_append_left _ hp), I.hok, I.len⟩
theorem fp_unpin {b : Addr} (f : Fp X pins H b) : Fp X [] H b := ⟨f.fr, f.loc, f.fs, f.new, f.cel, fun p hp => f.pin p (by rw [List.append_nil] at hp; exact List.mem_append_left _ hp)⟩
end
structure XAt (ok : Addr → Prop) (L : Option Addr) (h : Heap) (e : Addr) (cls : Value) : Prop where
  me : ok e
  obj : ∃ oe vs, h.get? e = some oe ∧ oe.cls = cls ∧ oe.data = .fields vs ∧ (vs[1]? = some .none ∨ ∃ T oT ts, vs[1]? = some (.ref T) ∧ ok T ∧ T ≠ e ∧ h.get? T = some oT ∧ oT.data = .fields ts ∧ (ts[3]? = some .none ∨ ∃ l, L = some l ∧ ts[3]? = some (rawInt l)))
structure XOn (ok : Addr → Prop) (n : Value) (h : Heap) (e : Addr) (cls : Value) : Prop where
  me : ok e
  obj : ∃ oe vs T oT ts, h.get? e = some oe ∧ oe.cls = cls ∧ oe.data = .fields vs ∧ vs[1]? = some (.ref T) ∧ ok T ∧ T ≠ e ∧ h.get? T = some oT ∧ oT.data = .fields ts ∧ ts[3]? = some n
theorem XOn.at {ok ok' : Addr → Prop} {L : Option Addr} {h : Heap} {e : Addr} {cls : Value} {n : Value} (x : XOn ok n h e cls) (hok : ∀ b, ok b → ok' b) (hn : n = .none ∨ ∃ l, L = some l ∧ n = rawInt l) : XAt ok' L h e cls := by
  obtain ⟨oe, vs, T, oT, ts, h1, h2, h3, h4, h5, h6, h7, h8, h9⟩ := x.obj
  refine ⟨hok _ x.me, oe, vs, h1, h2, h3, .inr ⟨T, oT, ts, h4, hok _ h5, h6, h7, h8, ?_⟩⟩
  rcases hn with rfl | ⟨l, e1, rfl⟩
  · exact .inl h9
  · exact .inr ⟨l, e1, h9⟩
section
variable {X : Cx} {pins : List (Addr × Obj)} {σ : L2.St} {H : Hp} {s : Shared} {E : Value → Shared → Prop} {M : Model} {e : Addr} {cls : Value}
theorem note_new {oe : Obj} {vs : Array Value} {head : Value} {b : Bool} {h0 : Heap} {Q : Unit → Shared → Prop} (Dc : DefCx X) (I : Inv X pins σ H s) (fe : Fp X pins H e) (he : s.heap.get? e = some oe) (hc : oe.cls = cls) (hd : oe.data = .fields vs) (hz : 1 < vs.size)
    (go : ∀ s', Inv X pins σ H s' → XOn (Fp X pins H) (rawInt X.env.locals) s'.heap e cls → Q () s') :
    wpAny M X.A (do let a ← frameOf X.env; let pl ← entryPlaceOf X.env.locals b; let r ← EntryCells.newEntry head a .none (rawInt X.env.locals) .none pl; setField (.ref e) 1 r) Q E s := by
  have hst := I.stack
  have hfr := I.ok.frames
  rw [Dc.stk] at hst hfr
  have ne : e ∉ (X.env :: X.outer).filterMap (·.frame) := fun z => by
    have z' : e ∈ frs X.stack := by rw [Dc.stk]; exact z
    rcases List.mem_cons.mp (I.stkSub e z') with q | q
    · exact fe.loc q
    · exact fe.fs q
  refine wpAny_bind (wpAny_frameOf_fun hfr hst Dc.frm fun g1 k1 => ?_)
  refine wpAny_bind (wpAny_entryPlaceOf fun pl hpl => ?_)
  unfold EntryCells.newEntry newFields
  refine wpAny_bind (wpAny_newObj_type ?_ (hpl.sizeOk5 _ _ _ _ _))
  generalize hT : ({ cls := .type "traceback", dict := none, data := .fields ([head, .ref X.env.locals, .none, rawInt X.env.locals, .none] ++ (if pl.isEmpty then List.replicate 6 Value.none else pl)).toArray } : Obj) = oT
  have e1 : g1.get? e = some oe := (k1.2.1 e ne).trans he
  have e2 : (g1.push oT).get? e = some oe := Heap.get?_push_of_some _ e1
  refine wpAny_setField e2 hd hz ?_
  have nT : g1.objs.size ≠ e := Nat.ne_of_gt (Heap.lt_size e1)
  have d3 := Obj.data_mapFields hd (·.setIfInBounds 1 (Value.ref g1.objs.size))
  have e3 := Heap.get?_update_self (Obj.mapFields (·.setIfInBounds 1 (Value.ref g1.objs.size))) e2 (Obj.isFreed_of_fields d3)
  have hnf : oT.isFreed = false := by rw [← hT]; rfl
  have t3 := (Heap.get?_update_other (g1.push oT) (Obj.mapFields (·.setIfInBounds 1 (Value.ref g1.objs.size))) (Ne.symm nT)).trans (Heap.get?_push_size g1 hnf)
  have C1 : Chg (frs X.stack) [e] s.heap ((g1.push oT).update e (Obj.mapFields (·.setIfInBounds 1 (Value.ref g1.objs.size)))) := by
    rw [Dc.stk]
    exact ((Chg.of_slots k1).trans (Chg.push oT)).trans (Chg.update (List.mem_singleton.mpr rfl))
  have I1 := chg_inv (t' := s.toks) I C1 fun b hb => by rw [List.mem_singleton.mp hb]; exact fe
  have hsz : s.heap.objs.size ≤ g1.objs.size := by rw [k1.1]; exact Nat.le_refl _
  have fT : Fp X pins H g1.objs.size := inv_fp Dc I (Heap.get?_none_of_le hsz) (I.hok.fresh hsz)
  refine go _ I1 ⟨fe, _, _, g1.objs.size, oT, _, e3, (Obj.cls_mapFields _ _).trans hc, d3, by simp [hz], fT, nT, t3, by rw [← hT], ?_⟩
  rcases hpl with rfl | ⟨_, _, _, _, _, _, _, rfl⟩ <;> rfl
theorem note_ok {Q : Unit → Shared → Prop} (Dc : DefCx X) (I : Inv X pins σ H s) (x : XAt (Fp X pins H) (some X.env.locals) s.heap e cls) (go : ∀ s', Inv X pins σ H s' → XOn (Fp X pins H) (rawInt X.env.locals) s'.heap e cls → Q () s') :
    wpAny M X.A (noteFrame (.ref e) X.env) Q E s := by
  obtain ⟨oe, vs, he, hc, hd, ht⟩ := x.obj
  unfold noteFrame
  simp only [Dc.frm]
  rcases ht with h1 | ⟨T, oT, ts, h1, fT, nT, gT, dT, h3⟩
  · refine wpAny_bind (wpAny_field he hd h1 ?_)
    rw [if_neg (by decide)]
    exact note_new (h0 := s.heap) Dc I x.me he hc hd (Array.getElem?_eq_some_iff.mp h1).1 go
  · refine wpAny_bind (wpAny_field he hd h1 ?_)
    rw [if_pos (show (Value.ref T != Value.none) = true by simp)]
    rcases h3 with h3 | ⟨l, hl, h3⟩
    · refine wpAny_bind (wpAny_field gT dT h3 ?_)
      rw [if_neg (show ¬ ((Value.none == rawInt X.env.locals) = true) by simp [rawInt])]
      refine wpAny_bind (wpAny_setField gT dT (Array.getElem?_eq_some_iff.mp h3).1 ?_)
      have I1 := chg_inv (t' := s.toks) I (Chg.update (ch := [T]) (F := frs X.stack) (h := s.heap) (f := Obj.mapFields (·.setIfInBounds 3 Value.none)) (List.mem_singleton.mpr rfl)) fun b hb => by rw [List.mem_singleton.mp hb]; exact fT
      exact note_new (h0 := s.heap) Dc I1 x.me ((Heap.get?_update_other _ _ nT).trans he) hc hd (Array.getElem?_eq_some_iff.mp h1).1 go
    · cases hl
      refine wpAny_bind (wpAny_field gT dT h3 ?_)
      rw [if_pos (beq_self_eq_true _)]
      exact wpAny_pure (go _ I ⟨x.me, oe, vs, T, oT, ts, he, hc, hd, h1, fT, nT, gT, dT, h3⟩)
theorem flight_ok {n m : Value} {o : Option Addr} {Q : Unit → Shared → Prop} (I : Inv X pins σ H s) (x : XOn (Fp X pins H) n s.heap e cls) (hm : (o.elim Value.none fun f => rawInt f) = m) (go : ∀ s', Inv X pins σ H s' → XOn (Fp X pins H) m s'.heap e cls → Q () s') :
    wpAny M X.A (setFlight (.ref e) o) Q E s := by
  obtain ⟨oe, vs, T, oT, ts, he, hc, hd, h1, fT, nT, gT, dT, h3⟩ := x.obj
  unfold setFlight
  refine wpAny_bind (wpAny_field he hd h1 ?_)
  rw [if_pos (show (Value.ref T != Value.none) = true by simp)]
  have hz := (Array.getElem?_eq_some_iff.mp h3).1
  refine wpAny_setField gT dT hz ?_
  rw [hm]
  have d3 := Obj.data_mapFields dT (·.setIfInBounds 3 m)
  refine go _ (chg_inv (t' := s.toks) I (Chg.update (ch := [T]) (F := frs X.stack) (h := s.heap) (List.mem_singleton.mpr rfl)) fun b hb => by rw [List.mem_singleton.mp hb]; exact fT) ⟨x.me, oe, vs, T, _, _, (Heap.get?_update_other _ _ nT).trans he, hc, hd, h1, fT, nT, Heap.get?_update_self _ gT (Obj.isFreed_of_fields d3), d3, by simp [hz]⟩
end
def XeOk (X : Cx) (W : XP) : Value → Shared → Prop := fun e s => ∃ (ea : Addr) (σ : L2.St) (H G : Hp) (c : Str) (C : Addr), e = .ref ea ∧ Inv X [] σ H s ∧ PySem.W.nsIn X.K mainGlobals c = some (some (.ref C)) ∧ W c σ H G ∧ XAt (Fp X [] H) (some X.env.locals) s.heap ea (.ref C)
abbrev _root_.L2.Cx.xw (X : Cx) (W : XP) : Cx := X.wish (XeOk X W)
def CX1 (P : Program) (w : World) : CXT := fun outer H s E e s' => ∃ (ea C : Addr) (H' : Hp), e = .ref ea ∧ s'.os = s.os ∧ AllBare s'.gens ∧ Un (frs outer) [] H H' s.heap s'.heap ∧ HOk P w H' s'.heap ∧ E (.ref C) none H' ∧
  XAt (fun b => s.heap.get? b = none ∧ H' b = none) none s'.heap ea (.ref C)
theorem cx1_E0 {P : Program} {w : World} {H : Hp} {s : Shared} {e : Value} {s' : Shared} (h : CX1 P w [] H s E0 e s') : False := by
  obtain ⟨_, _, _, _, _, _, _, _, h, _⟩ := h
  exact h
section
variable {X : Cx} {W : XP}
theorem po1 (Dc : DefCx X) : PassesOwn (model X.prog X.w) X.A X.env (XeOk X W) := by
  rintro e s ⟨ea, σ, H, G, c, C, rfl, I, hc, hw, x⟩
  show wpAny _ _ (noteFrame (.ref ea) X.env) _ _ s
  refine note_ok Dc I x fun s1 I1 x1 => ?_
  obtain ⟨oe, vs, T, oT, ts, he, _, hd, h1, _⟩ := id x1.obj
  refine wpAny_bind (wpAny_field he hd h1 ?_)
  rw [if_neg (show ¬ ((Value.ref T == Value.none) = true) by exact Bool.false_ne_true), Dc.frm]
  refine flight_ok I1 x1 rfl fun s2 I2 x2 => ?_
  exact ⟨ea, σ, H, G, c, C, rfl, I2, hc, hw, x2.at (fun _ h => h) (.inr ⟨_, rfl, rfl⟩)⟩
theorem pw1 (Dc : DefCx X) : PassW (CX1 X.prog X.w) (X.xw W) W := by
  rintro pins σ H s e s' I ⟨ea, C, H', rfl, os, bare, un, hok, ⟨c, G', ⟨C', e1, hc⟩, hw⟩, x⟩
  cases e1
  have I := I.unwish
  have I2 := I.call' (ch := []) os un hok bare (fun b z => absurd z (by simp))
  have fp : ∀ b, (s.heap.get? b = none ∧ H' b = none) → Fp X [] H' b := fun b ⟨h1, h2⟩ => fp_unpin (inv_fp Dc I h1 h2)
  obtain ⟨oe, vs, he, h2, hd, ht⟩ := x.obj
  refine ⟨ea, σ, H', G', c, C, rfl, inv_unpin I2, hc, hw, fp _ x.me, oe, vs, he, h2, hd, ?_⟩
  rcases ht with h1 | ⟨T, oT, ts, h1, fT, nT, gT, dT, h3⟩
  · exact .inl h1
  · refine .inr ⟨T, oT, ts, h1, fp _ fT, nT, gT, dT, ?_⟩
    rcases h3 with h3 | ⟨l, hl, _⟩
    · exact .inl h3
    · cases hl
theorem pss_wish {st : List Stmt} {t : TS} (h : PSs (X.xw W) st t) (hx : ∀ e s, XeOk X W e s → X.xe e s) : PSs X st t := fun pins s σ H D I hw =>
  wpAny_mono (h pins s σ H D (I.wish _) hw) (fun _ _ q => q.unwish) fun e s z => hx e s z
end
section
variable {P : Program} {w : World} {K : PySem.W.Frag} {mg : Str → Option Value} {base : Heap}
theorem fn_R1 {x qual : Str} {st : Stmt} {f : Addr} {fd : FuncData} {N ps : List Str} {k : Nat} {S : Ga → RS} (Fn : Fun K x qual st f fd) (Sc : FnScope N ps (defScope st))
    (B : ∀ (cdv : Value) (A : Around) (outer : List Env) (s : Shared) (H : Hp) (W : XP) (E : XK), Room k (A.deeper (envOfC qual (defScope st) s.heap.objs.size f cdv)) →
      ExDs ((cxOf (CX1 P w) P w K mg base N qual (defScope st) f cdv A outer s H E).xw W) W (defBody st) S) :
    FnOk P w K mg base (CX1 P w) (k + 1) f fd ps (spF K mg ps.length fun ds => callR N S ds) := by
  obtain ⟨oc, od, kV, doc, pm, an, cdv, ct, osl, rfl, lk, hcd⟩ := Fn.ex
  refine fn_of lk hcd Sc (fun vs H Q E h => ?_) fun A outer s H vs Q E hr h => ?_
  · obtain ⟨G, ds, _, l, hl, _⟩ := h
    exact l.length.symm.trans hl
  · obtain ⟨G, ds, g, l, hl, q⟩ := h
    obtain ⟨t, p, hd⟩ := B cdv A outer s H (fun c _ H' G' => Ext H G H' G' ∧ ∀ cls, ClsIs K c cls → E cls none H') E hr
    refine ⟨t, pss_wish p ?_, hd H G _ _ H G (rep_begin g l) _ ?_⟩
    · rintro e s' ⟨ea, σ, H', G', c, C, rfl, I, hc, ⟨_, hw⟩, x⟩
      have Dc : DefCx (cxOf (CX1 P w) P w K mg base N qual (defScope st) f cdv A outer s H E) := ⟨rfl, rfl, rfl⟩
      show wpAny _ _ (leaving _ (.ref ea)) _ _ s'
      unfold leaving
      refine wpAny_bind (note_ok (X := cxOf (CX1 P w) P w K mg base N qual (defScope st) f cdv A outer s H E) Dc I x fun s1 I1 x1 => ?_)
      refine flight_ok (X := cxOf (CX1 P w) P w K mg base N qual (defScope st) f cdv A outer s H E) (o := none) I1 x1 rfl fun s2 I2 x2 => ?_
      have young : ∀ b, Fp (cxOf (CX1 P w) P w K mg base N qual (defScope st) f cdv A outer s H E) [] H' b → s.heap.get? b = none ∧ H' b = none := fun b hb => ⟨hb.new, hb.fr⟩
      exact ⟨ea, C, H', rfl, I2.os, I2.bare, I2.base, I2.hok, hw _ ⟨C, rfl, hc⟩, x2.at young (.inl rfl)⟩
    · unfold callR at q
      dsimp only at q
      cases hS : S (begin_ N ds) with
      | rt d => rw [hS] at q; exact fun v H' G' e dv => q v H' G' e dv
      | nx Γ => rw [hS] at q; exact fun σ H' G' R => q _ H' G' R.ex den_non
      | bk Γ => rw [hS] at q; exact q.elim
      | ct Γ => rw [hS] at q; exact q.elim
      | ex c Γ => rw [hS] at q; exact fun σ H' G' R => ⟨R.ex, fun cls hcls => q cls none H' G' hcls R.ex⟩
      | no => rw [hS] at q; exact q.elim
end
end Wy


namespace Wy
open PySem PySem.Spec PyProof.Rows L2
def bmV : List Value := [.type "ValueError", .type "Exception", .type "BaseException", .type "object"]
def quietIn (K : PySem.W.Frag) (N : Addr) : Bool := match K.lookup N with
  | some ⟨_, _, .dict es _, _⟩ => es.toList.all (fun e => match e.key with | .str _ _ => true | _ => false) && (nsFind es "__init__").isNone
  | _ => false
theorem quiet_ns {K : PySem.W.Frag} {N : Addr} (q : quietIn K N = true) : ∃ m : Str → Option Value, m "__init__" = none ∧ ∀ h : Heap, K.In h → h.Ns N m := by
  unfold quietIn at q
  split at q
  · rename_i c d es ep sl e
    rw [Bool.and_eq_true] at q
    refine ⟨fun n => nsFind es n, Option.isNone_iff_eq_none.mp q.2, fun h X => ⟨_, es, ep, X _ _ e, rfl, fun x hx => ?_, fun _ => rfl⟩⟩
    have := List.all_eq_true.mp q.1 x (by simpa using hx)
    split at this
    · rename_i n t hk; exact ⟨n, t, hk⟩
    · cases this
  · cases q
structure XCls (K : PySem.W.Frag) (c : Str) (C : Addr) (bm : List Value) : Prop where
  at_ : PySem.W.nsIn K mainGlobals c = some (some (.ref C))
  obj : ∃ nm q N bs hd sn sub ab col dd k0 k1 k2 k3 k5, K.lookup C = some (excClassObj nm q C N bs bm hd sn sub ab col dd k0 k1 k2 k3 k5 "ValueError.__new__") ∧ quietIn K N = true
  tail : ∀ h : Heap, K.In h → OwnTail h bmV bm
section
variable {K : PySem.W.Frag} {c y nm q : Str} {C Y N : Addr} {bs bm sub : List Value} {hd : Bool} {sn : List Str} {ab : Bool} {col : Option Bool} {dd : Option Addr} {k0 k1 k2 k3 k5 : Option Value}
theorem xcls_base (a : PySem.W.nsIn K mainGlobals c = some (some (.ref C))) (l : K.lookup C = some (excClassObj nm q C N bs bmV hd sn sub ab col dd k0 k1 k2 k3 k5 "ValueError.__new__")) (z : quietIn K N = true) : XCls K c C bmV :=
  ⟨a, ⟨_, _, _, _, _, _, _, _, _, _, _, _, _, _, _, l, z⟩, fun _ _ => .base⟩
theorem xcls_sub (a : PySem.W.nsIn K mainGlobals c = some (some (.ref C))) (l : K.lookup C = some (excClassObj nm q C N bs (.ref Y :: bmV) hd sn sub ab col dd k0 k1 k2 k3 k5 "ValueError.__new__")) (z : quietIn K N = true) (T : XCls K y Y bmV) : XCls K c C (.ref Y :: bmV) :=
  ⟨a, ⟨_, _, _, _, _, _, _, _, _, _, _, _, _, _, _, l, z⟩, fun h X => by
    obtain ⟨_, _, _, _, _, _, _, _, _, _, _, _, _, _, _, l', z'⟩ := T.obj
    obtain ⟨m, hi, hn⟩ := quiet_ns z'
    exact .own (X _ _ l') (hn h X) hi .base⟩
end
theorem hok_there {P : Program} {w : World} {H : Hp} {h : Heap} {a : Addr} {o : HO} (k : HOk P w H h) (e : H a = some o) : ∃ u, h.get? a = some u := by
  have q := k a o e
  cases o with
  | lst xs => obtain ⟨_, its, n, _, g⟩ := q; exact ⟨_, g⟩
  | tup xs => obtain ⟨_, its, _, o, g, _⟩ := q; exact ⟨_, g⟩
  | dK kvs => obtain ⟨_, _, vs, _, o, es, ep, g, _⟩ := q; exact ⟨_, g⟩
  | dT kvs => obtain ⟨_, _, xs, _, o, es, ep, g, _⟩ := q; exact ⟨_, g⟩
  | set S n => obtain ⟨o, es, ep, t, g, _⟩ := q; exact ⟨_, g⟩
  | ins C dx fs => obtain ⟨_, _, _, g, _⟩ := q; exact ⟨_, g⟩
  | own x => exact q
  | xd fs => obtain ⟨mA, hn, _⟩ := q; obtain ⟨o, _, _, g, _⟩ := hn; exact ⟨_, g⟩
  | rng lo hi => obtain ⟨_, _, _, g⟩ := q; exact ⟨_, g⟩
  | frz o u => exact ⟨_, q.1⟩
  | tbl ps => exact ⟨_, q⟩
  | met f x => exact ⟨_, q⟩
  | ext φ => exact q.2.1
theorem hok_new {P : Program} {w : World} {H : Hp} {h : Heap} {a : Addr} (k : HOk P w H h) (e : h.get? a = none) : H a = none := by
  cases q : H a with
  | none => rfl
  | some o =>
    obtain ⟨u, g⟩ := hok_there k q
    rw [e] at g; cases g
section
variable {X : Cx} {W : XP} {c : Str} {C : Addr} {bm : List Value} {e : Expr} {es : List Expr} {fl : Ga → R (List D)} {np cpos pos : Pos}
def sRaise (c : Str) (fl : Ga → R (List D)) : Ga → RS := fun Γ => .of (fl Γ) Γ fun _ => .ex c Γ
theorem x_raise (Dc : DefCx X) (Xc : XCls X.K c C bm) (hg : Gl X c) (hcalm : X.calm = true) (ha : AvD (X.xw W) W (e :: es) fl) (hl : (e :: es).length ≤ 1000 := by decide) (hdb : (c == ("__debug__" : Str)) = false := by decide)
    (he : starEach (e :: es) X.env = (false, eval e X.env) :: starEach es X.env := by rfl) (hpl : (backTo cpos (starEach (e :: es) X.env)).any (·.1) = false := by rfl) :
    ExD (X.xw W) W (.Raise (some (.Call (.Name c np) (e :: es) [] cpos)) none pos) (sRaise c fl) := by
  obtain ⟨t, p, hn, q⟩ := ha
  refine ⟨fun D σ H => t σ H fun vs H1 => vs.length ≤ sizeLine ∧ ∃ G1, W c σ H1 G1, ?_, fun H₀ G₀ Γ σ H G R D w => ?_⟩
  · intro pins s σ H D I h
    obtain ⟨nm, qn, N, bs, hd, sn, sub, ab, col, dd, k0, k1, k2, k3, k5, l, z⟩ := Xc.obj
    obtain ⟨mN, hi, hN⟩ := quiet_ns z
    have hm : X.mg c = some (.ref C) := PySem.W.mg_of I.ok.mod.kin I.ok.mod.glob Xc.at_
    have hbase : bm.contains (.type "BaseException") = true := (Xc.tail _ I.kIn).hasType (by decide)
    refine wpAny_Raise_call_subU (mN := mN) (C := C) (nm := nm) (q := qn) (N := N) (bs := bs) (bm := bm) (hdct := hd) (sn := sn) (sub := sub) (ab := ab) (col := col) (dd := dd) (k0 := k0) (k1 := k1) (k2 := k2) (k3 := k3) (k5 := k5) PySem.F.excBase_ValueError (by decide) PySem.F.excBase_ValueError hbase (I.ok.hd hcalm) hpl hi ?_
    refine ld_glob (X := X.xw W) I hg hm ⟨rfl, ?_⟩ hdb
    show wpAny _ X.A (evalArgs (.ref C) true (backTo cpos (starEach (e :: es) X.env)) []) _ _ s
    have run := p cpos pins s σ H _ I h
    rw [show starEach (e :: es) (X.xw W).env = (false, eval e X.env) :: starEach es X.env from he] at run
    rw [he]
    refine Calls.evalArgs_plain (thn run fun us s1 ⟨vs, H1, I1, rv, hz, G1, hw⟩ => ⟨rfl, by rw [← rv.length]; exact hz, I1.kIn _ _ l, ?_, Xc.tail _ I1.kIn, fun h' e' hm' => ?_⟩)
    · exact hN _ I1.kIn
    · have I2 := I1.unwish
      have hH : H1 e' = none := hok_new I2.hok hm'.new
      obtain ⟨tt, g1, _, _⟩ := hm'.there
      exact ⟨e', σ, H1, G1, c, C, rfl, inv_unpin (I2.kept (t' := s1.toks) fun b o q => hm'.keeps b o q), Xc.at_, hw, fp_unpin (inv_fp Dc I2 hm'.new hH), _, _, g1, rfl, rfl, .inl rfl⟩
  · exact q _ _ _ _ _ _ R _ (wImp (wLen (hn Γ) (wS R w fun ds w => w)) (fun _ h => h) fun ds ⟨hd, w⟩ vs H' G' E1 d1 => ⟨by rw [← d1.length, hd]; exact small24 hl, G', w σ H' G' (R.after E1)⟩)
end
end Wy


namespace Wy
open PySem PySem.Spec PyProof.Rows L2
theorem exc_match {M : Model} {A : Around} {E : Value → Shared → Prop} {nm q nm' q' : Str} {C N C' N' : Addr} {bs bm bs' bm' : List Value} {hd hd' : Bool} {sn sn' : List Str} {sub sub' : List Value} {ab ab' : Bool} {col col' : Option Bool} {dd dd' : Option Addr}
    {k0 k1 k2 k3 k5 j0 j1 j2 j3 j5 : Option Value} {newId newId' : String} {s : Shared} {e : Addr} {oe : Obj} {Q : Bool → Shared → Prop}
    (hC : s.heap.get? C = some (excClassObj nm q C N bs bm hd sn sub ab col dd k0 k1 k2 k3 k5 newId)) (hC' : s.heap.get? C' = some (excClassObj nm' q' C' N' bs' bm' hd' sn' sub' ab' col' dd' j0 j1 j2 j3 j5 newId'))
    (he : s.heap.get? e = some oe) (hcls : oe.cls = .ref C) (hbase : bm'.contains (.type "BaseException") = true) (hq : Q ((Value.ref C :: bm).contains (.ref C')) s) : wpAny M A (excMatches (.ref e) (.ref C')) Q E s := by
  obtain ⟨h0, g, d, tk, os⟩ := s
  have hB : (Value.ref C' :: bm').contains (.type "BaseException") = true := by rw [List.contains_cons, hbase, Bool.or_true]
  have f := tc_notTuple
  unfold excMatches
  repeat (first | (with_reducible refine wpAny_loadPart_at he ?_; rw [hcls]) | with_reducible refine wpAny_loadPart_at hC' ?_ | (with_reducible refine wpAny_isSubtype_exc hC' ?_; rw [hB]) | with_reducible refine wpAny_isSubtype_exc hC ?_ | wp_step)
  cases hz : (Value.ref C :: bm).contains (.ref C') <;> (rw [hz] at hq; wp_walk; exact hq)
section
variable {X : Cx} {pins : List (Addr × Obj)} {σ : L2.St} {H : Hp} {s : Shared} {E : Value → Shared → Prop} {M : Model}
theorem inv_track {b : Addr} {o : HO} (I : Inv X pins σ H s) (f : Fp X pins H b) (ok : ObjOk X.prog X.w (upd H b o) s.heap b o) : Inv X pins σ (upd H b o) s := by
  have nh : ∀ a u, H a = some u → a ≠ b := fun a u e z => by rw [z, f.fr] at e; cases e
  have ns : ∀ a u, X.s₀.heap.get? a = some u → a ≠ b := fun a u e z => by rw [z, f.new] at e; cases e
  refine ⟨I.ok, I.os, I.bare, ⟨I.base.keep, I.base.slot, fun a u e n hx => ?_, I.base.there, fun a xs e => ?_, fun a u v e => ?_, fun a ps e => ?_⟩, I.loc, I.cell, ?_, fun x c e => ?_, fun p hp => ?_, fun a u e => ?_, I.len⟩
  · rw [upd_ne (ns a u e)]; exact I.base.free a u e n hx
  · have := I.base.tups a xs e; rw [upd_ne (nh a _ this)]; exact this
  · have := I.base.frzs a u v e; rw [upd_ne (nh a _ this)]; exact this
  · obtain ⟨m, q⟩ := I.base.tbls a ps e; exact ⟨m, by rw [upd_ne (nh a _ q)]; exact q⟩
  · rw [upd_ne (Ne.symm f.loc)]; exact I.free
  · rw [upd_ne (f.cel x c e)]; exact I.freeC x c e
  · obtain ⟨e, n, r⟩ := I.pin p hp
    exact ⟨e, by rw [upd_ne (f.pin p hp)]; exact n, r⟩
  · by_cases z : a = b
    · subst z; rw [upd_same] at e; cases e; exact ok
    · rw [upd_ne z] at e
      exact (I.hok a u e).stay (fun c v _ q => q) (fun c q => by rw [upd_ne (nh c _ q)]; exact q) fun c ys q => by rw [upd_ne (nh c _ q)]; exact q
theorem unbind_ok {j : Nat} {n : Str} {pos : Pos} {Q : Unit → Shared → Prop} (I : Inv X pins σ H s) (hN : X.N.Nodup) (hj : X.N[j]? = some n) (hl : X.env.scope.names.lookup n = some .local)
    (go : ∀ s', Inv X pins (σ.set j none) H s' → Q () s') : wpAny M X.A (do bindName X.env n .none; unbindBehindTheSuite X.env n pos) Q E s := by
  refine wpAny_bind (wpAny_bindName (store_ok (v := .non) (u := .none) I hN hj (.inl hl) rfl (fun s1 I1 => ?_) (.inr hl)))
  have hjl : j < σ.length := by rw [I.len]; exact (List.getElem?_eq_some_iff.mp hj).1
  obtain ⟨m, hn, hlk⟩ := I1.loc
  obtain ⟨u, ru, lk⟩ := hlk j n .non hj (List.getElem?_set_self hjl) (.inl hl)
  have hm : m n = some u := by
    rcases lk with ⟨_, q⟩ | ⟨q, _⟩
    · exact q
    · have hl' : X.env.kindOf n = some .local := hl
      rcases q with q | q <;> (rw [hl'] at q; cases q)
  have hk := I1.ok.kind
  have hp : (X.env.scope.kind == .class || (X.env.scope.kind == .module && X.env.locals != X.env.globals)) = false := by rw [hk]; rfl
  have hl' : X.env.kindOf n = some .local := hl
  unfold unbindBehindTheSuite unbindName deleteName
  refine wpAny_onRaise (wpAny_bind (wpAny_point (wpAny_bind ?_)))
  simp only [hl', hp]
  rw [if_neg Bool.false_ne_true]
  refine wpAny_bind (wpAny_nsDel_keeps hn fun g1 v hn1 sb => ?_)
  rw [hm]
  simp only [Option.isSome_some, Bool.not_true, Bool.false_eq_true, if_false]
  refine wpAny_pure (wpAny_point (go _ ?_))
  have nL : ∀ a o, X.s₀.heap.get? a = some o → a ≠ X.env.locals := fun a o e => Nat.ne_of_lt (Nat.lt_of_lt_of_le (Heap.lt_size e) I1.ok.above)
  have nH : ∀ a o, H a = some o → a ≠ X.env.locals := fun a o e z => by rw [z, I1.free] at e; cases e
  have ck : ∀ x c, X.env.cells.lookup x = some c → ∀ v, s1.heap.IsCell c v → g1.IsCell c v := fun x c e v z => z.sameBut sb (I1.cne x c e)
  refine ⟨I1.ok, I1.os, I1.bare, ⟨fun a o e n' hb hx => ?_, fun a o e n' hb hx => ?_, I1.base.free, fun a o e hx => ?_, I1.base.tups, I1.base.frzs, I1.base.tbls⟩, ⟨_, hn1, fun i x w e1 e2 e3 => ?_⟩, fun x c e => ?_, I1.free, I1.freeC, fun p hp => ?_, fun a o e => ?_, by rw [List.length_set]; exact I.len⟩
  · exact (sb.2 a (nL a o e)).trans (I1.base.keep a o e n' hb hx)
  · obtain ⟨sl, q⟩ := I1.base.slot a o e n' hb hx; exact ⟨sl, (sb.2 a (nL a o e)).trans q⟩
  · obtain ⟨o', q⟩ := I1.base.there a o e hx; exact ⟨o', (sb.2 a (nL a o e)).trans q⟩
  · by_cases z : j = i
    · subst z
      rw [List.getElem?_set_self hjl] at e2
      cases e2
    · rw [List.getElem?_set_ne z] at e2
      have nx : x ≠ n := fun q => z (nodup_ix hN (q ▸ hj) e1)
      obtain ⟨w', rw', l⟩ := hlk i x w e1 (by rw [List.getElem?_set_ne z]; exact e2) e3
      refine ⟨w', rw', ?_⟩
      rcases l with ⟨q1, q2⟩ | ⟨q, c, q1, q2⟩
      · exact .inl ⟨q1, by show (if x = n then v else m x) = _; rw [if_neg nx]; exact q2⟩
      · exact .inr ⟨q, c, q1, ck x c q1 _ q2⟩
  · obtain ⟨v', z⟩ := I1.cell x c e; exact ⟨v', ck x c e v' z⟩
  · obtain ⟨q1, q2, q3, q4⟩ := I1.pin p hp; exact ⟨(sb.2 p.1 q3).trans q1, q2, q3, q4⟩
  · refine (I1.hok a o e).stay (fun d w hc q => (sb.2 d ?_).trans q) (fun _ q => q) fun _ _ q => q
    rcases hc with z | z
    · subst z; exact nH d o e
    · exact nH d _ z
end
abbrev _root_.L2.Cx.inT (X : Cx) (pn : List (Addr × Obj)) : Cx := { X with pn := pn }
abbrev _root_.L2.Cx.inH (X : Cx) (pn : List (Addr × Obj)) (A : Around) : Cx := { X with pn := pn, A := A, calm := false }
section
variable {X : Cx} {pins pn : List (Addr × Obj)} {σ : L2.St} {H : Hp} {s : Shared}
theorem inv_inT (I : Inv X pins σ H s) : Inv (X.inT (X.pn ++ pins)) [] σ H s :=
  ⟨⟨I.ok.mod, I.ok.kind, I.ok.glob, I.ok.blt, I.ok.above, I.ok.inj, I.ok.has, I.ok.cab, I.ok.hd, I.ok.frames, I.ok.stk, I.ok.exf, I.ok.bs, I.ok.bsz, I.ok.noex, I.ok.exfs, I.ok.funs, I.ok.frf⟩,
    I.os, I.bare, I.base, I.loc, I.cell, I.free, I.freeC, fun p hp => I.pin p (by rw [List.append_nil] at hp; exact hp), I.hok, I.len⟩
theorem inv_outT (ok : X.Ok) (I : Inv (X.inT (X.pn ++ pins)) [] σ H s) : Inv X pins σ H s :=
  ⟨ok, I.os, I.bare, I.base, I.loc, I.cell, I.free, I.freeC, fun p hp => I.pin p (by rw [List.append_nil]; exact hp), I.hok, I.len⟩
theorem inv_inH {v : Value} (I : Inv (X.inT pn) [] σ H s) : Inv (X.inH pn (X.A.mark (some v))) [] σ H s :=
  ⟨⟨I.ok.mod, I.ok.kind, I.ok.glob, I.ok.blt, I.ok.above, I.ok.inj, I.ok.has, I.ok.cab, (fun z => nomatch z), I.ok.frames, I.ok.stk, I.ok.exf, I.ok.bs, I.ok.bsz, I.ok.noex, I.ok.exfs, I.ok.funs, I.ok.frf⟩,
    I.os, I.bare, I.base, I.loc, I.cell, I.free, I.freeC, I.pin, I.hok, I.len⟩
theorem inv_outH {A : Around} (ok : (X.inT pn).Ok) (I : Inv (X.inH pn A) [] σ H s) : Inv (X.inT pn) [] σ H s :=
  ⟨ok, I.os, I.bare, I.base, I.loc, I.cell, I.free, I.freeC, I.pin, I.hok, I.len⟩
end
def Falls (K : PySem.W.Frag) (v : Value) (tb : Str → Option Bool) : Prop := ∀ c b, tb c = some b → ∃ C bm, XCls K c C bm ∧ (Value.ref C :: bm).contains v = b
def sTry (tb : Str → Option Bool) (T : Ga → RS) (U : Str → Ga → RS) : Ga → RS := fun Γ => match T Γ with
  | .ex c Γ' => (match tb c with
    | some true => U c Γ'
    | some false => .ex c Γ'
    | none => .no)
  | r => r
def hPlain (U : Ga → RS) : Str → Ga → RS := fun _ Γ => match U Γ with
  | .ex _ _ => .no
  | r => r
def hNamed (j : Nat) (U : Ga → RS) : Str → Ga → RS := fun c Γ => match U (Γ.set j (.exc c)) with
  | .nx Γ' => .nx (Γ'.set j .un)
  | .bk Γ' => .bk (Γ'.set j .un)
  | .ct Γ' => .ct (Γ'.set j .un)
  | .rt d => .rt d
  | _ => .no
def Handles (X : Cx) (h : ExceptHandler) (tb : Str → Option Bool) (U : Str → Ga → RS) : Prop :=
  ∀ (W : XP) (pins : List (Addr × Obj)) (D : Ends) (H₀ G₀ : Hp) (Γ : Ga) (σ : L2.St) (H G : Hp) (s : Shared) (e C : Addr) (c : Str), X.Ok → Inv (X.inT (X.pn ++ pins)) [] σ H s → PySem.W.nsIn X.K mainGlobals c = some (some (.ref C)) →
    XOn (Fp (X.inT (X.pn ++ pins)) [] H) .none s.heap e (.ref C) → Rep X.K H₀ G₀ Γ σ H G → Lifts X.K W H₀ G₀ (match tb c with
      | some true => U c Γ
      | some false => .ex c Γ
      | none => .no) D → wpAny (model X.prog X.w) X.A (handleBy (.ref e) X.env [h]) (SP X pins D) (XeOk X W) s
section
variable {X : Cx} {W : XP} {body : List Stmt} {h : ExceptHandler} {pos : Pos} {T : Ga → RS} {U : Str → Ga → RS} {tb : Str → Option Bool}
theorem x_try (Dc : DefCx X) (hb : ∀ (pn : List (Addr × Obj)) (W' : XP), ExDs ((X.inT pn).xw W') W' body T) (hh : Handles X h tb U) : ExD (X.xw W) W (.Try body [h] [] [] pos) (sTry tb T U) := by
  refine ⟨fun D σ H => ∃ (H₀ G₀ : Hp) (Γ : Ga) (G : Hp), Rep X.K H₀ G₀ Γ σ H G ∧ Lifts X.K W H₀ G₀ (sTry tb T U Γ) D, ?_, fun H₀ G₀ Γ σ H G R D w => ⟨H₀, G₀, Γ, G, R, w⟩⟩
  rintro pins s σ H D I ⟨H₀, G₀, Γ, G, R, w⟩
  have I := I.unwish
  have ok := I.ok
  have I1 := inv_inT I
  obtain ⟨t, p, q⟩ := hb (X.pn ++ pins) (fun c σ' H' G' => ∃ Γ', Rep X.K H₀ G₀ Γ' σ' H' G' ∧ Lifts X.K W H₀ G₀ (match tb c with
      | some true => U c Γ'
      | some false => .ex c Γ'
      | none => .no) D)
  refine wpAny_Try_except ?_
  have run := p [] s σ H D (I1.wish _) (q H₀ G₀ Γ σ H G R D ?_)
  · refine wpAny_mono run (fun f s1 hf => ?_) fun e s1 hx => ?_
    · have hf := hf.unwish
      cases f with
      | next =>
        obtain ⟨σ', H', I', q'⟩ := hf
        exact wpAny_execs_nil ⟨σ', H', (inv_outT ok I').wish _, q'⟩
      | brk => obtain ⟨σ', H', I', q'⟩ := hf; exact ⟨σ', H', (inv_outT ok I').wish _, q'⟩
      | cont => obtain ⟨σ', H', I', q'⟩ := hf; exact ⟨σ', H', (inv_outT ok I').wish _, q'⟩
      | ret u => obtain ⟨v, σ', H', I', r', q'⟩ := hf; exact ⟨v, σ', H', (inv_outT ok I').wish _, r', q'⟩
    · obtain ⟨ea, σ', H', G', c, C, rfl, I', hc, ⟨Γ', R', w'⟩, x⟩ := hx
      have Dc1 : DefCx (X.inT (X.pn ++ pins)) := ⟨Dc.stk, Dc.frm, Dc.ex⟩
      refine note_ok (X := X.inT (X.pn ++ pins)) Dc1 I' x fun s2 I2 x2 => ?_
      refine flight_ok (X := X.inT (X.pn ++ pins)) (o := none) I2 x2 rfl fun s3 I3 x3 => ?_
      refine wpAny_mono (hh W pins D H₀ G₀ Γ' σ' H' G' s3 ea C c ok I3 hc x3 R' w') (fun f s4 hf => ?_) fun _ _ z => z
      cases f with
      | next => obtain ⟨σ', H', I', q'⟩ := hf; exact ⟨σ', H', I'.wish _, q'⟩
      | brk => obtain ⟨σ', H', I', q'⟩ := hf; exact ⟨σ', H', I'.wish _, q'⟩
      | cont => obtain ⟨σ', H', I', q'⟩ := hf; exact ⟨σ', H', I'.wish _, q'⟩
      | ret u => obtain ⟨v, σ', H', I', r', q'⟩ := hf; exact ⟨v, σ', H', I'.wish _, r', q'⟩
  · unfold sTry at w
    cases hT : T Γ with
    | nx Γ' => rw [hT] at w; exact w
    | rt d => rw [hT] at w; exact w
    | bk d => rw [hT] at w; exact w
    | ct d => rw [hT] at w; exact w
    | ex c Γ' => rw [hT] at w; exact fun σ H G R => ⟨Γ', R, w⟩
    | no => rw [hT] at w; exact w
end
end Wy


namespace Wy
open PySem PySem.Spec PyProof.Rows L2
section
variable {X : Cx} {pins pn : List (Addr × Obj)} {σ : L2.St} {H : Hp} {s : Shared} {A : Around}
theorem fp_inH {b : Addr} (f : Fp (X.inT pn) [] H b) : Fp (X.inH pn A) [] H b := ⟨f.fr, f.loc, f.fs, f.new, f.cel, f.pin⟩
theorem fp_outT {b : Addr} (f : Fp (X.inT (X.pn ++ pins)) [] H b) : Fp X [] H b := ⟨f.fr, f.loc, f.fs, f.new, f.cel, fun p hp => f.pin p (by rw [List.append_nil] at hp ⊢; exact List.mem_append_left _ hp)⟩
theorem xon_imp {ok ok' : Addr → Prop} {n : Value} {h : Heap} {e : Addr} {cls : Value} (x : XOn ok n h e cls) (f : ∀ b, ok b → ok' b) : XOn ok' n h e cls := by
  obtain ⟨oe, vs, T, oT, ts, h1, h2, h3, h4, h5, h6⟩ := x.obj
  exact ⟨f _ x.me, oe, vs, T, oT, ts, h1, h2, h3, h4, f _ h5, h6⟩
theorem sp_out {D : Ends} {f : Flow} (ok : X.Ok) (okT : (X.inT (X.pn ++ pins)).Ok) (q : SP (X.inH (X.pn ++ pins) A) [] D f s) : SP X pins D f s := by
  cases f with
  | next => obtain ⟨σ', H', I', q'⟩ := q; exact ⟨σ', H', inv_outT ok (inv_outH okT I'), q'⟩
  | brk => obtain ⟨σ', H', I', q'⟩ := q; exact ⟨σ', H', inv_outT ok (inv_outH okT I'), q'⟩
  | cont => obtain ⟨σ', H', I', q'⟩ := q; exact ⟨σ', H', inv_outT ok (inv_outH okT I'), q'⟩
  | ret u => obtain ⟨v, σ', H', I', r', q'⟩ := q; exact ⟨v, σ', H', inv_outT ok (inv_outH okT I'), r', q'⟩
end
section
variable {X : Cx} {W : XP} {x : Str} {Ch : Addr} {bmh : List Value} {np hpos : Pos} {b₀ : Stmt} {suite : List Stmt} {U : Ga → RS} {tb : Str → Option Bool}
theorem handles_of {name : Option Str} {V : Str → Ga → RS} (Dc : DefCx X) (Xc : XCls X.K x Ch bmh) (hg : Gl X x) (ft : Falls X.K (.ref Ch) tb) (hdb : (x == ("__debug__" : Str)) = false)
    (hs : ∀ (pins : List (Addr × Obj)) (W : XP) (D : Ends) (H₀ G₀ : Hp) (Γ : Ga) (σ : L2.St) (H G : Hp) (s : Shared) (e C : Addr) (c : Str), X.Ok → Inv (X.inH (X.pn ++ pins) (X.A.mark (some (.ref e)))) [] σ H s → (X.inT (X.pn ++ pins)).Ok →
      PySem.W.nsIn X.K mainGlobals c = some (some (.ref C)) → XOn (Fp (X.inT (X.pn ++ pins)) [] H) .none s.heap e (.ref C) → Rep X.K H₀ G₀ Γ σ H G → Lifts X.K W H₀ G₀ (V c Γ) D →
      codeAny (model X.prog X.w) (X.A.mark (some (.ref e))) (.handlers (.ref e) [.ExceptHandler none name (b₀ :: suite) hpos] X.env) (fun r s₂ => match r with
          | .ok f => (match name with
            | none => SP X pins D f s₂
            | some n => wpAny (model X.prog X.w) X.A (do bindName X.env n .none; unbindBehindTheSuite X.env n hpos) (fun _ s₃ => SP X pins D f s₃) (XeOk X W) s₂)
          | .error y => cameBackBy (model X.prog X.w) X.A X.env (XeOk X W) y s₂) s) :
    Handles X (.ExceptHandler (some (.Name x np)) name (b₀ :: suite) hpos) tb V := by
  intro W pins D H₀ G₀ Γ σ H G s e C c ok I hc xo R w
  cases hb : tb c with
  | none => rw [hb] at w; exact w.elim
  | some b =>
    rw [hb] at w
    obtain ⟨C', bm, Xe, hin⟩ := ft c b hb
    have hC : C' = C := by
      have := Xe.at_.symm.trans hc
      cases this; rfl
    subst hC
    have I2 := inv_inH (v := .ref e) I
    have hm : X.mg x = some (.ref Ch) := PySem.W.mg_of I.ok.mod.kin I.ok.mod.glob Xc.at_
    refine wpAny_handleBy_cons (codeAny_handlers_test ?_) (by intro z; cases z)
    refine ld_glob (X := X.inH (X.pn ++ pins) (X.A.mark (some (.ref e)))) I2 hg hm ?_ hdb
    obtain ⟨_, _, _, _, _, _, _, _, _, _, _, _, _, _, _, l1, _⟩ := Xe.obj
    obtain ⟨_, _, _, _, _, _, _, _, _, _, _, _, _, _, _, l2, _⟩ := Xc.obj
    obtain ⟨oe, vs, T, oT, ts, he, hcl, hd, h1, _⟩ := id xo.obj
    refine exc_match (I.kIn _ _ l1) (I.kIn _ _ l2) he hcl ((Xc.tail _ I.kIn).hasType (by decide)) ?_
    rw [hin]
    cases b with
    | true => exact hs pins W D H₀ G₀ Γ σ H G s e C' c ok I2 I.ok hc xo R w
    | false =>
      refine wpAny_handleBy_nil ?_
      unfold PySem.passOn
      refine wpAny_bind (wpAny_field he hd h1 ?_)
      rw [if_neg (show ¬ ((Value.ref T == Value.none) = true) by exact Bool.false_ne_true), Dc.frm]
      refine wpAny_bind (flight_ok (X := X.inT (X.pn ++ pins)) (o := some X.env.locals) I xo rfl fun s2 I3 x3 => wpAny_throw ?_)
      exact ⟨e, σ, H, G, c, C', rfl, inv_unpin (inv_outT ok I3), hc, w σ H G R, x3.at (fun b hb => fp_outT hb) (.inr ⟨_, rfl, rfl⟩)⟩
theorem h_plain (Dc : DefCx X) (Xc : XCls X.K x Ch bmh) (hg : Gl X x) (ft : Falls X.K (.ref Ch) tb) (hs : ∀ (pn : List (Addr × Obj)) (A : Around), ExDs ((X.inH pn A).nox) XP0 (b₀ :: suite) U) (hdb : (x == ("__debug__" : Str)) = false := by decide) :
    Handles X (.ExceptHandler (some (.Name x np)) none (b₀ :: suite) hpos) tb (hPlain U) := by
  refine handles_of Dc Xc hg ft hdb fun pins W D H₀ G₀ Γ σ H G s e C c ok I okT hc xo R w => ?_
  refine codeAny_handlers_suite (flight_ok (X := X.inH (X.pn ++ pins) (X.A.mark (some (.ref e)))) (o := none) I (xon_imp xo fun b hb => fp_inH hb) rfl fun s1 I1 x1 => ?_)
  obtain ⟨t, p, q⟩ := hs (X.pn ++ pins) (X.A.mark (some (.ref e)))
  refine wpAny_mono (p [] s1 σ H D (I1.wish _) (q H₀ G₀ Γ σ H G R D ?_)) (fun f s2 hf => sp_out ok okT hf.unwish) fun _ _ z => z.elim
  unfold hPlain at w
  cases hU : U Γ with
  | nx Γ' => rw [hU] at w; exact w
  | rt d => rw [hU] at w; exact w
  | bk d => rw [hU] at w; exact w
  | ct d => rw [hU] at w; exact w
  | ex c Γ' => rw [hU] at w; exact w.elim
  | no => rw [hU] at w; exact w
theorem h_named (j : Nat) {n : Str} (Dc : DefCx X) (Xc : XCls X.K x Ch bmh) (hg : Gl X x) (ft : Falls X.K (.ref Ch) tb) (hs : ∀ (pn : List (Addr × Obj)) (A : Around), ExDs ((X.inH pn A).nox) XP0 (b₀ :: suite) U) (hN : X.N.Nodup) (hj : X.N[j]? = some n := by rfl)
    (hl : X.env.scope.names.lookup n = some .local := by rfl) (hdb : (x == ("__debug__" : Str)) = false := by decide) :
    Handles X (.ExceptHandler (some (.Name x np)) (some n) (b₀ :: suite) hpos) tb (hNamed j U) := by
  refine handles_of Dc Xc hg ft hdb fun pins W D H₀ G₀ Γ σ H G s e C c ok I okT hc xo R w => ?_
  refine codeAny_handlers_suite_as (flight_ok (X := X.inH (X.pn ++ pins) (X.A.mark (some (.ref e)))) (o := none) I (xon_imp xo fun b hb => fp_inH hb) rfl fun s1 I1 x1 => ?_)
  obtain ⟨oe, _, _, _, _, he, hcl, _⟩ := id x1.obj
  have hH : H e = none := xo.me.fr
  have It := inv_track (o := .ext (ExcIs e C)) I1 x1.me ⟨⟨oe, he, hcl⟩, ⟨oe, he⟩, fun h1 h2 ⟨o, g, k⟩ st => ⟨o, st o g, k⟩⟩
  have E1 : Ext H G (upd H e (.ext (ExcIs e C))) (upd G e (.ext (ExcIs e C))) := Ext.alloc R.gh hH _
  have R1 := (R.after E1).setX j (c := c) (v := .ref e) ⟨e, C, rfl, hc, upd_same⟩
  refine store_ok (X := X.inH (X.pn ++ pins) (X.A.mark (some (.ref e)))) (v := .ref e) It hN hj (.inl hl) rfl (fun s2 I2 => ?_) (.inr hl)
  obtain ⟨t, p, q⟩ := hs (X.pn ++ pins) (X.A.mark (some (.ref e)))
  have ub : ∀ {σ' : L2.St} {H' : Hp} {s3 : Shared} {Q : Unit → Shared → Prop}, Inv (X.inH (X.pn ++ pins) (X.A.mark (some (.ref e)))) [] σ' H' s3 → (∀ s', Inv X pins (σ'.set j none) H' s' → Q () s') →
      wpAny (model X.prog X.w) X.A (do bindName X.env n .none; unbindBehindTheSuite X.env n hpos) Q (XeOk X W) s3 := fun I' go =>
    unbind_ok (X := X.inT (X.pn ++ pins)) (inv_outH okT I') hN hj hl fun s' J => go s' (inv_outT ok J)
  refine wpAny_mono (p [] s2 _ _ { nx := fun σ H => D.nx (σ.set j none) H, rt := D.rt, bk := fun σ H => D.bk (σ.set j none) H, ct := fun σ H => D.ct (σ.set j none) H } (I2.wish _) (q H₀ G₀ _ _ _ _ R1 _ ?_)) (fun f s3 hf => ?_) fun _ _ z => z.elim
  · unfold hNamed at w
    cases hU : U (Γ.set j (.exc c)) with
    | nx Γ' => rw [hU] at w; exact fun σ H G R => w _ _ _ (R.setU j)
    | rt d => rw [hU] at w; exact w
    | bk Γ' => rw [hU] at w; exact fun σ H G R => w _ _ _ (R.setU j)
    | ct Γ' => rw [hU] at w; exact fun σ H G R => w _ _ _ (R.setU j)
    | ex c Γ' => rw [hU] at w; exact w.elim
    | no => rw [hU] at w; exact w
  · have hf := hf.unwish
    cases f with
    | next => obtain ⟨σ', H', I', q'⟩ := hf; exact ub I' fun s' J => ⟨_, H', J, q'⟩
    | brk => obtain ⟨σ', H', I', q'⟩ := hf; exact ub I' fun s' J => ⟨_, H', J, q'⟩
    | cont => obtain ⟨σ', H', I', q'⟩ := hf; exact ub I' fun s' J => ⟨_, H', J, q'⟩
    | ret u => obtain ⟨v, σ', H', I', r', q'⟩ := hf; exact ub I' fun s' J => ⟨v, _, H', J, r', q'⟩
end
theorem isx_yes {K : PySem.W.Frag} {prog : Program} {w : World} {A : Around} {E : Value → Shared → Prop} {s : Shared} {Q : Value → Shared → Prop} {x C : Addr} {o : Obj} {c : Value} (X : K.In s.heap) (hx : s.heap.get? x = some o) (hc : o.cls = .ref C)
    (hk : PySem.W.kitOne K (.ref C) c = some true) (h : Q (.bool true) s) : wpAny (model prog w) A (call (.builtin "isinstance") [.ref x, c]) Q E s := by
  obtain ⟨h0, g, d, tk, os⟩ := s
  have ty : ∀ {A : Around} {Q : Value → Shared → Prop} {E : Value → Shared → Prop}, Q (.ref C) ⟨h0, g, d, tk, os⟩ → wpAny (model prog w) A (typeOf (.ref x)) Q E ⟨h0, g, d, tk, os⟩ := fun {A Q E} q => by
    unfold typeOf
    first
      | exact wpAny_bind (wpAny_loadPart hx (wpAny_pure (by rw [hc]; exact q)))
      | (refine wpAny_bind (wpAny_loadPart hx ?_); rw [hc]; exact wpAny_pure q)
  refine call_isinstance_of ?_
  unfold Builtin.«isinstance.nested»
  refine wpAny_bind (ty ?_)
  unfold PySem.W.kitOne at hk
  by_cases q : (Value.ref C == c) = true
  · rw [if_pos q]
    repeat (first | refine wpAny_pure ?_ | refine wpAny_rule ?_ | refine wpAny_bind ?_)
    exact h
  · rw [if_neg q] at hk ⊢
    obtain ⟨h1, h2, h3⟩ := PySem.W.kit_cls (M := model prog w) X hk
    refine wpAny_bind (h1.at ?_)
    rw [if_pos (by decide)]
    k_delta "plainIsInstance"
    refine wpAny_bind (wpAny_bind (h2.at ?_))
    simp only [Bool.not_true, Bool.false_eq_true, if_false]
    unfold isInstance
    refine wpAny_bind (wpAny_bind (ty (h3.at ?_)))
    simp only [if_true]
    first
      | exact wpAny_pure (wpAny_pure h)
      | exact wpAny_pure h
      | exact wpAny_bind (wpAny_pure (wpAny_pure h))
section
variable {X : Cx} {W : XP} {pos p p2 p3 : Pos} {n nT : Str}
theorem call_isx : CallR X (.builtin "isinstance") (fun xs H Q => ∃ a C cv, xs = [.ref a, cv] ∧ H a = some (.ext (ExcIs a C)) ∧ (∀ u, RelV cv u → PySem.W.kitOne X.K (.ref C) u = some true) ∧ Q (.bl true) H) := by
  rintro pins s σ H xs us Q I rv ⟨a, C, cv, rfl, hH, hk, q⟩
  obtain ⟨u, c, rfl, rx, rc⟩ := rv.two
  cases (show u = Value.ref a from rx)
  obtain ⟨⟨o, g, hc⟩, _, _⟩ := (show ObjOk X.prog X.w H s.heap a (.ext (ExcIs a C)) from I.hok a _ hH)
  exact isx_yes I.kIn g hc (hk c rc) ⟨.bl true, H, I, rfl, q⟩
def FallsY (K : PySem.W.Frag) (cv : V) (tb : Str → Bool) : Prop := ∀ c, tb c = true → ∃ C, PySem.W.nsIn K mainGlobals c = some (some (.ref C)) ∧ ∀ u, RelV cv u → PySem.W.kitOne K (.ref C) u = some true
def eIsx (j : Nat) (tb : Str → Bool) : Ga → R D := fun Γ => match Γ[j]? with
  | some (.exc c) => if tb c = true then .ok (.bl true) else .no
  | _ => .no
theorem ev_isx (j : Nat) {cv : V} {tb : Str → Bool} (hg : Gl X "isinstance") (hm : X.mg "isinstance" = none) (pT : PE X (.Name nT p3) (tC cv)) (ft : FallsY X.K cv tb) (hvi : bootBuiltins "isinstance" = some (.builtin "isinstance"))
    (hN : X.N[j]? = some n := by rfl) (hv : Vis X.env.scope n := by first | exact Or.inl rfl | exact Or.inr (Or.inl rfl) | exact Or.inr (Or.inr rfl)) (hd : (n == ("__debug__" : Str)) = false := by decide)
    (hcd : (n == ("__classdict__" : Str)) = false := by decide)
    (hs : starEach [.Name n p2, .Name nT p3] X.env = (false, eval (.Name n p2) X.env) :: starEach [.Name nT p3] X.env := by rfl) (hs2 : starEach [.Name nT p3] X.env = [(false, eval (.Name nT p3) X.env)] := by rfl) :
    EvD X W (.Call (.Name "isinstance" p) [.Name n p2, .Name nT p3] [] pos) (eIsx j tb) := by
  refine ⟨_, pe_callB call_isx hg hm hvi (pa_cons (pe_var hN hv hd hcd) (pa_cons pT pa_nil hs2) hs) (by decide) (by decide) hs (by rw [hs2]; rfl), fun H₀ G₀ Γ σ H G R Q w => ?_⟩
  unfold eIsx at w
  split at w
  · rename_i c hc
    split at w
    · rename_i ht
      obtain ⟨v, e1, a, C, rfl, e2, e3⟩ := R.xc j c hc
      obtain ⟨C', e4, hk⟩ := ft c ht
      rw [e2] at e4
      cases e4
      exact ⟨_, e1, a, C, cv, rfl, R.gh _ _ e3, hk, w _ H G (.refl R.gh) den_bl⟩
    · exact w.elim
  · exact w.elim
end
end Wy


namespace Wy
open PySem PySem.Spec PyProof.Rows L2
mutual
def eqDD : D → D → Bool
  | .non, .non => true
  | .bl a, .bl b => a == b
  | .bl a, .int b => (if a then 1 else 0) == b
  | .int a, .bl b => a == (if b then 1 else 0)
  | .int a, .int b => a == b
  | .str a, .str b => a == b
  | .tup xs, .tup ys => eqDL xs ys
  | .lst xs, .lst ys => eqDL xs ys
  | _, _ => false
def eqDL : List D → List D → Bool
  | [], [] => true
  | x :: xs, y :: ys => eqDD x y && eqDL xs ys
  | _, _ => false
end
mutual
def depD : D → Nat
  | .tup xs => depDL xs + 1
  | .lst xs => depDL xs + 1
  | _ => 0
def depDL : List D → Nat
  | [] => 0
  | x :: xs => max (depD x) (depDL xs)
end
theorem eqDL_at : ∀ (xs ys : List D), eqDL xs ys = ((List.range (min xs.length ys.length)).all (fun j => eqDD (xs.getD j .non) (ys.getD j .non)) && xs.length == ys.length)
  | [], [] => by unfold eqDL; rfl
  | [], y :: ys => by unfold eqDL; simp
  | x :: xs, [] => by unfold eqDL; simp
  | x :: xs, y :: ys => by
    unfold eqDL
    rw [eqDL_at xs ys, List.length_cons, List.length_cons, show min (xs.length + 1) (ys.length + 1) = min xs.length ys.length + 1 by omega, List.range_succ_eq_map, List.all_cons, List.all_map]
    simp only [List.getD_cons_zero, Function.comp_def, List.getD_cons_succ]
    rw [Bool.and_assoc]
    congr 1
    congr 1
    rw [Bool.eq_iff_iff]
    simp
theorem dep_get : ∀ {xs : List D} {j : Nat} {d : D}, xs[j]? = some d → depD d ≤ depDL xs
  | x :: xs, 0, d, h => by
    cases h
    unfold depDL
    exact Nat.le_max_left _ _
  | x :: xs, j + 1, d, h => by
    have := dep_get (xs := xs) (j := j) (by simpa using h)
    unfold depDL
    exact Nat.le_trans this (Nat.le_max_right _ _)
  | [], _, _, h => by simp at h
section
variable {X : Cx} {pins : List (Addr × Obj)} {σ : L2.St} {H G : Hp} {s : Shared}
mutual
theorem den_inj (I : Inv X pins σ H s) (g : Same G H) : (d1 d2 : D) → (v : V) → Den X.K G d1 v → Den X.K G d2 v → d1 = d2
  | .non, d2, v, h1, h2 => by
    cases den_nonE h1
    cases d2 with
    | non => rfl
    | bl b => cases den_blE h2
    | int b => cases den_intE h2
    | str b => cases den_strE h2
    | tup b => obtain ⟨a, vs, e, _⟩ := den_tup.mp h2; cases e
    | lst b => obtain ⟨a, vs, e, _⟩ := den_lst.mp h2; cases e
  | .bl x, d2, v, h1, h2 => by
    cases den_blE h1
    cases d2 with
    | non => cases den_nonE h2
    | bl b => cases den_blE h2; rfl
    | int b => cases den_intE h2
    | str b => cases den_strE h2
    | tup b => obtain ⟨a, vs, e, _⟩ := den_tup.mp h2; cases e
    | lst b => obtain ⟨a, vs, e, _⟩ := den_lst.mp h2; cases e
  | .int x, d2, v, h1, h2 => by
    cases den_intE h1
    cases d2 with
    | non => cases den_nonE h2
    | bl b => cases den_blE h2
    | int b => cases den_intE h2; rfl
    | str b => cases den_strE h2
    | tup b => obtain ⟨a, vs, e, _⟩ := den_tup.mp h2; cases e
    | lst b => obtain ⟨a, vs, e, _⟩ := den_lst.mp h2; cases e
  | .str x, d2, v, h1, h2 => by
    cases den_strE h1
    cases d2 with
    | non => cases den_nonE h2
    | bl b => cases den_blE h2
    | int b => cases den_intE h2
    | str b => cases den_strE h2; rfl
    | tup b => obtain ⟨a, vs, e, _⟩ := den_tup.mp h2; cases e
    | lst b => obtain ⟨a, vs, e, _⟩ := den_lst.mp h2; cases e
  | .tup xs, d2, v, h1, h2 => by
    obtain ⟨a, vs, rfl, s1, l1⟩ := den_tup.mp h1
    cases d2 with
    | non => cases den_nonE h2
    | bl b => cases den_blE h2
    | int b => cases den_intE h2
    | str b => cases den_strE h2
    | tup ys =>
      obtain ⟨a', ws, e, s2, l2⟩ := den_tup.mp h2
      cases e
      have := I.tuple_inj (Same.seqT g s1) (Same.seqT g s2)
      subst this
      rw [denL_inj I g xs ys vs l1 l2]
    | lst ys =>
      obtain ⟨a', ws, e, s2, l2⟩ := den_lst.mp h2
      cases e
      obtain ⟨i1, _, p1, _⟩ := I.tuple (Same.seqT g s1)
      obtain ⟨i2, _, p2, _⟩ := I.list (g.seq s2)
      exact absurd rfl (SeqAt.ne_of_list_tuple (s := s) p2.isList (show s.heap.IsTuple a i1.toArray from p1))
  | .lst xs, d2, v, h1, h2 => by
    obtain ⟨a, vs, rfl, s1, l1⟩ := den_lst.mp h1
    cases d2 with
    | non => cases den_nonE h2
    | bl b => cases den_blE h2
    | int b => cases den_intE h2
    | str b => cases den_strE h2
    | lst ys =>
      obtain ⟨a', ws, e, s2, l2⟩ := den_lst.mp h2
      cases e
      have := I.list_inj (g.seq s1) (g.seq s2)
      subst this
      rw [denL_inj I g xs ys vs l1 l2]
    | tup ys =>
      obtain ⟨a', ws, e, s2, l2⟩ := den_tup.mp h2
      cases e
      obtain ⟨i1, _, p1, _⟩ := I.tuple (Same.seqT g s2)
      obtain ⟨i2, _, p2, _⟩ := I.list (g.seq s1)
      exact absurd rfl (SeqAt.ne_of_list_tuple (s := s) p2.isList (show s.heap.IsTuple a i1.toArray from p1))
theorem denL_inj (I : Inv X pins σ H s) (g : Same G H) : (ds es : List D) → (vs : List V) → DenL X.K G ds vs → DenL X.K G es vs → ds = es
  | [], es, vs, h1, h2 => by
    cases denL_nil.mp h1
    cases es with
    | nil => rfl
    | cons e es => obtain ⟨_, _, e, _⟩ := denL_cons.mp h2; cases e
  | d :: ds, es, vs, h1, h2 => by
    obtain ⟨v, r, rfl, q1, q2⟩ := denL_cons.mp h1
    cases es with
    | nil => cases denL_nil.mp h2
    | cons e es =>
      obtain ⟨_, _, e', q3, q4⟩ := denL_cons.mp h2
      cases e'
      rw [den_inj I g d e v q1 q3, denL_inj I g ds es r q2 q4]
end
mutual
theorem eqDD_self : (d : D) → eqDD d d = true
  | .non => by unfold eqDD; rfl
  | .bl b => by unfold eqDD; simp
  | .int b => by unfold eqDD; simp
  | .str b => by unfold eqDD; simp
  | .tup xs => by unfold eqDD; exact eqDL_self xs
  | .lst xs => by unfold eqDD; exact eqDL_self xs
theorem eqDL_self : (ds : List D) → eqDL ds ds = true
  | [] => by unfold eqDL; rfl
  | d :: ds => by unfold eqDL; rw [eqDD_self d, eqDL_self ds]; rfl
end
theorem den_same (I : Inv X pins σ H s) (g : Same G H) (d1 d2 : D) (v : V) (h1 : Den X.K G d1 v) (h2 : Den X.K G d2 v) : eqDD d1 d2 = true := by
  rw [den_inj I g d1 d2 v h1 h2]
  exact eqDD_self d2
theorem vals_get {xs : List V} {us : List Value} (r : Vals xs us) {j : Nat} (h : j < us.length) : ∃ x, xs[j]? = some x ∧ RelV x us[j] := by
  have hl := r.length
  obtain ⟨u, hu, ru⟩ := r.get (List.getElem?_eq_getElem (show j < xs.length by omega))
  rw [List.getElem?_eq_getElem h] at hu
  cases hu
  exact ⟨_, List.getElem?_eq_getElem (by omega), ru⟩
theorem den_at {ds : List D} {vs : List V} {j : Nat} {x : V} (l : DenL X.K G ds vs) (h : vs[j]? = some x) : ds[j]? = some (ds.getD j .non) ∧ Den X.K G (ds.getD j .non) x := by
  have hj : j < ds.length := by rw [l.length]; exact (List.getElem?_eq_some_iff.mp h).1
  have e : ds[j]? = some (ds.getD j .non) := by rw [List.getD_eq_getElem?_getD, List.getElem?_eq_getElem hj]; rfl
  obtain ⟨v, e1, e2⟩ := l.get e
  rw [h] at e1
  cases e1
  exact ⟨e, e2⟩
theorem eqAt_D (I : Inv X pins σ H s) (g : Same G H) : ∀ (n : Nat) (d1 d2 : D) (v1 v2 : V) (u1 u2 : Value) (A : Around), depD d1 ≤ n → A.units + n < cLine → Den X.K G d1 v1 → Den X.K G d2 v2 → RelV v1 u1 → RelV v2 u2 →
    SeqAt.EqAt A s u1 u2 (eqDD d1 d2) ∧ SeqAt.RcAt A s u1 u2 (eqDD d1 d2) := by
  intro n
  have seqs : ∀ (n : Nat), (∀ (d1 d2 : D) (v1 v2 : V) (u1 u2 : Value) (A : Around), depD d1 ≤ n → A.units + n < cLine → Den X.K G d1 v1 → Den X.K G d2 v2 → RelV v1 u1 → RelV v2 u2 → SeqAt.EqAt A s u1 u2 (eqDD d1 d2)) →
      ∀ (xs ys : List D) (vs ws : List V) (us ts : List Value) (A : Around), depDL xs ≤ n → A.units + (n + 1) < cLine → DenL X.K G xs vs → DenL X.K G ys ws → Vals vs us → Vals ws ts → ∀ j (h1 : j < us.toArray.size) (h2 : j < ts.toArray.size), SeqAt.EqAt A.in1 s us.toArray[j] ts.toArray[j] (eqDD (xs.getD j .non) (ys.getD j .non)) :=
    fun n ih xs ys vs ws us ts A hn hA l1 l2 r1 r2 j h1 h2 => by
      have h1' : j < us.length := by simpa using h1
      have h2' : j < ts.length := by simpa using h2
      obtain ⟨x, e1, q1⟩ := vals_get r1 h1'
      obtain ⟨y, e2, q2⟩ := vals_get r2 h2'
      obtain ⟨e3, q3⟩ := den_at l1 e1
      obtain ⟨e4, q4⟩ := den_at l2 e2
      have := ih _ _ _ _ _ _ A.in1 (Nat.le_trans (dep_get e3) hn) (by show A.units + 1 + n < cLine; omega) q3 q4 q1 q2
      simpa using this
  have main : ∀ (n : Nat), (∀ m, m < n → ∀ (d1 d2 : D) (v1 v2 : V) (u1 u2 : Value) (A : Around), depD d1 ≤ m → A.units + m < cLine → Den X.K G d1 v1 → Den X.K G d2 v2 → RelV v1 u1 → RelV v2 u2 → SeqAt.EqAt A s u1 u2 (eqDD d1 d2)) →
      ∀ (d1 d2 : D) (v1 v2 : V) (u1 u2 : Value) (A : Around), depD d1 ≤ n → A.units + n < cLine → Den X.K G d1 v1 → Den X.K G d2 v2 → RelV v1 u1 → RelV v2 u2 → SeqAt.EqAt A s u1 u2 (eqDD d1 d2) ∧ SeqAt.RcAt A s u1 u2 (eqDD d1 d2) := by
    intro n ih d1 d2 v1 v2 u1 u2 A hn hA h1 h2 r1 r2
    have hu : A.units < cLine := by omega
    cases d1 with
    | non =>
      cases den_nonE h1; obtain rfl : u1 = Value.none := r1
      cases d2 with
      | non => cases den_nonE h2; obtain rfl : u2 = Value.none := r2; unfold eqDD; exact ⟨SeqAt.EqAt.same _, SeqAt.RcAt.none_none⟩
      | bl => rename_i b; cases den_blE h2; obtain rfl : u2 = Value.bool b := r2; unfold eqDD; exact ⟨SeqAt.EqAt.none_bool  b, SeqAt.RcAt.none_bool  b⟩
      | int => rename_i b; cases den_intE h2; obtain ⟨t2, rfl⟩ := r2; unfold eqDD; exact ⟨SeqAt.EqAt.none_int  b t2, SeqAt.RcAt.none_int  b t2⟩
      | str => rename_i b; cases den_strE h2; obtain ⟨t2, rfl⟩ := r2; unfold eqDD; exact ⟨SeqAt.EqAt.none_str  b t2, SeqAt.RcAt.none_str  b t2⟩
      | tup => obtain ⟨l, vs, rfl, sq, _⟩ := den_tup.mp h2; obtain rfl : u2 = Value.ref l := r2; obtain ⟨its, _, p, _⟩ := I.tuple (Same.seqT g sq); have p' : s.heap.IsTuple l its.toArray := p; unfold eqDD; exact ⟨SeqAt.EqAt.none_tuple  p' hu, SeqAt.RcAt.none_tuple  p' hu⟩
      | lst => obtain ⟨l, vs, rfl, sq, _⟩ := den_lst.mp h2; obtain rfl : u2 = Value.ref l := r2; obtain ⟨its, _, p, _⟩ := I.list (g.seq sq); have p' : s.heap.IsList l its.toArray := p.isList; unfold eqDD; exact ⟨SeqAt.EqAt.none_list  p' hu, SeqAt.RcAt.none_list  p' hu⟩
    | bl =>
      rename_i a; cases den_blE h1; obtain rfl : u1 = Value.bool a := r1
      cases d2 with
      | non => cases den_nonE h2; obtain rfl : u2 = Value.none := r2; unfold eqDD; exact ⟨SeqAt.EqAt.bool_none a , SeqAt.RcAt.bool_none a ⟩
      | bl => rename_i b; cases den_blE h2; obtain rfl : u2 = Value.bool b := r2; unfold eqDD; exact ⟨SeqAt.EqAt.bool_bool a b, SeqAt.RcAt.bool_bool a b⟩
      | int => rename_i b; cases den_intE h2; obtain ⟨t2, rfl⟩ := r2; unfold eqDD; exact ⟨SeqAt.EqAt.bool_int a b t2, SeqAt.RcAt.bool_int a b t2⟩
      | str => rename_i b; cases den_strE h2; obtain ⟨t2, rfl⟩ := r2; unfold eqDD; exact ⟨SeqAt.EqAt.bool_str a b t2, SeqAt.RcAt.bool_str a b t2⟩
      | tup => obtain ⟨l, vs, rfl, sq, _⟩ := den_tup.mp h2; obtain rfl : u2 = Value.ref l := r2; obtain ⟨its, _, p, _⟩ := I.tuple (Same.seqT g sq); have p' : s.heap.IsTuple l its.toArray := p; unfold eqDD; exact ⟨SeqAt.EqAt.bool_tuple a p' hu, SeqAt.RcAt.bool_tuple a p' hu⟩
      | lst => obtain ⟨l, vs, rfl, sq, _⟩ := den_lst.mp h2; obtain rfl : u2 = Value.ref l := r2; obtain ⟨its, _, p, _⟩ := I.list (g.seq sq); have p' : s.heap.IsList l its.toArray := p.isList; unfold eqDD; exact ⟨SeqAt.EqAt.bool_list a p' hu, SeqAt.RcAt.bool_list a p' hu⟩
    | int =>
      rename_i a; cases den_intE h1; obtain ⟨t1, rfl⟩ := r1
      cases d2 with
      | non => cases den_nonE h2; obtain rfl : u2 = Value.none := r2; unfold eqDD; exact ⟨SeqAt.EqAt.int_none a t1 , SeqAt.RcAt.int_none a t1 ⟩
      | bl => rename_i b; cases den_blE h2; obtain rfl : u2 = Value.bool b := r2; unfold eqDD; exact ⟨SeqAt.EqAt.int_bool a t1 b, SeqAt.RcAt.int_bool a t1 b⟩
      | int => rename_i b; cases den_intE h2; obtain ⟨t2, rfl⟩ := r2; unfold eqDD; exact ⟨SeqAt.EqAt.int_int a t1 b t2, SeqAt.RcAt.int_int a t1 b t2⟩
      | str => rename_i b; cases den_strE h2; obtain ⟨t2, rfl⟩ := r2; unfold eqDD; exact ⟨SeqAt.EqAt.int_str a t1 b t2, SeqAt.RcAt.int_str a t1 b t2⟩
      | tup => obtain ⟨l, vs, rfl, sq, _⟩ := den_tup.mp h2; obtain rfl : u2 = Value.ref l := r2; obtain ⟨its, _, p, _⟩ := I.tuple (Same.seqT g sq); have p' : s.heap.IsTuple l its.toArray := p; unfold eqDD; exact ⟨SeqAt.EqAt.int_tuple a t1 p' hu, SeqAt.RcAt.int_tuple a t1 p' hu⟩
      | lst => obtain ⟨l, vs, rfl, sq, _⟩ := den_lst.mp h2; obtain rfl : u2 = Value.ref l := r2; obtain ⟨its, _, p, _⟩ := I.list (g.seq sq); have p' : s.heap.IsList l its.toArray := p.isList; unfold eqDD; exact ⟨SeqAt.EqAt.int_list a t1 p' hu, SeqAt.RcAt.int_list a t1 p' hu⟩
    | str =>
      rename_i a; cases den_strE h1; obtain ⟨t1, rfl⟩ := r1
      cases d2 with
      | non => cases den_nonE h2; obtain rfl : u2 = Value.none := r2; unfold eqDD; exact ⟨SeqAt.EqAt.str_none a t1 , SeqAt.RcAt.str_none a t1 ⟩
      | bl => rename_i b; cases den_blE h2; obtain rfl : u2 = Value.bool b := r2; unfold eqDD; exact ⟨SeqAt.EqAt.str_bool a t1 b, SeqAt.RcAt.str_bool a t1 b⟩
      | int => rename_i b; cases den_intE h2; obtain ⟨t2, rfl⟩ := r2; unfold eqDD; exact ⟨SeqAt.EqAt.str_int a t1 b t2, SeqAt.RcAt.str_int a t1 b t2⟩
      | str => rename_i b; cases den_strE h2; obtain ⟨t2, rfl⟩ := r2; unfold eqDD; exact ⟨SeqAt.EqAt.str_str a t1 b t2, SeqAt.RcAt.str_str a t1 b t2⟩
      | tup => obtain ⟨l, vs, rfl, sq, _⟩ := den_tup.mp h2; obtain rfl : u2 = Value.ref l := r2; obtain ⟨its, _, p, _⟩ := I.tuple (Same.seqT g sq); have p' : s.heap.IsTuple l its.toArray := p; unfold eqDD; exact ⟨SeqAt.EqAt.str_tuple a t1 p' hu, SeqAt.RcAt.str_tuple a t1 p' hu⟩
      | lst => obtain ⟨l, vs, rfl, sq, _⟩ := den_lst.mp h2; obtain rfl : u2 = Value.ref l := r2; obtain ⟨its, _, p, _⟩ := I.list (g.seq sq); have p' : s.heap.IsList l its.toArray := p.isList; unfold eqDD; exact ⟨SeqAt.EqAt.str_list a t1 p' hu, SeqAt.RcAt.str_list a t1 p' hu⟩
    | tup xs =>
      obtain ⟨l, vs, rfl, sq, l1⟩ := den_tup.mp h1
      obtain rfl : u1 = Value.ref l := r1
      obtain ⟨its, rv, p, _⟩ := I.tuple (Same.seqT g sq)
      have p' : s.heap.IsTuple l its.toArray := p
      cases d2 with
      | non => cases den_nonE h2; obtain rfl : u2 = Value.none := r2; unfold eqDD; exact ⟨SeqAt.EqAt.tuple_none  p' hu, SeqAt.RcAt.tuple_none  p' hu⟩
      | bl => rename_i b; cases den_blE h2; obtain rfl : u2 = Value.bool b := r2; unfold eqDD; exact ⟨SeqAt.EqAt.tuple_bool b p' hu, SeqAt.RcAt.tuple_bool b p' hu⟩
      | int => rename_i b; cases den_intE h2; obtain ⟨t2, rfl⟩ := r2; unfold eqDD; exact ⟨SeqAt.EqAt.tuple_int b t2 p' hu, SeqAt.RcAt.tuple_int b t2 p' hu⟩
      | str => rename_i b; cases den_strE h2; obtain ⟨t2, rfl⟩ := r2; unfold eqDD; exact ⟨SeqAt.EqAt.tuple_str b t2 p' hu, SeqAt.RcAt.tuple_str b t2 p' hu⟩
      | tup ys =>
        obtain ⟨m, ws, rfl, sq2, l2⟩ := den_tup.mp h2
        obtain rfl : u2 = Value.ref m := r2
        obtain ⟨jts, rv2, p2, _⟩ := I.tuple (Same.seqT g sq2)
        have p2' : s.heap.IsTuple m jts.toArray := p2
        have hd : depDL xs + 1 ≤ n := by unfold depD at hn; exact hn
        obtain ⟨m', rfl⟩ : ∃ m', n = m' + 1 := ⟨n - 1, by omega⟩
        have he := seqs m' (fun d1 d2 v1 v2 u1 u2 A a b c d e f => ih m' (Nat.lt_succ_self _) d1 d2 v1 v2 u1 u2 A a b c d e f) xs ys vs ws its jts A (by omega) hA l1 l2 rv rv2
        have z1 : its.toArray.size = xs.length := by rw [List.size_toArray, ← rv.length, l1.length]
        have z2 : jts.toArray.size = ys.length := by rw [List.size_toArray, ← rv2.length, l2.length]
        have rc := SeqAt.RcAt.tuples p' p2' hu he
        rw [z1, z2, ← eqDL_at] at rc
        have hh : eqDD (.tup xs) (.tup ys) = eqDL xs ys := by
          conv => lhs; unfold eqDD
        refine ⟨?_, by rw [hh]; exact rc⟩
        by_cases q : l = m
        · subst q
          rw [den_same I g _ _ _ h1 h2]
          exact SeqAt.EqAt.same _
        · rw [hh]
          exact SeqAt.EqAt.of_refs q rc
      | lst ys =>
        obtain ⟨m, ws, rfl, sq2, l2⟩ := den_lst.mp h2
        obtain rfl : u2 = Value.ref m := r2
        obtain ⟨jts, rv2, p2, _⟩ := I.list (g.seq sq2)
        have p2' : s.heap.IsList m jts.toArray := p2.isList
        unfold eqDD
        exact ⟨SeqAt.EqAt.tuple_list p' p2' hu, SeqAt.RcAt.tuple_list p' p2' hu⟩
    | lst xs =>
      obtain ⟨l, vs, rfl, sq, l1⟩ := den_lst.mp h1
      obtain rfl : u1 = Value.ref l := r1
      obtain ⟨its, rv, p, _⟩ := I.list (g.seq sq)
      have p' : s.heap.IsList l its.toArray := p.isList
      cases d2 with
      | non => cases den_nonE h2; obtain rfl : u2 = Value.none := r2; unfold eqDD; exact ⟨SeqAt.EqAt.list_none  p' hu, SeqAt.RcAt.list_none  p' hu⟩
      | bl => rename_i b; cases den_blE h2; obtain rfl : u2 = Value.bool b := r2; unfold eqDD; exact ⟨SeqAt.EqAt.list_bool b p' hu, SeqAt.RcAt.list_bool b p' hu⟩
      | int => rename_i b; cases den_intE h2; obtain ⟨t2, rfl⟩ := r2; unfold eqDD; exact ⟨SeqAt.EqAt.list_int b t2 p' hu, SeqAt.RcAt.list_int b t2 p' hu⟩
      | str => rename_i b; cases den_strE h2; obtain ⟨t2, rfl⟩ := r2; unfold eqDD; exact ⟨SeqAt.EqAt.list_str b t2 p' hu, SeqAt.RcAt.list_str b t2 p' hu⟩
      | tup ys =>
        obtain ⟨m, ws, rfl, sq2, l2⟩ := den_tup.mp h2
        obtain rfl : u2 = Value.ref m := r2
        obtain ⟨jts, rv2, p2, _⟩ := I.tuple (Same.seqT g sq2)
        have p2' : s.heap.IsTuple m jts.toArray := p2
        unfold eqDD
        exact ⟨SeqAt.EqAt.list_tuple p' p2' hu, SeqAt.RcAt.list_tuple p' p2' hu⟩
      | lst ys =>
        obtain ⟨m, ws, rfl, sq2, l2⟩ := den_lst.mp h2
        obtain rfl : u2 = Value.ref m := r2
        obtain ⟨jts, rv2, p2, _⟩ := I.list (g.seq sq2)
        have p2' : s.heap.IsList m jts.toArray := p2.isList
        have hd : depDL xs + 1 ≤ n := by unfold depD at hn; exact hn
        obtain ⟨m', rfl⟩ : ∃ m', n = m' + 1 := ⟨n - 1, by omega⟩
        have he := seqs m' (fun d1 d2 v1 v2 u1 u2 A a b c d e f => ih m' (Nat.lt_succ_self _) d1 d2 v1 v2 u1 u2 A a b c d e f) xs ys vs ws its jts A (by omega) hA l1 l2 rv rv2
        have z1 : its.toArray.size = xs.length := by rw [List.size_toArray, ← rv.length, l1.length]
        have z2 : jts.toArray.size = ys.length := by rw [List.size_toArray, ← rv2.length, l2.length]
        have rc : SeqAt.RcAt A s (.ref l) (.ref m) (eqDL xs ys) := by
          by_cases hz : xs.length = ys.length
          · have rc := SeqAt.RcAt.lists p' p2' (by rw [z1, z2]; exact hz) hu he
            rw [eqDL_at, ← hz, Nat.min_self, beq_self_eq_true, Bool.and_true, ← z1]
            exact rc
          · have rc := SeqAt.RcAt.lists_lengths p' p2' (by rw [z1, z2]; simpa using hz) hu
            rw [eqDL_at, beq_eq_false_iff_ne.mpr hz, Bool.and_false]
            exact rc
        have hh : eqDD (.lst xs) (.lst ys) = eqDL xs ys := by
          conv => lhs; unfold eqDD
        refine ⟨?_, by rw [hh]; exact rc⟩
        by_cases q : l = m
        · subst q
          rw [den_same I g _ _ _ h1 h2]
          exact SeqAt.EqAt.same _
        · rw [hh]
          exact SeqAt.EqAt.of_refs q rc
  refine main n ?_
  intro m
  induction m using Nat.strongRecOn with
  | _ m ihm => exact fun _ d1 d2 v1 v2 u1 u2 A a b c d e f => (main m (fun k hk d1 d2 v1 v2 u1 u2 A a b c d e f => ihm k hk (by omega) d1 d2 v1 v2 u1 u2 A a b c d e f) d1 d2 v1 v2 u1 u2 A a b c d e f).1
end
section
variable {X : Cx}
def isS : D → Bool
  | .str _ => true
  | _ => false
def eqD (x y : D) : Option D := if depD x ≤ 100 ∨ isS y = true then some (.bl (eqDD x y)) else none
def neD (x y : D) : Option D := if depD x ≤ 100 then some (.bl (!eqDD x y)) else none
theorem opd_eqD (hu : X.A.units + 150 < cLine) : OpD X (compareOp .Eq) eqD := by
  refine ⟨fun x y H Q => ∃ G d1 d2, Same G H ∧ Den X.K G d1 x ∧ Den X.K G d2 y ∧ (depD d1 ≤ 100 ∨ isS d2 = true) ∧ Q (.bl (eqDD d1 d2)) H, ?_, ?_⟩
  · rintro pins s σ H x y v u Q I rx ry ⟨G, d1, d2, g, h1, h2, hd, q⟩
    have main : depD d1 ≤ 100 → wpAny (model X.prog X.w) X.A (compareOp .Eq v u) (EP X pins σ Q) X.xe s := fun hd => (eqAt_D I g 100 d1 d2 x y v u X.A hd (by omega) h1 h2 rx ry).2 X.prog X.w X.xe _ ⟨.bl _, H, I, rfl, q⟩
    rcases hd with hd | hd
    · exact main hd
    · cases d2 with
      | str b =>
        cases den_strE h2
        obtain ⟨t2, rfl⟩ := ry
        cases d1 with
        | tup xs =>
          obtain ⟨l, vs, rfl, sq, l1⟩ := den_tup.mp h1
          obtain rfl : v = Value.ref l := rx
          obtain ⟨its, rv, p, _⟩ := I.tuple (Same.seqT g sq)
          have p' : s.heap.IsTuple l its.toArray := p
          have e : eqDD (.tup xs) (.str b) = false := by unfold eqDD; rfl
          rw [e] at q
          exact (SeqAt.RcAt.tuple_str b t2 p' (show X.A.units < cLine by omega)) X.prog X.w X.xe _ ⟨.bl _, H, I, rfl, q⟩
        | lst xs =>
          obtain ⟨l, vs, rfl, sq, l1⟩ := den_lst.mp h1
          obtain rfl : v = Value.ref l := rx
          obtain ⟨its, rv, p, _⟩ := I.list (g.seq sq)
          have p' : s.heap.IsList l its.toArray := p.isList
          have e : eqDD (.lst xs) (.str b) = false := by unfold eqDD; rfl
          rw [e] at q
          exact (SeqAt.RcAt.list_str b t2 p' (show X.A.units < cLine by omega)) X.prog X.w X.xe _ ⟨.bl _, H, I, rfl, q⟩
        | non => exact main (by unfold depD; exact Nat.zero_le _)
        | bl _ => exact main (by unfold depD; exact Nat.zero_le _)
        | int _ => exact main (by unfold depD; exact Nat.zero_le _)
        | str _ => exact main (by unfold depD; exact Nat.zero_le _)
      | non => cases hd
      | bl _ => cases hd
      | int _ => cases hd
      | tup _ => cases hd
      | lst _ => cases hd
  · intro H G x y d1 d2 d g h1 h2 e Q q
    unfold eqD at e
    split at e
    · rename_i hd
      cases e
      exact ⟨G, d1, d2, g, h1, h2, hd, q _ H G (.refl g) den_bl⟩
    · cases e
end
section
variable {X : Cx} {pins : List (Addr × Obj)} {σ : L2.St} {H G : Hp} {s : Shared}
theorem neAt_D (I : Inv X pins σ H s) (g : Same G H) (d1 d2 : D) (v1 v2 : V) (u1 u2 : Value) (A : Around) (hn : depD d1 ≤ 100) (hA : A.units + 100 < cLine) (h1 : Den X.K G d1 v1) (h2 : Den X.K G d2 v2) (r1 : RelV v1 u1) (r2 : RelV v2 u2) :
    SeqAt.RcNeAt A s u1 u2 (!eqDD d1 d2) := by
  have hu : A.units < cLine := by omega
  have seqs : ∀ (xs ys : List D) (vs ws : List V) (us ts : List Value), depDL xs ≤ 99 → DenL X.K G xs vs → DenL X.K G ys ws → Vals vs us → Vals ws ts → ∀ j (h1 : j < us.toArray.size) (h2 : j < ts.toArray.size), SeqAt.EqAt A.in1 s us.toArray[j] ts.toArray[j] (eqDD (xs.getD j .non) (ys.getD j .non)) :=
    fun xs ys vs ws us ts hn l1 l2 r1 r2 j h1 h2 => by
      have h1' : j < us.length := by simpa using h1
      have h2' : j < ts.length := by simpa using h2
      obtain ⟨x, e1, q1⟩ := vals_get r1 h1'
      obtain ⟨y, e2, q2⟩ := vals_get r2 h2'
      obtain ⟨e3, q3⟩ := den_at l1 e1
      obtain ⟨e4, q4⟩ := den_at l2 e2
      have := (eqAt_D I g 99 _ _ _ _ _ _ A.in1 (Nat.le_trans (dep_get e3) hn) (by show A.units + 1 + 99 < cLine; omega) q3 q4 q1 q2).1
      simpa using this
  cases d1 with
  | non =>
    cases den_nonE h1; obtain rfl : u1 = Value.none := r1
    cases d2 with
    | non => cases den_nonE h2; obtain rfl : u2 = Value.none := r2; unfold eqDD; exact SeqAt.RcNeAt.none_none  
    | bl => rename_i b; cases den_blE h2; obtain rfl : u2 = Value.bool b := r2; unfold eqDD; exact SeqAt.RcNeAt.none_bool  b
    | int => rename_i b; cases den_intE h2; obtain ⟨t2, rfl⟩ := r2; unfold eqDD; exact SeqAt.RcNeAt.none_int  b t2
    | str => rename_i b; cases den_strE h2; obtain ⟨t2, rfl⟩ := r2; unfold eqDD; exact SeqAt.RcNeAt.none_str  b t2
    | tup => obtain ⟨l, vs, rfl, sq, _⟩ := den_tup.mp h2; obtain rfl : u2 = Value.ref l := r2; obtain ⟨its, _, p, _⟩ := I.tuple (Same.seqT g sq); have p' : s.heap.IsTuple l its.toArray := p; unfold eqDD; exact SeqAt.RcNeAt.none_tuple  p' hu
    | lst => obtain ⟨l, vs, rfl, sq, _⟩ := den_lst.mp h2; obtain rfl : u2 = Value.ref l := r2; obtain ⟨its, _, p, _⟩ := I.list (g.seq sq); have p' : s.heap.IsList l its.toArray := p.isList; unfold eqDD; exact SeqAt.RcNeAt.none_list  p' hu
  | bl =>
    rename_i a; cases den_blE h1; obtain rfl : u1 = Value.bool a := r1
    cases d2 with
    | non => cases den_nonE h2; obtain rfl : u2 = Value.none := r2; unfold eqDD; exact SeqAt.RcNeAt.bool_none a 
    | bl => rename_i b; cases den_blE h2; obtain rfl : u2 = Value.bool b := r2; unfold eqDD; exact SeqAt.RcNeAt.bool_bool a b
    | int => rename_i b; cases den_intE h2; obtain ⟨t2, rfl⟩ := r2; unfold eqDD; exact SeqAt.RcNeAt.bool_int a b t2
    | str => rename_i b; cases den_strE h2; obtain ⟨t2, rfl⟩ := r2; unfold eqDD; exact SeqAt.RcNeAt.bool_str a b t2
    | tup => obtain ⟨l, vs, rfl, sq, _⟩ := den_tup.mp h2; obtain rfl : u2 = Value.ref l := r2; obtain ⟨its, _, p, _⟩ := I.tuple (Same.seqT g sq); have p' : s.heap.IsTuple l its.toArray := p; unfold eqDD; exact SeqAt.RcNeAt.bool_tuple a p' hu
    | lst => obtain ⟨l, vs, rfl, sq, _⟩ := den_lst.mp h2; obtain rfl : u2 = Value.ref l := r2; obtain ⟨its, _, p, _⟩ := I.list (g.seq sq); have p' : s.heap.IsList l its.toArray := p.isList; unfold eqDD; exact SeqAt.RcNeAt.bool_list a p' hu
  | int =>
    rename_i a; cases den_intE h1; obtain ⟨t1, rfl⟩ := r1
    cases d2 with
    | non => cases den_nonE h2; obtain rfl : u2 = Value.none := r2; unfold eqDD; exact SeqAt.RcNeAt.int_none a t1 
    | bl => rename_i b; cases den_blE h2; obtain rfl : u2 = Value.bool b := r2; unfold eqDD; exact SeqAt.RcNeAt.int_bool a t1 b
    | int => rename_i b; cases den_intE h2; obtain ⟨t2, rfl⟩ := r2; unfold eqDD; exact SeqAt.RcNeAt.int_int a t1 b t2
    | str => rename_i b; cases den_strE h2; obtain ⟨t2, rfl⟩ := r2; unfold eqDD; exact SeqAt.RcNeAt.int_str a t1 b t2
    | tup => obtain ⟨l, vs, rfl, sq, _⟩ := den_tup.mp h2; obtain rfl : u2 = Value.ref l := r2; obtain ⟨its, _, p, _⟩ := I.tuple (Same.seqT g sq); have p' : s.heap.IsTuple l its.toArray := p; unfold eqDD; exact SeqAt.RcNeAt.int_tuple a t1 p' hu
    | lst => obtain ⟨l, vs, rfl, sq, _⟩ := den_lst.mp h2; obtain rfl : u2 = Value.ref l := r2; obtain ⟨its, _, p, _⟩ := I.list (g.seq sq); have p' : s.heap.IsList l its.toArray := p.isList; unfold eqDD; exact SeqAt.RcNeAt.int_list a t1 p' hu
  | str =>
    rename_i a; cases den_strE h1; obtain ⟨t1, rfl⟩ := r1
    cases d2 with
    | non => cases den_nonE h2; obtain rfl : u2 = Value.none := r2; unfold eqDD; exact SeqAt.RcNeAt.str_none a t1 
    | bl => rename_i b; cases den_blE h2; obtain rfl : u2 = Value.bool b := r2; unfold eqDD; exact SeqAt.RcNeAt.str_bool a t1 b
    | int => rename_i b; cases den_intE h2; obtain ⟨t2, rfl⟩ := r2; unfold eqDD; exact SeqAt.RcNeAt.str_int a t1 b t2
    | str => rename_i b; cases den_strE h2; obtain ⟨t2, rfl⟩ := r2; unfold eqDD; exact SeqAt.RcNeAt.str_str a t1 b t2
    | tup => obtain ⟨l, vs, rfl, sq, _⟩ := den_tup.mp h2; obtain rfl : u2 = Value.ref l := r2; obtain ⟨its, _, p, _⟩ := I.tuple (Same.seqT g sq); have p' : s.heap.IsTuple l its.toArray := p; unfold eqDD; exact SeqAt.RcNeAt.str_tuple a t1 p' hu
    | lst => obtain ⟨l, vs, rfl, sq, _⟩ := den_lst.mp h2; obtain rfl : u2 = Value.ref l := r2; obtain ⟨its, _, p, _⟩ := I.list (g.seq sq); have p' : s.heap.IsList l its.toArray := p.isList; unfold eqDD; exact SeqAt.RcNeAt.str_list a t1 p' hu
  | tup xs =>
    obtain ⟨l, vs, rfl, sq, l1⟩ := den_tup.mp h1
    obtain rfl : u1 = Value.ref l := r1
    obtain ⟨its, rv, p, _⟩ := I.tuple (Same.seqT g sq)
    have p' : s.heap.IsTuple l its.toArray := p
    cases d2 with
    | non => cases den_nonE h2; obtain rfl : u2 = Value.none := r2; unfold eqDD; exact SeqAt.RcNeAt.tuple_none  p' hu
    | bl => rename_i b; cases den_blE h2; obtain rfl : u2 = Value.bool b := r2; unfold eqDD; exact SeqAt.RcNeAt.tuple_bool b p' hu
    | int => rename_i b; cases den_intE h2; obtain ⟨t2, rfl⟩ := r2; unfold eqDD; exact SeqAt.RcNeAt.tuple_int b t2 p' hu
    | str => rename_i b; cases den_strE h2; obtain ⟨t2, rfl⟩ := r2; unfold eqDD; exact SeqAt.RcNeAt.tuple_str b t2 p' hu
    | tup ys =>
      obtain ⟨m, ws, rfl, sq2, l2⟩ := den_tup.mp h2
      obtain rfl : u2 = Value.ref m := r2
      obtain ⟨jts, rv2, p2, _⟩ := I.tuple (Same.seqT g sq2)
      have p2' : s.heap.IsTuple m jts.toArray := p2
      have hd : depDL xs + 1 ≤ 100 := by unfold depD at hn; exact hn
      have he := seqs xs ys vs ws its jts (by omega) l1 l2 rv rv2
      have z1 : its.toArray.size = xs.length := by rw [List.size_toArray, ← rv.length, l1.length]
      have z2 : jts.toArray.size = ys.length := by rw [List.size_toArray, ← rv2.length, l2.length]
      have hh : eqDD (.tup xs) (.tup ys) = eqDL xs ys := by
        conv => lhs; unfold eqDD
      rw [hh]
      have rc := SeqAt.RcNeAt.tuples p' p2' hu he
      rw [z1, z2, ← eqDL_at] at rc
      exact rc
    | lst ys =>
      obtain ⟨m, ws, rfl, sq2, l2⟩ := den_lst.mp h2
      obtain rfl : u2 = Value.ref m := r2
      obtain ⟨jts, rv2, p2, _⟩ := I.list (g.seq sq2)
      have p2' : s.heap.IsList m jts.toArray := p2.isList
      unfold eqDD
      exact SeqAt.RcNeAt.tuple_list p' p2' hu
  | lst xs =>
    obtain ⟨l, vs, rfl, sq, l1⟩ := den_lst.mp h1
    obtain rfl : u1 = Value.ref l := r1
    obtain ⟨its, rv, p, _⟩ := I.list (g.seq sq)
    have p' : s.heap.IsList l its.toArray := p.isList
    cases d2 with
    | non => cases den_nonE h2; obtain rfl : u2 = Value.none := r2; unfold eqDD; exact SeqAt.RcNeAt.list_none  p' hu
    | bl => rename_i b; cases den_blE h2; obtain rfl : u2 = Value.bool b := r2; unfold eqDD; exact SeqAt.RcNeAt.list_bool b p' hu
    | int => rename_i b; cases den_intE h2; obtain ⟨t2, rfl⟩ := r2; unfold eqDD; exact SeqAt.RcNeAt.list_int b t2 p' hu
    | str => rename_i b; cases den_strE h2; obtain ⟨t2, rfl⟩ := r2; unfold eqDD; exact SeqAt.RcNeAt.list_str b t2 p' hu
    | tup ys =>
      obtain ⟨m, ws, rfl, sq2, l2⟩ := den_tup.mp h2
      obtain rfl : u2 = Value.ref m := r2
      obtain ⟨jts, rv2, p2, _⟩ := I.tuple (Same.seqT g sq2)
      have p2' : s.heap.IsTuple m jts.toArray := p2
      unfold eqDD
      exact SeqAt.RcNeAt.list_tuple p' p2' hu
    | lst ys =>
      obtain ⟨m, ws, rfl, sq2, l2⟩ := den_lst.mp h2
      obtain rfl : u2 = Value.ref m := r2
      obtain ⟨jts, rv2, p2, _⟩ := I.list (g.seq sq2)
      have p2' : s.heap.IsList m jts.toArray := p2.isList
      have hd : depDL xs + 1 ≤ 100 := by unfold depD at hn; exact hn
      have he := seqs xs ys vs ws its jts (by omega) l1 l2 rv rv2
      have z1 : its.toArray.size = xs.length := by rw [List.size_toArray, ← rv.length, l1.length]
      have z2 : jts.toArray.size = ys.length := by rw [List.size_toArray, ← rv2.length, l2.length]
      have hh : eqDD (.lst xs) (.lst ys) = eqDL xs ys := by
        conv => lhs; unfold eqDD
      rw [hh]
      by_cases hz : xs.length = ys.length
      · have rc := SeqAt.RcNeAt.lists p' p2' (by rw [z1, z2]; exact hz) hu he
        rw [eqDL_at, ← hz, Nat.min_self, beq_self_eq_true, Bool.and_true, ← z1]
        exact rc
      · have rc := SeqAt.RcNeAt.lists_lengths p' p2' (by rw [z1, z2]; simpa using hz) hu
        rw [eqDL_at, beq_eq_false_iff_ne.mpr hz, Bool.and_false]
        exact rc
end
section
variable {X : Cx}
theorem opd_neD (hu : X.A.units + 150 < cLine) : OpD X (compareOp .NotEq) neD := ⟨fun x y H Q => ∃ G d1 d2, Same G H ∧ Den X.K G d1 x ∧ Den X.K G d2 y ∧ depD d1 ≤ 100 ∧ Q (.bl (!eqDD d1 d2)) H, by
    rintro pins s σ H x y v u Q I rx ry ⟨G, d1, d2, g, h1, h2, hd, q⟩
    exact neAt_D I g d1 d2 x y v u X.A hd (by omega) h1 h2 rx ry X.prog X.w X.xe _ ⟨.bl _, H, I, rfl, q⟩, fun H G x y d1 d2 d g h1 h2 e Q q => by
    unfold neD at e
    split at e
    · rename_i hd
      cases e
      exact ⟨G, d1, d2, g, h1, h2, hd, q _ H G (.refl g) den_bl⟩
    · cases e⟩
def memD (x y : D) : Option D := match y with
  | .tup ys => if depDL ys ≤ 99 then some (.bl (ys.any fun z => eqDD z x)) else none
  | .lst ys => if depDL ys ≤ 99 then some (.bl (ys.any fun z => eqDD z x)) else none
  | _ => none
theorem rel_abs {v w : V} {u : Value} (a : RelV v u) (b : RelV w u) : v = w := a.inj b
theorem mem_at {pins : List (Addr × Obj)} {σ : L2.St} {H G : Hp} {s : Shared} (I : Inv X pins σ H s) (g : Same G H) {x : D} {v : V} {u : Value} (h1 : Den X.K G x v) (r1 : RelV v u) (hA : X.A.units + 150 < cLine)
    {ys : List D} {vs : List V} {its : List Value} (hd : depDL ys ≤ 99) (l : DenL X.K G ys vs) (r : Vals vs its) : ∃ e : Value → Bool, (∀ z, z ∈ its → SeqAt.EqAt X.A.in1 s z u (e z)) ∧ its.any e = ys.any fun z => eqDD z x := by
  classical
  refine ⟨fun z => decide (∃ d w, Den X.K G d w ∧ RelV w z ∧ eqDD d x = true), ?_, ?_⟩
  · intro z hz
    obtain ⟨j, hj, rfl⟩ := List.getElem_of_mem hz
    obtain ⟨y, e1, q1⟩ := vals_get r hj
    obtain ⟨e3, q3⟩ := den_at l e1
    have := (eqAt_D I g 99 _ x _ _ _ u X.A.in1 (Nat.le_trans (dep_get e3) hd) (by show X.A.units + 1 + 99 < cLine; omega) q3 h1 q1 r1).1
    have e : decide (∃ d w, Den X.K G d w ∧ RelV w its[j] ∧ eqDD d x = true) = eqDD (ys.getD j .non) x := by
      rw [Bool.eq_iff_iff, decide_eq_true_eq]
      constructor
      · rintro ⟨d, w, a, b, c⟩
        rw [rel_abs b q1] at a
        rw [← den_inj I g d _ _ a q3]
        exact c
      · exact fun h => ⟨_, _, q3, q1, h⟩
    show SeqAt.EqAt X.A.in1 s its[j] u (decide _)
    rw [e]
    exact this
  · rw [Bool.eq_iff_iff, List.any_eq_true, List.any_eq_true]
    constructor
    · rintro ⟨z, hz, hq⟩
      obtain ⟨d, w, a, b, c⟩ := of_decide_eq_true hq
      obtain ⟨j, hj, rfl⟩ := List.getElem_of_mem hz
      obtain ⟨y, e1, q1⟩ := vals_get r hj
      obtain ⟨e3, q3⟩ := den_at l e1
      rw [rel_abs b q1] at a
      rw [den_inj I g d _ _ a q3] at c
      exact ⟨_, List.mem_of_getElem? e3, c⟩
    · rintro ⟨d, hm, c⟩
      obtain ⟨j, hj, rfl⟩ := List.getElem_of_mem hm
      obtain ⟨w, e1, q1⟩ := l.get (List.getElem?_eq_getElem hj)
      obtain ⟨z, e2, q2⟩ := r.get e1
      exact ⟨z, List.mem_of_getElem? e2, decide_eq_true ⟨_, _, q1, q2, c⟩⟩
theorem opd_mem (hu : X.A.units + 150 < cLine) : OpD X (compareOp .In) memD := by
  refine ⟨fun x y H Q => ∃ G d1 d2 b, Same G H ∧ Den X.K G d1 x ∧ Den X.K G d2 y ∧ memD d1 d2 = some (.bl b) ∧ Q (.bl b) H, ?_, ?_⟩
  · rintro pins s σ H x y v u Q I rx ry ⟨G, d1, d2, b, g, h1, h2, hm, q⟩
    unfold memD at hm
    split at hm
    · split at hm
      · rename_i hd
        cases hm
        obtain ⟨a, vs, rfl, sq, l⟩ := den_tup.mp h2
        obtain rfl : u = Value.ref a := ry
        obtain ⟨its, rv, p, _⟩ := I.tuple (Same.seqT g sq)
        obtain ⟨e, he, ha⟩ := mem_at I g h1 rx hu hd l rv
        refine SeqAt.in_tupleAt e (show s.heap.IsTuple a its.toArray from p) (fun z hz => he z (by simpa using hz)) ⟨.bl _, H, I, rfl, ?_⟩
        rw [show its.toArray.any e = its.any e by simp, ha]
        exact q
      · cases hm
    · split at hm
      · rename_i hd
        cases hm
        obtain ⟨a, vs, rfl, sq, l⟩ := den_lst.mp h2
        obtain rfl : u = Value.ref a := ry
        obtain ⟨its, rv, p, _⟩ := I.list (g.seq sq)
        obtain ⟨e, he, ha⟩ := mem_at I g h1 rx hu hd l rv
        refine SeqAt.in_listAt e p.isList (fun z hz => he z (by simpa using hz)) ⟨.bl _, H, I, rfl, ?_⟩
        rw [show its.toArray.any e = its.any e by simp, ha]
        exact q
      · cases hm
    · cases hm
  · intro H G x y d1 d2 d g h1 h2 e Q q
    have hb : ∃ b, d = .bl b := by
      unfold memD at e
      split at e
      · split at e
        · cases e; exact ⟨_, rfl⟩
        · cases e
      · split at e
        · cases e; exact ⟨_, rfl⟩
        · cases e
      · cases e
    obtain ⟨b, rfl⟩ := hb
    exact ⟨G, d1, d2, b, g, h1, h2, e, q _ H G (.refl g) den_bl⟩
end
end Wy


namespace Wy
open PySem PySem.Spec PyProof.Rows L2
theorem room_u {k : Nat} {A : Around} (r : Room k A) : A.units + 150 < cLine := by have := r.un; omega
def orD (F F' : D → D → Option D) : D → D → Option D := fun x y => match F x y with
  | some d => some d
  | none => F' x y
section
variable {X : Cx}
theorem OpD.or {g : Value → Value → Sem Value} {F F' : D → D → Option D} (h : OpD X g F) (h' : OpD X g F') : OpD X g (orD F F') := by
  obtain ⟨r, p, q⟩ := h
  obtain ⟨r', p', q'⟩ := h'
  refine ⟨_, p.or p', fun H G x y d1 d2 d g h1 h2 e Q w => ?_⟩
  unfold orD at e
  split at e
  · rename_i d' e'
    cases e
    exact .inl (q H G x y d1 d2 _ g h1 h2 e' Q w)
  · exact .inr (q' H G x y d1 d2 d g h1 h2 e Q w)
def str2 (g : Str → Str → Option D) : D → D → Option D
  | .str x, .str y => g x y
  | _, _ => none
theorem str2_some {g : Str → Str → Option D} {d1 d2 d : D} (h : str2 g d1 d2 = some d) : ∃ i j, d1 = .str i ∧ d2 = .str j ∧ g i j = some d := by
  cases d1 <;> cases d2 <;> first | cases h | exact ⟨_, _, rfl, rfl, h⟩
def addS (x y : Str) : Option D := if x.length + y.length ≤ 1000000 then some (.str (x ++ y)) else none
theorem opd_addS : OpD X (binaryOp .Add) (str2 addS) := ⟨_, op_add_str, fun H G x y d1 d2 d g h1 h2 e Q q => by
  obtain ⟨i, j, rfl, rfl, e'⟩ := str2_some e
  clear e
  unfold addS at e'
  split at e'
  · rename_i hz
    cases e'
    exact ⟨i, j, den_strE h1, den_strE h2, Nat.le_trans hz (by decide), q _ H G (.refl g) den_str⟩
  · cases e'⟩
def addD : D → D → Option D := orD (int2 fun i j => some (.int (i + j))) (orD (str2 addS) catD)
theorem opd_addD : OpD X (binaryOp .Add) addD := opd_add.or (opd_addS.or opd_cat)
def isNonD (x : D) : Bool := match x with
  | .non => true
  | _ => false
theorem isNon_den {K : PySem.W.Frag} {G : Hp} {d : D} {v : V} (h : Den K G d v) : decide (v = .non) = isNonD d := by
  cases d with
  | non => rw [den_nonE h]; rfl
  | bl b => rw [den_blE h]; rfl
  | int i => rw [den_intE h]; rfl
  | str i => rw [den_strE h]; rfl
  | tup xs => obtain ⟨a, vs, rfl, _⟩ := den_tup.mp h; rfl
  | lst xs => obtain ⟨a, vs, rfl, _⟩ := den_lst.mp h; rfl
def isnotN (x y : D) : Option D := match y with
  | .non => some (.bl (!isNonD x))
  | _ => none
theorem opd_notN : OpD X (compareOp .IsNot) isnotN := ⟨_, op_notN, fun H G x y d1 d2 d g h1 h2 e Q q => by
  cases d2 <;> first | (cases e; done) | skip
  cases e
  exact ⟨den_nonE h2, by rw [isNon_den h1]; exact q _ H G (.refl g) den_bl⟩⟩
def isnotA : D → D → Option D := orD isnotD isnotN
theorem opd_isnotA : OpD X (compareOp .IsNot) isnotA := opd_isnot.or opd_notN
def memA : D → D → Option D := orD memD (str2 fun x y => some (.bl (inStr x y)))
theorem opd_inT : OpD X (compareOp .In) (str2 fun x y => some (.bl (inStr x y))) := ⟨_, op_in_str, fun H G x y d1 d2 d g h1 h2 e Q q => by
  obtain ⟨i, j, rfl, rfl, e⟩ := str2_some e
  cases e
  exact ⟨i, j, den_strE h1, den_strE h2, q _ H G (.refl g) den_bl⟩⟩
theorem opd_memA (hu : X.A.units + 150 < cLine) : OpD X (compareOp .In) memA := (opd_mem hu).or opd_inT
def strD : List D → Option D
  | [.int i] => if i.natAbs < 1900 then some (.str (toString i)) else none
  | _ => none
theorem calld_str : CallD X (.type "str") strD := ⟨_, call_str_int, fun H G vs ds d g l e Q q => by
  unfold strD at e
  split at e
  · rename_i i
    split at e
    · rename_i hz
      cases e
      obtain ⟨v, r, rfl, h1, h2⟩ := denL_cons.mp l
      cases denL_nil.mp h2
      cases den_intE h1
      refine ⟨i, rfl, ?_, q _ H G (.refl g) den_str⟩
      exact Nat.lt_of_le_of_lt (Nat.log2_le_self _) (by omega)
    · cases e
  · cases e⟩
end
end Wy


namespace Wy
open PySem PySem.Spec PyProof.Rows L2
section
variable {X : Cx}
end
section
open PySem.SeqAt
open PySem.AutoSeq1 (wpAny_loadPart')
open PySem.MeetsSeq PySem.MeetsSeq2 PySem.MeetsSeq3 PySem.AutoSeq1
theorem list_extend_lst (l : Addr) (items : Array Value) (n : Nat) (b : Addr) (items2 : Array Value) (n2 : Nat) (dd : Option Addr) (sl : Array (Option Value)) (hs0 : ¬(!items.isEmpty && Builtin.List.listTooLong (items.size + items2.size)) = true) (hs1 : items.size ≤ sizeLine) (hs2 : items.size + items2.size ≤ sizeLine + 1) :
    Meets (Builtin.«list.extend» ⟨[.ref l, .ref b], []⟩) (fun _ R s => s.heap.get? l = some { cls := .type "list", dict := none, data := .seq items n, slots := #[] } ∧ s.heap.get? b = some { cls := .type "list", dict := dd, data := .seq items2 n2, slots := sl } ∧ R (.ok (.ret Value.none)) { s with heap := s.heap.update l (Obj.mapSeq fun x => x ++ items2), toks := s.toks }) :=
  .of_wp fun prog w A R s h => by
    obtain ⟨hp, g, d, tk, os⟩ := s; obtain ⟨hl, hb, h⟩ := h; have f1 := idx_int; have f2 := AutoSeq1.sub_tuple_tuple; have f3 := AutoSeq1.sub_list_list; have f4 := AutoSeq1.sub_tuple_list; have f5 := AutoSeq1.sub_list_tuple;
    have hz' : (items ++ items2).size ≤ sizeLine + 1 := by rw [Array.size_append]; exact hs2
    wp_walk using (wpAny_updateSeq hl rfl (hz := hs1) (_hz' := hz')), wpAny_loadPart' hl, wpAny_loadPart' hb; exact ⟨_, rfl, h⟩
end
section
variable {X : Cx}
def rExtL (K : PySem.W.Frag) : V → List V → Hp → VK → Prop := fun x vs H Q => ∃ l b xs zs, x = .ref l ∧ vs = [.ref b] ∧ H l = some (.lst xs) ∧ SqL K H b zs ∧ xs.length + zs.length ≤ sizeLine ∧ Q .non (upd H l (.lst (xs ++ zs)))
theorem mt_extL : MtR X "list.extend" (rExtL X.K) := by
  intro pins s σ H x vs v us Q I rx rv h
  obtain ⟨l, b, xs, zs, rfl, rfl, hH, hB, hz, q⟩ := h
  cases rx
  obtain ⟨u, rfl, ru⟩ := rv.one
  cases ru
  obtain ⟨z, its, n, r, hl, e⟩ := I.lstM hH
  obtain ⟨its2, r2, ⟨⟨c2, d2, dt2, s2⟩, n2, e2, hc2, hdn, hd2⟩, z2⟩ := I.list hB
  have hl2 := r2.length
  cases hc2
  cases hdn
  cases hd2
  have hsz : its.toArray.size + its2.toArray.size ≤ sizeLine := by rw [List.size_toArray, List.size_toArray]; omega
  have hlong : ¬ (!its.toArray.isEmpty && Builtin.List.listTooLong (its.toArray.size + its2.toArray.size)) = true := by
    rw [notLongL hsz, Bool.and_false]
    exact Bool.false_ne_true
  refine call_meets F.slot_list_extend ⟨_, e, rfl⟩ F.entry_list_extend (F.args_list_extend_2 _ _)
    (list_extend_lst l its.toArray n b its2.toArray n2 none s2 hlong (by rw [List.size_toArray]; omega) (by omega)) ⟨e, e2, ?_⟩
  refine ⟨.non, _, I.lset (its' := its ++ its2) hH e (by simp) (r.append r2) ?_, rfl, q⟩
  rw [List.length_append]
  omega
variable {W : XP} {e : Expr} {fs : Ga → R (Bool × List D)} {pos pos' apos cpos : Pos} {x : Str}
def sExt (i : Nat) (fs : Ga → R (Bool × List D)) : Ga → RS := fun Γ => match Γ[i]? with
  | some (.own xs) => .of (fs Γ) Γ fun p => if xs.length + p.2.length < 16000000 then .nx (Γ.set i (.own (xs ++ p.2))) else .no
  | _ => .no
theorem x_ext (i : Nat) (he : SqD X W e fs) (hN : X.N[i]? = some x := by rfl) (hv : Vis X.env.scope x := by first | exact Or.inl rfl | exact Or.inr (Or.inl rfl) | exact Or.inr (Or.inr rfl)) (hd : (x == ("__debug__" : Str)) = false := by decide)
    (hcd : (x == ("__classdict__" : Str)) = false := by decide) (hs : starEach [e] X.env = [(false, eval e X.env)] := by rfl) (hline : (apos.endLine == cpos.line) = true := by rfl)
    (hsw : swapsWith (.Call (.Attribute (.Name x pos') "extend" apos) [e] [] cpos) none pos.line X.env = pure false := by rfl)
    (hbase : attributeBase (.Name x pos') "extend" X.env (eval (.Name x pos') X.env) = eval (.Name x pos') X.env := by rfl)
    (hfew : ((backTo cpos (starEach [e] X.env)).all (fun x => !x.1) && (backToKw cpos (keywordEach [] X.env)).all (fun x => x.1.isSome)
      && decide ([e].length + ([] : List Keyword).length + (if ([] : List Keyword).isEmpty then 0 else 1) < 30)) = true := by rfl) :
    ExD X W (.Expr (.Call (.Attribute (.Name x pos') "extend" apos) [e] [] cpos) pos) (sExt i fs) := by
  obtain ⟨t, p, q⟩ := he
  refine ⟨_, ps_expr (pe_bm PySem.F.plainAttrs_list PySem.F.slot_list_extend PySem.F.type_list_extend (mt_extL.or mt_extT) (pe_var hN hv hd hcd) (pa_cons p pa_nil hs) hbase hfew hline hs rfl) hsw, fun H₀ G₀ Γ σ H G R D w => ?_⟩
  unfold sExt at w
  split at w
  · rename_i xs e1
    obtain ⟨a, vs, s1, s2, s3, s4, s5⟩ := R.ow i xs e1
    refine ⟨_, s1, .inl ⟨rfl, vs, SqL.of s2⟩, ?_⟩
    refine q _ _ _ _ _ _ R _ (wS R w fun d w b us H' G' E1 sq l2 => ?_)
    split at w
    · rename_i hz
      have l1 := s5.up E1.gg
      have hz' : vs.length + us.length ≤ sizeLine := by rw [← l1.length, ← l2.length]; exact Nat.le_of_lt (lt24 hz)
      have fin := w _ _ G' ((R.after E1).mut e1 s1 (l1.append l2))
      rcases sq.or E1.gh with sq | sq
      · exact .inl ⟨a, b, vs, us, rfl, rfl, E1.hh _ _ s2, sq, hz', fin⟩
      · exact .inr ⟨a, b, vs, us, rfl, rfl, E1.hh _ _ s2, sq, hz', fin⟩
    · exact w.elim
  · exact w.elim
end
end Wy

namespace Wy
open PySem PySem.Spec PyProof.Rows L2 HT
theorem adjust_rev (n : Nat) : Builtin.Slice.sliceAdjust none none (-1) (n : Int) = ((n : Int) - 1, -1) := by
  unfold Builtin.Slice.sliceAdjust
  simp
theorem places_rev (n : Nat) : Builtin.Slice.slicePlaces ((n : Int) - 1) (-1) (-1) = n := by
  unfold Builtin.Slice.slicePlaces
  simp
  split <;> omega
theorem pick_rev (xs : Array Value) : ((List.range xs.size).filterMap fun (m : Nat) => xs[(((xs.size : Int) - 1) + (m : Int) * (-1)).toNat]?).toArray = xs.toList.reverse.toArray := by
  congr 1
  have key : ∀ (k : Nat) (hk : k ≤ xs.size), ((List.range k).filterMap fun (m : Nat) => xs[(((xs.size : Int) - 1) + (m : Int) * (-1)).toNat]?) = xs.toList.reverse.take k := by
    intro k
    induction k with
    | zero => intro _; simp
    | succ k ih =>
      intro hk
      rw [List.range_succ, List.filterMap_append, ih (by omega)]
      have e : (((xs.size : Int) - 1) + (k : Int) * (-1)).toNat = xs.size - 1 - k := by omega
      have h1 : xs.toList.reverse[k]? = xs[xs.size - 1 - k]? := by
        rw [List.getElem?_reverse (by simp; omega)]
        simp
      have h2 : xs[xs.size - 1 - k]? = some xs[xs.size - 1 - k] := Array.getElem?_eq_getElem (by omega)
      rw [List.take_add_one, h1, h2]
      congr 1
      rw [List.filterMap_cons_some (b := xs[xs.size - 1 - k]) (by rw [e]; exact h2)]
      rfl
  rw [key xs.size (Nat.le_refl _), List.take_of_length_le (by simp)]
section
variable {prog : Program} {w : World} {A : Around} {E : Value → Shared → Prop} {s : Shared}
theorem sliceApplied_rev {sl : Addr} {t : Tok} {n : Nat} {Q : Int × Int × Nat → Shared → Prop} (hs : s.heap.IsSliceOf sl .none .none (.int (-1) t))
    (h : Q ((n : Int) - 1, -1, n) s) : wpAny (model prog w) A (Builtin.Slice.sliceApplied (.ref sl) (pure (n : Int))) Q E s := by
  obtain ⟨os, hos, hcs, hds⟩ := id hs
  unfold Builtin.Slice.sliceApplied Builtin.Slice.sliceFields
  refine wpAny_bind (wpAny_bind (wpAny_field hos hds (x := .none) rfl (wpAny_bind (wpAny_field hos hds (x := .none) rfl (wpAny_bind (wpAny_field hos hds (x := .int (-1) t) rfl (wpAny_pure ?_)))))))
  refine wpAny_bind (slicePart_int ?_)
  show wpAny _ _ (if ((-1 : Int) == 0) = true then _ else _) _ _ s
  rw [if_neg (by decide)]
  refine wpAny_bind (slicePart_none (wpAny_bind (slicePart_none (wpAny_bind (wpAny_pure ?_)))))
  show wpAny _ _ (match Builtin.Slice.sliceAdjust none none (-1) (n : Int) with | (lo, hi) => pure (lo, (-1 : Int), Builtin.Slice.slicePlaces lo hi (-1))) _ _ s
  rw [adjust_rev n]
  show wpAny _ _ (pure ((n : Int) - 1, (-1 : Int), Builtin.Slice.slicePlaces ((n : Int) - 1) (-1) (-1))) _ _ s
  rw [places_rev]
  exact wpAny_pure h
theorem getItem_tuple_rev {t sl : Addr} {tk : Tok} {items : Array Value} {Q : Value → Shared → Prop} (ht : IsTup s.heap t items) (hs : s.heap.IsSliceOf sl .none .none (.int (-1) tk))
    (h : Q (.ref s.heap.objs.size) { s with heap := s.heap.push { cls := .type "tuple", data := .seq items.toList.reverse.toArray } })
    (hsz : items.size ≤ sizeLine) : wpAny (model prog w) A (getItem (.ref t) (.ref sl)) Q E s := by
  have htake : sizeOk (.seq items.toList.reverse.toArray) := by
    show items.toList.reverse.toArray.size ≤ sizeLine
    rw [List.size_toArray, List.length_reverse, Array.length_toList]
    exact hsz
  obtain ⟨os, hos, hcs, hds⟩ := id hs
  have hTs : s.TypeIs (.ref sl) "slice" := ⟨os, hos, hcs⟩
  unfold getItem
  try with_reducible refine wpAny_holding ?_
  first | refine wpAny_bind (wpAny_pure ?_) | skip
  refine wpAny_bind (wpAny_sequenceKey ht.typeIs (by decide) ?_)
  refine wpAny_bind (wpAny_callSpecial?_slot (name := Str.ofString "__getitem__") ht.typeIs PyProof.Rows.slot_tuple_getitem
    (wpAny_call_entry PyProof.Rows.slot_tuple_getitem ht.typeIs entry_tuple_getitem ?_ (args_tuple_getitem _ _)))
  show wpAny _ _ (Builtin.Tuple.tupleItemsOf (.ref t) >>= _) _ _ s
  refine wpAny_bind (tupleItemsOf_ ht ?_)
  refine wpAny_bind (wpAny_typeOf hTs ?_)
  rw [if_pos (by decide)]
  refine wpAny_bind (sliceApplied_rev hs ?_)
  have hno : ¬ ((((items.size : Int) - 1) == 0 && (-1 : Int) == 1 && items.size == items.size) = true) := by simp
  show wpAny _ _ (if ((((items.size : Int) - 1) == 0 && (-1 : Int) == 1 && items.size == items.size) = true) then _ else _) _ _ s
  rw [if_neg hno, pick_rev]
  first
    | exact wpAny_bind (m := Builtin.Tuple.tupleExact _) (wpAny_newObj_type (wpAny_pure ⟨_, rfl, wpAny_pure h⟩) htake)
    | exact wpAny_bind (m := Builtin.Tuple.tupleExact _) (wpAny_newObj_type (wpAny_bind (wpAny_pure (wpAny_pure ⟨_, rfl, wpAny_pure h⟩))) htake)
    | exact wpAny_bind (wpAny_bind (m := Builtin.Tuple.tupleExact _) (wpAny_newObj_type (wpAny_pure (wpAny_pure ⟨_, rfl, wpAny_pure h⟩)) htake))
    | exact wpAny_bind (wpAny_bind (m := Builtin.Tuple.tupleExact _) (wpAny_newObj_type (wpAny_pure ⟨_, rfl, wpAny_pure h⟩) htake))
end
theorem sub_step {prog : Program} {w : World} {A : Around} {E : Value → Shared → Prop} {s : Shared} {env : Env} {v st : Expr} {lo hi : Option Expr} {p1 p2 : Pos} {T id : String} {Q : Value → Shared → Prop} (look : typeLookup (.type T) "__getitem__" = pure (some (.builtin id)))
    (h : wpAny (model prog w) A (eval v env) (fun o s1 => wpAny (model prog w) A (eval (.Slice lo hi (some st) p1) env) (fun i s2 => s2.TypeIs o T ∧ wpAny (model prog w) A (getItem o i) Q E s2) E s1) E s) :
    wpAny (model prog w) A (eval (.Subscript v (.Slice lo hi (some st) p1) p2) env) Q E s := by
  rw [eval_Subscript]
  refine wpAny_bind (thn h fun o s1 h1 => wpAny_bind (wpAny_holding (thn h1 fun i s2 ⟨ty, h2⟩ => wpAny_bind (wpAny_standAt ?_))))
  have fin : wpAny (model prog w) A (operate [o, i] (getItem o i)) (fun r s3 => wpAny (model prog w) A (letTemporaryGo v o r >>= fun _ => pure r) Q E s3) E s2 := wpAny_operating (thn h2 fun r s3 h3 => wpAny_bind (wpAny_letTemporaryGo (wpAny_pure h3)))
  first
    | (refine wpAny_bind ?_
       rw [getitemInPython_of_ne ty.not_modules]
       refine wpAny_bind (wpAny_specialOf ty look ?_)
       first | exact wpAny_pure (wpAny_bind fin) | exact wpAny_bind (wpAny_pure (wpAny_bind fin)) | exact wpAny_bind fin)
    | (refine wpAny_bind (wpAny_specialOf ty look ?_)
       first | exact wpAny_bind (wpAny_pure (wpAny_bind fin)) | exact wpAny_bind fin)
section
variable {X : Cx} {W : XP} {e : Expr} {f : Ga → R D} {pos p2 p3 p4 : Pos}
theorem denL_rev {K : PySem.W.Frag} {G : Hp} : ∀ {ds : List D} {vs : List V}, DenL K G ds vs → DenL K G ds.reverse vs.reverse
  | [], vs, h => by cases denL_nil.mp h; exact denL_nil.mpr rfl
  | d :: ds, vs, h => by
    obtain ⟨v, r, rfl, h1, h2⟩ := denL_cons.mp h
    rw [List.reverse_cons, List.reverse_cons]
    exact (denL_rev h2).append (.one h1)
def revT : D → Option D
  | .tup ds => some (.tup ds.reverse)
  | _ => none
def eRevT (f : Ga → R D) : Ga → R D := fun Γ => (f Γ).bind fun d => .ofO (revT d)
theorem ev_revT {j : Nat} (he : EvD X W e f) : EvD X W (.Subscript e (.Slice none none (some (.UnaryOp .USub (.Constant (.int 1) j p4) p3)) p2) pos) (eRevT f) := by
  obtain ⟨t, p, q⟩ := he
  refine ⟨fun σ H Q => t σ H fun x H1 => ∃ a vs, x = .ref a ∧ SqT X.K H1 a vs ∧ ∀ p, H1 p = none → Q (.ref p) (upd H1 p (.tup vs.reverse)), ?_, ?_⟩
  · intro pins s σ H Q I h
    refine sub_step slot_tuple_getitem.lookup (thn (p pins s σ H _ I h) fun v s1 ⟨x, H1, I1, r1, a, vs, hx, sq, w⟩ => ?_)
    subst hx
    cases r1
    refine wpAny_Slice ?_
    rw [evalPart_none]
    refine wpAny_pure (wpAny_pure ?_)
    rw [evalPart_some]
    refine thn (pe_un un_neg (pe_int (i := 1) (j := j) (pos := p4)) pins s1 σ H1 (fun z H2 => z = .int (-1) ∧ H2 = H1) I1 ⟨1, rfl, rfl, rfl⟩) fun v2 s2 ⟨x2, H2, I2, r2, hz, hH⟩ => ?_
    subst hz
    subst hH
    obtain ⟨tk, rfl⟩ := r2
    have I4 : Inv X pins σ H2 { s2 with heap := s2.heap.push { cls := .type "slice", data := .fields #[.none, .none, .int (-1) tk] } } := I2.kept (t' := s2.toks) fun b ob q => Heap.get?_push_of_some _ q
    obtain ⟨its, r, ht, hz⟩ := I4.tuple sq
    refine ⟨ht.typeIs, getItem_tuple_rev ht (Heap.IsSliceOf.new _ _ _ _) ?_ (by rw [List.size_toArray, ← r.length]; exact hz)⟩
    refine ⟨.ref _, _, I4.laid (t' := s2.toks) (o := .tup vs.reverse) (fun b ob q => Heap.get?_push_of_some _ q) (Nat.le_refl _) ?_, rfl, w _ (I4.hok.fresh (Nat.le_refl _))⟩
    refine ⟨by rw [List.length_reverse]; exact hz, its.reverse, r.reverse, ?_⟩
    have := IsTup.new (h := s2.heap.push { cls := .type "slice", data := .fields #[.none, .none, .int (-1) tk] }) its.reverse.toArray
    simpa using this
  · intro H₀ G₀ Γ σ H G R Q w
    refine q _ _ _ _ _ _ R _ (wStep w (fun _ h => h) fun d w v H' G' E1 d1 => ?_)
    obtain ⟨d', e2, w⟩ := wOfO w
    cases d with
    | tup ds =>
      cases e2
      obtain ⟨a, vs, rfl, sq, l⟩ := den_tup.mp d1
      refine ⟨a, vs, rfl, Same.seqT E1.gh sq, fun p hp => ?_⟩
      have A := Ext.alloc (o := .tup vs.reverse) E1.gh hp
      exact w _ _ _ (E1.trans A) (den_tup.mpr ⟨p, _, rfl, SqT.of upd_same, (denL_rev l).up A.gg⟩)
    | _ => cases e2
end
end Wy

namespace Wy
open PySem PySem.Spec PyProof.Rows L2 HT
theorem strs_of : ∀ {xs : List Str} {us : List Value}, Vals (xs.map V.str) us → ∃ l : List (Str × Tok), us = strValues l ∧ l.map (·.1) = xs
  | [], us, h => by cases h; exact ⟨[], rfl, rfl⟩
  | x :: xs, us, h => by
    cases h with
    | cons r t =>
      obtain ⟨tk, rfl⟩ := r
      obtain ⟨l, rfl, rfl⟩ := strs_of t
      exact ⟨(x, tk) :: l, rfl, rfl⟩
theorem vals_strsFrom : ∀ (xs : List Str) (k : Nat), Vals (xs.map V.str) (strsFrom k xs)
  | [], k => .nil
  | x :: xs, k => .cons ⟨_, rfl⟩ (vals_strsFrom xs (k + 1))
section
variable {X : Cx}
theorem mt_join : MtR X "str.join" (fun x xs H Q => ∃ z p texts, x = .str z ∧ xs = [.ref p] ∧ SqL X.K H p (texts.map V.str) ∧ JoinOk z texts = true ∧ Q (.str (Txt.join z texts)) H) := by
  rintro pins s σ H x xs v us Q I rx rv ⟨z, p, texts, rfl, rfl, hs, hj, q⟩
  obtain ⟨tk, rfl⟩ := rx
  obtain ⟨u, rfl, ru⟩ := rv.one
  obtain rfl : u = Value.ref p := ru
  obtain ⟨its, vv, pl, hl⟩ := I.list hs
  obtain ⟨l, rfl, e⟩ := strs_of vv
  exact SC.join pl.isList e hj fun t' k => ⟨.str _, H, I.tok k, ⟨_, rfl⟩, q⟩
theorem split_len (x y : Str) (hx : x.length + 2 ≤ sizeLine) : (Builtin.Str.partsBetween x (Builtin.Str.occurrences x y 0 x.length (x.length + 1)) y.length).length ≤ sizeLine := by
  rw [length_partsBetween]
  have := StrLaws.occ_length_le x y 0 x.length (x.length + 1)
  omega
theorem mt_split : MtR X "str.split" (fun x xs H Q => ∃ z y, x = .str z ∧ xs = [.str y] ∧ (y.length == 0) = false ∧ z.length + 2 ≤ sizeLine ∧ ∀ p, H p = none → Q (.ref p) (upd H p (.lst ((Txt.split z y).map V.str)))) := by
  rintro pins s σ H x xs v us Q I rx rv ⟨z, y, rfl, rfl, hy, hz, q⟩
  obtain ⟨tk, rfl⟩ := rx
  obtain ⟨u, rfl, ru⟩ := rv.one
  obtain ⟨t2, rfl⟩ := ru
  have fin : ∀ (its : List Value) (k : Nat), Vals ((Txt.split z y).map V.str) its → its.length ≤ sizeLine → wants (EP X pins σ Q) X.xe (.ok (.ret (.ref s.heap.objs.size))) { s with heap := s.heap.push { cls := .type "list", data := .seq its.toArray }, toks := k } := fun its k r' hz =>
    ⟨.ref s.heap.objs.size, _, I.laid (t' := k) (fun b ob q => Heap.get?_push_of_some _ q) (Nat.le_refl _) (show ObjOk X.prog X.w _ _ _ (.lst _) from ⟨by rw [r'.length]; exact hz, its, 0, r', Heap.get?_push_size _ rfl⟩), rfl, q _ (I.hok.fresh (Nat.le_refl _))⟩
  by_cases h1 : (decide (z.length < y.length) || decide (Builtin.Str.strKind z < Builtin.Str.strKind y)) = true
  · have e : Txt.split z y = [z] := by unfold Txt.split; rw [if_pos h1]
    rw [e] at fin
    exact call_meets F.slot_str_split (typeIs_str _ _ _) F.entry_str_split (F.args_str_split_2 _ _) (meets_str_split_cannot_occur z y tk t2 h1) (fin [.str z tk] s.toks (.cons ⟨_, rfl⟩ .nil) (by simp; decide))
  · by_cases h2 : (Builtin.Str.occurrences z y 0 z.length (z.length + 1)).isEmpty = true
    · have e : Txt.split z y = [z] := by unfold Txt.split; rw [if_neg h1, if_pos h2]
      rw [e] at fin
      exact call_meets F.slot_str_split (typeIs_str _ _ _) F.entry_str_split (F.args_str_split_2 _ _) (meets_str_split_not_found z y tk t2 (by simpa using h1) hy h2) (fin [.str z tk] s.toks (.cons ⟨_, rfl⟩ .nil) (by simp; decide))
    · have e : Txt.split z y = Builtin.Str.partsBetween z (Builtin.Str.occurrences z y 0 z.length (z.length + 1)) y.length := by unfold Txt.split; rw [if_neg h1, if_neg h2]
      rw [e] at fin
      refine call_meets F.slot_str_split (typeIs_str _ _ _) F.entry_str_split (F.args_str_split_2 _ _) (meets_str_split_sep z y tk t2 (by simpa using h1) hy (by simpa using h2) (by omega) (split_len z y hz)) (fin _ _ (vals_strsFrom _ _) (by rw [strsFrom_length]; exact split_len z y hz))
end
section
variable {X : Cx} {W : XP} {o e : Expr} {fo fe : Ga → R D} {fs : Ga → R (Bool × List D)} {apos cpos : Pos}
def asSs : List D → Option (List Str)
  | [] => some []
  | .str b :: ds => (asSs ds).bind fun r => some (b :: r)
  | _ => none
theorem asSs_den {K : PySem.W.Frag} {G : Hp} : ∀ {ds : List D} {vs : List V} {bs : List Str}, DenL K G ds vs → asSs ds = some bs → vs = bs.map V.str
  | [], vs, bs, h, e => by cases e; exact denL_nil.mp h
  | d :: ds, vs, bs, h, e => by
    obtain ⟨v, r, rfl, h1, h2⟩ := denL_cons.mp h
    cases d <;> first | cases e | skip
    obtain ⟨r', e1, e2⟩ := Option.bind_eq_some_iff.mp e
    cases e2
    rw [den_strE h1, asSs_den h2 e1]
    rfl
def joinS (z : Str) (p : Bool × List D) : Option D := match p with
  | (false, ds) => (asSs ds).bind fun ts => if (ts.map (·.length)).sum + ts.length ≤ 1000000 ∧ z.length ≤ 16 then some (.str (Txt.join z ts)) else none
  | _ => none
def eJoin (fo : Ga → R D) (fs : Ga → R (Bool × List D)) : Ga → R D := fun Γ => (fo Γ).bind fun d => match d with
  | .str z => (fs Γ).bind fun p => .ofO (joinS z p)
  | _ => .no
theorem ev_join (ho : EvD X W o fo) (he : SqD X W e fs) (hs : starEach [e] X.env = [(false, eval e X.env)] := by rfl) (hline : (apos.endLine == cpos.line) = true := by rfl)
    (hbase : attributeBase o "join" X.env (eval o X.env) = eval o X.env := by rfl)
    (hfew : ((backTo cpos (starEach [e] X.env)).all (fun x => !x.1) && (backToKw cpos (keywordEach [] X.env)).all (fun x => x.1.isSome)
      && decide ([e].length + ([] : List Keyword).length + (if ([] : List Keyword).isEmpty then 0 else 1) < 30)) = true := by rfl) :
    EvD X W (.Call (.Attribute o "join" apos) [e] [] cpos) (eJoin fo fs) := by
  obtain ⟨t1, p1, q1⟩ := ho
  obtain ⟨t, p, q⟩ := he
  refine ⟨_, pe_bm PySem.F.plainAttrs_str PySem.F.slot_str_join PySem.F.type_str_join mt_join p1 (pa_cons p pa_nil hs) hbase hfew hline hs rfl, fun H₀ G₀ Γ σ H G R Q w => ?_⟩
  refine q1 _ _ _ _ _ _ R _ (wStep w (fun _ h => h) fun d w v H1 G1 E1 d1 => ?_)
  cases d with
  | str z =>
    cases den_strE d1
    refine ⟨rfl, q _ _ _ _ _ _ (R.after E1) _ (wStep w (fun _ h => h.up E1) fun pp w a vs H2 G2 E2 sq l => ?_)⟩
    obtain ⟨d', e2, w⟩ := wOfO w
    obtain ⟨b, ds⟩ := pp
    cases b with
    | true => cases e2
    | false =>
      obtain ⟨ts, e3, e4⟩ := Option.bind_eq_some_iff.mp e2
      split at e4
      · rename_i hz
        cases e4
        have := asSs_den l e3
        subst this
        exact ⟨z, a, ts, rfl, rfl, sq, joinOk_of_weight (by have := hz.1; omega) hz.2, w _ H2 G2 (E1.trans E2) den_str⟩
      · cases e4
  | _ => exact w.elim
def splitD (z y : Str) : Option (List D) := if y.length ≠ 0 ∧ z.length ≤ 1000000 then some ((Txt.split z y).map D.str) else none
def oSplit (fo fe : Ga → R D) : Ga → R (List D) := fun Γ => (fo Γ).bind fun d => match d with
  | .str z => (fe Γ).bind fun d2 => (match d2 with
    | .str y => .ofO (splitD z y)
    | _ => .no)
  | _ => .no
theorem denL_strs {K : PySem.W.Frag} {G : Hp} : ∀ (xs : List Str), DenL K G (xs.map D.str) (xs.map V.str)
  | [] => denL_nil.mpr rfl
  | x :: xs => denL_cons.mpr ⟨_, _, rfl, den_str, denL_strs xs⟩
theorem ow_split (ho : EvD X W o fo) (he : EvD X W e fe) (hs : starEach [e] X.env = [(false, eval e X.env)] := by rfl) (hline : (apos.endLine == cpos.line) = true := by rfl)
    (hbase : attributeBase o "split" X.env (eval o X.env) = eval o X.env := by rfl)
    (hfew : ((backTo cpos (starEach [e] X.env)).all (fun x => !x.1) && (backToKw cpos (keywordEach [] X.env)).all (fun x => x.1.isSome)
      && decide ([e].length + ([] : List Keyword).length + (if ([] : List Keyword).isEmpty then 0 else 1) < 30)) = true := by rfl) :
    OwD X W (.Call (.Attribute o "split" apos) [e] [] cpos) (oSplit fo fe) := by
  obtain ⟨t1, p1, q1⟩ := ho
  obtain ⟨t, p, q⟩ := he
  refine ⟨_, pe_bm PySem.F.plainAttrs_str PySem.F.slot_str_split PySem.F.type_str_split mt_split p1 (pa_cons p pa_nil hs) hbase hfew hline hs rfl, fun H₀ G₀ Γ σ H G R Q w => ?_⟩
  refine q1 _ _ _ _ _ _ R _ (wStep w (fun _ h => h) fun d w v H1 G1 E1 d1 => ?_)
  cases d with
  | str z =>
    cases den_strE d1
    refine ⟨rfl, q _ _ _ _ _ _ (R.after E1) _ (wStep w (fun _ h => h.up E1) fun d2 w v2 H2 G2 E2 h2 => ?_)⟩
    cases d2 with
    | str y =>
      cases den_strE h2
      obtain ⟨ds, e2, w⟩ := wOfO w
      unfold splitD at e2
      split at e2
      · rename_i hz
        cases e2
        refine ⟨z, y, rfl, rfl, by simpa using hz.1, Nat.le_trans (Nat.add_le_add_right hz.2 2) (by decide), fun r hr => ?_⟩
        exact w r _ _ G2 ((E1.trans E2).trans (.own E2.gh hr _)) ((E1.trans E2).hh.free hr) upd_same (E2.gh.free hr) (denL_strs _)
      · cases e2
    | _ => exact w.elim
  | _ => exact w.elim
end
end Wy

namespace Wy
open PySem PySem.Spec PyProof.Rows L2 HT
theorem part_of {v : Value} {o : Option Int} (h : IsPart v o) : ∃ l : Option (Int × Tok), v = partValue l ∧ l.map (·.1) = o := by
  cases h with
  | none => exact ⟨none, rfl, rfl⟩
  | int i t => exact ⟨some (i, t), rfl, rfl⟩
section
variable {X : Cx}
theorem sl_str : SlR X (fun x lo hi H Q => ∃ z, x = .str z ∧ z.length ≤ sizeLine ∧ Q (.str (Txt.slice z lo hi)) H) := by
  rintro pins s σ H x v vl vu lo hi sl Q I rx hs pl pu ⟨z, rfl, hz, q⟩
  obtain ⟨t, rfl⟩ := rx
  obtain ⟨l, rfl, rfl⟩ := part_of pl
  obtain ⟨u, rfl, rfl⟩ := part_of pu
  refine ⟨"str", _, PyProof.Rows.slot_str_getitem.lookup, typeIs_str _ _ _, wpAny_getItem_str_slice (l := l) (u := u) (st := none) hs rfl ?_⟩
  unfold sliceMade
  unfold Txt.slice at q
  by_cases h : ((1 : Int) == 1 && (Builtin.Str.strSliceIndices (l.map (·.1)) (u.map (·.1)) 1 z.length).length == z.length) = true
  · rw [if_pos h] at q
    rw [if_pos (show ((Option.map (fun x => x.fst) (none : Option (Int × Tok))).getD 1 == 1 && (slicePicked z l u none).length == z.length) = true from h)]
    exact ⟨.str z, H, I, ⟨_, rfl⟩, q⟩
  · rw [if_neg h] at q
    rw [if_neg (show ¬ ((Option.map (fun x => x.fst) (none : Option (Int × Tok))).getD 1 == 1 && (slicePicked z l u none).length == z.length) = true from h)]
    refine ⟨Nat.le_trans ?_ hz, .str _, H, I.tok _, ⟨_, rfl⟩, q⟩
    have hle := PyProof.Txt.length_slice_le z (l.map (·.1)) (u.map (·.1))
    unfold Txt.slice at hle
    rw [if_neg h] at hle
    exact hle
variable {W : XP} {e : Expr} {f : Ga → R D} {pos p2 : Pos} {lo hi : Option Expr} {gl gh : Ga → R (Option Int)}
def slA (d : D) (l h : Option Int) : Option D := match d with
  | .tup ds => some (.tup (cut ds l h))
  | .str z => if z.length ≤ 1000000 then some (.str (Txt.slice z l h)) else none
  | _ => none
def eSlA (f : Ga → R D) (gl gh : Ga → R (Option Int)) : Ga → R D := fun Γ => (f Γ).bind fun d => (gl Γ).bind fun l => (gh Γ).bind fun h => .ofO (slA d l h)
theorem ev_slA (he : EvD X W e f) (hl : OvD X W lo gl) (hh : OvD X W hi gh) : EvD X W (.Subscript e (.Slice lo hi none p2) pos) (eSlA f gl gh) := by
  obtain ⟨t, p, q⟩ := he
  obtain ⟨t1, p1, q1⟩ := hl
  obtain ⟨t2, p2, q2⟩ := hh
  refine ⟨_, pe_slice (sl_tupA.or sl_str) p p1 p2, fun H₀ G₀ Γ σ H G R Q w => ?_⟩
  refine q _ _ _ _ _ _ R _ (wStep w (fun _ h => h) fun x w v H1 G1 E1 d1 => ?_)
  refine q1 _ _ _ _ _ _ (R.after E1) _ (wStep w (fun _ h => h.up E1) fun l w H2 G2 E2 => ?_)
  refine q2 _ _ _ _ _ _ ((R.after E1).after E2) _ (wStep w (fun _ h => h.up (E1.trans E2)) fun h w H3 G3 E3 => ?_)
  obtain ⟨d, e', k⟩ := wOfO w
  have d3 := d1.up (E2.gg.trans E3.gg)
  cases x with
  | tup ds =>
    cases e'
    obtain ⟨a, vs, rfl, s, ls⟩ := den_tup.mp d3
    refine .inl ⟨a, vs, rfl, Same.seqT E3.gh s, fun hw => ?_, fun hw p hp => ?_⟩
    · rw [← ls.length] at hw
      exact k _ _ _ (E1.trans (E2.trans E3)) (by rw [cut_whole hw]; exact d3)
    · have A := Ext.alloc (o := .tup (cutV vs l h)) E3.gh hp
      exact k _ _ _ (E1.trans (E2.trans (E3.trans A))) (den_tup.mpr ⟨p, _, rfl, SqT.of upd_same, (cut_den ls l h).up A.gg⟩)
  | str z =>
    unfold slA at e'
    dsimp only at e'
    split at e'
    · rename_i hz
      cases e'
      exact .inr ⟨z, den_strE d3, Nat.le_trans hz (by decide), k _ _ _ (E1.trans (E2.trans E3)) den_str⟩
    · cases e'
  | _ => cases e'
end
end Wy

namespace Wy
open PySem PySem.Spec PyProof.Rows L2 HT
section
variable {X : Cx}
end
end Wy

namespace Wy
open PySem PySem.Spec PyProof.Rows L2 HT
theorem boot_ValueError : bootBuiltins "ValueError" = some (.type "ValueError") := by rfl
section
variable {K : PySem.W.Frag} {H₀ G₀ H G : Hp} {Γ : Ga} {σ : L2.St}
end
section
variable {X : Cx} {W : XP} {st : Stmt} {fl : Ga → R (List D)}
end
section
variable {X : Cx}
theorem op_catL : OpR X (binaryOp .Add) (fun x y H Q => ∃ a b xs ys, x = .ref a ∧ y = .ref b ∧ SqL X.K H a xs ∧ SqL X.K H b ys ∧ xs.length + ys.length ≤ sizeLine ∧ ∀ p, H p = none → Q (.ref p) (upd H p (.lst (xs ++ ys)))) := by
  rintro pins s σ H x y v u Q I rx ry ⟨a, b, xs, ys, rfl, rfl, ha, hb, hz, q⟩
  obtain rfl : v = Value.ref a := rx
  obtain rfl : u = Value.ref b := ry
  obtain ⟨ia, ra, ⟨⟨c1, d1, t1, s1⟩, n1, g1, hc1, hn1, hd1⟩, _⟩ := I.list ha
  obtain ⟨ib, rb, ⟨⟨c2, d2, t2, s2⟩, n2, g2, hc2, hn2, hd2⟩, _⟩ := I.list hb
  have la := ra.length
  have lb := rb.length
  cases hc1
  cases hd1
  cases hc2
  cases hd2
  refine concat_meets ⟨_, g1, rfl⟩ ⟨_, g2, rfl⟩ noFill_list_add seq_list_add PySem.F.slot_list_add PySem.F.entry_list_add (PySem.F.args_list_add_2 _ _) (list_addW a b ia.toArray ib.toArray n1 n2 d1 d2 s1 s2 (by rw [List.size_toArray, List.size_toArray]; omega)) ⟨g1, g2, ?_⟩
  have ea : ia.toArray ++ ib.toArray = (ia ++ ib).toArray := by simp
  rw [ea]
  exact ⟨.ref _, _, I.lnew (t' := s.toks) (ra.append rb) (by rw [List.length_append]; omega), rfl, q _ I.fresh⟩
variable {W : XP} {a b : Expr} {fa fb : Ga → R (Bool × List D)} {pos : Pos}
def catS (p r : Bool × List D) : Option (List D) := match p, r with
  | (false, xs), (false, ys) => if xs.length + ys.length ≤ 1000000 then some (xs ++ ys) else none
  | _, _ => none
def oCat (fa fb : Ga → R (Bool × List D)) : Ga → R (List D) := fun Γ => (fa Γ).bind fun p => (fb Γ).bind fun r => .ofO (catS p r)
theorem ow_cat (ha : SqD X W a fa) (hb : SqD X W b fb) : OwD X W (.BinOp a .Add b pos) (oCat fa fb) := by
  obtain ⟨ta, pa, qa⟩ := ha
  obtain ⟨tb, pb, qb⟩ := hb
  refine ⟨_, pe_op op_catL pa pb, fun H₀ G₀ Γ σ H G R Q w => ?_⟩
  refine qa _ _ _ _ _ _ R _ (wStep w (fun _ h => h) fun p w a vs H1 G1 E1 s1 l1 => ?_)
  refine qb _ _ _ _ _ _ (R.after E1) _ (wStep w (fun _ h => h.up E1) fun r w b us H2 G2 E2 s2 l2 => ?_)
  obtain ⟨ds, e, w⟩ := wOfO w
  obtain ⟨b1, xs⟩ := p
  obtain ⟨b2, ys⟩ := r
  cases b1 <;> cases b2 <;> first | (cases e; done) | skip
  unfold catS at e
  dsimp only at e
  split at e
  · rename_i hz
    cases e
    have l1' := l1.up E2.gg
    refine ⟨a, b, vs, us, rfl, rfl, s1.up E2, s2, by rw [← l1'.length, ← l2.length]; exact Nat.le_trans hz (by decide), fun p hp => ?_⟩
    exact w p _ _ G2 ((E1.trans E2).trans (.own E2.gh hp _)) ((E1.trans E2).hh.free hp) upd_same (E2.gh.free hp) (l1'.append l2)
  · cases e
end
end Wy


namespace Wy
open PySem PySem.Spec PyProof.Rows L2
section
variable {α β : Type} {Γ Γ' : Ga} {d x y : D} {xs ys : List D} {f fa fb fc : Ga → R D} {fl : Ga → R (List D)} {fs gs : Ga → R (Bool × List D)} {g ga gb : Ga → R Bool} {T U : Ga → RS} {F F' : D → D → Option D} {n : Nat} {sl : Sl} {c : Str}
@[simp] theorem addD_int {i j : Int} : addD (.int i) (.int j) = some (.int (i + j)) := nr rfl
@[simp] theorem addD_str {a b : Str} : addD (.str a) (.str b) = addS a b := by
  unfold addD orD
  simp only [int2, str2]
  cases addS a b <;> rfl
theorem addS_eq {a b : Str} (h : a.length + b.length ≤ 1000000) : addS a b = some (.str (a ++ b)) := if_pos h
@[simp] theorem isnotA_non : isnotA x .non = some (.bl (!isNonD x)) := nr rfl
@[simp] theorem isNon_non : isNonD .non = true := nr rfl
@[simp] theorem eqDD_int {i j : Int} : eqDD (.int i) (.int j) = decide (i = j) := by unfold eqDD; rw [Bool.eq_iff_iff]; simp
@[simp] theorem eqDD_str {i j : Str} : eqDD (.str i) (.str j) = decide (i = j) := by unfold eqDD; rw [Bool.eq_iff_iff]; simp
@[simp] theorem eqDD_tup_str {i : Str} : eqDD (.tup xs) (.str i) = false := by unfold eqDD; rfl
@[simp] theorem eqDD_non_str {j : Str} : eqDD .non (.str j) = false := by unfold eqDD; rfl
@[simp] theorem depD_int {i : Int} : depD (.int i) = 0 := by unfold depD; rfl
@[simp] theorem depD_str {i : Str} : depD (.str i) = 0 := by unfold depD; rfl
@[simp] theorem depD_non : depD .non = 0 := by unfold depD; rfl
theorem eqD_of (h : depD x ≤ 100) : eqD x y = some (.bl (eqDD x y)) := if_pos (.inl h)
theorem eqD_toS {b : Str} : eqD x (.str b) = some (.bl (eqDD x (.str b))) := if_pos (.inr rfl)
theorem neD_of (h : depD x ≤ 100) : neD x y = some (.bl (!eqDD x y)) := if_pos h
@[simp] theorem eqD_int {i : Int} : eqD (.int i) y = some (.bl (eqDD (.int i) y)) := eqD_of (by simp)
@[simp] theorem eqD_str {i : Str} : eqD (.str i) y = some (.bl (eqDD (.str i) y)) := eqD_of (by simp)
@[simp] theorem eqD_non : eqD .non y = some (.bl (eqDD .non y)) := eqD_of (by simp)
@[simp] theorem neD_str {i : Str} : neD (.str i) y = some (.bl (!eqDD (.str i) y)) := neD_of (by simp)
theorem memA_tup (h : depDL ys ≤ 99) : memA x (.tup ys) = some (.bl (ys.any fun z => eqDD z x)) := by
  unfold memA orD memD
  simp only [h, if_true]
@[simp] theorem memA_str {a b : Str} : memA (.str a) (.str b) = some (.bl (inStr a b)) := nr rfl
@[simp] theorem sRaise_eq : sRaise c fl Γ = .of (fl Γ) Γ fun _ => .ex c Γ := nr rfl
@[simp] theorem strD_eq {i : Int} : strD [.int i] = if i.natAbs < 1900 then some (.str (toString i)) else none := nr rfl
@[simp] theorem eRevT_eq : eRevT f Γ = (f Γ).bind fun d => .ofO (revT d) := nr rfl
@[simp] theorem revT_tup : revT (.tup xs) = some (.tup xs.reverse) := nr rfl
@[simp] theorem eSlA_eq {gl gh : Ga → R (Option Int)} : eSlA f gl gh Γ = (f Γ).bind fun d => (gl Γ).bind fun l => (gh Γ).bind fun h => .ofO (slA d l h) := nr rfl
@[simp] theorem slA_tup {l h : Option Int} : slA (.tup xs) l h = some (.tup (cut xs l h)) := nr rfl
theorem slA_str {z : Str} {l h : Option Int} (hz : z.length ≤ 1000000) : slA (.str z) l h = some (.str (Txt.slice z l h)) := if_pos hz
@[simp] theorem sExt_eq : sExt n fs Γ = match Γ[n]? with | some (.own xs) => .of (fs Γ) Γ fun p => if xs.length + p.2.length < 16000000 then .nx (Γ.set n (.own (xs ++ p.2))) else .no | _ => .no := nr rfl
@[simp] theorem eJoin_eq : eJoin f fs Γ = (f Γ).bind fun d => match d with | .str z => (fs Γ).bind fun p => .ofO (joinS z p) | _ => .no := nr rfl
@[simp] theorem oSplit_eq : oSplit fa fb Γ = (fa Γ).bind fun d => match d with | .str z => (fb Γ).bind fun d2 => (match d2 with | .str y => .ofO (splitD z y) | _ => .no) | _ => .no := nr rfl
@[simp] theorem oCat_eq : oCat fs gs Γ = (fs Γ).bind fun p => (gs Γ).bind fun r => .ofO (catS p r) := nr rfl
theorem catS_eq (h : xs.length + ys.length ≤ 1000000) : catS (false, xs) (false, ys) = some (xs ++ ys) := if_pos h
@[simp] theorem asSs_map (ts : List Str) : asSs (ts.map D.str) = some ts := by
  induction ts with
  | nil => rfl
  | cons n ns ih => rw [List.map_cons, asSs, ih]; rfl
theorem joinS_eq {z : Str} {ts : List Str} (h : (ts.map (·.length)).sum + ts.length ≤ 1000000) (hz : z.length ≤ 16) : joinS z (false, ts.map D.str) = some (.str (Txt.join z ts)) := by
  unfold joinS
  dsimp only
  rw [asSs_map, Option.bind_some, if_pos ⟨h, hz⟩]
def RS.tr (r : RS) (tb : Str → Option Bool) (U : Str → Ga → RS) : RS := match r with
  | .ex c Γ' => (match tb c with
    | some true => U c Γ'
    | some false => .ex c Γ'
    | none => .no)
  | r => r
section
variable {tb : Str → Option Bool} {V : Str → Ga → RS} {yb : Str → Bool}
@[simp] theorem sTry_eq : sTry tb T V Γ = RS.tr (T Γ) tb V := nr rfl
@[simp] theorem tr_nx : RS.tr (.nx Γ) tb V = .nx Γ := nr rfl
theorem tr_ex (h : tb c = some true) : RS.tr (.ex c Γ) tb V = V c Γ := by unfold RS.tr; dsimp only; rw [h]
def RS.hp (r : RS) : RS := match r with
  | .ex _ _ => .no
  | r => r
def RS.hn (r : RS) (j : Nat) : RS := match r with
  | .nx Γ' => .nx (Γ'.set j .un)
  | .bk Γ' => .bk (Γ'.set j .un)
  | .ct Γ' => .ct (Γ'.set j .un)
  | .rt d => .rt d
  | _ => .no
@[simp] theorem hPlain_eq : hPlain U c Γ = RS.hp (U Γ) := nr rfl
@[simp] theorem hp_nx : RS.hp (.nx Γ) = .nx Γ := nr rfl
@[simp] theorem hNamed_eq : hNamed n U c Γ = RS.hn (U (Γ.set n (.exc c))) n := nr rfl
@[simp] theorem hn_nx : RS.hn (.nx Γ) n = .nx (Γ.set n .un) := nr rfl
theorem eIsx_at (h : Γ[n]? = some (.exc c)) (hy : yb c = true) : eIsx n yb Γ = .ok (.bl true) := by
  unfold eIsx
  rw [h]
  exact if_pos hy
end
end
end Wy


namespace Wy
open PySem PySem.Spec PyProof.Rows L2 HT
section
variable {X : Cx}
variable {W : XP} {e : Expr} {fs : Ga → R (Bool × List D)} {pos p2 : Pos}
end
def ixOf (x : D) : List D → Option Nat
  | [] => none
  | d :: ds => if eqDD d x = true then some 0 else (ixOf x ds).map (· + 1)
theorem ixOf_some {x : D} : ∀ {ds : List D} {j : Nat}, ixOf x ds = some j → ∃ h : j < ds.length, eqDD ds[j] x = true ∧ ∀ m (hm : m < ds.length), m < j → eqDD ds[m] x = false
  | [], j, h => by cases h
  | d :: ds, j, h => by
    unfold ixOf at h
    split at h
    · rename_i hd
      cases h
      exact ⟨by simp, hd, fun m _ hm => absurd hm (Nat.not_lt_zero _)⟩
    · rename_i hd
      obtain ⟨i, hi, rfl⟩ := Option.map_eq_some_iff.mp h
      obtain ⟨h1, h2, h3⟩ := ixOf_some hi
      refine ⟨by simp; omega, by simpa using h2, fun m hm hlt => ?_⟩
      cases m with
      | zero => simpa using hd
      | succ m => simpa using h3 m (by simp at hm; omega) (by omega)
section
variable {X : Cx}
theorem mem_at2 {pins : List (Addr × Obj)} {σ : L2.St} {H G : Hp} {s : Shared} (I : Inv X pins σ H s) (g : Same G H) {x : D} {v : V} {u : Value} (h1 : Den X.K G x v) (r1 : RelV v u) (hA : X.A.units + 150 < cLine)
    {ys : List D} {vs : List V} {its : List Value} (hd : depDL ys ≤ 99) (l : DenL X.K G ys vs) (r : Vals vs its) : ∃ e : Value → Bool, (∀ z, z ∈ its → SeqAt.EqAt X.A.in1 s z u (e z)) ∧ ∀ j (hj : j < its.length), e its[j] = eqDD (ys.getD j .non) x := by
  classical
  have key : ∀ j (hj : j < its.length), decide (∃ d w, Den X.K G d w ∧ RelV w its[j] ∧ eqDD d x = true) = eqDD (ys.getD j .non) x := fun j hj => by
    obtain ⟨y, e1, q1⟩ := vals_get r hj
    obtain ⟨e3, q3⟩ := den_at l e1
    rw [Bool.eq_iff_iff, decide_eq_true_eq]
    constructor
    · rintro ⟨d, w, a, b, c⟩
      rw [rel_abs b q1] at a
      rw [← den_inj I g d _ _ a q3]
      exact c
    · exact fun h => ⟨_, _, q3, q1, h⟩
  refine ⟨fun z => decide (∃ d w, Den X.K G d w ∧ RelV w z ∧ eqDD d x = true), ?_, key⟩
  intro z hz
  obtain ⟨j, hj, rfl⟩ := List.getElem_of_mem hz
  obtain ⟨y, e1, q1⟩ := vals_get r hj
  obtain ⟨e3, q3⟩ := den_at l e1
  have := (eqAt_D I g 99 _ x _ _ _ u X.A.in1 (Nat.le_trans (dep_get e3) hd) (by show X.A.units + 1 + 99 < cLine; omega) q3 h1 q1 r1).1
  show SeqAt.EqAt X.A.in1 s its[j] u (decide _)
  rw [key j hj]
  exact this
variable {W : XP} {o e : Expr} {fs : Ga → R (Bool × List D)} {fe : Ga → R D} {apos cpos : Pos}
end
end Wy

namespace Wy
open PySem PySem.Spec PyProof.Rows L2 HT
section
variable {X : Cx} {W : XP} {e ix : Expr} {f fi : Ga → R D} {pos pos' p2 apos cpos : Pos} {x : Str}
end
end Wy

namespace Wy
open PySem PySem.Spec PyProof.Rows L2 HT
section
variable {X : Cx} {W : XP} {st : Stmt} {F : Ga → RS}
end
section
variable {α : Type} {Γ : Ga} {d x : D} {xs ys : List D} {f fi : Ga → R D} {fs : Ga → R (Bool × List D)} {n : Nat}
end
end Wy


namespace Lw
open PySem PySem.Spec PyProof.Rows L2 Wy Wl
abbrev N__law_cell : List Str := ["_law_script", "_law_k"]
def B__law_cell : Ga → RS := (sSeq (sIf (tB (e2 ltD (eV 1) (eB lenD (aCons (eV 0) aNil)))) (sRet (e2 ixD (eV 0) (eV 1))) sNext) (sRet (eC (.int 0))))
def M__law_cell : List D → R D := fun ds => callR N__law_cell (B__law_cell) ds
abbrev N__law_mix : List Str := ["_law_cell_here", "_law_prime", "_law_many"]
def B__law_mix : Ga → RS := (sRet (e2 (int2 modI) (e2 (int2 modI) (e2 (int2 mulI) (eV 0) (eC (.int 48271))) (eV 1)) (eV 2)))
def M__law_mix : List D → R D := fun ds => callR N__law_mix (B__law_mix) ds
abbrev N__law_saying : List Str := ["_law_seed", "_law_left", "_law_turn", "_law_one"]
def B__law_saying (M__law_mix : List D → R D) (M__law_saying : List D → R D) : Ga → RS := (sSeq (sSet 2 (eCall M__law_mix (aCons (eV 0) (aCons (eC (.int 9973)) (aCons (eC (.int 11)) aNil))))) (sSeq (sIf (tOrR (tB (e2 eqD (eV 1) (eC (.int 0)))) (tB (e2 ltD (eV 2) (eC (.int 2))))) (sRet (eTup (aCons (eC (.str "name")) (aCons (eIxS (sO (aCons (eC (.str "a")) (aCons (eC (.str "b")) (aCons (eC (.str "zz")) aNil)))) (eCall M__law_mix (aCons (eV 0) (aCons (eC (.int 9967)) (aCons (eC (.int 3)) aNil))))) aNil)))) sNext) (sSeq (sSet 3 (eCall M__law_saying (aCons (e2 addD (e2 (int2 mulI) (eV 0) (eC (.int 3))) (eC (.int 1))) (aCons (e2 (int2 fun i j => some (.int (i - j))) (eV 1) (eC (.int 1))) aNil)))) (sSeq (sIf (tB (e2 ltD (eV 2) (eC (.int 4)))) (sRet (eTup (aCons (eC (.str "not")) (aCons (eV 3) aNil)))) sNext) (sSeq (sIf (tB (e2 ltD (eV 2) (eC (.int 8)))) (sRet (eTup (aCons (eIxS (sO (aCons (eC (.str "and")) (aCons (eC (.str "or")) aNil))) (eCall M__law_mix (aCons (eV 0) (aCons (eC (.int 9949)) (aCons (eC (.int 2)) aNil))))) (aCons (eV 3) (aCons (eCall M__law_saying (aCons (e2 addD (e2 (int2 mulI) (eV 0) (eC (.int 5))) (eC (.int 2))) (aCons (e2 (int2 fun i j => some (.int (i - j))) (eV 1) (eC (.int 1))) aNil))) aNil))))) sNext) (sRet (eTup (aCons (eIxS (sO (aCons (eC (.str "all")) (aCons (eC (.str "some")) aNil))) (eCall M__law_mix (aCons (eV 0) (aCons (eC (.int 9941)) (aCons (eC (.int 2)) aNil))))) (aCons (eCall M__law_mix (aCons (eV 0) (aCons (eC (.int 9931)) (aCons (eC (.int 3)) aNil)))) (aCons (eV 3) aNil))))))))))
def M__law_saying : Nat → List D → R D
  | 0, _ => .no
  | n + 1, ds => callR N__law_saying (B__law_saying M__law_mix (M__law_saying n)) ds
end Lw


namespace Wl
open PySem PySem.Spec PyProof.Rows L2 Wy
inductive Say where
  | nm (x : Str) | neg (a : Say) | two (c : Bool) (a b : Say) | way (c : Bool) (k : Nat) (a : Say)
  deriving DecidableEq
def hd2 (c : Bool) : Str := if c = true then "and" else "or"
def hdw (c : Bool) : Str := if c = true then "all" else "some"
def dS : Say → D
  | .nm x => .tup [.str "name", .str x]
  | .neg a => .tup [.str "not", dS a]
  | .two c a b => .tup [.str (hd2 c), dS a, dS b]
  | .way c k a => .tup [.str (hdw c), .int (k : Int), dS a]
def depS : Say → Nat
  | .nm _ => 0
  | .neg a => depS a + 1
  | .two _ a b => max (depS a) (depS b) + 1
  | .way _ _ a => depS a + 1
def okS : Say → Bool
  | .nm x => decide (x ∈ (["a", "b", "zz"] : List Str))
  | .neg a => okS a
  | .two _ a b => okS a && okS b
  | .way _ k a => decide (k < 3) && okS a
def nam (s : Int) : Str := (["a", "b", "zz"] : List Str).getD (mixI s 9967 3).toNat ""
def lawS : Nat → Int → Say
  | 0, s => .nm (nam s)
  | n + 1, s => if mixI s 9973 11 < 2 then .nm (nam s) else if mixI s 9973 11 < 4 then .neg (lawS n (s * 3 + 1)) else if mixI s 9973 11 < 8 then .two (decide (mixI s 9949 2 = 0)) (lawS n (s * 3 + 1)) (lawS n (s * 5 + 2))
    else .way (decide (mixI s 9941 2 = 0)) (mixI s 9931 3).toNat (lawS n (s * 3 + 1))
theorem mix3 (s p : Int) : (mixI s p 3 = 0 ∨ mixI s p 3 = 1) ∨ mixI s p 3 = 2 := by
  have := mix_lt s p 3 (by decide); omega
theorem mix2 (s p : Int) : mixI s p 2 = 0 ∨ mixI s p 2 = 1 := by
  have := mix_lt s p 2 (by decide); omega
theorem nam_ok (s : Int) : nam s ∈ (["a", "b", "zz"] : List Str) := by
  unfold nam
  rcases mix3 s 9967 with (h | h) | h <;> rw [h] <;> decide
theorem lawS_ok : ∀ (n : Nat) (s : Int), okS (lawS n s) = true ∧ depS (lawS n s) ≤ n
  | 0, s => ⟨decide_eq_true (nam_ok s), Nat.le_refl _⟩
  | n + 1, s => by
    have h1 := lawS_ok n (s * 3 + 1)
    have h2 := lawS_ok n (s * 5 + 2)
    have h3 := mix_lt s 9931 3 (by decide)
    unfold lawS
    split
    · exact ⟨decide_eq_true (nam_ok s), Nat.zero_le _⟩
    · split
      · exact ⟨h1.1, Nat.succ_le_succ h1.2⟩
      · split
        · refine ⟨by simp [okS, h1.1, h2.1], ?_⟩
          simp only [depS]
          omega
        · refine ⟨by simp [okS, h1.1]; omega, ?_⟩
          simp only [depS]
          omega
end Wl
namespace Lw
open PySem PySem.Spec PyProof.Rows L2 Wy Wl
theorem m_mix (c p m : Int) (hp : 0 < p) (hm : 0 < m) : M__law_mix [.int c, .int p, .int m] = .ok (.int (mixI c p m)) := by
  simp [M__law_mix, B__law_mix, begin_, hp, hm, mixI]
theorem m_cell (ns : List Int) (k : Nat) : M__law_cell [dLs ns, .int k] = .ok (.int (cellI ns k)) := by
  by_cases h : k < ns.length
  · have e : atI (ns.map D.int) (k : Int) = some (D.int (cellI ns k)) := atI_nat (by simp [cellI, h, List.getD_eq_getElem?_getD])
    simp [M__law_cell, B__law_cell, begin_, dLs, h, e]
  · have e : cellI ns k = 0 := by simp [cellI, List.getD_eq_getElem?_getD, List.getElem?_eq_none (by omega : ns.length ≤ k)]
    simp [M__law_cell, B__law_cell, begin_, dLs, h, e]
theorem at_nam (s : Int) : atI [D.str "a", D.str "b", D.str "zz"] (mixI s 9967 3) = some (.str (nam s)) := by
  unfold nam
  rcases mix3 s 9967 with (h | h) | h <;> rw [h] <;> rfl
theorem at_hd2 (s p : Int) : atI [D.str "and", D.str "or"] (mixI s p 2) = some (.str (hd2 (decide (mixI s p 2 = 0)))) := by
  rcases mix2 s p with h | h <;> rw [h] <;> rfl
theorem at_hdw (s p : Int) : atI [D.str "all", D.str "some"] (mixI s p 2) = some (.str (hdw (decide (mixI s p 2 = 0)))) := by
  rcases mix2 s p with h | h <;> rw [h] <;> rfl
theorem m_saying : ∀ (n left : Nat) (s : Int), left < n → M__law_saying n [.int s, .int left] = .ok (dS (lawS left s))
  | 0, _, _, h => absurd h (Nat.not_lt_zero _)
  | n + 1, 0, s, _ => by simp [M__law_saying, B__law_saying, begin_, m_mix, at_nam, lawS, dS]
  | n + 1, left + 1, s, h => by
    have ih1 := m_saying n left (s * 3 + 1) (by omega)
    have ih2 := m_saying n left (s * 5 + 2) (by omega)
    have e0 : ¬ ((left : Int) + 1 = 0) := by omega
    have e1 : (left : Int) + 1 - 1 = (left : Int) := by omega
    have hk := mix_lt s 9931 3 (by decide)
    have ek : (((mixI s 9931 3).toNat : Nat) : Int) = mixI s 9931 3 := Int.toNat_of_nonneg hk.1
    by_cases c1 : mixI s 9973 11 < 2
    · simp [M__law_saying, B__law_saying, begin_, m_mix, at_nam, lawS, dS, e0, e1, c1]
    · by_cases c2 : mixI s 9973 11 < 4
      · simp [M__law_saying, B__law_saying, begin_, m_mix, lawS, dS, e0, e1, c1, c2, ih1]
      · by_cases c3 : mixI s 9973 11 < 8
        · simp [M__law_saying, B__law_saying, begin_, m_mix, lawS, dS, e0, e1, c1, c2, c3, ih1, ih2, at_hd2]
        · simp [M__law_saying, B__law_saying, begin_, m_mix, lawS, dS, e0, e1, c1, c2, c3, ih1, at_hdw, ek]
end Lw

namespace Lw
open PySem PySem.Spec PyProof.Rows L2 Wy Wl
end Lw


namespace Wl
open PySem PySem.Spec PyProof.Rows L2 Wy
@[simp] theorem w_not_name : (Str.ofString "not" = Str.ofString "name") = False := eq_false (by decide)
@[simp] theorem w_not_all : (Str.ofString "not" = Str.ofString "all") = False := eq_false (by decide)
@[simp] theorem w_not_some : (Str.ofString "not" = Str.ofString "some") = False := eq_false (by decide)
@[simp] theorem w_and_name : (Str.ofString "and" = Str.ofString "name") = False := eq_false (by decide)
@[simp] theorem w_and_not : (Str.ofString "and" = Str.ofString "not") = False := eq_false (by decide)
@[simp] theorem w_and_or : (Str.ofString "and" = Str.ofString "or") = False := eq_false (by decide)
@[simp] theorem w_and_all : (Str.ofString "and" = Str.ofString "all") = False := eq_false (by decide)
@[simp] theorem w_and_some : (Str.ofString "and" = Str.ofString "some") = False := eq_false (by decide)
@[simp] theorem w_or_name : (Str.ofString "or" = Str.ofString "name") = False := eq_false (by decide)
@[simp] theorem w_or_not : (Str.ofString "or" = Str.ofString "not") = False := eq_false (by decide)
@[simp] theorem w_or_and : (Str.ofString "or" = Str.ofString "and") = False := eq_false (by decide)
@[simp] theorem w_or_all : (Str.ofString "or" = Str.ofString "all") = False := eq_false (by decide)
@[simp] theorem w_or_some : (Str.ofString "or" = Str.ofString "some") = False := eq_false (by decide)
@[simp] theorem w_all_name : (Str.ofString "all" = Str.ofString "name") = False := eq_false (by decide)
@[simp] theorem w_all_not : (Str.ofString "all" = Str.ofString "not") = False := eq_false (by decide)
@[simp] theorem w_all_and : (Str.ofString "all" = Str.ofString "and") = False := eq_false (by decide)
@[simp] theorem w_all_or : (Str.ofString "all" = Str.ofString "or") = False := eq_false (by decide)
@[simp] theorem w_all_some : (Str.ofString "all" = Str.ofString "some") = False := eq_false (by decide)
@[simp] theorem w_some_name : (Str.ofString "some" = Str.ofString "name") = False := eq_false (by decide)
@[simp] theorem w_some_not : (Str.ofString "some" = Str.ofString "not") = False := eq_false (by decide)
@[simp] theorem w_some_and : (Str.ofString "some" = Str.ofString "and") = False := eq_false (by decide)
@[simp] theorem w_some_or : (Str.ofString "some" = Str.ofString "or") = False := eq_false (by decide)
@[simp] theorem w_some_all : (Str.ofString "some" = Str.ofString "all") = False := eq_false (by decide)
section
variable {x : Str} {a b : Say} {c : Bool} {k : Nat}
@[simp] theorem nm_0 : ixD (dS (.nm x)) (.int 0) = some (.str "name") := by rw [dS, ixD_tup, atI_zero]
@[simp] theorem nm_1 : ixD (dS (.nm x)) (.int 1) = some (.str x) := by rw [dS, ixD_tup, atI_one]
@[simp] theorem neg_0 : ixD (dS (.neg a)) (.int 0) = some (.str "not") := by rw [dS, ixD_tup, atI_zero]
@[simp] theorem neg_1 : ixD (dS (.neg a)) (.int 1) = some (dS a) := by rw [dS, ixD_tup, atI_one]
@[simp] theorem two_0 : ixD (dS (.two c a b)) (.int 0) = some (.str (hd2 c)) := by rw [dS, ixD_tup, atI_zero]
@[simp] theorem two_1 : ixD (dS (.two c a b)) (.int 1) = some (dS a) := by rw [dS, ixD_tup, atI_one]
@[simp] theorem way_0 : ixD (dS (.way c k a)) (.int 0) = some (.str (hdw c)) := by rw [dS, ixD_tup, atI_zero]
@[simp] theorem way_1 : ixD (dS (.way c k a)) (.int 1) = some (.int (k : Int)) := by rw [dS, ixD_tup, atI_one]
end
end Wl
namespace Lw
open PySem PySem.Spec PyProof.Rows L2 Wy Wl
end Lw

namespace Wl
open PySem PySem.Spec PyProof.Rows L2 Wy
theorem turns_keep {g : D → Ga → Option Ga} {T : Ga → RS} (P : Ga → Prop) (ds : List D) (Γ : Ga) (h : ∀ d Γ, d ∈ ds → P Γ → ∃ Γ1 Γ', g d Γ = some Γ1 ∧ (T Γ1 = .nx Γ' ∨ T Γ1 = .ct Γ') ∧ P Γ') (h0 : P Γ) : ∃ Γ', sTurns g T ds Γ = .nx Γ' ∧ P Γ' :=
  turns_st (fun (_ : Unit) Γ => P Γ) (fun _ _ => ()) ds () Γ (fun _ d Γ hd hp => h d Γ hd hp) h0
end Wl


namespace Wl
open PySem PySem.Spec PyProof.Rows L2 Wy
end Wl


namespace Wl
open PySem PySem.Spec PyProof.Rows L2 Wy
theorem str_ext {a b : Str} (h : a.cps.toList = b.cps.toList) : a = b := by
  cases a with
  | mk x =>
    cases b with
    | mk y =>
      congr 1
      exact Array.toList_inj.mp h
theorem cps_app (a b : Str) : (a ++ b).cps.toList = a.cps.toList ++ b.cps.toList := by
  show (a.cps ++ b.cps).toList = _
  simp
def gl : List (List Nat) → List Nat
  | [] => []
  | [x] => x
  | x :: y :: r => x ++ 32 :: gl (y :: r)
abbrev blank : Str := " "
theorem blank_cps : blank.cps.toList = [32] := by decide
theorem join_gl : ∀ ws : List Str, (Txt.join blank ws).cps.toList = gl (ws.map fun w => w.cps.toList) := by
  intro ws
  rw [show Txt.join blank ws = blank.join ws from StrLaws.glued_eq_join _ _]
  induction ws with
  | nil => rfl
  | cons w ws ih =>
    cases ws with
    | nil => rw [join_one]; rfl
    | cons v r =>
      rw [join_cons_cons, cps_app, cps_app, ih, blank_cps]
      simp [gl]
theorem sep_inj : ∀ {a b x y : List Nat}, 32 ∉ a → 32 ∉ b → a ++ 32 :: x = b ++ 32 :: y → a = b ∧ x = y
  | [], [], x, y, _, _, h => by simpa using h
  | [], b :: bs, x, y, _, hb, h => by
    simp only [List.nil_append, List.cons_append, List.cons.injEq] at h
    exact absurd (by rw [h.1]; exact List.mem_cons_self) hb
  | a :: as, [], x, y, ha, _, h => by
    simp only [List.nil_append, List.cons_append, List.cons.injEq] at h
    exact absurd (by rw [h.1]; exact List.mem_cons_self) ha
  | a :: as, b :: bs, x, y, ha, hb, h => by
    simp only [List.cons_append, List.cons.injEq] at h
    obtain ⟨e1, e2⟩ := sep_inj (fun q => ha (List.mem_cons_of_mem _ q)) (fun q => hb (List.mem_cons_of_mem _ q)) h.2
    exact ⟨by rw [h.1, e1], e2⟩
theorem gl_inj : ∀ {ws vs : List (List Nat)}, ws ≠ [] → vs ≠ [] → (∀ w ∈ ws, 32 ∉ w) → (∀ v ∈ vs, 32 ∉ v) → gl ws = gl vs → ws = vs
  | [], _, h, _, _, _, _ => absurd rfl h
  | _ :: _, [], _, h, _, _, _ => absurd rfl h
  | [w], [v], _, _, _, _, h => by simpa [gl] using h
  | [w], v :: v2 :: r, _, _, hw, _, h => by
    simp only [gl] at h
    exact absurd (by rw [h]; simp) (hw w List.mem_cons_self)
  | w :: w2 :: r, [v], _, _, _, hv, h => by
    simp only [gl] at h
    exact absurd (by rw [← h]; simp) (hv v List.mem_cons_self)
  | w :: w2 :: r, v :: v2 :: q, _, _, hw, hv, h => by
    simp only [gl] at h
    obtain ⟨e1, e2⟩ := sep_inj (hw w List.mem_cons_self) (hv v List.mem_cons_self) h
    rw [e1, gl_inj (List.cons_ne_nil _ _) (List.cons_ne_nil _ _) (fun x hx => hw x (List.mem_cons_of_mem _ hx)) (fun x hx => hv x (List.mem_cons_of_mem _ hx)) e2]
theorem split_join {ws : List Str} (h0 : ws ≠ []) (hf : ∀ w ∈ ws, 32 ∉ w.cps.toList) : Txt.split (Txt.join blank ws) blank = ws := by
  have hb : blank = { cps := #[32] } := str_ext blank_cps
  have e := StrLaws.join_split (Txt.join blank ws) blank
  have e' : gl ((Txt.split (Txt.join blank ws) blank).map fun w => w.cps.toList) = gl (ws.map fun w => w.cps.toList) := by
    rw [← join_gl, ← join_gl]
    rw [show Txt.join blank (Txt.split (Txt.join blank ws) blank) = blank.join (Txt.split (Txt.join blank ws) blank) from StrLaws.glued_eq_join _ _, e]
  have hne : Txt.split (Txt.join blank ws) blank ≠ [] := fun z => by
    have := split_pos (Txt.join blank ws) blank
    rw [z] at this
    simp at this
  have := gl_inj (by simpa using hne) (by simpa using h0) (fun w hw => by
    obtain ⟨p, hp, rfl⟩ := List.mem_map.mp hw
    exact StrLaws.split_free (Txt.join blank ws) 32 p (by rw [← hb]; exact hp)) (fun w hw => by
    obtain ⟨p, hp, rfl⟩ := List.mem_map.mp hw
    exact hf p hp) e'
  exact (List.map_inj_right fun a b h => str_ext h).mp this
theorem join_split (x : Str) : Txt.join blank (Txt.split x blank) = x := by
  rw [show Txt.join blank (Txt.split x blank) = blank.join (Txt.split x blank) from StrLaws.glued_eq_join _ _]
  exact StrLaws.join_split x blank
def kt (k : Nat) : Str := Str.ofString (toString (k : Int))
def words : Say → List Str
  | .nm x => [x]
  | .neg a => "not" :: words a
  | .two c a b => hd2 c :: (words a ++ words b)
  | .way c k a => hdw c :: kt k :: words a
def txt : Say → Str
  | .nm x => x
  | .neg a => "not " ++ txt a
  | .two c a b => hd2 c ++ " " ++ txt a ++ " " ++ txt b
  | .way c k a => hdw c ++ " " ++ kt k ++ " " ++ txt a
theorem words_ne : ∀ s, words s ≠ []
  | .nm x => by simp [words]
  | .neg a => by simp [words]
  | .two c a b => by simp [words]
  | .way c k a => by simp [words]
theorem gl_cons {x : List Nat} {r : List (List Nat)} (h : r ≠ []) : gl (x :: r) = x ++ 32 :: gl r := by
  cases r with
  | nil => exact absurd rfl h
  | cons y r => rfl
theorem gl_app : ∀ {xs ys : List (List Nat)}, xs ≠ [] → ys ≠ [] → gl (xs ++ ys) = gl xs ++ 32 :: gl ys
  | [], _, h, _ => absurd rfl h
  | [x], ys, _, h => by rw [List.singleton_append, gl_cons h]; rfl
  | x :: y :: r, ys, _, h => by
    rw [List.cons_append, gl_cons (by simp), gl_app (xs := y :: r) (List.cons_ne_nil _ _) h]
    simp [gl]
theorem txt_gl : ∀ s, (txt s).cps.toList = gl ((words s).map fun w => w.cps.toList)
  | .nm x => by simp [txt, words, gl]
  | .neg a => by
    have h : ((words a).map fun w => w.cps.toList) ≠ [] := by simpa using words_ne a
    rw [txt, words, cps_app, txt_gl a, List.map_cons, gl_cons h]
    rw [show ("not " : Str).cps.toList = ("not" : Str).cps.toList ++ [32] by decide]
    simp
  | .two c a b => by
    have h1 : ((words a).map fun w => w.cps.toList) ≠ [] := by simpa using words_ne a
    have h2 : ((words b).map fun w => w.cps.toList) ≠ [] := by simpa using words_ne b
    rw [txt, words, cps_app, cps_app, cps_app, cps_app, txt_gl a, txt_gl b, List.map_cons, List.map_append, gl_cons (by simp [h1]), gl_app h1 h2]
    rw [show (Str.ofString " ").cps.toList = [32] from blank_cps]
    simp
  | .way c k a => by
    have h1 : ((words a).map fun w => w.cps.toList) ≠ [] := by simpa using words_ne a
    rw [txt, words, cps_app, cps_app, cps_app, cps_app, txt_gl a, List.map_cons, List.map_cons, gl_cons (by simp), gl_cons h1]
    rw [show (Str.ofString " ").cps.toList = [32] from blank_cps]
    simp
theorem join_words (s : Say) : Txt.join blank (words s) = txt s := str_ext (by rw [join_gl, txt_gl])
theorem kt_lt {k : Nat} (h : k < 3) : kt k = (["0", "1", "2"] : List Str).getD k "" := by
  match k, h with
  | 0, _ => decide
  | 1, _ => decide
  | 2, _ => decide
theorem txt_len : ∀ s, okS s = true → (txt s).length + 8 ≤ 16 * 2 ^ depS s
  | .nm x, h => by
    rw [okS, decide_eq_true_iff] at h
    simp only [List.mem_cons, List.not_mem_nil, or_false] at h
    rcases h with rfl | rfl | rfl <;> decide
  | .neg a, h => by
    rw [okS] at h
    have ih := txt_len a h
    rw [txt, Str.length_append, depS, Nat.pow_succ, show ("not " : Str).length = 4 by decide]
    omega
  | .two c a b, h => by
    rw [okS, Bool.and_eq_true] at h
    have h1 := txt_len a h.1
    have h2 := txt_len b h.2
    have p1 : 2 ^ depS a ≤ 2 ^ max (depS a) (depS b) := Nat.pow_le_pow_right (by decide) (Nat.le_max_left _ _)
    have p2 : 2 ^ depS b ≤ 2 ^ max (depS a) (depS b) := Nat.pow_le_pow_right (by decide) (Nat.le_max_right _ _)
    have hc : (hd2 c).length ≤ 3 := by cases c <;> decide
    rw [txt, Str.length_append, Str.length_append, Str.length_append, Str.length_append, depS, Nat.pow_succ, show (Str.ofString " ").length = 1 by decide]
    omega
  | .way c k a, h => by
    rw [okS, Bool.and_eq_true, decide_eq_true_iff] at h
    have h1 := txt_len a h.2
    have hc : (hdw c).length ≤ 4 := by cases c <;> decide
    have hk : (kt k).length = 1 := by
      rw [kt_lt h.1]
      match k, h.1 with
      | 0, _ => decide
      | 1, _ => decide
      | 2, _ => decide
    rw [txt, Str.length_append, Str.length_append, Str.length_append, Str.length_append, depS, Nat.pow_succ, show (Str.ofString " ").length = 1 by decide, hk]
    omega
end Wl


namespace Wl
open PySem PySem.Spec PyProof.Rows L2 Wy
def kept : List Str := ["not", "and", "or", "all", "some"]
def isNm (x : Str) : Bool := decide (1 ≤ x.length) && decide (x.length ≤ 4) && x.cps.toList.all (fun c => decide (97 ≤ c) && decide (c ≤ 122)) && decide (x ∉ kept)
def okG : Say → Bool
  | .nm x => isNm x
  | .neg a => okG a
  | .two _ a b => okG a && okG b
  | .way _ k a => decide (k < 3) && okG a
theorem okS_okG : ∀ s, okS s = true → okG s = true
  | .nm x, h => by
    rw [okS, decide_eq_true_iff] at h
    simp only [List.mem_cons, List.not_mem_nil, or_false] at h
    rcases h with rfl | rfl | rfl <;> decide
  | .neg a, h => okS_okG a h
  | .two _ a b, h => by
    rw [okS, Bool.and_eq_true] at h
    rw [okG, okS_okG a h.1, okS_okG b h.2]
    rfl
  | .way _ k a, h => by
    rw [okS, Bool.and_eq_true] at h
    rw [okG, h.1, okS_okG a h.2]
    rfl
theorem isNm_free {x : Str} (h : isNm x = true) : 32 ∉ x.cps.toList := fun hm => by
  unfold isNm at h
  simp only [Bool.and_eq_true] at h
  have := List.all_eq_true.mp h.1.2 32 hm
  simp at this
theorem isNm_kept {x : Str} (h : isNm x = true) : x ∉ kept := by
  unfold isNm at h
  simp only [Bool.and_eq_true, decide_eq_true_iff] at h
  exact h.2
theorem hd2_kept (c : Bool) : hd2 c ∈ kept := by cases c <;> decide
theorem hdw_kept (c : Bool) : hdw c ∈ kept := by cases c <;> decide
theorem not_kept : ("not" : Str) ∈ kept := by decide
theorem kt_cases {k : Nat} (h : k < 3) : kt k = "0" ∨ kt k = "1" ∨ kt k = "2" := by
  rw [kt_lt h]
  match k, h with
  | 0, _ => exact .inl rfl
  | 1, _ => exact .inr (.inl rfl)
  | 2, _ => exact .inr (.inr rfl)
theorem kt_inj {k j : Nat} (h : k < 3) (h' : j < 3) (e : kt k = kt j) : k = j := by
  rw [kt_lt h, kt_lt h'] at e
  match k, h, j, h' with
  | 0, _, 0, _ => rfl
  | 1, _, 1, _ => rfl
  | 2, _, 2, _ => rfl
  | 0, _, 1, _ => exact absurd e (by decide)
  | 0, _, 2, _ => exact absurd e (by decide)
  | 1, _, 0, _ => exact absurd e (by decide)
  | 1, _, 2, _ => exact absurd e (by decide)
  | 2, _, 0, _ => exact absurd e (by decide)
  | 2, _, 1, _ => exact absurd e (by decide)
theorem kt_free {k : Nat} (h : k < 3) : 32 ∉ (kt k).cps.toList := by
  rcases kt_cases h with e | e | e <;> rw [e] <;> decide
theorem hd2_inj {c d : Bool} (e : hd2 c = hd2 d) : c = d := by
  cases c <;> cases d <;> first | rfl | exact absurd e (by decide)
theorem hdw_inj {c d : Bool} (e : hdw c = hdw d) : c = d := by
  cases c <;> cases d <;> first | rfl | exact absurd e (by decide)
theorem hd2_hdw (c d : Bool) : hd2 c ≠ hdw d := by cases c <;> cases d <;> decide
theorem hd2_nt (c : Bool) : hd2 c ≠ "not" := by cases c <;> decide
theorem hdw_nt (c : Bool) : hdw c ≠ "not" := by cases c <;> decide
theorem words_uniq : ∀ (s t : Say) {r q : List Str}, okG s = true → okG t = true → words s ++ r = words t ++ q → s = t ∧ r = q
  | .nm x, .nm y, r, q, _, _, e => by
    simp only [words, List.cons_append, List.nil_append, List.cons.injEq] at e
    exact ⟨by rw [e.1], e.2⟩
  | .nm x, .neg b, r, q, h, _, e => by
    simp only [words, List.cons_append, List.nil_append, List.cons.injEq] at e
    exact absurd (e.1 ▸ not_kept) (isNm_kept h)
  | .nm x, .two c b b', r, q, h, _, e => by
    simp only [words, List.cons_append, List.nil_append, List.cons.injEq] at e
    exact absurd (e.1 ▸ hd2_kept c) (isNm_kept h)
  | .nm x, .way c k b, r, q, h, _, e => by
    simp only [words, List.cons_append, List.nil_append, List.cons.injEq] at e
    exact absurd (e.1 ▸ hdw_kept c) (isNm_kept h)
  | .neg a, .nm x, r, q, _, h, e => by
    simp only [words, List.cons_append, List.nil_append, List.cons.injEq] at e
    exact absurd (e.1.symm ▸ not_kept) (isNm_kept h)
  | .neg a, .neg b, r, q, h, h', e => by
    simp only [words, List.cons_append, List.cons.injEq, true_and] at e
    obtain ⟨e1, e2⟩ := words_uniq a b h h' e
    exact ⟨by rw [e1], e2⟩
  | .neg a, .two c b b', r, q, _, _, e => by
    simp only [words, List.cons_append, List.cons.injEq] at e
    exact absurd e.1.symm (hd2_nt c)
  | .neg a, .way c k b, r, q, _, _, e => by
    simp only [words, List.cons_append, List.cons.injEq] at e
    exact absurd e.1.symm (hdw_nt c)
  | .two c a a', .nm x, r, q, _, h, e => by
    simp only [words, List.cons_append, List.nil_append, List.cons.injEq] at e
    exact absurd (e.1.symm ▸ hd2_kept c) (isNm_kept h)
  | .two c a a', .neg b, r, q, _, _, e => by
    simp only [words, List.cons_append, List.cons.injEq] at e
    exact absurd e.1 (hd2_nt c)
  | .two c a a', .two d b b', r, q, h, h', e => by
    simp only [okG, Bool.and_eq_true] at h h'
    simp only [words, List.cons_append, List.cons.injEq, List.append_assoc] at e
    obtain ⟨e1, e2⟩ := words_uniq a b h.1 h'.1 e.2
    obtain ⟨e3, e4⟩ := words_uniq a' b' h.2 h'.2 e2
    exact ⟨by rw [e1, e3, hd2_inj e.1], e4⟩
  | .two c a a', .way d k b, r, q, _, _, e => by
    simp only [words, List.cons_append, List.cons.injEq] at e
    exact absurd e.1 (hd2_hdw c d)
  | .way c k a, .nm x, r, q, _, h, e => by
    simp only [words, List.cons_append, List.nil_append, List.cons.injEq] at e
    exact absurd (e.1.symm ▸ hdw_kept c) (isNm_kept h)
  | .way c k a, .neg b, r, q, _, _, e => by
    simp only [words, List.cons_append, List.cons.injEq] at e
    exact absurd e.1 (hdw_nt c)
  | .way c k a, .two d b b', r, q, _, _, e => by
    simp only [words, List.cons_append, List.cons.injEq] at e
    exact absurd e.1.symm (hd2_hdw d c)
  | .way c k a, .way d j b, r, q, h, h', e => by
    simp only [okG, Bool.and_eq_true, decide_eq_true_iff] at h h'
    simp only [words, List.cons_append, List.cons.injEq] at e
    obtain ⟨e1, e2⟩ := words_uniq a b h.2 h'.2 e.2.2
    exact ⟨by rw [e1, hdw_inj e.1, kt_inj h.1 h'.1 e.2.1], e2⟩
theorem wordsG_free : ∀ s, okG s = true → ∀ w ∈ words s, 32 ∉ w.cps.toList
  | .nm x, h, w, hw => by
    rw [words, List.mem_singleton] at hw
    subst hw
    exact isNm_free h
  | .neg a, h, w, hw => by
    rw [words, List.mem_cons] at hw
    rcases hw with rfl | hw
    · decide
    · exact wordsG_free a h w hw
  | .two c a b, h, w, hw => by
    rw [okG, Bool.and_eq_true] at h
    rw [words, List.mem_cons, List.mem_append] at hw
    rcases hw with rfl | hw | hw
    · cases c <;> decide
    · exact wordsG_free a h.1 w hw
    · exact wordsG_free b h.2 w hw
  | .way c k a, h, w, hw => by
    rw [okG, Bool.and_eq_true, decide_eq_true_iff] at h
    rw [words, List.mem_cons, List.mem_cons] at hw
    rcases hw with rfl | rfl | hw
    · cases c <;> decide
    · exact kt_free h.1
    · exact wordsG_free a h.2 w hw
theorem splitG {s : Say} (h : okG s = true) : Txt.split (txt s) blank = words s := by
  rw [← join_words]
  exact split_join (words_ne s) (wordsG_free s h)
theorem no_text {ws : List Str} {t : Say} (h : okG t = true) (h0 : ws ≠ []) (hf : ∀ w ∈ ws, 32 ∉ w.cps.toList) (e : txt t = Txt.join blank ws) : words t = ws := by
  rw [← splitG h, e, split_join h0 hf]
theorem head_ne {s : Say} (h : okG s = true) {w : Str} {r : List Str} (e : words s = w :: r) : w ∈ kept ∨ isNm w = true := by
  cases s with
  | nm x => simp only [words, List.cons.injEq] at e; rw [← e.1]; exact .inr h
  | neg a => simp only [words, List.cons.injEq] at e; rw [← e.1]; exact .inl not_kept
  | two c a b => simp only [words, List.cons.injEq] at e; rw [← e.1]; exact .inl (hd2_kept c)
  | way c k a => simp only [words, List.cons.injEq] at e; rw [← e.1]; exact .inl (hdw_kept c)
theorem no_more {s t : Say} (hs : okG s = true) (ht : okG t = true) {r : List Str} (hr : r ≠ []) : words t ≠ words s ++ r := fun e => by
  have := words_uniq t s (r := []) (q := r) ht hs (by rw [List.append_nil]; exact e)
  exact hr this.2.symm
theorem no_not {t : Say} (ht : okG t = true) : words t ≠ [(Str.ofString "not")] := fun e => by
  cases t with
  | nm x => simp only [words, List.cons.injEq, and_true] at e; exact isNm_kept ht (e ▸ not_kept)
  | neg a => simp only [words, List.cons.injEq, true_and] at e; exact words_ne a e
  | two c a b => simp only [words, List.cons.injEq] at e; exact hd2_nt c e.1
  | way c k a => simp [words] at e
theorem no_empty {t : Say} (ht : okG t = true) {r : List Str} : words t ≠ (Str.ofString "") :: r := fun e => by
  rcases head_ne ht e with h | h
  · revert h; decide
  · revert h; decide
theorem no_and {s t : Say} (hs : okG s = true) (ht : okG t = true) : words t ≠ (Str.ofString "and") :: words s := fun e => by
  cases t with
  | nm x => simp only [words, List.cons.injEq] at e; exact absurd (e.1 ▸ (by decide : ("and" : Str) ∈ kept)) (isNm_kept ht)
  | neg a => simp only [words, List.cons.injEq] at e; exact absurd e.1 (by decide)
  | two c a b =>
    simp only [words, List.cons.injEq] at e
    simp only [okG, Bool.and_eq_true] at ht
    have := words_uniq a s (r := words b) (q := []) ht.1 hs (by rw [List.append_nil]; exact e.2)
    exact words_ne b this.2
  | way c k a => simp only [words, List.cons.injEq] at e; cases c <;> exact absurd e.1 (by decide)
theorem no_all {s t : Say} (hs : okG s = true) (ht : okG t = true) : words t ≠ (Str.ofString "all") :: words s := fun e => by
  cases t with
  | nm x => simp only [words, List.cons.injEq] at e; exact absurd (e.1 ▸ (by decide : ("all" : Str) ∈ kept)) (isNm_kept ht)
  | neg a => simp only [words, List.cons.injEq] at e; exact absurd e.1 (by decide)
  | two c a b => simp only [words, List.cons.injEq] at e; cases c <;> exact absurd e.1 (by decide)
  | way c k a =>
    simp only [words, List.cons.injEq] at e
    simp only [okG, Bool.and_eq_true, decide_eq_true_iff] at ht
    rcases head_ne hs e.2.symm with h | h <;> rcases kt_cases ht.1 with z | z | z <;> rw [z] at h <;> revert h <;> decide
end Wl


namespace Wl
open PySem PySem.Spec PyProof.Rows L2 Wy
def asc (x : Str) : Prop := ∀ c ∈ x.cps.toList, c < 128
instance ascDec (x : Str) : Decidable (asc x) := by unfold asc; infer_instance
theorem asc_app {x y : Str} (hx : asc x) (hy : asc y) : asc (x ++ y) := fun c hc => by
  rw [cps_app] at hc
  rcases List.mem_append.mp hc with h | h
  · exact hx c h
  · exact hy c h
theorem gl_mem : ∀ {l : List (List Nat)} {c : Nat}, c ∈ gl l → c = 32 ∨ ∃ w ∈ l, c ∈ w
  | [], c, h => by cases h
  | [x], c, h => .inr ⟨x, List.mem_cons_self, h⟩
  | x :: y :: r, c, h => by
    simp only [gl, List.mem_append, List.mem_cons] at h
    rcases h with h | h | h
    · exact .inr ⟨x, List.mem_cons_self, h⟩
    · exact .inl h
    · rcases gl_mem h with h | ⟨w, hw, h⟩
      · exact .inl h
      · exact .inr ⟨w, List.mem_cons_of_mem _ hw, h⟩
theorem mem_gl : ∀ {l : List (List Nat)} {c : Nat} {w : List Nat}, w ∈ l → c ∈ w → c ∈ gl l
  | [], c, w, h, _ => by cases h
  | [x], c, w, h, hc => by rw [List.mem_singleton] at h; subst h; exact hc
  | x :: y :: r, c, w, h, hc => by
    simp only [gl, List.mem_append, List.mem_cons]
    rcases List.mem_cons.mp h with rfl | h
    · exact .inl hc
    · exact .inr (.inr (mem_gl h hc))
theorem asc_join {ws : List Str} (h : ∀ w ∈ ws, asc w) : asc (Txt.join blank ws) := fun c hc => by
  rw [join_gl] at hc
  rcases gl_mem hc with rfl | ⟨w, hw, hc⟩
  · decide
  · obtain ⟨v, hv, rfl⟩ := List.mem_map.mp hw
    exact h v hv c hc
theorem asc_split {x : Str} (hx : asc x) : ∀ w ∈ Txt.split x blank, asc w := fun w hw c hc => by
  refine hx c ?_
  rw [← Wl.join_split x, join_gl]
  exact mem_gl (List.mem_map.mpr ⟨w, hw, rfl⟩) hc
theorem asc_slice {x : Str} (hx : asc x) (l h : Option Int) : asc (Txt.slice x l h) := fun c hc => by
  unfold Txt.slice at hc
  split at hc
  · exact hx c hc
  · simp only [List.mem_filterMap] at hc
    obtain ⟨i, _, e⟩ := hc
    exact hx c (by simpa using Array.mem_of_getElem? e)
theorem asc_txt {s : Say} (h : okS s = true) : asc (txt s) := by
  rw [← join_words]
  exact asc_join (go s h)
where
  go : ∀ s, okS s = true → ∀ w ∈ words s, asc w
  | .nm x, h, w, hw => by
    rw [words, List.mem_singleton] at hw
    subst hw
    rw [okS, decide_eq_true_iff] at h
    simp only [List.mem_cons, List.not_mem_nil, or_false] at h
    rcases h with rfl | rfl | rfl <;> decide
  | .neg a, h, w, hw => by
    rw [okS] at h
    rw [words, List.mem_cons] at hw
    rcases hw with rfl | hw
    · decide
    · exact go a h w hw
  | .two c a b, h, w, hw => by
    rw [okS, Bool.and_eq_true] at h
    rw [words, List.mem_cons, List.mem_append] at hw
    rcases hw with rfl | hw | hw
    · cases c <;> decide
    · exact go a h.1 w hw
    · exact go b h.2 w hw
  | .way c k a, h, w, hw => by
    rw [okS, Bool.and_eq_true, decide_eq_true_iff] at h
    rw [words, List.mem_cons, List.mem_cons] at hw
    rcases hw with rfl | rfl | hw
    · cases c <;> decide
    · rcases kt_cases h.1 with e | e | e <;> rw [e] <;> decide
    · exact go a h.2 w hw
def W (ws : List Str) : Nat := (ws.map (·.length)).sum + ws.length
theorem W_app (a b : List Str) : W (a ++ b) = W a + W b := by
  unfold W
  rw [List.map_append, List.sum_append, List.length_append]
  omega
theorem W_sub {a b : List Str} (h : a.Sublist b) : W a ≤ W b := by
  induction h with
  | slnil => exact Nat.le_refl _
  | cons x h ih => unfold W at *; simp only [List.map_cons, List.sum_cons, List.length_cons]; omega
  | cons_cons x h ih => unfold W at *; simp only [List.map_cons, List.sum_cons, List.length_cons]; omega
theorem cut_sub (a : List Str) (l h : Option Int) : (cut a l h).Sublist a := by
  unfold cut
  exact (List.take_sublist _ _).trans (List.drop_sublist _ _)
theorem cut_map {α β : Type} (f : α → β) (a : List α) (l h : Option Int) : cut (a.map f) l h = (cut a l h).map f := by
  unfold cut
  rw [List.length_map, List.map_take, List.map_drop]
theorem gl_len : ∀ {l : List (List Nat)}, l ≠ [] → (gl l).length + 1 = (l.map List.length).sum + l.length
  | [], h => absurd rfl h
  | [x], _ => by simp [gl]
  | x :: y :: r, _ => by
    have ih := gl_len (l := y :: r) (List.cons_ne_nil _ _)
    simp only [gl, List.length_append, List.length_cons, List.map_cons, List.sum_cons] at ih ⊢
    omega
theorem W_gl (ws : List Str) : ((ws.map fun w => w.cps.toList).map List.length).sum + (ws.map fun w => w.cps.toList).length = W ws := by
  unfold W
  rw [List.map_map, List.length_map]
  rfl
theorem join_len {ws : List Str} (h : ws ≠ []) : (Txt.join blank ws).length + 1 = W ws := by
  rw [← W_gl, ← gl_len (by simpa using h), ← join_gl]
  rfl
theorem join_le (ws : List Str) : (Txt.join blank ws).length ≤ W ws := by
  cases ws with
  | nil => exact Nat.zero_le _
  | cons w r => have := join_len (List.cons_ne_nil w r); omega
theorem split_ne (x : Str) : Txt.split x blank ≠ [] := fun z => by
  have := split_pos x blank
  rw [z] at this
  simp at this
theorem split_W (x : Str) : W (Txt.split x blank) = x.length + 1 := by
  have := join_len (split_ne x)
  rw [Wl.join_split] at this
  exact this.symm
theorem joinS_of {ws : List Str} (h : W ws ≤ 100000) : joinS blank (false, ws.map D.str) = some (.str (Txt.join blank ws)) := joinS_eq (by unfold W at h; omega) (by decide)
theorem len_W (ws : List Str) : ws.length ≤ W ws := by unfold W; omega
theorem catS_of {a b : List Str} (h : W a + W b ≤ 100000) : catS (false, a.map D.str) (false, b.map D.str) = some ((a ++ b).map D.str) := by
  have := len_W a
  have := len_W b
  rw [catS_eq (by rw [List.length_map, List.length_map]; omega), List.map_append]
end Wl


namespace L04
open PySem PySem.Spec PyProof.Rows L2 Wy Wl Lw
def t_YardError : Str → Option Bool := fun c => if c ∈ (["YardError", "NoSaying", "NoText"] : List Str) then some true else none
def t_NoSaying : Str → Option Bool := fun c => if c ∈ (["NoSaying"] : List Str) then some true else none
def y_NoText : Str → Bool := fun c => decide (c ∈ (["NoText"] : List Str))
def y_ValueError : Str → Bool := fun c => decide (c ∈ (["YardError", "NoSaying", "NoText"] : List Str))
abbrev N__law_spoilt : List Str := ["_law_text", "_law_way", "_law_place", "_law_cell_here", "_law_words", "_law_at", "_law_menu"]
def B__law_spoilt : Ga → RS := (sSeq (sSetO 4 (oSplit (eV 0) (eC (.str " ")))) (sSeq (sSet 5 (e2 (int2 modI) (eV 2) (eS lenS (sV 4)))) (sSeq (sSet 6 (eO (aCons (eC (.str "")) (aCons (eC (.str "not")) (aCons (eC (.str "and")) (aCons (eC (.str "all")) (aCons (eC (.str "3")) (aCons (eC (.str "0")) (aCons (eC (.str "a")) (aCons (eC (.str "A")) (aCons (eC (.str "abcde")) (aCons (eC (.str "some")) (aCons (eC (.str "-1")) aNil))))))))))))) (sSeq (sIf (tB (e2 eqD (eV 1) (eC (.int 0)))) (sRet (eJoin (eC (.str " ")) (sO (oCat (sO (oCat (sO (oSl (sV 4) oN (oI (eV 5)))) (sO (aCons (e2 ixD (eV 6) (e2 (int2 modI) (eV 3) (eC (.int 11)))) aNil)))) (sO (oSl (sV 4) (oI (eV 5)) oN)))))) sNext) (sSeq (sIf (tB (e2 eqD (eV 1) (eC (.int 1)))) (sRet (eJoin (eC (.str " ")) (sO (oCat (sO (oSl (sV 4) oN (oI (eV 5)))) (sO (oSl (sV 4) (oI (e2 addD (eV 5) (eC (.int 1)))) oN)))))) sNext) (sSeq (sIf (tB (e2 eqD (eV 1) (eC (.int 2)))) (sRet (eJoin (eC (.str " ")) (sO (oCat (sO (oCat (sO (oSl (sV 4) oN (oI (eV 5)))) (sO (aCons (e2 ixD (eV 6) (e2 (int2 modI) (eV 3) (eC (.int 11)))) aNil)))) (sO (oSl (sV 4) (oI (e2 addD (eV 5) (eC (.int 1)))) oN)))))) sNext) (sSeq (sSet 5 (e2 (int2 modI) (eV 2) (e2 addD (eB lenD (aCons (eV 0) aNil)) (eC (.int 1))))) (sSeq (sIf (tB (e2 eqD (eV 1) (eC (.int 3)))) (sRet (e2 addD (eSlA (eV 0) oN (oI (eV 5))) (eSlA (eV 0) (oI (e2 addD (eV 5) (eC (.int 1)))) oN))) sNext) (sSeq (sIf (tB (e2 eqD (eV 1) (eC (.int 4)))) (sRet (e2 addD (e2 addD (eSlA (eV 0) oN (oI (eV 5))) (eSlA (eV 0) (oI (eV 5)) (oI (e2 addD (eV 5) (eC (.int 1)))))) (eSlA (eV 0) (oI (eV 5)) oN))) sNext) (sRet (e2 addD (e2 addD (eSlA (eV 0) oN (oI (eV 5))) (e2 ixD (eC (.str "a Z0n3")) (e2 (int2 modI) (eV 3) (eC (.int 6))))) (eSlA (eV 0) (oI (e2 addD (eV 5) (eC (.int 1)))) oN))))))))))))
def M__law_spoilt : List D → R D := fun ds => callR N__law_spoilt (B__law_spoilt) ds
abbrev N__law_read : List Str := ["_law_text", "_law_told", "e"]
def L__law_read_1 (M_read : List D → R D) : Ga → RS := (sSet 1 (eCall M_read (aCons (eV 0) aNil)))
def L__law_read_2 : Ga → RS := (sIf (tAndR (tTru (eIsx 2 y_NoText)) (tTru (eIsx 2 y_ValueError))) (sSet 1 (eC .non)) sNext)
def B__law_read (M_read : List D → R D) : Ga → RS := (sSeq (sSet 1 (eC (.str "none"))) (sSeq (sTry t_YardError (L__law_read_1 M_read) (hNamed 2 (L__law_read_2))) (sRet (eV 1))))
abbrev N__law_unwritten : List Str := ["_law_thing", "_law_told"]
def L__law_unwritten_1 (M_written : List D → R D) : Ga → RS := (sDrop (eCall M_written (aCons (eV 0) aNil)))
def L__law_unwritten_2 : Ga → RS := (sSet 1 (eC (.bl true)))
def B__law_unwritten (M_written : List D → R D) : Ga → RS := (sSeq (sSet 1 (eC (.bl false))) (sSeq (sTry t_NoSaying (L__law_unwritten_1 M_written) (hPlain (L__law_unwritten_2))) (sRet (eV 1))))
abbrev N_law : List Str := ["_law_script", "_law_saying_here", "_law_text", "_law_found", "_law_bad", "_law_other"]
def L_law_1 (M__law_read : List D → R D) : Ga → RS := (sIf (tB (e2 isnotA (eCall M__law_read (aCons (eV 5) aNil)) (eC .non))) (sRet (eC (.bl false))) sNext)
def B_law (M__law_saying : List D → R D) (M__law_cell : List D → R D) (M_written : List D → R D) (M__law_read : List D → R D) (M__law_spoilt : List D → R D) (M__law_unwritten : List D → R D) : Ga → RS := (sSeq (sSet 1 (eCall M__law_saying (aCons (eCall M__law_cell (aCons (eV 0) (aCons (eC (.int 0)) aNil))) (aCons (eC (.int 4)) aNil)))) (sSeq (sSet 2 (eCall M_written (aCons (eV 1) aNil))) (sSeq (sSet 3 (eCall M__law_read (aCons (eCall M__law_spoilt (aCons (eV 2) (aCons (e2 (int2 modI) (eCall M__law_cell (aCons (eV 0) (aCons (eC (.int 1)) aNil))) (eC (.int 6))) (aCons (eCall M__law_cell (aCons (eV 0) (aCons (eC (.int 2)) aNil))) (aCons (eCall M__law_cell (aCons (eV 0) (aCons (eC (.int 3)) aNil))) aNil))))) aNil))) (sSeq (sSet 4 (eCall M__law_spoilt (aCons (eV 2) (aCons (e2 (int2 modI) (eCall M__law_cell (aCons (eV 0) (aCons (eC (.int 1)) aNil))) (eC (.int 6))) (aCons (eCall M__law_cell (aCons (eV 0) (aCons (eC (.int 2)) aNil))) (aCons (eCall M__law_cell (aCons (eV 0) (aCons (eC (.int 3)) aNil))) aNil)))))) (sSeq (sIf (tOrR (tB (e2 eqD (eV 3) (eC (.str "none")))) (tAndR (tB (e2 isnotA (eV 3) (eC .non))) (tB (e2 neD (eCall M_written (aCons (eV 3) aNil)) (eV 4))))) (sRet (eC (.bl false))) sNext) (sSeq (sFor (iL (eO (aCons (e2 addD (eV 2) (eC (.str " a"))) (aCons (eC (.str "not")) (aCons (eC (.str "")) (aCons (e2 addD (eV 2) (eC (.str " "))) (aCons (e2 addD (eC (.str " ")) (eV 2)) (aCons (e2 addD (eC (.str "and ")) (eV 2)) (aCons (e2 addD (eC (.str "all ")) (eV 2)) aNil))))))))) (gName' 5) (L_law_1 M__law_read)) (sRet (eAnd (eCall M__law_unwritten (aCons (eTup (aCons (eC (.str "not")) (aCons (eC .non) aNil))) aNil)) (eCall M__law_unwritten (aCons (eV 2) aNil))))))))))
end L04


namespace L04
open PySem PySem.Spec PyProof.Rows L2 Wy Wl Lw
structure Spec (Mw Mr : List D → R D) : Prop where
  written : ∀ s, okG s = true → (txt s).length ≤ 3000 → Mw [dS s] = .ok (.str (txt s))
  refuses : ∀ x : Str, x.length ≤ 3000 → Mw [.str x] = .ex "NoSaying"
  none : Mw [.tup [.str "not", .non]] = .ex "NoSaying"
  read : ∀ x : Str, x.length ≤ 3000 → asc x → (∃ s, okG s = true ∧ txt s = x ∧ Mr [.str x] = .ok (dS s)) ∨ ((∀ s, okG s = true → txt s ≠ x) ∧ Mr [.str x] = .ex "NoText")
theorem at_menu (c : Int) : ∃ m : Str, m.length ≤ 5 ∧ asc m ∧ atI [D.str "", D.str "not", D.str "and", D.str "all", D.str "3", D.str "0", D.str "a", D.str "A", D.str "abcde", D.str "some", D.str "-1"] (c % 11) = some (.str m) := by
  have h0 := Int.emod_nonneg c (show (11 : Int) ≠ 0 by decide)
  have h1 := Int.emod_lt_of_pos c (show (0 : Int) < 11 by decide)
  obtain ⟨d, hd⟩ := atI_some (l := [D.str "", D.str "not", D.str "and", D.str "all", D.str "3", D.str "0", D.str "a", D.str "A", D.str "abcde", D.str "some", D.str "-1"]) h0 (by simpa using h1)
  have hm := atI_mem hd
  simp only [List.mem_cons, List.not_mem_nil, or_false] at hm
  rcases hm with rfl | rfl | rfl | rfl | rfl | rfl | rfl | rfl | rfl | rfl | rfl <;> exact ⟨_, by decide, by decide, hd⟩
theorem at_sign (c : Int) : ∃ m : Str, m.length = 1 ∧ asc m ∧ ixD (.str "a Z0n3") (.int (c % 6)) = some (.str m) := by
  have h0 := Int.emod_nonneg c (show (6 : Int) ≠ 0 by decide)
  have h1 := Int.emod_lt_of_pos c (show (0 : Int) < 6 by decide)
  obtain ⟨d, hd⟩ := atI_some (l := ("a Z0n3" : Str).cps.toList) h0 (by rw [show ("a Z0n3" : Str).cps.toList.length = 6 by decide]; exact h1)
  have hm := atI_mem hd
  refine ⟨⟨#[d]⟩, rfl, fun c hc => ?_, ?_⟩
  · simp only [List.mem_singleton] at hc
    subst hc
    have : asc "a Z0n3" := by decide
    exact this _ hm
  unfold ixD
  dsimp only
  rw [if_pos (by decide), hd]
  rfl
theorem m_spoilt (x : Str) (way place cell : Int) (hx : x.length ≤ 500) (ha : asc x) (h0 : 0 ≤ way) (h6 : way < 6) : ∃ y : Str, (y.length ≤ 3000 ∧ asc y) ∧ M__law_spoilt [.str x, .int way, .int place, .int cell] = .ok (.str y) := by
  obtain ⟨m, hm, hma, em⟩ := at_menu cell
  obtain ⟨g, hg, hga, eg⟩ := at_sign cell
  have eW := split_W x
  have hne := split_ne x
  have hwa := asc_split ha
  have es : splitD x " " = some ((Txt.split x blank).map D.str) := if_pos ⟨by decide, by omega⟩
  generalize hws : Txt.split x blank = ws at *
  have hlen : (0 : Int) < (ws.length : Int) := by
    have : 0 < ws.length := List.length_pos_iff.mpr hne
    omega
  have hlx : lenD [.str x] = some (.int (x.length : Int)) := by
    unfold lenD
    dsimp only
    first | rfl | (rw [if_pos (by omega)])
  have hp1 : (0 : Int) < (x.length : Int) + 1 := by omega
  have em1 : modI place (ws.length : Int) = some (.int (place % (ws.length : Int))) := modI_pos hlen
  have em2 : modI place ((x.length : Int) + 1) = some (.int (place % ((x.length : Int) + 1))) := modI_pos hp1
  have wc : ∀ l h, W (cut ws l h) ≤ 501 := fun l h => Nat.le_trans (W_sub (cut_sub ws l h)) (by omega)
  have sl : ∀ l h, (Txt.slice x l h).length ≤ 500 := fun l h => Nat.le_trans (Txt.slice_le x l h) hx
  have ss : ∀ l h, slA (.str x) l h = some (.str (Txt.slice x l h)) := fun l h => slA_str (by omega)
  have wm : W [m] ≤ 6 := by unfold W; simp; omega
  have c2 : ∀ l h l' h', catS (false, (cut ws l h).map D.str) (false, (cut ws l' h').map D.str) = some ((cut ws l h ++ cut ws l' h').map D.str) := fun l h l' h' => catS_of (by have := wc l h; have := wc l' h'; omega)
  have c1 : ∀ l h, catS (false, (cut ws l h).map D.str) (false, [.str m]) = some ((cut ws l h ++ [m]).map D.str) := fun l h => catS_of (b := [m]) (by have := wc l h; omega)
  have c3 : ∀ l h l' h', catS (false, (cut ws l h ++ [m]).map D.str) (false, (cut ws l' h').map D.str) = some ((cut ws l h ++ [m] ++ cut ws l' h').map D.str) := fun l h l' h' => catS_of (by rw [W_app]; have := wc l h; have := wc l' h'; omega)
  have j2 : ∀ l h l' h', joinS " " (false, (cut ws l h ++ cut ws l' h').map D.str) = some (.str (Txt.join blank (cut ws l h ++ cut ws l' h'))) := fun l h l' h' => joinS_of (by rw [W_app]; have := wc l h; have := wc l' h'; omega)
  have j3 : ∀ l h l' h', joinS " " (false, (cut ws l h ++ m :: cut ws l' h').map D.str) = some (.str (Txt.join blank (cut ws l h ++ m :: cut ws l' h'))) := fun l h l' h' => by
    have := joinS_of (ws := cut ws l h ++ [m] ++ cut ws l' h') (by rw [W_app, W_app]; have := wc l h; have := wc l' h'; omega)
    rw [List.append_assoc, List.singleton_append] at this
    exact this
  have l2 : ∀ l h l' h', (Txt.join blank (cut ws l h ++ cut ws l' h')).length ≤ 3000 := fun l h l' h' => Nat.le_trans (join_le _) (by rw [W_app]; have := wc l h; have := wc l' h'; omega)
  have l3 : ∀ l h l' h', (Txt.join blank (cut ws l h ++ m :: cut ws l' h')).length ≤ 3000 := fun l h l' h' => by
    have := join_le (cut ws l h ++ [m] ++ cut ws l' h')
    rw [W_app, W_app] at this
    rw [List.append_assoc, List.singleton_append] at this
    have := wc l h
    have := wc l' h'
    omega
  have ca : ∀ l h, ∀ w ∈ cut ws l h, asc w := fun l h w hw => hwa w ((cut_sub ws l h).subset hw)
  have ac2 : ∀ l h l' h', asc (Txt.join blank (cut ws l h ++ cut ws l' h')) := fun l h l' h' => asc_join fun w hw => by
    rcases List.mem_append.mp hw with z | z
    · exact ca l h w z
    · exact ca l' h' w z
  have ac3 : ∀ l h l' h', asc (Txt.join blank (cut ws l h ++ m :: cut ws l' h')) := fun l h l' h' => asc_join fun w hw => by
    rcases List.mem_append.mp hw with z | z
    · exact ca l h w z
    · rcases List.mem_cons.mp z with z | z
      · rw [z]; exact hma
      · exact ca l' h' w z
  have as := asc_slice ha
  have key : ∀ y : Str, y.length ≤ 3000 ∧ asc y → M__law_spoilt [.str x, .int way, .int place, .int cell] = .ok (.str y) → ∃ y : Str, (y.length ≤ 3000 ∧ asc y) ∧ M__law_spoilt [.str x, .int way, .int place, .int cell] = .ok (.str y) := fun y h e => ⟨y, h, e⟩
  have hw : way = 0 ∨ way = 1 ∨ way = 2 ∨ way = 3 ∨ way = 4 ∨ way = 5 := by omega
  rcases hw with rfl | rfl | rfl | rfl | rfl | rfl
  · refine key _ ⟨l3 none (some (place % (ws.length : Int))) (some (place % (ws.length : Int))) none, ac3 none (some (place % (ws.length : Int))) (some (place % (ws.length : Int))) none⟩ ?_
    simp [-List.map_append, M__law_spoilt, B__law_spoilt, begin_, es, em1, em, cut_map, c1, c3, j3]
  · refine key _ ⟨l2 none (some (place % (ws.length : Int))) (some (place % (ws.length : Int) + 1)) none, ac2 none (some (place % (ws.length : Int))) (some (place % (ws.length : Int) + 1)) none⟩ ?_
    simp [-List.map_append, M__law_spoilt, B__law_spoilt, begin_, es, em1, em, cut_map, c2, j2]
  · refine key _ ⟨l3 none (some (place % (ws.length : Int))) (some (place % (ws.length : Int) + 1)) none, ac3 none (some (place % (ws.length : Int))) (some (place % (ws.length : Int) + 1)) none⟩ ?_
    simp [-List.map_append, M__law_spoilt, B__law_spoilt, begin_, es, em1, em, cut_map, c1, c3, j3]
  · refine key (Txt.slice x none (some (place % ((x.length : Int) + 1))) ++ Txt.slice x (some (place % ((x.length : Int) + 1) + 1)) none) ?_ ?_
    · refine ⟨?_, asc_app (as _ _) (as _ _)⟩
      rw [Str.length_append]; have := sl none (some (place % ((x.length : Int) + 1))); have := sl (some (place % ((x.length : Int) + 1) + 1)) none; omega
    · have a1 := addS_eq (a := Txt.slice x none (some (place % ((x.length : Int) + 1)))) (b := Txt.slice x (some (place % ((x.length : Int) + 1) + 1)) none) (by have := sl none (some (place % ((x.length : Int) + 1))); have := sl (some (place % ((x.length : Int) + 1) + 1)) none; omega)
      simp [M__law_spoilt, B__law_spoilt, begin_, es, em1, em2, hlx, ss, a1]
  · have b1 := sl none (some (place % ((x.length : Int) + 1)))
    have b2 := sl (some (place % ((x.length : Int) + 1))) (some (place % ((x.length : Int) + 1) + 1))
    have b3 := sl (some (place % ((x.length : Int) + 1))) none
    have a1 := addS_eq (a := Txt.slice x none (some (place % ((x.length : Int) + 1)))) (b := Txt.slice x (some (place % ((x.length : Int) + 1))) (some (place % ((x.length : Int) + 1) + 1))) (by omega)
    have a2 := addS_eq (a := Txt.slice x none (some (place % ((x.length : Int) + 1))) ++ Txt.slice x (some (place % ((x.length : Int) + 1))) (some (place % ((x.length : Int) + 1) + 1))) (b := Txt.slice x (some (place % ((x.length : Int) + 1))) none) (by rw [Str.length_append]; omega)
    refine key (Txt.slice x none (some (place % ((x.length : Int) + 1))) ++ Txt.slice x (some (place % ((x.length : Int) + 1))) (some (place % ((x.length : Int) + 1) + 1)) ++ Txt.slice x (some (place % ((x.length : Int) + 1))) none) ⟨by rw [Str.length_append, Str.length_append]; omega, asc_app (asc_app (as _ _) (as _ _)) (as _ _)⟩ ?_
    simp [M__law_spoilt, B__law_spoilt, begin_, es, em1, em2, hlx, ss, a1, a2]
  · have b1 := sl none (some (place % ((x.length : Int) + 1)))
    have b3 := sl (some (place % ((x.length : Int) + 1) + 1)) none
    have a1 := addS_eq (a := Txt.slice x none (some (place % ((x.length : Int) + 1)))) (b := g) (by omega)
    have a2 := addS_eq (a := Txt.slice x none (some (place % ((x.length : Int) + 1))) ++ g) (b := Txt.slice x (some (place % ((x.length : Int) + 1) + 1)) none) (by rw [Str.length_append]; omega)
    refine key (Txt.slice x none (some (place % ((x.length : Int) + 1))) ++ g ++ Txt.slice x (some (place % ((x.length : Int) + 1) + 1)) none) ⟨by rw [Str.length_append, Str.length_append]; omega, asc_app (asc_app (as _ _) hga) (as _ _)⟩ ?_
    simp [M__law_spoilt, B__law_spoilt, begin_, es, em1, em2, hlx, ss, a1, a2, eg]
theorem dS_tup (s : Say) : ∃ xs, dS s = .tup xs := by cases s <;> exact ⟨_, rfl⟩
theorem noneq {s : Say} : eqD (dS s) (.str "none") = some (.bl false) := by
  rw [eqD_toS]
  obtain ⟨xs, e⟩ := dS_tup s
  rw [e]
  simp
theorem isnon_dS (s : Say) : isNonD (dS s) = false := by
  obtain ⟨xs, e⟩ := dS_tup s
  rw [e]
  rfl
theorem app_gl {ws : List Str} {x : Str} (h : x.cps.toList = gl (ws.map fun w => w.cps.toList)) : x = Txt.join blank ws := str_ext (by rw [join_gl]; exact h)
section
variable {Mw Mr : List D → R D} (S : Spec Mw Mr)
include S
theorem read_no {x : Str} (hx : x.length ≤ 3000) (ha : asc x) (h : ∀ s, okG s = true → txt s ≠ x) : callR N__law_read (B__law_read Mr) [.str x] = .ok .non := by
  have e : Mr [.str x] = .ex "NoText" := by
    rcases S.read x hx ha with ⟨s, h1, h2, _⟩ | ⟨_, e⟩
    · exact absurd h2 (h s h1)
    · exact e
  have t1 : t_YardError "NoText" = some true := by decide
  have y1 : y_NoText "NoText" = true := by decide
  have y2 : y_ValueError "NoText" = true := by decide
  have z1 : ∀ {Γ : Ga} {yb : Str → Bool}, Γ[2]? = some (.exc "NoText") → yb "NoText" = true → eIsx 2 yb Γ = .ok (.bl true) := fun h hy => eIsx_at h hy
  simp [B__law_read, L__law_read_1, L__law_read_2, begin_, e, tr_ex t1, z1, y1, y2]
theorem read_yes {x : Str} {s : Say} (e : Mr [.str x] = .ok (dS s)) : callR N__law_read (B__law_read Mr) [.str x] = .ok (dS s) := by
  simp [B__law_read, L__law_read_1, L__law_read_2, begin_, e]
theorem unwritten {d : D} (e : Mw [d] = .ex "NoSaying") : callR N__law_unwritten (B__law_unwritten Mw) [d] = .ok (.bl true) := by
  have t1 : t_NoSaying "NoSaying" = some true := by decide
  simp [B__law_unwritten, L__law_unwritten_1, L__law_unwritten_2, begin_, e, tr_ex t1]
theorem six {s : Say} (hs : okG s = true) (o : Str) (h : o ∈ ([txt s ++ " a", "not", "", txt s ++ " ", " " ++ txt s, "and " ++ txt s, "all " ++ txt s] : List Str)) : ∀ t, okG t = true → txt t ≠ o := by
  intro t ht e
  have hf := wordsG_free s hs
  have hne : ((words s).map fun w => w.cps.toList) ≠ [] := by simpa using words_ne s
  have go : ∀ ws : List Str, ws ≠ [] → (∀ w ∈ ws, 32 ∉ w.cps.toList) → o = Txt.join blank ws → words t ≠ ws → False := fun ws h0 h1 h2 h3 => h3 (no_text ht h0 h1 (e.trans h2))
  simp only [List.mem_cons, List.not_mem_nil, or_false] at h
  rcases h with rfl | rfl | rfl | rfl | rfl | rfl | rfl
  · refine go (words s ++ [Str.ofString "a"]) (by simp) (fun w hw => ?_) (app_gl ?_) (no_more hs ht (by simp))
    · rcases List.mem_append.mp hw with h | h
      · exact hf w h
      · rw [List.mem_singleton.mp h]; decide
    · rw [cps_app, txt_gl, List.map_append, gl_app hne (by simp)]
      rfl
  · exact go ["not"] (by simp) (fun w hw => by rw [List.mem_singleton.mp hw]; decide) (app_gl rfl) (no_not ht)
  · exact go [""] (by simp) (fun w hw => by rw [List.mem_singleton.mp hw]; decide) (app_gl rfl) (no_empty ht)
  · refine go (words s ++ [Str.ofString ""]) (by simp) (fun w hw => ?_) (app_gl ?_) (no_more hs ht (by simp))
    · rcases List.mem_append.mp hw with h | h
      · exact hf w h
      · rw [List.mem_singleton.mp h]; decide
    · rw [cps_app, txt_gl, List.map_append, gl_app hne (by simp)]
      rfl
  · refine go ("" :: words s) (by simp) (fun w hw => ?_) (app_gl ?_) (no_empty ht)
    · rcases List.mem_cons.mp hw with h | h
      · rw [h]; decide
      · exact hf w h
    · rw [cps_app, txt_gl, List.map_cons, gl_cons hne]
      rfl
  · refine go ("and" :: words s) (by simp) (fun w hw => ?_) (app_gl ?_) (no_and hs ht)
    · rcases List.mem_cons.mp hw with h | h
      · rw [h]; decide
      · exact hf w h
    · rw [cps_app, txt_gl, List.map_cons, gl_cons hne]
      rfl
  · refine go ("all" :: words s) (by simp) (fun w hw => ?_) (app_gl ?_) (no_all hs ht)
    · rcases List.mem_cons.mp hw with h | h
      · rw [h]; decide
      · exact hf w h
    · rw [cps_app, txt_gl, List.map_cons, gl_cons hne]
      rfl
theorem law_ok {Ml Mu : List D → R D} (hl : Ml = fun ds => callR N__law_read (B__law_read Mr) ds) (hu : Mu = fun ds => callR N__law_unwritten (B__law_unwritten Mw) ds) (ns : List Int) (hn : ns.length ≤ 63) :
    callR N_law (B_law (M__law_saying 6) M__law_cell Mw Ml M__law_spoilt Mu) [.lst (ns.map D.int)] = .ok (.bl true) := by
  have e0 : M__law_cell [dLs ns, .int 0] = .ok (.int (cellI ns 0)) := m_cell ns 0
  have e1 : M__law_cell [dLs ns, .int 1] = .ok (.int (cellI ns 1)) := m_cell ns 1
  have e2 : M__law_cell [dLs ns, .int 2] = .ok (.int (cellI ns 2)) := m_cell ns 2
  have e3 : M__law_cell [dLs ns, .int 3] = .ok (.int (cellI ns 3)) := m_cell ns 3
  generalize cellI ns 0 = c0 at *
  generalize cellI ns 1 = c1 at *
  generalize cellI ns 2 = c2 at *
  generalize cellI ns 3 = c3 at *
  obtain ⟨ho, hd⟩ := lawS_ok 4 c0
  have eSy : M__law_saying 6 [.int c0, .int 4] = .ok (dS (lawS 4 c0)) := m_saying 6 4 c0 (by decide)
  generalize lawS 4 c0 = s at *
  have hs := okS_okG s ho
  have hlen : (txt s).length ≤ 248 := by
    have h1 := txt_len s ho
    have h2 : 2 ^ depS s ≤ 2 ^ 4 := Nat.pow_le_pow_right (by decide) hd
    omega
  have ew := S.written s hs (by omega)
  obtain ⟨y, ⟨hy, hya⟩, es⟩ := m_spoilt (txt s) (c1 % 6) c2 c3 (by omega) (asc_txt ho) (Int.emod_nonneg _ (by decide)) (Int.emod_lt_of_pos _ (by decide))
  have u1 : Mu [.tup [.str "not", .non]] = .ok (.bl true) := by rw [hu]; exact unwritten S S.none
  have u2 : Mu [.str (txt s)] = .ok (.bl true) := by rw [hu]; exact unwritten S (S.refuses _ (by omega))
  have lens : ("a" : Str).length = 1 := by decide
  have a1 : addS (txt s) " a" = some (.str (txt s ++ " a")) := addS_eq (by rw [show (" a" : Str).length = 2 by decide]; omega)
  have a2 : addS (txt s) " " = some (.str (txt s ++ " ")) := addS_eq (by rw [show (" " : Str).length = 1 by decide]; omega)
  have a3 : addS " " (txt s) = some (.str (" " ++ txt s)) := addS_eq (by rw [show (" " : Str).length = 1 by decide]; omega)
  have a4 : addS "and " (txt s) = some (.str ("and " ++ txt s)) := addS_eq (by rw [show ("and " : Str).length = 4 by decide]; omega)
  have a5 : addS "all " (txt s) = some (.str ("all " ++ txt s)) := addS_eq (by rw [show ("all " : Str).length = 4 by decide]; omega)
  have loop : ∀ x3 x4, ∃ y5, sTurns (gName' 5) (L_law_1 Ml) (([txt s ++ " a", "not", "", txt s ++ " ", " " ++ txt s, "and " ++ txt s, "all " ++ txt s] : List Str).map D.str) [.val (dLs ns), .val (dS s), .val (.str (txt s)), x3, x4, .un] = .nx [.val (dLs ns), .val (dS s), .val (.str (txt s)), x3, x4, y5] := fun x3 x4 => by
    obtain ⟨Γ', h1, y5, rfl⟩ := turns_keep (g := gName' 5) (T := L_law_1 Ml) (fun Γ => ∃ y5, Γ = [.val (dLs ns), .val (dS s), .val (.str (txt s)), x3, x4, y5]) (([txt s ++ " a", "not", "", txt s ++ " ", " " ++ txt s, "and " ++ txt s, "all " ++ txt s] : List Str).map D.str) [.val (dLs ns), .val (dS s), .val (.str (txt s)), x3, x4, .un] (by
      rintro d Γ hm ⟨y5, rfl⟩
      obtain ⟨o, ho', rfl⟩ := List.mem_map.mp hm
      have hno := six S hs o ho'
      have hol : o.length ≤ 3000 := by
        simp only [List.mem_cons, List.not_mem_nil, or_false] at ho'
        rcases ho' with rfl | rfl | rfl | rfl | rfl | rfl | rfl
        · rw [Str.length_append, show (" a" : Str).length = 2 by decide]; omega
        · decide
        · decide
        · rw [Str.length_append, show (Str.ofString " ").length = 1 by decide]; omega
        · rw [Str.length_append, show (Str.ofString " ").length = 1 by decide]; omega
        · rw [Str.length_append, show ("and " : Str).length = 4 by decide]; omega
        · rw [Str.length_append, show ("all " : Str).length = 4 by decide]; omega
      have hoa : asc o := by
        have ht := asc_txt ho
        simp only [List.mem_cons, List.not_mem_nil, or_false] at ho'
        rcases ho' with rfl | rfl | rfl | rfl | rfl | rfl | rfl
        · exact asc_app ht (by decide)
        · decide
        · decide
        · exact asc_app ht (by decide)
        · exact asc_app (by decide) ht
        · exact asc_app (by decide) ht
        · exact asc_app (by decide) ht
      have er : Ml [.str o] = .ok .non := by rw [hl]; exact read_no S hol hoa hno
      exact ⟨_, _, rfl, .inl (by simp [L_law_1, er]; rfl), _, rfl⟩) ⟨_, rfl⟩
    exact ⟨y5, h1⟩
  rw [show D.lst (ns.map D.int) = dLs ns from rfl]
  rcases S.read y hy hya with ⟨t, ht, et, er⟩ | ⟨hno, _⟩
  · have ef : Ml [.str y] = .ok (dS t) := by rw [hl]; exact read_yes S er
    have w2 := S.written t ht (by rw [et]; exact hy)
    rw [et] at w2
    obtain ⟨y5, hL⟩ := loop (.val (dS t)) (.val (.str y))
    simp only [List.map_cons, List.map_nil] at hL
    have q1 := noneq (s := t)
    simp [B_law, begin_, e0, e1, e2, e3, eSy, ew, es, ef, q1, isnon_dS, w2, a1, a2, a3, a4, a5, hL, u1, u2]
  · have ef : Ml [.str y] = .ok .non := by rw [hl]; exact read_no S hy hya hno
    obtain ⟨y5, hL⟩ := loop (.val .non) (.val (.str y))
    simp only [List.map_cons, List.map_nil] at hL
    simp [B_law, begin_, e0, e1, e2, e3, eSy, ew, es, ef, a1, a2, a3, a4, a5, hL, u1, u2]
end
end L04


namespace Wy
open PySem PySem.Spec PyProof.Rows L2
def deadS : Sl → Sl
  | .own _ => .un
  | .par _ _ => .un
  | x => x
def dead (Γ : Ga) : Ga := Γ.map deadS
section
variable {K : PySem.W.Frag} {H₀ G₀ H G H' G' : Hp} {Γ : Ga} {σ : L2.St}
theorem Rep.dead (R : Rep K H₀ G₀ Γ σ H G) : Rep K H₀ G₀ (dead Γ) σ H G := R.weak (by simp [Wy.dead]) fun i x h => by
  unfold Wy.dead at h
  rw [List.getElem?_map] at h
  obtain ⟨y, e1, e2⟩ := Option.map_eq_some_iff.mp h
  cases y <;> first | exact .inl e2.symm | exact .inr (by rw [e1, ← e2]; rfl)
theorem dead_set {i : Nat} {x : Sl} {ys : List D} (h : Γ[i]? = some x) (hm : x.mu = true) : dead (Γ.set i (x.put ys)) = dead Γ := by
  unfold dead
  rw [List.map_set]
  have e : deadS (x.put ys) = .un := by cases x <;> first | rfl | cases hm
  have e2 : deadS x = .un := by cases x <;> first | rfl | cases hm
  rw [e, ← e2]
  apply List.ext_getElem?
  intro j
  rw [List.getElem?_set]
  split
  · rename_i q
    subst q
    split
    · rw [List.getElem?_map, h]; rfl
    · rename_i q; rw [List.getElem?_map, List.getElem?_eq_none (by simpa using q)]; rfl
  · rfl
def delA (H : Hp) (a : Addr) : Hp := fun b => if b = a then none else H b
theorem delA_same {a : Addr} : delA H a a = none := by unfold delA; rw [if_pos rfl]
theorem delA_ne {a b : Addr} (h : b ≠ a) : delA H a b = H b := by unfold delA; rw [if_neg h]
theorem Ext.del {a : Addr} (g : Same G H) (ga : G a = none) : Ext (delA H a) G H G := ⟨Same.refl _, g, fun b o q => by
  by_cases e : b = a
  · subst e; rw [delA_same] at q; cases q
  · rwa [delA_ne e] at q, fun _ _ => rfl⟩
theorem Rep.aft (R : Rep K H₀ G₀ Γ σ H G) {i : Nat} {x : Sl} {xs : List D} {a : Addr} (hi : Γ[i]? = some x) (hx : x.cont = some xs) (hs : σ[i]? = some (some (.ref a))) (e : Ext (delA H a) G H' G') : Rep K H₀ G₀ (Γ.set i .un) σ H' G' := by
  obtain ⟨a', vs, e1, e2, e3, e4, e5⟩ := R.mo hi hx
  rw [hs] at e1
  cases e1
  have hne : ∀ b, H₀ b ≠ none → b ≠ a := fun b q z => q (by rw [z]; exact e3)
  have keep : ∀ b o, b ≠ a → H b = some o → H' b = some o ∧ G' b = G b := fun b o nb q => ⟨e.hh b o (by rw [delA_ne nb]; exact q), e.fr b (by rw [delA_ne nb, q]; exact fun z => nomatch z)⟩
  refine ⟨⟨R.ex.gg.trans e.gg, e.gh, fun b o q => (keep b o (hne b (some_ne q)) (R.ex.hh b o q)).1, fun b q => ?_⟩, by rw [List.length_set]; exact R.ln, fun j y q => ?_, fun j k y z b q1 q2 m1 m2 s1 s2 => ?_⟩
  · refine (e.fr b ?_).trans (R.ex.fr b q)
    rw [delA_ne (hne b q)]
    exact Same.ne R.ex.hh q
  · rcases set_at q with ⟨rfl, rfl, _⟩ | ⟨ne, q⟩
    · trivial
    · have old := R.all j y q
      have nb : ∀ b, y.mu = true → σ[j]? = some (some (V.ref b)) → b ≠ a := fun b hm hb z => by
        subst z
        exact ne (R.di i j _ _ b hi q (Sl.mu_of hx) hm hs hb)
      cases y with
      | un => trivial
      | val d => obtain ⟨v, f1, f2⟩ := old; exact ⟨v, f1, f2.up e.gg⟩
      | exc c => obtain ⟨v, f1, f2⟩ := old; exact ⟨v, f1, f2.up e.gg⟩
      | fn c => exact old
      | own zs =>
        obtain ⟨b, ws, f1, f2, f3, f4, f5⟩ := old
        have k := keep b _ (nb b rfl f1) f2
        exact ⟨b, ws, f1, k.1, f3, k.2.trans f4, f5.up e.gg⟩
      | par b zs =>
        obtain ⟨f1, ws, f2, f3, f4, f5⟩ := old
        have k := keep b _ (nb b rfl f1) f2
        exact ⟨f1, ws, k.1, f3, k.2.trans f4, f5.up e.gg⟩
  · rcases set_at q1 with ⟨rfl, rfl, _⟩ | ⟨n1, q1⟩
    · cases m1
    · rcases set_at q2 with ⟨rfl, rfl, _⟩ | ⟨n2, q2⟩
      · cases m2
      · exact R.di j k y z b q1 q2 m1 m2 s1 s2
theorem Rep.aftO (R : Rep K H₀ G₀ Γ σ H G) {i : Nat} {x : Sl} {xs ys : List D} {us : List V} {a : Addr} (hi : Γ[i]? = some x) (hx : x.cont = some xs) (hs : σ[i]? = some (some (.ref a))) (e : Ext (delA H a) G H' G')
    (h' : H' a = some (.lst us)) (g' : G' a = none) (l : DenL K G' ys us) : Rep K H₀ G₀ (Γ.set i (x.put ys)) σ H' G' := by
  have R1 := R.aft hi hx hs e
  obtain ⟨a', vs, e1, e2, e3, e4, e5⟩ := R.mo hi hx
  rw [hs] at e1
  cases e1
  refine ⟨R1.ex, by rw [List.length_set]; exact R.ln, fun j y q => ?_, fun j k y z b q1 q2 m1 m2 s1 s2 => ?_⟩
  · rcases set_at q with ⟨rfl, rfl, _⟩ | ⟨ne, q⟩
    · cases x with
      | own zs => exact ⟨a, us, hs, h', e3, g', l⟩
      | par b zs =>
        have := (R.all j _ hi).1
        rw [hs] at this
        cases this
        exact ⟨hs, us, h', e3, g', l⟩
      | _ => cases hx
    · exact R1.all j y (by rw [List.getElem?_set_ne ne]; exact q)
  · have o1 : ∀ (j : Nat) y, (Γ.set i (x.put ys))[j]? = some y → y.mu = true → ∃ y', Γ[j]? = some y' ∧ y'.mu = true := fun j y q hm => by
      rcases set_at q with ⟨rfl, rfl, _⟩ | ⟨ne, q⟩
      · exact ⟨_, hi, Sl.mu_of hx⟩
      · exact ⟨_, q, hm⟩
    obtain ⟨z1, r1, r1'⟩ := o1 j y q1 m1
    obtain ⟨z2, r2, r2'⟩ := o1 k z q2 m2
    exact R.di j k _ _ b r1 r2 r1' r2' s1 s2
end
def exM (K : PySem.W.Frag) (W : XP) (H₀ G₀ : Hp) (Γ : Ga) (σ : L2.St) : Str → Prop := fun c => ∀ H' G', Rep K H₀ G₀ (dead Γ) σ H' G' → W c σ H' G'
theorem exM.eq {K : PySem.W.Frag} {W : XP} {H₀ G₀ : Hp} {Γ Γ' : Ga} {σ : L2.St} {c : Str} (h : exM K W H₀ G₀ Γ σ c) (e : dead Γ' = dead Γ) : exM K W H₀ G₀ Γ' σ c := fun H' G' R => h H' G' (e ▸ R)
def TellsM (K : PySem.W.Frag) (W : XP) (t : TE) (f : Ga → R (D × Ga)) : Prop :=
  ∀ (H₀ G₀ : Hp) (Γ : Ga) (σ : L2.St) (H G : Hp), Rep K H₀ G₀ Γ σ H G → ∀ Q : VK, (f Γ).want (exM K W H₀ G₀ Γ σ) (fun p => ∀ v H' G', Rep K H₀ G₀ p.2 σ H' G' → Same G G' → Den K G' p.1 v → Q v H') → t σ H Q
def EvM (X : Cx) (W : XP) (e : Expr) (f : Ga → R (D × Ga)) : Prop := ∃ t, PE X e t ∧ (∀ Γ p, f Γ = .ok p → dead p.2 = dead Γ) ∧ TellsM X.K W t f
def TellsAM (K : PySem.W.Frag) (W : XP) (t : TA) (f : Ga → R (List D × Ga)) : Prop :=
  ∀ (H₀ G₀ : Hp) (Γ : Ga) (σ : L2.St) (H G : Hp), Rep K H₀ G₀ Γ σ H G → ∀ Q : List V → Hp → Prop, (f Γ).want (exM K W H₀ G₀ Γ σ) (fun p => ∀ vs H' G', Rep K H₀ G₀ p.2 σ H' G' → Same G G' → DenL K G' p.1 vs → Q vs H') → t σ H Q
def AvM (X : Cx) (W : XP) (es : List Expr) (f : Ga → R (List D × Ga)) : Prop := ∃ t, PA X es t ∧ (∀ Γ p, f Γ = .ok p → dead p.2 = dead Γ ∧ p.1.length = es.length) ∧ TellsAM X.K W t f
theorem wStepE {α β : Type} {x : R α} {f : α → R β} {E E' : Str → Prop} {P : β → Prop} {P' : α → Prop} (w : (x.bind f).want E P) (he : ∀ c, E c → E' c) (h : ∀ a, x = .ok a → (f a).want E P → P' a) : x.want E' P' := by
  cases x with
  | ok a => exact h a rfl w
  | ex c => exact he c w
  | no => exact w
section
variable {X : Cx} {W : XP} {e : Expr} {es : List Expr} {f : Ga → R D} {fm : Ga → R (D × Ga)} {fl : Ga → R (List D)} {fa : Ga → R (List D × Ga)} {pos pos' apos cpos p : Pos} {x : Str}
def mE (f : Ga → R D) : Ga → R (D × Ga) := fun Γ => (f Γ).bind fun d => .ok (d, Γ)
theorem em_ev (h : EvD X W e f) : EvM X W e (mE f) := by
  obtain ⟨t, pt, q⟩ := h
  refine ⟨t, pt, fun Γ p e' => ?_, fun H₀ G₀ Γ σ H G R Q w => ?_⟩
  · obtain ⟨d, _, e2⟩ := bind_ok' e'
    cases e2; rfl
  · exact q _ _ _ _ _ _ R _ (wStep w (fun c h H' G' E => h H' G' (R.after E).dead) fun d w v H' G' E1 d1 => w v H' G' (R.after E1) E1.gg d1)
def mNil : Ga → R (List D × Ga) := fun Γ => .ok ([], Γ)
def mCons (fm : Ga → R (D × Ga)) (fa : Ga → R (List D × Ga)) : Ga → R (List D × Ga) := fun Γ => (fm Γ).bind fun p => (fa p.2).bind fun q => .ok (p.1 :: q.1, q.2)
theorem am_nil : AvM X W [] mNil := ⟨_, pa_nil, fun _ _ e => by cases e; exact ⟨rfl, rfl⟩, fun _ _ _ _ H G R Q w => w [] H G R (Same.refl _) (denL_nil.mpr rfl)⟩
theorem am_cons (ha : EvM X W e fm) (hr : AvM X W es fa) (hs : starEach (e :: es) X.env = (false, eval e X.env) :: starEach es X.env := by rfl) : AvM X W (e :: es) (mCons fm fa) := by
  obtain ⟨t, pt, hd, q⟩ := ha
  obtain ⟨ts, ps, hds, qs⟩ := hr
  refine ⟨_, pa_cons pt ps hs, fun Γ p e' => ?_, fun H₀ G₀ Γ σ H G R Q w => ?_⟩
  · obtain ⟨a, e1, e'⟩ := bind_ok' e'
    obtain ⟨b, e2, e'⟩ := bind_ok' e'
    cases e'
    have h2 := hds _ _ e2
    exact ⟨h2.1.trans (hd _ _ e1), by simp [h2.2]⟩
  · refine q _ _ _ _ _ _ R _ (wStepE w (fun _ h => h) fun d e1 w v H1 G1 R1 g1 d1 => ?_)
    exact qs _ _ _ _ _ _ R1 _ (wStep w (fun _ h => h.eq (hd _ _ e1)) fun ds w vs H2 G2 R2 g2 d2 => w _ H2 G2 R2 (g1.trans g2) (denL_cons.mpr ⟨v, vs, rfl, d1.up g2, d2⟩))
def mTup (fa : Ga → R (List D × Ga)) : Ga → R (D × Ga) := fun Γ => (fa Γ).bind fun p => .ok (.tup p.1, p.2)
theorem em_tup {k : Nat} (h : AvM X W es fa) (hl : es.length ≤ 1000 := by decide) : EvM X W (.Tuple es k pos) (mTup fa) := by
  obtain ⟨t, pt, hd, q⟩ := h
  refine ⟨_, pe_tup pt, fun Γ p e' => ?_, fun H₀ G₀ Γ σ H G R Q w => ?_⟩
  · obtain ⟨a, e1, e'⟩ := bind_ok' e'
    cases e'
    exact (hd _ _ e1).1
  · refine q _ _ _ _ _ _ R _ (wStepE w (fun _ h => h) fun ds e1 w vs H1 G1 R1 g1 d1 => ?_)
    refine ⟨by rw [← d1.length, (hd _ _ e1).2]; exact small24 hl, fun p hp => ?_⟩
    have A := Ext.alloc (o := .tup vs) R1.gh hp
    exact w _ _ _ (R1.after A) (g1.trans A.gg) (den_tup.mpr ⟨p, vs, rfl, SqT.of upd_same, d1.up A.gg⟩)
def mPop (i : Nat) : Ga → R (D × Ga) := fun Γ => match Γ[i]? with
  | some x => match x.cont with
    | some xs => match xs.getLast? with
      | some d => .ok (d, Γ.set i (x.put xs.dropLast))
      | none => .no
    | none => .no
  | none => .no
theorem em_pop (i : Nat) (hN : X.N[i]? = some x := by rfl) (hv : Vis X.env.scope x := by first | exact Or.inl rfl | exact Or.inr (Or.inl rfl) | exact Or.inr (Or.inr rfl)) (hd : (x == ("__debug__" : Str)) = false := by decide)
    (hcd : (x == ("__classdict__" : Str)) = false := by decide) (hline : (apos.endLine == cpos.line) = true := by rfl)
    (hbase : attributeBase (.Name x pos') "pop" X.env (eval (.Name x pos') X.env) = eval (.Name x pos') X.env := by rfl) :
    EvM X W (.Call (.Attribute (.Name x pos') "pop" apos) [] [] cpos) (mPop i) := by
  refine ⟨_, pe_bm0 PySem.F.plainAttrs_list PySem.F.slot_list_pop PySem.F.type_list_pop mt_pop (pe_var hN hv hd hcd) hbase hline, fun Γ p e' => ?_, fun H₀ G₀ Γ σ H G R Q w => ?_⟩
  · unfold mPop at e'
    split at e'
    · rename_i y hy
      split at e'
      · rename_i xs hx
        split at e'
        · cases e'
          exact dead_set hy (Sl.mu_of hx)
        · cases e'
      · cases e'
    · cases e'
  · unfold mPop at w
    split at w
    · rename_i y hy
      split at w
      · rename_i zs hz
        split at w
        · rename_i d hlast
          obtain ⟨a, vs, s1, s2, s3, s4, s5⟩ := R.mo hy hz
          obtain ⟨xs, rfl⟩ := List.getLast?_eq_some_iff.mp hlast
          rw [List.dropLast_concat] at w
          have hl := s5.length
          rw [List.length_append, List.length_singleton] at hl
          obtain ⟨v, hv1, hv2⟩ := s5.get (i := xs.length) (d := d) (by simp)
          have dl := s5.dropLast
          rw [List.dropLast_concat] at dl
          refine ⟨_, s1, .inl ⟨rfl, vs, SqL.of s2⟩, a, vs, v, rfl, rfl, s2, by rw [← hl]; exact hv1, ?_⟩
          exact w _ _ G (R.mutG hy hz s1 dl) (Same.refl _) hv2
        · exact w.elim
      · exact w.elim
    · exact w.elim
def insA {α : Type} (p : Nat) (x : α) (l : List α) : List α := l.take p ++ x :: l.drop p
theorem insA_length {α : Type} {p : Nat} {x : α} {l : List α} : (insA p x l).length = l.length + 1 := by
  unfold insA
  simp only [List.length_append, List.length_cons, List.length_take, List.length_drop]
  omega
def spO (K : PySem.W.Frag) (n p : Nat) (F : List D → List D → R (D × List D)) : Sp := fun vs H Q E => ∃ (G : Hp) (ds : List D) (us : List V) (a : Addr) (xs : List D) (ws : List V), vs = insA p (.ref a) us ∧ Same G H ∧ DenL K G ds us ∧ ds.length + 1 = n ∧
  H a = some (.lst ws) ∧ G a = none ∧ DenL K G xs ws ∧ (F ds xs).want (fun c => ∀ cls dx H' G', ClsIs K c cls → Ext (delA H a) G H' G' → E cls dx H')
    (fun r => ∀ v H' G' ws', Ext (delA H a) G H' G' → H' a = some (.lst ws') → G' a = none → DenL K G' r.2 ws' → Den K G' r.1 v → Q v H')
def AvO (X : Cx) (W : XP) (es : List Expr) (i p : Nat) (f : Ga → R (List D)) : Prop := ∃ t, PA X es t ∧ (∀ Γ ds, f Γ = .ok ds → ds.length + 1 = es.length) ∧
  ∀ (H₀ G₀ : Hp) (Γ : Ga) (σ : L2.St) (H G : Hp), Rep X.K H₀ G₀ Γ σ H G → ∀ (a : Addr) (Q : List V → Hp → Prop), σ[i]? = some (some (.ref a)) →
    (f Γ).want (exAt W σ H G) (fun ds => ∀ vs H' G', Ext H G H' G' → DenL X.K G' ds vs → Q (insA p (.ref a) vs) H') → t σ H Q
theorem ao_here (i : Nat) (hr : AvD X W es fl) (hN : X.N[i]? = some x := by rfl) (hv : Vis X.env.scope x := by first | exact Or.inl rfl | exact Or.inr (Or.inl rfl) | exact Or.inr (Or.inr rfl)) (hd : (x == ("__debug__" : Str)) = false := by decide)
    (hcd : (x == ("__classdict__" : Str)) = false := by decide) (hs : starEach (.Name x pos :: es) X.env = (false, eval (.Name x pos) X.env) :: starEach es X.env := by rfl) : AvO X W (.Name x pos :: es) i 0 fl := by
  obtain ⟨t, pt, hl, q⟩ := hr
  refine ⟨_, pa_cons (pe_var hN hv hd hcd) pt hs, fun Γ ds e' => by rw [hl _ _ e']; rfl, fun H₀ G₀ Γ σ H G R a Q ha w => ?_⟩
  refine ⟨_, ha, ?_⟩
  exact q _ _ _ _ _ _ R _ (wImp w (fun _ h => h) fun ds w vs H' G' E1 d1 => w vs H' G' E1 d1)
theorem ao_cons {i p : Nat} (he : EvD X W e f) (hr : AvO X W es i p fl) (hs : starEach (e :: es) X.env = (false, eval e X.env) :: starEach es X.env := by rfl) : AvO X W (e :: es) i (p + 1) (aCons f fl) := by
  obtain ⟨t, pt, q⟩ := he
  obtain ⟨ts, ps, hl, qs⟩ := hr
  refine ⟨_, pa_cons pt ps hs, fun Γ ds e' => ?_, fun H₀ G₀ Γ σ H G R a Q ha w => ?_⟩
  · obtain ⟨d, _, e'⟩ := bind_ok' e'
    obtain ⟨r, e2, e'⟩ := bind_ok' e'
    cases e'
    simp [← hl _ _ e2]
  · refine q _ _ _ _ _ _ R _ (wStep w (fun _ h => h) fun d w v H1 G1 E1 d1 => ?_)
    refine qs _ _ _ _ _ _ (R.after E1) a _ ha (wStep w (fun _ h => h.up E1) fun ds w vs H2 G2 E2 d2 => ?_)
    exact w _ H2 G2 (E1.trans E2) (denL_cons.mpr ⟨v, vs, rfl, d1.up E2.gg, d2⟩)
def mCall (i : Nat) (F : List D → List D → R (D × List D)) (fl : Ga → R (List D)) : Ga → R (D × Ga) := fun Γ => match Γ[i]? with
  | some x => match x.cont with
    | some xs => (fl Γ).bind fun ds => (F ds xs).bind fun r => .ok (r.1, Γ.set i (x.put r.2))
    | none => .no
  | none => .no
theorem em_call {CX : CXT} {k q : Nat} {fa : Addr} {fd : FuncData} {ps : List Str} {F : List D → List D → R (D × List D)} {x : Str} {i : Nat} (Fn : FnOk X.prog X.w X.K X.mg X.base CX k fa fd ps (spO X.K ps.length q F)) (hx : PassW CX X W) (hr : Room k X.A) (hg : Gl X x)
    (hm : X.mg x = some (.ref fa)) (hk : PySem.W.keepIn X.K (.ref fa) = true) (hb : Binds X.K fd ps []) (ha : AvO X W (e :: es) i q fl) (hn : (e :: es).length = ps.length := by rfl) (hdb : (x == ("__debug__" : Str)) = false := by decide)
    (he : starEach (e :: es) X.env = (false, eval e X.env) :: starEach es X.env := by rfl) (hpl : (backTo pos (starEach es X.env)).any (·.1) = false := by rfl) :
    EvM X W (.Call (.Name x p) (e :: es) [] pos) (mCall i F fl) := by
  obtain ⟨t, pt, hl, qa⟩ := ha
  refine ⟨_, pe_callX Fn hr hg hm hk hb hx pt hdb he hpl, fun Γ p e' => ?_, fun H₀ G₀ Γ σ H G R Q w => ?_⟩
  · unfold mCall at e'
    split at e'
    · rename_i y hy
      split at e'
      · rename_i xs hx
        obtain ⟨ds, _, e'⟩ := bind_ok' e'
        obtain ⟨r, _, e'⟩ := bind_ok' e'
        cases e'
        exact dead_set hy (Sl.mu_of hx)
      · cases e'
    · cases e'
  · unfold mCall at w
    split at w
    · rename_i y hy
      split at w
      · rename_i xs hx
        obtain ⟨a, ws, s1, _⟩ := R.mo hy hx
        refine qa _ _ _ _ _ _ R a _ s1 (wStepE w (fun c h H' G' E => h H' G' (R.after E).dead) fun ds ed w us H1 G1 E1 d1 => ?_)
        have R1 := R.after E1
        obtain ⟨a', ws, f1, f2, f3, f4, f5⟩ := R1.mo hy hx
        rw [s1] at f1
        cases f1
        refine ⟨G1, ds, us, a, xs, ws, rfl, E1.gh, d1, (hl _ _ ed).trans hn, f2, f4, f5, wStep w (fun c h cls dx H' G' hc E2 => ⟨c, G', hc, h H' G' ?_⟩) fun r w v H' G' ws' E2 h' g' l' dv => ?_⟩
        · have R2 := (R1.aft hy hx s1 E2).dead
          have ed : Wy.dead (Γ.set i .un) = Wy.dead Γ := by
            have z : Wy.dead (Γ.set i (y.put [])) = Wy.dead Γ := dead_set hy (Sl.mu_of hx)
            rw [← z]
            unfold Wy.dead
            rw [List.map_set, List.map_set]
            have e1 : deadS (y.put []) = .un := by cases y <;> first | rfl | cases hx
            rw [e1]; rfl
          rw [ed] at R2
          exact R2
        · exact w v H' G' (R1.aftO hy hx s1 E2 h' g' l') (E1.gg.trans E2.gg) dv
      · exact w.elim
    · exact w.elim
end
def RS.ofM (x : R (D × Ga)) (Γ : Ga) (k : D × Ga → RS) : RS := match x with
  | .ok p => k p
  | .ex c => .ex c (dead Γ)
  | .no => .no
@[simp] theorem RS.ofM_ok (p : D × Ga) (Γ : Ga) (k : D × Ga → RS) : RS.ofM (.ok p) Γ k = k p := nr rfl
@[simp] theorem RS.ofM_ex (c : Str) (Γ : Ga) (k : D × Ga → RS) : RS.ofM (.ex c) Γ k = .ex c (dead Γ) := nr rfl
theorem wSM {K : PySem.W.Frag} {W : XP} {H₀ G₀ : Hp} {x : R (D × Ga)} {Γ : Ga} {k : D × Ga → RS} {D' : Ends} {σ : L2.St} {P : D × Ga → Prop} (w : Lifts K W H₀ G₀ (RS.ofM x Γ k) D')
    (h : ∀ a, Lifts K W H₀ G₀ (k a) D' → P a) : x.want (exM K W H₀ G₀ Γ σ) P := by
  cases x with
  | ok a => exact h a w
  | ex c => exact fun H' G' R => w σ H' G' R
  | no => exact w.elim
section
variable {X : Cx} {W : XP} {e c : Expr} {fm : Ga → R (D × Ga)} {pos pos' apos cpos : Pos} {x : Str}
def sSetM (i : Nat) (fm : Ga → R (D × Ga)) : Ga → RS := fun Γ => .ofM (fm Γ) Γ fun p => .nx (p.2.set i (.val p.1))
theorem x_setM (i : Nat) (he : EvM X W e fm) (hN : X.N.Nodup) (hi : X.N[i]? = some x := by rfl) (hx : Loc X.env.scope x := by first | exact Or.inl rfl | exact Or.inr rfl) (hs : swapsWith e (some (.Name x pos')) pos.line X.env = pure false := by rfl)
    (hf : X.fn x = true ∨ X.env.scope.names.lookup x = some .local := by first | exact .inl rfl | exact .inr rfl | assumption) : ExD X W (.Assign [.Name x pos'] e pos) (sSetM i fm) := by
  obtain ⟨t, p, _, q⟩ := he
  refine ⟨_, ps_set hN hi hx p hs hf, fun H₀ G₀ Γ σ H G R D w => ?_⟩
  exact q _ _ _ _ _ _ R _ (wSM w fun d w v H' G' R1 g1 d1 => w _ H' G' (R1.setV i d1))
def appAt (i : Nat) (d : D) (Γ : Ga) : RS := match Γ[i]? with
  | some y => match y.cont with
    | some xs => if xs.length < 16000000 then .nx (Γ.set i (y.put (xs ++ [d]))) else .no
    | none => .no
  | none => .no
def sAppM (i : Nat) (fm : Ga → R (D × Ga)) : Ga → RS := fun Γ => match Γ[i]? with
  | some y => match y.cont with
    | some _ => .ofM (fm Γ) Γ fun p => appAt i p.1 p.2
    | none => .no
  | none => .no
theorem x_appM (i : Nat) (he : EvM X W e fm) (hN : X.N[i]? = some x := by rfl) (hv : Vis X.env.scope x := by first | exact Or.inl rfl | exact Or.inr (Or.inl rfl) | exact Or.inr (Or.inr rfl)) (hd : (x == ("__debug__" : Str)) = false := by decide)
    (hcd : (x == ("__classdict__" : Str)) = false := by decide) (hs : starEach [e] X.env = [(false, eval e X.env)] := by rfl) (hline : (apos.endLine == cpos.line) = true := by rfl)
    (hsw : swapsWith (.Call (.Attribute (.Name x pos') "append" apos) [e] [] cpos) none pos.line X.env = pure false := by rfl)
    (hbase : attributeBase (.Name x pos') "append" X.env (eval (.Name x pos') X.env) = eval (.Name x pos') X.env := by rfl)
    (hfew : ((backTo cpos (starEach [e] X.env)).all (fun x => !x.1) && (backToKw cpos (keywordEach [] X.env)).all (fun x => x.1.isSome)
      && decide ([e].length + ([] : List Keyword).length + (if ([] : List Keyword).isEmpty then 0 else 1) < 30)) = true := by rfl) :
    ExD X W (.Expr (.Call (.Attribute (.Name x pos') "append" apos) [e] [] cpos) pos) (sAppM i fm) := by
  obtain ⟨t, p, _, q⟩ := he
  refine ⟨_, ps_expr (pe_bm PySem.F.plainAttrs_list PySem.F.slot_list_append PySem.F.type_list_append mt_append (pe_var hN hv hd hcd) (pa_cons p pa_nil hs) hbase hfew hline hs rfl) hsw, fun H₀ G₀ Γ σ H G R D w => ?_⟩
  unfold sAppM at w
  split at w
  · rename_i y hy
    split at w
    · rename_i ys hc
      obtain ⟨a, vs, s1, s2, s3, s4, s5⟩ := R.mo hy hc
      refine ⟨_, s1, .inl ⟨rfl, vs, SqL.of s2⟩, ?_⟩
      refine q _ _ _ _ _ _ R _ (wSM w fun d w v H' G' R1 g1 d1 => ?_)
      unfold appAt at w
      split at w
      · rename_i z hz
        split at w
        · rename_i zs hzc
          split at w
          · rename_i hlen
            obtain ⟨b, us, f1, f2, f3, f4, f5⟩ := R1.mo hz hzc
            rw [s1] at f1
            cases f1
            exact ⟨a, us, v, rfl, rfl, f2, by rw [← f5.length]; exact lt24 hlen, w _ _ G' (R1.mutG hz hzc s1 (f5.append (.one d1)))⟩
          · exact w.elim
        · exact w.elim
      · exact w.elim
    · exact w.elim
  · exact w.elim
end
inductive RM where
  | nx (Γ : Ga) | rt (d : D) (Γ : Ga) | ex (c : Str) (Γ : Ga) | no
def LiftsM (K : PySem.W.Frag) (W : XP) (H₀ G₀ : Hp) (r : RM) (D : Ends) : Prop := match r with
  | .nx Γ => ∀ σ H G, Rep K H₀ G₀ Γ σ H G → D.nx σ H
  | .rt d Γ => ∀ v σ H G, Rep K H₀ G₀ Γ σ H G → Den K G d v → D.rt v H
  | .ex c Γ => ∀ σ H G, Rep K H₀ G₀ Γ σ H G → W c σ H G
  | .no => False
def DoesM (K : PySem.W.Frag) (W : XP) (t : TS) (s : Ga → RM) : Prop := ∀ (H₀ G₀ : Hp) (Γ : Ga) (σ : L2.St) (H G : Hp), Rep K H₀ G₀ Γ σ H G → ∀ D : Ends, LiftsM K W H₀ G₀ (s Γ) D → t D σ H
def ExM (X : Cx) (W : XP) (st : Stmt) (s : Ga → RM) : Prop := ∃ t, PS X st t ∧ DoesM X.K W t s
def ExMs (X : Cx) (W : XP) (sts : List Stmt) (s : Ga → RM) : Prop := ∃ t, PSs X sts t ∧ DoesM X.K W t s
section
variable {X : Cx} {W : XP} {st : Stmt} {rest sa sb : List Stmt} {T U : Ga → RM} {S : Ga → RS} {e c : Expr} {fm : Ga → R (D × Ga)} {g : Ga → R Bool} {pos : Pos}
def mOf (S : Ga → RS) : Ga → RM := fun Γ => match S Γ with
  | .nx Γ' => .nx Γ'
  | .ex c Γ' => .ex c Γ'
  | _ => .no
theorem xm_lift (h : ExD X W st S) : ExM X W st (mOf S) := by
  obtain ⟨t, p, q⟩ := h
  refine ⟨t, p, fun H₀ G₀ Γ σ H G R D w => q _ _ _ _ _ _ R D ?_⟩
  unfold mOf at w
  cases hS : S Γ with
  | nx Γ' => rw [hS] at w; exact w
  | ex c Γ' => rw [hS] at w; exact w
  | rt d => rw [hS] at w; exact w.elim
  | bk d => rw [hS] at w; exact w.elim
  | ct d => rw [hS] at w; exact w.elim
  | no => rw [hS] at w; exact w.elim
def mNext : Ga → RM := fun Γ => .nx Γ
def mSeq (T U : Ga → RM) : Ga → RM := fun Γ => match T Γ with
  | .nx Γ' => U Γ'
  | r => r
theorem xms_nil : ExMs X W [] mNext := ⟨_, pss_nil, fun _ _ Γ σ H G R D w => w σ H G R⟩
theorem xms_cons (h1 : ExM X W st T) (h2 : ExMs X W rest U) : ExMs X W (st :: rest) (mSeq T U) := by
  obtain ⟨t, p, q⟩ := h1
  obtain ⟨u, p', q'⟩ := h2
  refine ⟨_, pss_cons p p', fun H₀ G₀ Γ σ H G R D w => q H₀ G₀ Γ σ H G R _ ?_⟩
  unfold mSeq at w
  cases h : T Γ with
  | nx Γ' => rw [h] at w; exact fun σ H G R => q' H₀ G₀ Γ' σ H G R D w
  | rt d Γ' => rw [h] at w; exact w
  | ex c Γ' => rw [h] at w; exact w
  | no => rw [h] at w; exact w
theorem xms_one (h1 : ExM X W st T) : ExMs X W [st] T := let ⟨t, p, q⟩ := h1; ⟨t, pss_one p, q⟩
def mRet (fm : Ga → R (D × Ga)) : Ga → RM := fun Γ => match fm Γ with
  | .ok p => .rt p.1 p.2
  | .ex c => .ex c (dead Γ)
  | .no => .no
theorem xm_ret (h : EvM X W e fm) : ExM X W (.Return (some e) pos) (mRet fm) := by
  obtain ⟨t, p, _, q⟩ := h
  refine ⟨_, ps_ret p, fun H₀ G₀ Γ σ H G R D w => q _ _ _ _ _ _ R _ ?_⟩
  unfold mRet at w
  cases h : fm Γ with
  | ok a => rw [h] at w; exact fun v H' G' R1 g1 d1 => w v σ H' G' R1 d1
  | ex c => rw [h] at w; exact fun H' G' R => w σ H' G' R
  | no => rw [h] at w; exact w.elim
def mIf (g : Ga → R Bool) (T U : Ga → RM) : Ga → RM := fun Γ => match g Γ with
  | .ok true => T Γ
  | .ok false => U Γ
  | .ex c => .ex c Γ
  | .no => .no
theorem xm_if (hc : TvD X W c g) (ha : ExMs X W sa T) (hb : ExMs X W sb U) : ExM X W (.If c sa sb pos) (mIf g T U) := by
  obtain ⟨t, p, q⟩ := hc
  obtain ⟨ta, pa, qa⟩ := ha
  obtain ⟨tb, pb, qb⟩ := hb
  refine ⟨_, ps_if p pa pb, fun H₀ G₀ Γ σ H G R D w => q _ _ _ _ _ _ R _ ?_⟩
  unfold mIf at w
  cases h : g Γ with
  | ok k =>
    rw [h] at w
    cases k with
    | true => exact fun H' G' E1 => iteT (qa _ _ _ _ _ _ (R.after E1) D w)
    | false => exact fun H' G' E1 => iteF (qb _ _ _ _ _ _ (R.after E1) D w)
  | ex c => rw [h] at w; exact fun H' G' E1 => w σ H' G' (R.after E1)
  | no => rw [h] at w; exact w.elim
end
def SlL (K : PySem.W.Frag) (H₀ H G : Hp) (Γ : Ga) (σ : L2.St) : Prop := Γ.length = σ.length ∧ ∀ (i : Nat) x, Γ[i]? = some x → SlOk K H₀ H G x σ[i]?
section
variable {K : PySem.W.Frag} {H₀ H G : Hp}
theorem SlL.append {Γ Γ' : Ga} {σ σ' : L2.St} (a : SlL K H₀ H G Γ σ) (b : SlL K H₀ H G Γ' σ') : SlL K H₀ H G (Γ ++ Γ') (σ ++ σ') := by
  refine ⟨by rw [List.length_append, List.length_append, a.1, b.1], fun i x h => ?_⟩
  by_cases hi : i < Γ.length
  · rw [List.getElem?_append_left hi] at h
    rw [List.getElem?_append_left (by rw [← a.1]; exact hi)]
    exact a.2 i x h
  · rw [List.getElem?_append_right (Nat.not_lt.mp hi)] at h
    rw [List.getElem?_append_right (by rw [← a.1]; exact Nat.not_lt.mp hi), ← a.1]
    exact b.2 _ x h
theorem SlL.vals {ds : List D} {us : List V} (l : DenL K G ds us) : SlL K H₀ H G (ds.map Sl.val) (us.map some) := by
  refine ⟨by rw [List.length_map, List.length_map, l.length], fun i x h => ?_⟩
  rw [List.getElem?_map] at h
  obtain ⟨d, e1, e2⟩ := Option.map_eq_some_iff.mp h
  subst e2
  obtain ⟨v, e3, e4⟩ := l.get e1
  exact ⟨v, by rw [List.getElem?_map, e3]; rfl, e4⟩
theorem SlL.uns (n : Nat) : SlL K H₀ H G (List.replicate n .un) (List.replicate n none) := by
  refine ⟨by rw [List.length_replicate, List.length_replicate], fun i x h => ?_⟩
  obtain ⟨_, e⟩ := List.getElem?_eq_some_iff.mp h
  rw [List.getElem_replicate] at e
  subst e
  trivial
theorem SlL.one {x : Sl} {o : Option V} (h : SlOk K H₀ H G x (some o)) : SlL K H₀ H G [x] [o] := by
  refine ⟨rfl, fun i y e => ?_⟩
  cases i with
  | zero => cases e; exact h
  | succ i => cases e
end
def beginX (N : List Str) (p : Nat) (x : Sl) (ds : List D) : Ga := (ds.take p).map Sl.val ++ x :: ((ds.drop p).map Sl.val ++ List.replicate (N.length - (ds.length + 1)) Sl.un)
theorem beginX_mu {N : List Str} {p : Nat} {x y : Sl} {ds : List D} {i : Nat} (h : (beginX N p x ds)[i]? = some y) (hm : y.mu = true) : i = (ds.take p).length := by
  have nv : ∀ l : List D, ∀ z ∈ l.map Sl.val, z.mu = false := fun l z hz => by
    obtain ⟨d, _, rfl⟩ := List.mem_map.mp hz
    rfl
  unfold beginX at h
  by_cases hi : i < (ds.take p).length
  · rw [List.getElem?_append_left (by simpa using hi)] at h
    have := nv _ y (List.mem_of_getElem? h)
    rw [hm] at this; cases this
  · rw [List.getElem?_append_right (by simpa using hi)] at h
    rw [List.length_map] at h
    cases hk : i - (ds.take p).length with
    | zero => omega
    | succ k =>
      rw [hk, List.getElem?_cons_succ] at h
      rcases List.mem_append.mp (List.mem_of_getElem? h) with z | z
      · have := nv _ y z
        rw [hm] at this; cases this
      · rw [List.eq_of_mem_replicate z] at hm; cases hm
theorem rep_beginX {K : PySem.W.Frag} {H₀ H G : Hp} {N : List Str} {p : Nat} {x : Sl} {ds : List D} {us : List V} {v : V} (ex : Ext H₀ G H G) (l : DenL K G ds us) (h : SlOk K H₀ H G x (some (some v))) : Rep K H₀ G (beginX N p x ds) (L2.start N (insA p v us)) H G := by
  have e : L2.start N (insA p v us) = (us.take p).map some ++ (some v :: ((us.drop p).map some ++ List.replicate (N.length - (us.length + 1)) none)) := by
    unfold L2.start
    rw [insA_length]
    unfold insA
    simp
  rw [e, ← l.length]
  have s := (SlL.vals (H₀ := H₀) (H := H) (l.take p)).append ((SlL.one h).append ((SlL.vals (H₀ := H₀) (H := H) (l.drop p)).append (SlL.uns (H₀ := H₀) (H := H) (K := K) (G := G) (N.length - (ds.length + 1)))))
  exact ⟨ex, s.1, s.2, fun i j y z a h1 h2 m1 m2 _ _ => (beginX_mu h1 m1).trans (beginX_mu h2 m2).symm⟩
noncomputable def par0 {α : Type} (g : Addr → R α) : R α := open Classical in if ∀ a, g a = g 0 then g 0 else .no
theorem par0_eq {α : Type} {g : Addr → R α} {r : R α} (h : ∀ a, g a = r) : par0 g = r := by
  unfold par0
  rw [if_pos fun a => (h a).trans (h 0).symm]
  exact h 0
theorem par0_want {α : Type} {g : Addr → R α} {E : Str → Prop} {P : α → Prop} (w : (par0 g).want E P) (a : Addr) : (g a).want E P := by
  unfold par0 at w
  split at w
  · rename_i h; rw [h a]; exact w
  · exact w.elim
def callM (N : List Str) (p : Nat) (S : Ga → RM) (a : Addr) (ds xs : List D) : R (D × List D) := match S (beginX N p (.par a xs) ds) with
  | .rt d Γ => (match Γ[p]? with
    | some (.par b ys) => if b = a then .ok (d, ys) else .no
    | _ => .no)
  | .ex c _ => .ex c
  | _ => .no
section
variable {P : Program} {w : World} {K : PySem.W.Frag} {mg : Str → Option Value} {base : Heap}
theorem fn_O1 {x qual : Str} {st : Stmt} {f : Addr} {fd : FuncData} {N ps : List Str} {k p : Nat} {S : Ga → RM} (Fn : Fun K x qual st f fd) (Sc : FnScope N ps (defScope st))
    (B : ∀ (cdv : Value) (A : Around) (outer : List Env) (s : Shared) (H : Hp) (W : XP) (E : XK), Room k (A.deeper (envOfC qual (defScope st) s.heap.objs.size f cdv)) →
      ExMs ((cxOf (CX1 P w) P w K mg base N qual (defScope st) f cdv A outer s H E).xw W) W (defBody st) S) :
    FnOk P w K mg base (CX1 P w) (k + 1) f fd ps (spO K ps.length p fun ds xs => par0 fun a => callM N p S a ds xs) := by
  obtain ⟨oc, od, kV, doc, pm, an, cdv, ct, osl, rfl, lk, hcd⟩ := Fn.ex
  refine fn_of lk hcd Sc (fun vs H Q E h => ?_) fun A outer s H vs Q E hr h => ?_
  · obtain ⟨G, ds, us, a, xs, ws, rfl, _, l, hl, _⟩ := h
    rw [insA_length, ← l.length]; exact hl
  · obtain ⟨G, ds, us, a, xs, ws, rfl, g, l, hl, ha, ga, lx, q⟩ := h
    have q := par0_want q a
    obtain ⟨t, pt, hd⟩ := B cdv A outer s H (fun c _ H' G' => ∀ cls, ClsIs K c cls → E cls none H') E hr
    refine ⟨t, pss_wish pt ?_, hd (delA H a) G _ _ H G (rep_beginX (x := .par a xs) (Ext.del g ga) l ⟨rfl, ws, ha, delA_same, ga, lx⟩) _ ?_⟩
    · rintro e s' ⟨ea, σ, H', G', c, C, rfl, I, hc, hw, x⟩
      have Dc : DefCx (cxOf (CX1 P w) P w K mg base N qual (defScope st) f cdv A outer s H E) := ⟨rfl, rfl, rfl⟩
      show wpAny _ _ (leaving _ (.ref ea)) _ _ s'
      unfold leaving
      refine wpAny_bind (note_ok (X := cxOf (CX1 P w) P w K mg base N qual (defScope st) f cdv A outer s H E) Dc I x fun s1 I1 x1 => ?_)
      refine flight_ok (X := cxOf (CX1 P w) P w K mg base N qual (defScope st) f cdv A outer s H E) (o := none) I1 x1 rfl fun s2 I2 x2 => ?_
      have young : ∀ b, Fp (cxOf (CX1 P w) P w K mg base N qual (defScope st) f cdv A outer s H E) [] H' b → s.heap.get? b = none ∧ H' b = none := fun b hb => ⟨hb.new, hb.fr⟩
      exact ⟨ea, C, H', rfl, I2.os, I2.bare, I2.base, I2.hok, hw _ ⟨C, rfl, hc⟩, x2.at young (.inl rfl)⟩
    · unfold callM at q
      cases hS : S (beginX N p (.par a xs) ds) with
      | rt d Γ =>
        rw [hS] at q
        dsimp only at q
        split at q
        · rename_i b ys hb
          split at q
          · rename_i e
            subst e
            intro v σ' H' G' R' dv
            obtain ⟨_, ws', e1, e2, e3, e4⟩ := R'.all p _ hb
            exact q v H' G' ws' R'.ex e1 e3 e4 dv
          · exact q.elim
        · exact q.elim
      | nx Γ => rw [hS] at q; exact q.elim
      | ex c Γ => rw [hS] at q; exact fun σ H' G' R cls hcls => q cls none H' G' hcls R.ex
      | no => rw [hS] at q; exact q.elim
end
section
variable {X : Cx} {W : XP} {e : Expr} {es : List Expr} {f : Ga → R D} {fl : Ga → R (List D)} {pos p pn : Pos} {x y : Str}
end
end Wy


namespace Wy
open PySem PySem.Spec PyProof.Rows L2
theorem boot_reversed : bootBuiltins "reversed" = some (.type "reversed") := by rfl
def Itv (K : PySem.W.Frag) (a : Addr) (n : Nat) : It :=
  ⟨fun i H => i < n ∧ ∃ xs, SqL K H a xs ∧ xs.length = n, fun i H x H' => H' = H ∧ ∀ xs, SqL K H a xs → xs[n - 1 - i]? = some x, fun i _ => n ≤ i⟩
theorem turn_rev {P : Program} {w : World} {K : PySem.W.Frag} {tg : Expr} (a it : Addr) (n : Nat) : Turn P w K tg (Itv K a n) [it] it (fun i h => i ≤ n ∧ h.IsRevIter it a ((n : Int) - 1 - (i : Int))) where
  mem := by simp
  obj := fun i h st b hb => by
    have e : b = it := by simpa using hb
    subst e
    obtain ⟨_, o, e, c, d⟩ := st
    exact ⟨o, e, fun v z => by rw [d] at z; cases z⟩
  keep := fun i h h' st k => ⟨st.1, st.2.at fun o e => k it (by simp) o e⟩
  item := by
    intro X hP hw hK hc i pins s σ H E I hf st hg
    subst hP hw hK
    obtain ⟨hi, xs, hq, hn⟩ := hg
    obtain ⟨its, rv, p, hz⟩ := I.list hq
    have hx : xs[n - 1 - i]? = some (xs[n - 1 - i]'(by omega)) := List.getElem?_eq_getElem (by omega)
    obtain ⟨u, hu, ru⟩ := rv.get hx
    obtain ⟨f0, f1, f2, f3, f4, f5⟩ := hf it (by simp)
    have e1 : (n : Int) - 1 - (i : Int) = ((n - 1 - i : Nat) : Int) := by omega
    have hit := st.2
    rw [e1] at hit
    refine wpAny_pyNext_rev_item hit p.isList (x := u) (by simpa using hu) fun h' st' sb => ?_
    have e2 : ((n - 1 - i : Nat) : Int) - 1 = (n : Int) - 1 - ((i + 1 : Nat) : Int) := by omega
    rw [e2] at st'
    have I1 : Inv X pins σ H { s with heap := h' } := I.turned (t' := s.toks) (fun b o hb e => (sb.2 b hb).trans e) f0 f1 f3 f4 f5
    obtain ⟨o, e, c, d⟩ := id st'
    exact ⟨u, rfl, go_of (s := { s with heap := h' }) e c d (by decide) ⟨_, H, I1, ru, ⟨rfl, fun ys hy => by rw [I.list_inj hy hq]; exact hx⟩, ⟨hi, st'⟩, fun b hb => (hf b hb).1⟩⟩
  done := by
    intro X hP hw hK hc i pins s σ H E I hf st hg
    subst hP hw hK
    obtain ⟨f0, f1, f2, f3, f4, f5⟩ := hf it (by simp)
    have hi : i = n := Nat.le_antisymm st.1 hg
    have e1 : (n : Int) - 1 - (i : Int) = -1 := by omega
    have hit := st.2
    rw [e1] at hit
    exact wpAny_pyNext_rev_end (I.ok.hd hc) hit fun h' eb => ⟨rfl, I.turned (t' := s.toks) (fun b o hb e => eb b o hb e) f0 f1 f3 f4 f5⟩
  self := fun _ _ _ _ _ st h => wpAny_pyIter_revIter st.2 h
section
variable {X : Cx} {W : XP} {tg e : Expr} {fs : Ga → R (Bool × List D)} {f : Ga → R D} {fl : Ga → R (List D)} {pos p : Pos}
def iRevT (K : PySem.W.Frag) (tl : TA) : TI := fun σ H R => tl σ H fun vs H1 => ∃ a xs, vs = [.ref a] ∧ SqL K H1 a xs ∧ R (Itv K a xs.length) H1
theorem pi_rev {tl : TA} (hg : Gl X "reversed") (hm : X.mg "reversed" = none) (hl : PA X [e] tl) (hse : starEach [e] X.env = [(false, eval e X.env)] := by rfl) : PI X tg (.Call (.Name "reversed" p) [e] [] pos) (iRevT X.K tl) := by
  intro pins s σ H R I h
  refine wpAny_Call_Name_kw (ld_blt I hg hm boot_reversed ?_)
  refine PyProof.Rows.callWith_type1 (thn (hl pos pins s σ H _ I h) fun us s1 ⟨vs, H1, I1, r, a, xs, e1, hq, q⟩ => ?_) hse rfl
  subst e1
  obtain ⟨u, rfl, ru⟩ := r.one
  obtain rfl : u = Value.ref a := ru
  obtain ⟨its, rv, p, hz⟩ := I1.list hq
  refine call_reversed_list p.isList ?_
  have hn : its.toArray.size = xs.length := by rw [List.size_toArray]; exact rv.length.symm
  rw [hn]
  refine wpAny_pyIter_revIter (l := a) (i := (xs.length : Int) - 1) ⟨_, Heap.get?_push_size _ rfl, rfl, rfl⟩ ?_
  refine ⟨s1.heap.objs.size, [s1.heap.objs.size], _, _, H1, rfl, I1.kept (t' := s1.toks) (fun b o e => Heap.get?_push_of_some _ e), turn_rev a _ xs.length, ⟨Nat.zero_le _, _, Heap.get?_push_size _ rfl, rfl, ?_⟩, fun b hb => ?_, q⟩
  · show Data.fields _ = _
    simp
  · have e : b = s1.heap.objs.size := by simpa using hb
    subst e
    exact I1.fpOk (Nat.le_refl _) (I1.hok.fresh (Nat.le_refl _))
def iRev (f : Ga → R D) : Ga → R (List D) := fun Γ => (f Γ).bind fun d => (R.ofO (asL d)).bind fun ds => .ok ds.reverse
theorem it_rev (hg : Gl X "reversed") (hm : X.mg "reversed" = none) (he : EvD X W e f) (hse : starEach [e] X.env = [(false, eval e X.env)] := by rfl) : ItD X W tg (.Call (.Name "reversed" p) [e] [] pos) (iRev f) := by
  obtain ⟨t, pt, q⟩ := he
  refine ⟨_, pi_rev hg hm (pa_cons pt pa_nil hse) hse, fun H₀ G₀ Γ σ H G R Q w => ?_⟩
  refine q _ _ _ _ _ _ R _ (wStep w (fun _ h => h) fun d w v H' G' E1 d1 => ?_)
  obtain ⟨ds, e2, k⟩ := wOfOb w
  cases asL_eq e2
  obtain ⟨a, vs, rfl, s, l⟩ := den_lst.mp d1
  have hl := l.length
  refine ⟨a, vs, rfl, E1.gh.seq s, k _ H' G' E1 fun i H2 G2 g2 h2 => ⟨fun d hd => ?_, fun hi => ?_⟩⟩
  · have hi : i < ds.length := by
      have := (List.getElem?_eq_some_iff.mp hd).1
      rwa [List.length_reverse] at this
    rw [List.getElem?_reverse hi] at hd
    obtain ⟨v, hv, dv⟩ := l.get hd
    refine ⟨⟨by rw [← hl]; exact hi, vs, (g2.trans h2).seq s, rfl⟩, fun x H3 ⟨z, y⟩ => ?_⟩
    subst z
    have q := y vs ((g2.trans h2).seq s)
    rw [← hl] at q
    rw [hv] at q
    cases q
    exact ⟨G2, .refl h2, dv.up g2⟩
  · rw [List.length_reverse] at hi
    show vs.length ≤ i
    rw [← hl]; exact hi
end
end Wy


namespace Wy
open PySem PySem.Spec PyProof.Rows L2
section
variable {K : PySem.W.Frag} {H₀ G₀ H G : Hp} {Γ : Ga} {σ : L2.St}
end
section
variable {X : Cx} {pins : List (Addr × Obj)} {σ : L2.St} {H H₀ G₀ G : Hp} {Γ : Ga} {s : Shared} {scope : Scope} {cl : List (Str × Addr)} {x : Str} {px pos : Pos} {fp : List Addr} {elt iter : Expr} {f : Ga → R (D × Ga)}
end
section
variable {X : Cx} {scope : Scope} {cl : List (Str × Addr)} {x y : Str} {px py pos spos : Pos} {elt iter : Expr} {f : Ga → R (D × Ga)} {fl : Ga → R (List D)}
end
end Wy


namespace PySem.SeqAt
open PySem PySem.AutoSeq1 PySem.MeetsSeq PySem.MeetsSeq2 PySem.MeetsSeq3
theorem tuple_indexAt (l : Addr) (items : Array Value) (n : Nat) (dd : Option Addr) (sl : Array (Option Value)) (x : Value) (e : Value → Bool) (j : Nat) (hj : j < items.size)
    (hit : e items[j] = true) (hno : ∀ m (hm : m < items.size), m < j → e items[m] = false) :
    Meets (Builtin.«tuple.index» ⟨[.ref l, x], []⟩)
      (fun A R s => s.heap.get? l = some { cls := .type "tuple", dict := dd, data := .seq items n, slots := sl } ∧ (∀ y, y ∈ items → EqAt A.in1 s y x (e y)) ∧ R (.ok (.ret (.int j s.toks))) { s with toks := s.toks + 1 }) := by
  intro prog w A R s h
  obtain ⟨hp, g, d, tk, os⟩ := s; obtain ⟨hl, he, h⟩ := h
  wp_walk using wpAny_loadPart' hl
  show wpAny _ _ (forIn [:min items.size items.size] _ _) _ _ _
  rw [Std.Legacy.Range.forIn_eq_forIn_range']
  have hz : ([:min items.size items.size] : Std.Legacy.Range).size = items.size := by simp [Std.Legacy.Range.size]
  rw [hz]
  have key : ∀ (k i : Nat), j - i = k → i ≤ j → ∀ (f : Nat → Option PySem.Fin × Unit → Sem (ForInStep (Option PySem.Fin × Unit))) (Q : Option PySem.Fin × Unit → Shared → Prop) (E : Value → Shared → Prop),
      (∀ m r, f m r = match items[m]? with
            | some y => do
              let __do_lift ← eqBool y x
              if __do_lift = true then do
                  let __do_lift ← retInt ↑m
                  pure (ForInStep.done (some __do_lift, ()))
                else pure (ForInStep.yield (none, ()))
            | x => pure (ForInStep.yield (none, ()))) →
      Q (some (.done (.ret (.int j tk))), ()) { heap := hp, gens := g, drawn := d, toks := tk + 1, os := os } → wpAny (model prog w) A.in1 (forIn (List.range' i (items.size - i) 1) (none, ()) f) Q E { heap := hp, gens := g, drawn := d, toks := tk, os := os } := by
    intro k
    induction k with
    | zero =>
      intro i hk hij f Q E hf hQ
      have hi : i = j := by omega
      subst hi
      obtain ⟨q, hq⟩ : ∃ q, items.size - i = q + 1 := ⟨items.size - i - 1, by omega⟩
      rw [hq, List.range'_succ, List.forIn_cons, hf]
      rw [Array.getElem?_eq_getElem hj]
      refine wpAny_bind ?_
      refine wpAny_bind (he _ (Array.getElem_mem hj) prog w _ _ ?_)
      rw [hit]
      wp_walk
      exact hQ
    | succ k ih =>
      intro i hk hij f Q E hf hQ
      have hlt : i < items.size := by omega
      obtain ⟨q, hq⟩ : ∃ q, items.size - i = q + 1 := ⟨items.size - i - 1, by omega⟩
      rw [hq, List.range'_succ, List.forIn_cons, hf]
      rw [Array.getElem?_eq_getElem hlt]
      refine wpAny_bind ?_
      refine wpAny_bind (he _ (Array.getElem_mem hlt) prog w _ _ ?_)
      rw [hno i hlt (by omega)]
      rw [if_neg Bool.false_ne_true]
      refine wpAny_pure ?_
      have := ih (i + 1) (by omega) (by omega) f Q E hf hQ
      rw [show items.size - (i + 1) = q by omega] at this
      exact this
  have := key j 0 (by omega) (Nat.zero_le _)
  rw [Nat.sub_zero] at this
  refine this _ _ _ (fun m r => rfl) ?_
  wp_walk
  exact h
end PySem.SeqAt
namespace Wy
open PySem PySem.Spec PyProof.Rows L2
section
variable {X : Cx}
theorem mt_indexT (hu : X.A.units + 150 < cLine) : MtR X "tuple.index" (fun x xs H Q => ∃ G p vs ds d v j, x = .ref p ∧ xs = [v] ∧ Same G H ∧ SqT X.K H p vs ∧ DenL X.K G ds vs ∧ Den X.K G d v ∧ depDL ds ≤ 99 ∧ ixOf d ds = some j ∧ Q (.int (j : Int)) H) := by
  rintro pins s σ H x xs v us Q I rx rv ⟨G, p, vs, ds, d, vd, j, rfl, rfl, g, sq, l, hd, hdep, hj, q⟩
  cases rx
  obtain ⟨u, rfl, ru⟩ := rv.one
  obtain ⟨its, r, ⟨⟨c1, d1, t1, s1⟩, g1, hc1, n1, hd1⟩, hz⟩ := I.tuple sq
  cases hc1
  cases hd1
  obtain ⟨h1, h2, h3⟩ := ixOf_some hj
  have hl := l.length
  have hr := r.length
  obtain ⟨e, he, hat⟩ := mem_at2 I g hd ru hu hdep l r
  have at_ : ∀ m (hm : m < its.length) (hm' : m < ds.length), e its[m] = eqDD ds[m] d := fun m hm hm' => by
    rw [hat m hm, List.getD_eq_getElem?_getD, List.getElem?_eq_getElem hm']
    rfl
  have hjn : j < its.toArray.size := by rw [List.size_toArray]; omega
  refine call_meets F.slot_tuple_index ⟨_, g1, rfl⟩ F.entry_tuple_index (F.args_tuple_index_2 _ _)
    (SeqAt.tuple_indexAt p its.toArray n1 d1 s1 u e j hjn ?_ ?_) ⟨g1, fun y hy => he y (by simpa using hy), .int (j : Int), H, I.tok _, ⟨_, rfl⟩, q⟩
  · have := at_ j (by omega) h1
    rw [h2] at this
    simpa using this
  · intro m hm hlt
    rw [List.size_toArray] at hm
    have := at_ m hm (by omega)
    rw [h3 m (by omega) hlt] at this
    simpa using this
variable {W : XP} {o e : Expr} {fs : Ga → R (Bool × List D)} {fe : Ga → R D} {apos cpos : Pos}
def indexT (ds : List D) (d : D) : Option D := if depDL ds ≤ 99 then (ixOf d ds).map fun (j : Nat) => D.int (j : Int) else none
def GlobTx (K : PySem.W.Frag) (mg : Str → Option Value) (x : Str) (ds : List D) : Prop := ∃ (p : Addr) (o : Obj) (vs : List V), mg x = some (.ref p) ∧ K.lookup p = some o ∧ o.cls = .type "tuple" ∧ o.dict = none ∧ SqT K (fun _ => none) p vs ∧ DenL K (fun _ => none) ds vs
theorem globTx {K : PySem.W.Frag} {h : Heap} {mg : Str → Option Value} (X : K.In h) (G : h.Ns mainGlobals mg) {x : Str} {p : Addr} {its : Array Value} {n : Nat} {sl : Array (Option Value)} {ds : List D} {vs : List V}
    (a : PySem.W.nsIn K mainGlobals x = some (some (.ref p))) (l : K.lookup p = some ⟨.type "tuple", none, .seq its n, sl⟩) (hz : its.size ≤ sizeLine) (hv : Vals vs its.toList) (hd : DenL K (fun _ => none) ds vs) : GlobTx K mg x ds :=
  ⟨p, _, vs, PySem.W.mg_of X G a, l, rfl, rfl, .inr ⟨_, its, n, l, rfl, rfl, hz, hv⟩, hd⟩
def eIndexG (ds : List D) (fe : Ga → R D) : Ga → R D := fun Γ => (fe Γ).bind fun d => .ofO (indexT ds d)
theorem ev_indexG {x : Str} {ds : List D} {pn : Pos} (h : GlobTx X.K X.mg x ds) (hg : Gl X x) (hu : X.A.units + 150 < cLine) (he : EvD X W e fe) (hdb : (x == ("__debug__" : Str)) = false := by decide) (hs : starEach [e] X.env = [(false, eval e X.env)] := by rfl) (hline : (apos.endLine == cpos.line) = true := by rfl)
    (hbase : attributeBase (.Name x pn) "index" X.env (eval (.Name x pn) X.env) = eval (.Name x pn) X.env := by rfl)
    (hfew : ((backTo cpos (starEach [e] X.env)).all (fun x => !x.1) && (backToKw cpos (keywordEach [] X.env)).all (fun x => x.1.isSome)
      && decide ([e].length + ([] : List Keyword).length + (if ([] : List Keyword).isEmpty then 0 else 1) < 30)) = true := by rfl) :
    EvD X W (.Call (.Attribute (.Name x pn) "index" apos) [e] [] cpos) (eIndexG ds fe) := by
  obtain ⟨p0, o, vs, h1, h2, h3, h4, h5, h6⟩ := h
  obtain ⟨t, p, q⟩ := he
  refine ⟨_, pe_bm PySem.F.plainAttrs_tuple PySem.F.slot_tuple_index PySem.F.type_tuple_index (mt_indexT hu) (pe_glob (v := .ref p0) hg h1 rfl hdb) (pa_cons p pa_nil hs) hbase hfew hline hs rfl, fun H₀ G₀ Γ σ H G R Q w => ?_⟩
  refine ⟨.inr (.inl ⟨rfl, o, h2, h3, h4⟩), q _ _ _ _ _ _ R _ (wStep w (fun _ h => h) fun d2 w v2 H2 G2 E2 d3 => ?_)⟩
  obtain ⟨d', e2, w⟩ := wOfO w
  unfold indexT at e2
  split at e2
  · rename_i hdep
    obtain ⟨j, e3, e4⟩ := Option.map_eq_some_iff.mp e2
    cases e4
    have em : ∀ {Z : Hp}, Same (fun _ => none) Z := fun {Z} => fun _ _ z => nomatch z
    exact ⟨G2, p0, vs, ds, d2, v2, j, rfl, rfl, E2.gh, Same.seqT em h5, h6.up em, d3, hdep, e3, w _ H2 G2 E2 den_int⟩
  · cases e2
end
end Wy


namespace Pg
open PySem PySem.Spec PyProof.Rows L2 Wy Wl Lw
def c_WORDS : D := .tup [.str "not", .str "and", .str "or", .str "all", .str "some"]
def c_LETTERS : D := .str "abcdefghijklmnopqrstuvwxyz"
def c_KINDS : D := .tup [.str "0", .str "1", .str "2"]
def ct_KINDS : List D := [.str "0", .str "1", .str "2"]
abbrev N_is_whole : List Str := ["thing"]
noncomputable def B_is_whole : Ga → RS := (sRet (eAnd (eIsi gInt (eV 0)) (eNot (eIsi gBool (eV 0)))))
noncomputable def M_is_whole : List D → R D := fun ds => callR N_is_whole (B_is_whole) ds
abbrev N_is_below : List Str := ["thing", "bound"]
noncomputable def B_is_below (M_is_whole : List D → R D) : Ga → RS := (sRet (eAnd (eCall M_is_whole (aCons (eV 0) aNil)) (e3 (int2 fun i j => some (.bl (decide (i ≤ j)))) ltD (eC (.int 0)) (eV 0) (eV 1))))
noncomputable def M_is_below : List D → R D := fun ds => callR N_is_below (B_is_below M_is_whole) ds
abbrev N_is_kind : List Str := ["thing"]
noncomputable def B_is_kind (M_is_below : List D → R D) : Ga → RS := (sRet (eCall M_is_below (aCons (eV 0) (aCons (eC (.int 3)) aNil))))
noncomputable def M_is_kind : List D → R D := fun ds => callR N_is_kind (B_is_kind M_is_below) ds
abbrev N_is_name : List Str := ["thing"]
noncomputable def B_is_name : Ga → RS := (sSeq (sIf (tOrR (tNotR (tTru (eIsi gStr (eV 0)))) (tB (e2 memA (eV 0) (eC c_WORDS)))) (sRet (eC (.bl false))) sNext) (sRet (eAnd (e3 (int2 fun i j => some (.bl (decide (i ≤ j)))) (int2 fun i j => some (.bl (decide (i ≤ j)))) (eC (.int 1)) (eB lenD (aCons (eV 0) aNil)) (eC (.int 4))) (eS allS (sO (cpR (iS (eV 0)) cTrue (e2 memA (eV 0) (eC c_LETTERS))))))))
noncomputable def M_is_name : List D → R D := fun ds => callR N_is_name (B_is_name) ds
abbrev N_is_formed : List Str := ["thing", "head"]
noncomputable def B_is_formed (M_is_name : List D → R D) (M_is_kind : List D → R D) : Ga → RS := (sSeq (sIf (tOrR (tNotR (tTru (eIsi gTuple (eV 0)))) (tB (e2 eqD (eB lenD (aCons (eV 0) aNil)) (eC (.int 0))))) (sRet (eC (.bl false))) sNext) (sSeq (sSet 1 (e2 ixD (eV 0) (eC (.int 0)))) (sSeq (sIf (tB (e2 eqD (eV 1) (eC (.str "name")))) (sRet (eAnd (e2 eqD (eB lenD (aCons (eV 0) aNil)) (eC (.int 2))) (eCall M_is_name (aCons (e2 ixD (eV 0) (eC (.int 1))) aNil)))) sNext) (sSeq (sIf (tB (e2 eqD (eV 1) (eC (.str "not")))) (sRet (e2 eqD (eB lenD (aCons (eV 0) aNil)) (eC (.int 2)))) sNext) (sSeq (sIf (tOrR (tB (e2 eqD (eV 1) (eC (.str "and")))) (tB (e2 eqD (eV 1) (eC (.str "or"))))) (sRet (e2 eqD (eB lenD (aCons (eV 0) aNil)) (eC (.int 3)))) sNext) (sSeq (sIf (tOrR (tB (e2 eqD (eV 1) (eC (.str "all")))) (tB (e2 eqD (eV 1) (eC (.str "some"))))) (sRet (eAnd (e2 eqD (eB lenD (aCons (eV 0) aNil)) (eC (.int 3))) (eCall M_is_kind (aCons (e2 ixD (eV 0) (eC (.int 1))) aNil)))) sNext) (sRet (eC (.bl false)))))))))
noncomputable def M_is_formed : List D → R D := fun ds => callR N_is_formed (B_is_formed M_is_name M_is_kind) ds
abbrev N_parts : List Str := ["saying", "head"]
noncomputable def B_parts : Ga → RS := (sSeq (sSet 1 (e2 ixD (eV 0) (eC (.int 0)))) (sSeq (sIf (tB (e2 eqD (eV 1) (eC (.str "name")))) (sRet (eTup aNil)) sNext) (sSeq (sIf (tOrR (tB (e2 eqD (eV 1) (eC (.str "all")))) (tB (e2 eqD (eV 1) (eC (.str "some"))))) (sRet (eSlA (eV 0) (oI (eC (.int 2))) oN)) sNext) (sRet (eSlA (eV 0) (oI (eC (.int 1))) oN)))))
noncomputable def M_parts : List D → R D := fun ds => callR N_parts (B_parts) ds
abbrev N_is_saying : List Str := ["thing", "waiting", "part"]
def L_is_saying_1 (M_is_formed : List D → R D) (M_parts : List D → R D) : Ga → RS := (sSeq (sPop 1 2) (sSeq (sIf (tNotR (tTru (eCall M_is_formed (aCons (eV 2) aNil)))) (sRet (eC (.bl false))) sNext) (sExt 1 (sE (eCall M_parts (aCons (eV 2) aNil))))))
noncomputable def B_is_saying (M_is_formed : List D → R D) (M_parts : List D → R D) : Ga → RS := (sSeq (sSetO 1 (aCons (eV 0) aNil)) (sSeq (sWhile (tB (e2 (int2 fun i j => some (.bl (decide (j < i)))) (eS lenS (sV 1)) (eC (.int 0)))) (L_is_saying_1 M_is_formed M_parts)) (sRet (eC (.bl true)))))
noncomputable def M_is_saying : List D → R D := fun ds => callR N_is_saying (B_is_saying M_is_formed M_parts) ds
abbrev N_walked : List Str := ["saying", "found", "waiting", "part"]
def L_walked_1 (M_parts : List D → R D) : Ga → RS := (sSeq (sPop 2 3) (sSeq (sApp 1 (eV 3)) (sExt 2 (sE (eRevT (eCall M_parts (aCons (eV 3) aNil)))))))
noncomputable def B_walked (M_parts : List D → R D) : Ga → RS := (sSeq (sSetO 1 aNil) (sSeq (sSetO 2 (aCons (eV 0) aNil)) (sSeq (sWhile (tB (e2 (int2 fun i j => some (.bl (decide (j < i)))) (eS lenS (sV 2)) (eC (.int 0)))) (L_walked_1 M_parts)) (sRetO 1))))
noncomputable def M_walked : List D → R D := fun ds => callR N_walked (B_walked M_parts) ds
abbrev N_first_words : List Str := ["saying", "head"]
noncomputable def B_first_words : Ga → RS := (sSeq (sSet 1 (e2 ixD (eV 0) (eC (.int 0)))) (sSeq (sIf (tB (e2 eqD (eV 1) (eC (.str "name")))) (sRet (eO (aCons (e2 ixD (eV 0) (eC (.int 1))) aNil))) sNext) (sSeq (sIf (tOrR (tB (e2 eqD (eV 1) (eC (.str "all")))) (tB (e2 eqD (eV 1) (eC (.str "some"))))) (sRet (eO (aCons (eV 1) (aCons (eB strD (aCons (e2 ixD (eV 0) (eC (.int 1))) aNil)) aNil)))) sNext) (sRet (eO (aCons (eV 1) aNil))))))
noncomputable def M_first_words : List D → R D := fun ds => callR N_first_words (B_first_words) ds
abbrev N_written : List Str := ["saying", "words", "part"]
def L_written_1 (M_first_words : List D → R D) : Ga → RS := (sExt 1 (sE (eCall M_first_words (aCons (eV 2) aNil))))
noncomputable def B_written (M_is_saying : List D → R D) (M_walked : List D → R D) (M_first_words : List D → R D) : Ga → RS := (sSeq (sIf (tNotR (tTru (eCall M_is_saying (aCons (eV 0) aNil)))) (sRaise "NoSaying" (aCons (eC (.str "what is no saying is not written")) aNil)) sNext) (sSeq (sSetO 1 aNil) (sSeq (sFor (iL (eCall M_walked (aCons (eV 0) aNil))) (gName' 2) (L_written_1 M_first_words)) (sRet (eJoin (eC (.str " ")) (sV 1))))))
noncomputable def M_written : List D → R D := fun ds => callR N_written (B_written M_is_saying M_walked M_first_words) ds
abbrev N_taken : List Str := ["ready"]
noncomputable def B_taken : Ga → RM := (mSeq (mIf (tB (e2 eqD (eS lenS (sV 0)) (eC (.int 0)))) (mOf (sRaise "NoText" (aCons (eC (.str "a part is missing")) aNil))) mNext) (mRet (mPop 0)))
noncomputable def M_taken : List D → List D → R (D × List D) := fun ds xs => par0 fun a => callM N_taken 0 (B_taken) a ds xs
abbrev N_taken_kind : List Str := ["ready", "kind"]
noncomputable def B_taken_kind (M_taken : List D → List D → R (D × List D)) (M_is_kind : List D → R D) : Ga → RM := (mSeq (mOf (sSetM 1 (mCall 0 M_taken aNil))) (mSeq (mIf (tNotR (tTru (eCall M_is_kind (aCons (eV 1) aNil)))) (mOf (sRaise "NoText" (aCons (eC (.str "a kind is missing")) aNil))) mNext) (mRet (mE (eV 1)))))
noncomputable def M_taken_kind : List D → List D → R (D × List D) := fun ds xs => par0 fun a => callM N_taken_kind 0 (B_taken_kind M_taken M_is_kind) a ds xs
abbrev N_taken_saying : List Str := ["ready", "saying"]
noncomputable def B_taken_saying (M_taken : List D → List D → R (D × List D)) (M_is_kind : List D → R D) : Ga → RM := (mSeq (mOf (sSetM 1 (mCall 0 M_taken aNil))) (mSeq (mIf (tTru (eCall M_is_kind (aCons (eV 1) aNil))) (mOf (sRaise "NoText" (aCons (eC (.str "a kind stands where a saying belongs")) aNil))) mNext) (mRet (mE (eV 1)))))
noncomputable def M_taken_saying : List D → List D → R (D × List D) := fun ds xs => par0 fun a => callM N_taken_saying 0 (B_taken_saying M_taken M_is_kind) a ds xs
abbrev N_begun_with : List Str := ["word", "ready", "first", "kind"]
noncomputable def B_begun_with (M_is_name : List D → R D) (M_taken_saying : List D → List D → R (D × List D)) (M_taken_kind : List D → List D → R (D × List D)) : Ga → RM := (mSeq (mIf (tTru (eCall M_is_name (aCons (eV 0) aNil))) (mRet (mE (eTup (aCons (eC (.str "name")) (aCons (eV 0) aNil))))) mNext) (mSeq (mIf (tB (e2 memA (eV 0) (eC c_KINDS))) (mRet (mE (eIndexG ct_KINDS (eV 0)))) mNext) (mSeq (mIf (tB (e2 eqD (eV 0) (eC (.str "not")))) (mRet (mTup (mCons (mE (eC (.str "not"))) (mCons (mCall 1 M_taken_saying aNil) mNil)))) mNext) (mSeq (mIf (tOrR (tB (e2 eqD (eV 0) (eC (.str "and")))) (tB (e2 eqD (eV 0) (eC (.str "or"))))) (mSeq (mOf (sSetM 2 (mCall 1 M_taken_saying aNil))) (mRet (mTup (mCons (mE (eV 0)) (mCons (mE (eV 2)) (mCons (mCall 1 M_taken_saying aNil) mNil)))))) mNext) (mSeq (mIf (tOrR (tB (e2 eqD (eV 0) (eC (.str "all")))) (tB (e2 eqD (eV 0) (eC (.str "some"))))) (mSeq (mOf (sSetM 3 (mCall 1 M_taken_kind aNil))) (mRet (mTup (mCons (mE (eV 0)) (mCons (mE (eV 3)) (mCons (mCall 1 M_taken_saying aNil) mNil)))))) mNext) (mOf (sRaise "NoText" (aCons (eC (.str "a word is neither a name nor a kind nor a head")) aNil))))))))
noncomputable def M_begun_with : List D → List D → R (D × List D) := fun ds xs => par0 fun a => callM N_begun_with 1 (B_begun_with M_is_name M_taken_saying M_taken_kind) a ds xs
abbrev N_read : List Str := ["text", "ready", "word", "saying"]
def L_read_1 (M_begun_with : List D → List D → R (D × List D)) : Ga → RS := (sAppM 1 (mCall 1 M_begun_with (aCons (eV 2) aNil)))
noncomputable def B_read (M_begun_with : List D → List D → R (D × List D)) (M_taken_saying : List D → List D → R (D × List D)) : Ga → RS := (sSeq (sSetO 1 aNil) (sSeq (sFor (iRev (eO (oSplit (eV 0) (eC (.str " "))))) (gName' 2) (L_read_1 M_begun_with)) (sSeq (sSetM 3 (mCall 1 M_taken_saying aNil)) (sSeq (sIf (tB (e2 (int2 fun i j => some (.bl (decide (j < i)))) (eS lenS (sV 1)) (eC (.int 0)))) (sRaise "NoText" (aCons (eC (.str "words stand behind the saying")) aNil)) sNext) (sRet (eV 3))))))
noncomputable def M_read : List D → R D := fun ds => callR N_read (B_read M_begun_with M_taken_saying) ds
end Pg


namespace Wl
open PySem PySem.Spec PyProof.Rows L2 Wy
def sizeS : Say → Nat
  | .nm _ => 1
  | .neg a => sizeS a + 1
  | .two _ a b => sizeS a + sizeS b + 1
  | .way _ _ a => sizeS a + 1
def partsS : Say → List Say
  | .nm _ => []
  | .neg a => [a]
  | .two _ a b => [a, b]
  | .way _ _ a => [a]
def firstW : Say → List Str
  | .nm x => [x]
  | .neg _ => ["not"]
  | .two c _ _ => [hd2 c]
  | .way c k _ => [hdw c, kt k]
theorem size_parts (s : Say) : sizeS s = ((partsS s).map sizeS).sum + 1 := by
  cases s <;> simp [sizeS, partsS]
theorem size_pos (s : Say) : 1 ≤ sizeS s := by rw [size_parts]; omega
theorem okG_parts {s : Say} (h : okG s = true) : ∀ p ∈ partsS s, okG p = true := by
  cases s with
  | nm x => intro p hp; cases hp
  | neg a => intro p hp; rw [partsS, List.mem_singleton] at hp; subst hp; exact h
  | two c a b =>
    rw [okG, Bool.and_eq_true] at h
    intro p hp
    simp only [partsS, List.mem_cons, List.not_mem_nil, or_false] at hp
    rcases hp with rfl | rfl
    · exact h.1
    · exact h.2
  | way c k a =>
    rw [okG, Bool.and_eq_true] at h
    intro p hp
    rw [partsS, List.mem_singleton] at hp
    subst hp
    exact h.2
theorem size_words : ∀ s, sizeS s ≤ (words s).length
  | .nm _ => by simp [sizeS, words]
  | .neg a => by have := size_words a; simp [sizeS, words]; omega
  | .two _ a b => by have := size_words a; have := size_words b; simp [sizeS, words]; omega
  | .way _ _ a => by have := size_words a; simp [sizeS, words]; omega
theorem words_W (s : Say) : W (words s) = (txt s).length + 1 := by
  rw [← join_words]
  exact (join_len (words_ne s)).symm
theorem size_txt (s : Say) : sizeS s ≤ (txt s).length + 1 := by
  have h1 := size_words s
  have h2 := len_W (words s)
  rw [words_W] at h2
  omega
end Wl
namespace Pg
open PySem PySem.Spec PyProof.Rows L2 Wy Wl Lw
theorem in_letters : ∀ c, c < 128 → inStr ⟨#[c]⟩ "abcdefghijklmnopqrstuvwxyz" = (decide (97 ≤ c) && decide (c ≤ 122)) := by
  decide +kernel
theorem mem_words (x : Str) : memA (.str x) c_WORDS = some (.bl (decide (x ∈ kept))) := by
  unfold c_WORDS
  rw [memA_tup (by simp [depDL])]
  refine congrArg (fun b => some (D.bl b)) ?_
  rw [Bool.eq_iff_iff, decide_eq_true_iff]
  simp only [List.any_cons, List.any_nil, Bool.or_false, eqDD_str, Bool.or_eq_true, decide_eq_true_iff, kept, List.mem_cons, List.not_mem_nil, or_false]
  constructor
  · rintro (h | h | h | h | h)
    · exact .inl h.symm
    · exact .inr (.inl h.symm)
    · exact .inr (.inr (.inl h.symm))
    · exact .inr (.inr (.inr (.inl h.symm)))
    · exact .inr (.inr (.inr (.inr h.symm)))
  · rintro (h | h | h | h | h)
    · exact .inl h.symm
    · exact .inr (.inl h.symm)
    · exact .inr (.inr (.inl h.symm))
    · exact .inr (.inr (.inr (.inl h.symm)))
    · exact .inr (.inr (.inr (.inr h.symm)))
theorem m_name (x : Str) (ha : asc x) (hl : x.length ≤ 3000) : M_is_name [.str x] = .ok (.bl (isNm x)) := by
  have hlx : lenD [.str x] = some (.int (x.length : Int)) := by
    unfold lenD
    dsimp only
    rw [if_pos (by omega)]
  have e1 : eS allS (sO (cpR (iS (eV 0)) cTrue (e2 memA (eV 0) (eC c_LETTERS)))) [.val (.str x)] = .ok (.bl (x.cps.toList.all fun c => decide (97 ≤ c) && decide (c ≤ 122))) := by
    rw [all_cp (ds := Wy.signs x) (p := fun d => match d with | .str s => inStr s "abcdefghijklmnopqrstuvwxyz" | _ => false)]
    · refine congrArg (fun b => R.ok (D.bl b)) ?_
      unfold Wy.signs
      rw [List.all_map]
      rw [Bool.eq_iff_iff, List.all_eq_true, List.all_eq_true]
      constructor
      · intro h c hc
        have := h c hc
        simp only [Function.comp] at this
        rw [in_letters c (ha c hc)] at this
        exact this
      · intro h c hc
        simp only [Function.comp]
        rw [in_letters c (ha c hc)]
        exact h c hc
    · have : asSigns (.str x) = some (Wy.signs x) := by
        unfold asSigns
        dsimp only
        rw [if_pos]
        rw [Array.all_eq_true']
        intro c hc
        exact decide_eq_true (ha c (by simpa using hc))
      simp [this]
    · unfold Wy.signs
      rw [List.length_map, Array.length_toList]
      have : x.cps.size = x.length := rfl
      omega
    · intro d hd
      unfold Wy.signs at hd
      obtain ⟨c, _, rfl⟩ := List.mem_map.mp hd
      simp [c_LETTERS]
  have g1 : gStr "str" = true := rfl
  by_cases hk : x ∈ kept
  · have : isNm x = false := by unfold isNm; simp [hk]
    simp [M_is_name, B_is_name, begin_, mem_words, hk, this, g1]
  · have hi : isNm x = (decide (1 ≤ x.length) && decide (x.length ≤ 4) && x.cps.toList.all (fun c => decide (97 ≤ c) && decide (c ≤ 122))) := by unfold isNm; simp [hk]
    rw [hi]
    by_cases h1 : 1 ≤ x.length
    · have h1' : (1 : Int) ≤ (x.length : Int) := by omega
      by_cases h4 : x.length ≤ 4
      · have h4' : (x.length : Int) ≤ 4 := by omega
        simp [-eS_eq, M_is_name, B_is_name, begin_, mem_words, hk, g1, hlx, h1, h4, h1', h4', e1]
      · have h4' : ¬ (x.length : Int) ≤ 4 := by omega
        simp [-eS_eq, M_is_name, B_is_name, begin_, mem_words, hk, g1, hlx, h1, h4, h1', h4', e1]
    · have h1' : ¬ (1 : Int) ≤ (x.length : Int) := by omega
      simp [-eS_eq, M_is_name, B_is_name, begin_, mem_words, hk, g1, hlx, h1, h1', e1]
end Pg

namespace Pg
open PySem PySem.Spec PyProof.Rows L2 Wy Wl Lw
theorem isNm_asc {x : Str} (h : isNm x = true) : asc x := fun c hc => by
  unfold isNm at h
  simp only [Bool.and_eq_true] at h
  have := List.all_eq_true.mp h.1.2 c hc
  simp only [Bool.and_eq_true, decide_eq_true_iff] at this
  omega
theorem isNm_len {x : Str} (h : isNm x = true) : x.length ≤ 4 := by
  unfold isNm at h
  simp only [Bool.and_eq_true, decide_eq_true_iff] at h
  exact h.1.1.2
@[simp] theorem ty_dS (s : Say) : tyN (dS s) = "tuple" := by cases s <;> rfl
theorem len_nm (x : Str) : lenD [dS (.nm x)] = some (.int 2) := by simp [dS]
theorem len_neg (a : Say) : lenD [dS (.neg a)] = some (.int 2) := by simp [dS]
theorem len_two (c : Bool) (a b : Say) : lenD [dS (.two c a b)] = some (.int 3) := by simp [dS]
theorem len_way (c : Bool) (k : Nat) (a : Say) : lenD [dS (.way c k a)] = some (.int 3) := by simp [dS]
theorem m_kind {k : Nat} (h : k < 3) : M_is_kind [.int (k : Int)] = .ok (.bl true) := by
  have h0 : (0 : Int) ≤ (k : Int) := by omega
  have h3 : (k : Int) < 3 := by omega
  simp [M_is_kind, B_is_kind, M_is_below, B_is_below, M_is_whole, B_is_whole, begin_, gInt, gBool, h0, h3]
theorem m_formed {s : Say} (h : okG s = true) : M_is_formed [dS s] = .ok (.bl true) := by
  have g1 : gTuple "tuple" = true := rfl
  cases s with
  | nm x =>
    have e := m_name x (isNm_asc h) (Nat.le_trans (isNm_len h) (by decide))
    rw [show isNm x = true from h] at e
    simp [M_is_formed, B_is_formed, begin_, g1, len_nm, e]
  | neg a => simp [M_is_formed, B_is_formed, begin_, g1, len_neg]
  | two c a b => cases c <;> simp [M_is_formed, B_is_formed, begin_, g1, len_two, hd2]
  | way c k a =>
    rw [okG, Bool.and_eq_true, decide_eq_true_iff] at h
    cases c <;> simp [M_is_formed, B_is_formed, begin_, g1, len_way, hdw, m_kind h.1]
theorem m_parts (s : Say) : M_parts [dS s] = .ok (.tup ((partsS s).map dS)) := by
  cases s with
  | nm x => simp [M_parts, B_parts, begin_, partsS]
  | neg a =>
    have e : slA (dS (.neg a)) (some 1) none = some (.tup [dS a]) := by rw [dS, slA_tup]; rfl
    simp [M_parts, B_parts, begin_, partsS, e]
  | two c a b =>
    have e : slA (dS (.two c a b)) (some 1) none = some (.tup [dS a, dS b]) := by rw [dS, slA_tup]; rfl
    cases c <;> simp [M_parts, B_parts, begin_, partsS, e, hd2]
  | way c k a =>
    have e : slA (dS (.way c k a)) (some 2) none = some (.tup [dS a]) := by rw [dS, slA_tup]; rfl
    cases c <;> simp [M_parts, B_parts, begin_, partsS, e, hdw]
theorem m_first {s : Say} (h : okG s = true) : M_first_words [dS s] = .ok (.lst ((firstW s).map D.str)) := by
  cases s with
  | nm x => simp [M_first_words, B_first_words, begin_, firstW]
  | neg a => simp [M_first_words, B_first_words, begin_, firstW]
  | two c a b => cases c <;> simp [M_first_words, B_first_words, begin_, firstW, hd2]
  | way c k a =>
    rw [okG, Bool.and_eq_true, decide_eq_true_iff] at h
    have e0 : strD [.int (k : Int)] = some (.str (kt k)) := by rw [strD_eq, if_pos (by omega)]; rfl
    cases c <;> simp [-strD_eq, M_first_words, B_first_words, begin_, firstW, hdw, e0]
def sumS (L : List Say) : Nat := (L.map sizeS).sum
theorem sumS_app (a b : List Say) : sumS (a ++ b) = sumS a + sumS b := by unfold sumS; rw [List.map_append, List.sum_append]
theorem len_sumS (L : List Say) : L.length ≤ sumS L := by
  induction L with
  | nil => exact Nat.zero_le _
  | cons s L ih => have := size_pos s; unfold sumS at *; simp only [List.map_cons, List.sum_cons, List.length_cons]; omega
theorem snoc {L : List Say} (h : L ≠ []) : ∃ L' s, L = L' ++ [s] := ⟨L.dropLast, L.getLast h, (List.dropLast_concat_getLast h).symm⟩
theorem m_saying {s0 : Say} (h0 : okG s0 = true) (hs : sizeS s0 ≤ 100000) : M_is_saying [dS s0] = .ok (.bl true) := by
  have key : ∃ x2, sWhile (tB (e2 (int2 fun i j => some (.bl (decide (j < i)))) (eS lenS (sV 1)) (eC (.int 0)))) (L_is_saying_1 M_is_formed M_parts) [.val (dS s0), .own [dS s0], .un] = .nx [.val (dS s0), .own [], x2] := by
    refine while_inv (fun m Γ => ∃ L x2, Γ = [.val (dS s0), .own (L.map dS), x2] ∧ (∀ s ∈ L, okG s = true) ∧ sumS L = m ∧ m ≤ 100000) (fun r => ∃ x2, r = .nx [.val (dS s0), .own [], x2]) (m := sizeS s0) ⟨[s0], .un, rfl, fun s hs => by rw [List.mem_singleton.mp hs]; exact h0, by simp [sumS], hs⟩ (Nat.lt_of_le_of_lt hs (by decide)) ?_
    rintro m Γ ⟨L, x2, rfl, hok, hm, hle⟩
    by_cases hL : L = []
    · subst hL
      exact .inl ⟨by simp, x2, rfl⟩
    · obtain ⟨L', s, rfl⟩ := snoc hL
      have hs' := hok s (by simp)
      have hsum : sumS L' + sizeS s = m := by rw [sumS_app] at hm; simpa [sumS] using hm
      have hsz : sumS (L' ++ partsS s) + 1 = m := by rw [sumS_app, ← hsum, size_parts s]; unfold sumS; omega
      have hlen : L'.length + (partsS s).length < 16000000 := by have := len_sumS (L' ++ partsS s); rw [List.length_append] at this; omega
      have hpos : (0 : Int) < (L'.length : Int) + 1 := by omega
      refine .inr ⟨by simp [hpos], .inl ⟨[.val (dS s0), .own ((L' ++ partsS s).map dS), .val (dS s)], m - 1, .inl ?_, by omega, L' ++ partsS s, _, rfl, fun p hp => ?_, by omega, by omega⟩⟩
      · simp [L_is_saying_1, m_formed hs', m_parts, hlen]
      · rcases List.mem_append.mp hp with h | h
        · exact hok p (List.mem_append_left _ h)
        · exact okG_parts hs' p h
  obtain ⟨x2, key⟩ := key
  simp [M_is_saying, B_is_saying, begin_, key]
def subs : Say → List Say
  | .nm x => [.nm x]
  | .neg a => .neg a :: subs a
  | .two c a b => .two c a b :: (subs a ++ subs b)
  | .way c k a => .way c k a :: subs a
theorem subs_parts (s : Say) : subs s = s :: (partsS s).flatMap subs := by cases s <;> simp [subs, partsS]
theorem subs_len : ∀ s, (subs s).length = sizeS s
  | .nm _ => by simp [subs, sizeS]
  | .neg a => by have := subs_len a; simp [subs, sizeS]; omega
  | .two _ a b => by have := subs_len a; have := subs_len b; simp [subs, sizeS]; omega
  | .way _ _ a => by have := subs_len a; simp [subs, sizeS]; omega
theorem subs_words : ∀ s, (subs s).flatMap firstW = words s
  | .nm _ => by simp [subs, firstW, words]
  | .neg a => by have := subs_words a; simp [subs, firstW, words, this]
  | .two _ a b => by have := subs_words a; have := subs_words b; simp [subs, firstW, words, *]
  | .way _ _ a => by have := subs_words a; simp [subs, firstW, words, this]
theorem okG_subs : ∀ s, okG s = true → ∀ t ∈ subs s, okG t = true
  | .nm x, h, t, ht => by rw [subs, List.mem_singleton] at ht; subst ht; exact h
  | .neg a, h, t, ht => by
    rw [subs, List.mem_cons] at ht
    rcases ht with rfl | ht
    · exact h
    · exact okG_subs a h t ht
  | .two c a b, h, t, ht => by
    rw [subs, List.mem_cons, List.mem_append] at ht
    have h' := h
    rw [okG, Bool.and_eq_true] at h'
    rcases ht with rfl | ht | ht
    · exact h
    · exact okG_subs a h'.1 t ht
    · exact okG_subs b h'.2 t ht
  | .way c k a, h, t, ht => by
    rw [subs, List.mem_cons] at ht
    have h' := h
    rw [okG, Bool.and_eq_true] at h'
    rcases ht with rfl | ht
    · exact h
    · exact okG_subs a h'.2 t ht
theorem m_walked (s0 : Say) (hsz : sizeS s0 ≤ 100000) : M_walked [dS s0] = .ok (.lst ((subs s0).map dS)) := by
  have key : ∃ x3, sWhile (tB (e2 (int2 fun i j => some (.bl (decide (j < i)))) (eS lenS (sV 2)) (eC (.int 0)))) (L_walked_1 M_parts) [.val (dS s0), .own [], .own [dS s0], .un] = .nx [.val (dS s0), .own ((subs s0).map dS), .own [], x3] := by
    refine while_inv (fun m Γ => ∃ (acc L : List Say) (x3 : Sl), Γ = [.val (dS s0), .own (acc.map dS), .own (L.map dS), x3] ∧ sumS L = m ∧ m ≤ 100000 ∧ acc ++ L.reverse.flatMap subs = subs s0)
      (fun r => ∃ x3, r = .nx [.val (dS s0), .own ((subs s0).map dS), .own [], x3]) (m := sizeS s0) ⟨[], [s0], .un, rfl, by simp [sumS], hsz, by simp⟩ (Nat.lt_of_le_of_lt hsz (by decide)) ?_
    rintro m Γ ⟨acc, L, x3, rfl, hm, hle, hacc⟩
    by_cases hL : L = []
    · subst hL
      refine .inl ⟨by simp, x3, ?_⟩
      simp only [List.reverse_nil, List.flatMap_nil, List.append_nil] at hacc
      rw [hacc]
      rfl
    · obtain ⟨L', s, rfl⟩ := snoc hL
      have hsum : sumS L' + sizeS s = m := by rw [sumS_app] at hm; simpa [sumS] using hm
      have hrev : sumS (partsS s).reverse = sumS (partsS s) := by unfold sumS; rw [List.map_reverse, List.sum_reverse]
      have hsz2 : sumS (L' ++ (partsS s).reverse) + 1 = m := by rw [sumS_app, hrev, ← hsum, size_parts s]; unfold sumS; omega
      have hlen : L'.length + (partsS s).length < 16000000 := by have := len_sumS (L' ++ (partsS s).reverse); rw [List.length_append, List.length_reverse] at this; omega
      have hacc2 : (acc ++ [s]) ++ (L' ++ (partsS s).reverse).reverse.flatMap subs = subs s0 := by
        rw [← hacc]
        simp only [List.reverse_append, List.reverse_cons, List.reverse_nil, List.nil_append, List.reverse_reverse, List.flatMap_append, List.singleton_append, List.flatMap_cons]
        rw [subs_parts s]
        simp [List.append_assoc]
      have hal : acc.length < 16000000 := by
        have := congrArg List.length hacc2
        rw [subs_len] at this
        simp only [List.length_append] at this
        omega
      have hpos : (0 : Int) < (L'.length : Int) + 1 := by omega
      refine .inr ⟨by simp [hpos], .inl ⟨[.val (dS s0), .own ((acc ++ [s]).map dS), .own ((L' ++ (partsS s).reverse).map dS), .val (dS s)], m - 1, .inl ?_, by omega, acc ++ [s], L' ++ (partsS s).reverse, _, rfl, by omega, by omega, hacc2⟩⟩
      simp [L_walked_1, m_parts, hlen, hal]
  obtain ⟨x3, key⟩ := key
  simp [M_walked, B_walked, begin_, key]
theorem words_turns (d0 : D) : ∀ (L : List Say) (acc : List Str) (x : Sl), (∀ s ∈ L, okG s = true) → acc.length + (L.flatMap firstW).length < 16000000 →
    ∃ y, sTurns (gName' 2) (L_written_1 M_first_words) (L.map dS) [.val d0, .own (acc.map D.str), x] = .nx [.val d0, .own ((acc ++ L.flatMap firstW).map D.str), y]
  | [], acc, x, _, _ => ⟨x, by simp [sTurns]⟩
  | s :: L, acc, x, ho, hl => by
    have h1 := m_first (ho s List.mem_cons_self)
    simp only [List.flatMap_cons, List.length_append] at hl
    obtain ⟨y, hy⟩ := words_turns d0 L (acc ++ firstW s) (.val (dS s)) (fun t ht => ho t (List.mem_cons_of_mem _ ht)) (by rw [List.length_append]; omega)
    refine ⟨y, ?_⟩
    have hal : acc.length + (firstW s).length < 16000000 := by omega
    have e1 : L_written_1 M_first_words [.val d0, .own (acc.map D.str), .val (dS s)] = .nx [.val d0, .own ((acc ++ firstW s).map D.str), .val (dS s)] := by
      simp [L_written_1, h1, hal]
    rw [List.map_cons]
    show sTurns _ _ (dS s :: L.map dS) _ = _
    unfold sTurns
    simp only [gName', List.set_cons_succ, List.set_cons_zero]
    rw [e1]
    simp only [hy, List.flatMap_cons, List.append_assoc]
theorem m_written {s0 : Say} (h0 : okG s0 = true) (hl : (txt s0).length ≤ 3000) : M_written [dS s0] = .ok (.str (txt s0)) := by
  have hsz := size_txt s0
  have hW := words_W s0
  have hWl := len_W (words s0)
  have e1 := m_saying h0 (by omega)
  have e2 := m_walked s0 (by omega)
  obtain ⟨y, hy⟩ := words_turns (dS s0) (subs s0) [] .un (okG_subs s0 h0) (by rw [subs_words]; simp; omega)
  rw [subs_words] at hy
  simp only [List.map_nil, List.nil_append] at hy
  have ej : joinS " " (false, (words s0).map D.str) = some (.str (txt s0)) := by rw [← join_words]; exact joinS_of (by omega)
  simp [M_written, B_written, begin_, e1, e2, hy, ej]
theorem not_saying_str (x : Str) : M_is_saying [.str x] = .ok (.bl false) := by
  have g1 : gTuple "str" = false := rfl
  have e1 : M_is_formed [.str x] = .ok (.bl false) := by simp [M_is_formed, B_is_formed, begin_, g1]
  have key : sWhile (tB (e2 (int2 fun i j => some (.bl (decide (j < i)))) (eS lenS (sV 1)) (eC (.int 0)))) (L_is_saying_1 M_is_formed M_parts) [.val (.str x), .own [.str x], .un] = .rt (.bl false) := by
    unfold sWhile FUEL sWhileN
    simp [L_is_saying_1, e1]
  simp [M_is_saying, B_is_saying, begin_, key]
theorem refuses_str (x : Str) : M_written [.str x] = .ex "NoSaying" := by
  simp [M_written, B_written, begin_, not_saying_str]
theorem refuses_none : M_written [.tup [.str "not", .non]] = .ex "NoSaying" := by
  have g1 : gTuple "NoneType" = false := rfl
  have g2 : gTuple "tuple" = true := rfl
  have e1 : M_is_formed [.non] = .ok (.bl false) := by simp [M_is_formed, B_is_formed, begin_, g1]
  have e2 : M_is_formed [.tup [.str "not", .non]] = .ok (.bl true) := by simp [M_is_formed, B_is_formed, begin_, g2, atI_zero]
  have e4 : cut [D.str "not", D.non] (some 1) none = [D.non] := rfl
  have e3 : M_parts [.tup [.str "not", .non]] = .ok (.tup [.non]) := by simp [M_parts, B_parts, begin_, atI_zero, e4]
  have key : sWhile (tB (Wy.e2 (int2 fun i j => some (.bl (decide (j < i)))) (eS lenS (sV 1)) (eC (.int 0)))) (L_is_saying_1 M_is_formed M_parts) [.val (.tup [.str "not", .non]), .own [.tup [.str "not", .non]], .un] = .rt (.bl false) := by
    unfold sWhile FUEL sWhileN sWhileN
    simp [L_is_saying_1, e1, e2, e3]
  have e5 : M_is_saying [.tup [.str "not", .non]] = .ok (.bl false) := by simp [M_is_saying, B_is_saying, begin_, key]
  simp [M_written, B_written, begin_, e5]
end Pg


namespace Pg
open PySem PySem.Spec PyProof.Rows L2 Wy Wl Lw
inductive Itm where
  | say (s : Say) | kind (k : Nat)
def Itm.ok : Itm → Bool
  | .say s => okG s
  | .kind k => decide (k < 3)
def Itm.d : Itm → D
  | .say s => dS s
  | .kind k => .int (k : Int)
def Itm.ws : Itm → List Str
  | .say s => words s
  | .kind k => [kt k]
def sNeg : List Itm → Option (List Itm)
  | .say a :: r => some (.say (.neg a) :: r)
  | _ => none
def sTwo (c : Bool) : List Itm → Option (List Itm)
  | .say a :: .say b :: r => some (.say (.two c a b) :: r)
  | _ => none
def sWay (c : Bool) : List Itm → Option (List Itm)
  | .kind k :: .say a :: r => some (.say (.way c k a) :: r)
  | _ => none
def step (w : Str) (st : List Itm) : Option (List Itm) :=
  if isNm w = true then some (.say (.nm w) :: st)
  else if w = kt 0 then some (.kind 0 :: st)
  else if w = kt 1 then some (.kind 1 :: st)
  else if w = kt 2 then some (.kind 2 :: st)
  else if w = "not" then sNeg st
  else if w = hd2 true then sTwo true st
  else if w = hd2 false then sTwo false st
  else if w = hdw true then sWay true st
  else if w = hdw false then sWay false st
  else none
def runR : List Str → List Itm → Option (List Itm)
  | [], st => some st
  | w :: ws, st => (step w st).bind (runR ws)
theorem runR_app (a b : List Str) (st : List Itm) : runR (a ++ b) st = (runR a st).bind (runR b) := by
  induction a generalizing st with
  | nil => rfl
  | cons w a ih =>
    rw [List.cons_append]
    unfold runR
    cases h : step w st with
    | none => rfl
    | some s1 => exact ih s1
theorem kt_nm {k : Nat} (h : k < 3) : isNm (kt k) = false := by
  rcases kt_cases h with e | e | e <;> rw [e] <;> decide
theorem kt0 : kt 0 = "0" := by decide
theorem kt1 : kt 1 = "1" := by decide
theorem kt2 : kt 2 = "2" := by decide
theorem step_nm {x : Str} (h : isNm x = true) (st : List Itm) : step x st = some (.say (.nm x) :: st) := by unfold step; rw [if_pos h]
theorem step_kt {k : Nat} (h : k < 3) (st : List Itm) : step (kt k) st = some (.kind k :: st) := by
  unfold step
  rw [if_neg (by rw [kt_nm h]; exact Bool.false_ne_true)]
  match k, h with
  | 0, _ => rw [if_pos rfl]
  | 1, _ => rw [if_neg (by decide), if_pos rfl]
  | 2, _ => rw [if_neg (by decide), if_neg (by decide), if_pos rfl]
theorem step_not (a : Say) (st : List Itm) : step "not" (.say a :: st) = some (.say (.neg a) :: st) := by
  unfold step
  rw [if_neg (by decide), if_neg (by decide), if_neg (by decide), if_neg (by decide), if_pos rfl]; rfl
theorem step_two (c : Bool) (a b : Say) (st : List Itm) : step (hd2 c) (.say a :: .say b :: st) = some (.say (.two c a b) :: st) := by
  unfold step
  cases c
  · rw [if_neg (by decide), if_neg (by decide), if_neg (by decide), if_neg (by decide), if_neg (by decide), if_neg (by decide), if_pos rfl]; rfl
  · rw [if_neg (by decide), if_neg (by decide), if_neg (by decide), if_neg (by decide), if_neg (by decide), if_pos rfl]; rfl
theorem step_way (c : Bool) (k : Nat) (a : Say) (st : List Itm) : step (hdw c) (.kind k :: .say a :: st) = some (.say (.way c k a) :: st) := by
  unfold step
  cases c
  · rw [if_neg (by decide), if_neg (by decide), if_neg (by decide), if_neg (by decide), if_neg (by decide), if_neg (by decide), if_neg (by decide), if_neg (by decide), if_pos rfl]; rfl
  · rw [if_neg (by decide), if_neg (by decide), if_neg (by decide), if_neg (by decide), if_neg (by decide), if_neg (by decide), if_neg (by decide), if_pos rfl]; rfl
theorem run_words : ∀ (s : Say) (st : List Itm), okG s = true → runR (words s).reverse st = some (.say s :: st)
  | .nm x, st, h => by simp [words, runR, step_nm (show isNm x = true from h)]
  | .neg a, st, h => by
    simp only [words, List.reverse_cons]
    rw [runR_app, run_words a st h]
    simp [runR, step_not]
  | .two c a b, st, h => by
    rw [okG, Bool.and_eq_true] at h
    simp only [words, List.reverse_cons, List.reverse_append]
    rw [runR_app, runR_app, run_words b st h.2]
    simp only [Option.bind_some]
    rw [run_words a _ h.1]
    simp [runR, step_two]
  | .way c k a, st, h => by
    rw [okG, Bool.and_eq_true, decide_eq_true_iff] at h
    simp only [words, List.reverse_cons]
    rw [runR_app, runR_app, run_words a st h.2]
    simp [runR, step_kt h.1, step_way]
theorem step_ws {w : Str} {st st' : List Itm} (h : step w st = some st') (ho : ∀ i ∈ st, i.ok = true) : (∀ i ∈ st', i.ok = true) ∧ st'.flatMap Itm.ws = w :: st.flatMap Itm.ws := by
  unfold step at h
  split at h
  · rename_i hn
    cases h
    exact ⟨List.forall_mem_cons.mpr ⟨hn, ho⟩, by simp [Itm.ws, words]⟩
  split at h
  · rename_i e; cases h; subst e; exact ⟨List.forall_mem_cons.mpr ⟨by decide, ho⟩, by simp [Itm.ws]⟩
  split at h
  · rename_i e; cases h; subst e; exact ⟨List.forall_mem_cons.mpr ⟨by decide, ho⟩, by simp [Itm.ws]⟩
  split at h
  · rename_i e; cases h; subst e; exact ⟨List.forall_mem_cons.mpr ⟨by decide, ho⟩, by simp [Itm.ws]⟩
  split at h
  · rename_i e
    subst e
    unfold sNeg at h
    split at h
    · rename_i a r
      cases h
      have h1 := List.forall_mem_cons.mp ho
      exact ⟨List.forall_mem_cons.mpr ⟨h1.1, h1.2⟩, by simp [Itm.ws, words]⟩
    · cases h
  have two : ∀ c (a b : Say) (r : List Itm), (∀ i ∈ Itm.say a :: Itm.say b :: r, i.ok = true) → (∀ i ∈ Itm.say (.two c a b) :: r, i.ok = true) ∧ (Itm.say (.two c a b) :: r).flatMap Itm.ws = hd2 c :: (Itm.say a :: Itm.say b :: r).flatMap Itm.ws := fun c a b r ho => by
    have h1 := List.forall_mem_cons.mp ho
    have h2 := List.forall_mem_cons.mp h1.2
    refine ⟨List.forall_mem_cons.mpr ⟨?_, h2.2⟩, by simp [Itm.ws, words]⟩
    show okG (.two c a b) = true
    rw [okG, show okG a = true from h1.1, show okG b = true from h2.1]; rfl
  have way : ∀ c k (a : Say) (r : List Itm), (∀ i ∈ Itm.kind k :: Itm.say a :: r, i.ok = true) → (∀ i ∈ Itm.say (.way c k a) :: r, i.ok = true) ∧ (Itm.say (.way c k a) :: r).flatMap Itm.ws = hdw c :: (Itm.kind k :: Itm.say a :: r).flatMap Itm.ws := fun c k a r ho => by
    have h1 := List.forall_mem_cons.mp ho
    have h2 := List.forall_mem_cons.mp h1.2
    refine ⟨List.forall_mem_cons.mpr ⟨?_, h2.2⟩, by simp [Itm.ws, words]⟩
    show okG (.way c k a) = true
    rw [okG, show decide (k < 3) = true from h1.1, show okG a = true from h2.1]; rfl
  split at h
  · rename_i e; subst e
    unfold sTwo at h
    split at h
    · cases h; exact two _ _ _ _ ho
    · cases h
  split at h
  · rename_i e; subst e
    unfold sTwo at h
    split at h
    · cases h; exact two _ _ _ _ ho
    · cases h
  split at h
  · rename_i e; subst e
    unfold sWay at h
    split at h
    · cases h; exact way _ _ _ _ ho
    · cases h
  split at h
  · rename_i e; subst e
    unfold sWay at h
    split at h
    · cases h; exact way _ _ _ _ ho
    · cases h
  · cases h
theorem run_ws : ∀ (ws : List Str) (st st' : List Itm), runR ws st = some st' → (∀ i ∈ st, i.ok = true) → (∀ i ∈ st', i.ok = true) ∧ st'.flatMap Itm.ws = ws.reverse ++ st.flatMap Itm.ws
  | [], st, st', h, ho => by cases h; exact ⟨ho, rfl⟩
  | w :: ws, st, st', h, ho => by
    unfold runR at h
    obtain ⟨s1, e1, e2⟩ := Option.bind_eq_some_iff.mp h
    obtain ⟨o1, f1⟩ := step_ws e1 ho
    obtain ⟨o2, f2⟩ := run_ws ws s1 st' e2 o1
    exact ⟨o2, by rw [f2, f1]; simp⟩
end Pg

namespace Pg
open PySem PySem.Spec PyProof.Rows L2 Wy Wl Lw
@[simp] theorem sV_par {a : Addr} {xs : List D} {Γ : Ga} : sV 0 (.par a xs :: Γ) = .ok (false, xs) := nr rfl
theorem m_taken_nil : M_taken [] [] = .ex "NoText" := by
  refine par0_eq fun a => ?_
  simp [callM, beginX, B_taken, mSeq, mIf, mOf, mNext]
theorem m_taken (xs : List D) (d : D) : M_taken [] (xs ++ [d]) = .ok (d, xs) := by
  refine par0_eq fun a => ?_
  have h : ¬ ((xs.length : Int) + 1 = 0) := by omega
  simp [callM, beginX, B_taken, mSeq, mIf, mOf, mNext, mRet, mPop, Sl.cont, Sl.put, h]
theorem kind_dS (s : Say) : M_is_kind [dS s] = .ok (.bl false) := by
  have g1 : gInt "tuple" = false := rfl
  simp [M_is_kind, B_is_kind, M_is_below, B_is_below, M_is_whole, B_is_whole, begin_, g1]
theorem m_ts_nil : M_taken_saying [] [] = .ex "NoText" := by
  refine par0_eq fun a => ?_
  simp [callM, beginX, B_taken_saying, mSeq, mOf, sSetM, mCall, Sl.cont, m_taken_nil]
theorem m_ts (xs : List D) (s : Say) : M_taken_saying [] (xs ++ [dS s]) = .ok (dS s, xs) := by
  refine par0_eq fun a => ?_
  simp [callM, beginX, B_taken_saying, mSeq, mIf, mNext, mOf, mRet, mE, sSetM, mCall, Sl.cont, Sl.put, m_taken, kind_dS]
theorem m_ts_kind (xs : List D) {k : Nat} (h : k < 3) : M_taken_saying [] (xs ++ [.int (k : Int)]) = .ex "NoText" := by
  refine par0_eq fun a => ?_
  simp [callM, beginX, B_taken_saying, mSeq, mIf, mNext, mOf, mRet, mE, sSetM, mCall, Sl.cont, Sl.put, m_taken, m_kind h]
theorem m_tk_nil : M_taken_kind [] [] = .ex "NoText" := by
  refine par0_eq fun a => ?_
  simp [callM, beginX, B_taken_kind, mSeq, mOf, sSetM, mCall, Sl.cont, m_taken_nil]
theorem m_tk (xs : List D) {k : Nat} (h : k < 3) : M_taken_kind [] (xs ++ [.int (k : Int)]) = .ok (.int (k : Int), xs) := by
  refine par0_eq fun a => ?_
  simp [callM, beginX, B_taken_kind, mSeq, mIf, mNext, mOf, mRet, mE, sSetM, mCall, Sl.cont, Sl.put, m_taken, m_kind h]
theorem m_tk_say (xs : List D) (s : Say) : M_taken_kind [] (xs ++ [dS s]) = .ex "NoText" := by
  refine par0_eq fun a => ?_
  simp [callM, beginX, B_taken_kind, mSeq, mIf, mNext, mOf, mRet, mE, sSetM, mCall, Sl.cont, Sl.put, m_taken, kind_dS]
def dst (st : List Itm) : List D := (st.map Itm.d).reverse
theorem dst_cons (i : Itm) (st : List Itm) : dst (i :: st) = dst st ++ [i.d] := by simp [dst]
def tsR : List Itm → R (D × List D)
  | .say a :: r => .ok (dS a, dst r)
  | _ => .ex "NoText"
def tkR : List Itm → R (D × List D)
  | .kind k :: r => .ok (.int (k : Int), dst r)
  | _ => .ex "NoText"
def outR : Option (List Itm) → R (D × List D)
  | some (i :: r) => .ok (i.d, dst r)
  | _ => .ex "NoText"
theorem ts_of (st : List Itm) (ho : ∀ i ∈ st, i.ok = true) : M_taken_saying [] (dst st) = tsR st := by
  cases st with
  | nil => exact m_ts_nil
  | cons i r =>
    rw [dst_cons]
    cases i with
    | say a => exact m_ts _ a
    | kind k => exact m_ts_kind _ (of_decide_eq_true (ho _ List.mem_cons_self))
theorem tk_of (st : List Itm) (ho : ∀ i ∈ st, i.ok = true) : M_taken_kind [] (dst st) = tkR st := by
  cases st with
  | nil => exact m_tk_nil
  | cons i r =>
    rw [dst_cons]
    cases i with
    | say a => exact m_tk_say _ a
    | kind k => exact m_tk _ (of_decide_eq_true (ho _ List.mem_cons_self))
theorem mem_kinds (w : Str) : memA (.str w) c_KINDS = some (.bl (decide (w = kt 0) || decide (w = kt 1) || decide (w = kt 2))) := by
  unfold c_KINDS
  rw [memA_tup (by simp [depDL])]
  refine congrArg (fun b => some (D.bl b)) ?_
  rw [Bool.eq_iff_iff, kt0, kt1, kt2]
  simp only [List.any_cons, List.any_nil, Bool.or_false, eqDD_str, Bool.or_eq_true, decide_eq_true_iff]
  constructor
  · rintro (h | h | h)
    · exact .inl (.inl h.symm)
    · exact .inl (.inr h.symm)
    · exact .inr h.symm
  · rintro ((h | h) | h)
    · exact .inl h.symm
    · exact .inr (.inl h.symm)
    · exact .inr (.inr h.symm)
end Pg

namespace Pg
open PySem PySem.Spec PyProof.Rows L2 Wy Wl Lw
theorem ix_kinds {k : Nat} (h : k < 3) : indexT ct_KINDS (.str (kt k)) = some (.int (k : Int)) := by
  unfold indexT ct_KINDS
  rw [if_pos (by simp [depDL])]
  match k, h with
  | 0, _ => simp [ixOf, kt0]
  | 1, _ =>
    have e1 : ¬ (Str.ofString "0" = Str.ofString "1") := by decide
    simp [ixOf, kt1, e1]
  | 2, _ =>
    have e1 : ¬ (Str.ofString "0" = Str.ofString "2") := by decide
    have e2 : ¬ (Str.ofString "1" = Str.ofString "2") := by decide
    simp [ixOf, kt2, e1, e2]
theorem m_begun (w : Str) (ha : asc w) (hl : w.length ≤ 3000) (st : List Itm) (ho : ∀ i ∈ st, i.ok = true) : M_begun_with [.str w] (dst st) = outR (step w st) := by
  refine par0_eq fun a => ?_
  have en := m_name w ha hl
  have ts := ts_of st ho
  have tk := tk_of st ho
  have kk : ∀ k, k < 3 → w = kt k → callM N_begun_with 1 (B_begun_with M_is_name M_taken_saying M_taken_kind) a [.str w] (dst st) = .ok (.int (k : Int), dst st) := fun k hk e => by
    subst e
    have mk := mem_kinds (kt k)
    have e2 : (decide (kt k = kt 0) || decide (kt k = kt 1) || decide (kt k = kt 2)) = true := by
      match k, hk with
      | 0, _ => simp
      | 1, _ => simp
      | 2, _ => simp
    rw [e2] at mk
    rw [kt_nm hk] at en
    simp [callM, beginX, B_begun_with, mSeq, mIf, mNext, mRet, mE, en, mk, eIndexG, ix_kinds hk]
  unfold step
  by_cases h1 : isNm w = true
  · rw [if_pos h1]
    rw [h1] at en
    simp [callM, beginX, B_begun_with, mSeq, mIf, mNext, mRet, mE, en, Itm.d, dS, outR]
  rw [if_neg h1]
  by_cases k0 : w = kt 0
  · rw [if_pos k0]; exact kk 0 (by decide) k0
  rw [if_neg k0]
  by_cases k1 : w = kt 1
  · rw [if_pos k1]; exact kk 1 (by decide) k1
  rw [if_neg k1]
  by_cases k2 : w = kt 2
  · rw [if_pos k2]; exact kk 2 (by decide) k2
  rw [if_neg k2]
  have en : M_is_name [.str w] = .ok (.bl false) := by rw [en]; simp [h1]
  have mk : memA (.str w) c_KINDS = some (.bl false) := by rw [mem_kinds w]; simp [k0, k1, k2]
  have base : ∀ (r : R (D × List D)), (callM N_begun_with 1 (mSeq (mIf (tB (e2 eqD (eV 0) (eC (.str "not")))) (mRet (mTup (mCons (mE (eC (.str "not"))) (mCons (mCall 1 M_taken_saying aNil) mNil)))) mNext) (mSeq (mIf (tOrR (tB (e2 eqD (eV 0) (eC (.str "and")))) (tB (e2 eqD (eV 0) (eC (.str "or"))))) (mSeq (mOf (sSetM 2 (mCall 1 M_taken_saying aNil))) (mRet (mTup (mCons (mE (eV 0)) (mCons (mE (eV 2)) (mCons (mCall 1 M_taken_saying aNil) mNil)))))) mNext) (mSeq (mIf (tOrR (tB (e2 eqD (eV 0) (eC (.str "all")))) (tB (e2 eqD (eV 0) (eC (.str "some"))))) (mSeq (mOf (sSetM 3 (mCall 1 M_taken_kind aNil))) (mRet (mTup (mCons (mE (eV 0)) (mCons (mE (eV 3)) (mCons (mCall 1 M_taken_saying aNil) mNil)))))) mNext) (mOf (sRaise "NoText" (aCons (eC (.str "a word is neither a name nor a kind nor a head")) aNil)))))) a [.str w] (dst st) = r) →
      callM N_begun_with 1 (B_begun_with M_is_name M_taken_saying M_taken_kind) a [.str w] (dst st) = r := fun r h => by
    rw [← h]
    simp [callM, beginX, B_begun_with, mSeq, mIf, mNext, en, mk]
  refine base _ ?_
  clear base kk en mk
  by_cases hn : w = "not"
  · rw [if_pos hn]
    subst hn
    rcases st with _ | ⟨i, r⟩
    · simp [callM, beginX, mSeq, mIf, mRet, mTup, mCons, mE, mNil, mCall, Sl.cont, outR, sNeg, sTwo, sWay, tsR, tkR, ts]
    · cases i <;> simp [callM, beginX, mSeq, mIf, mRet, mTup, mCons, mE, mNil, mCall, Sl.cont, outR, sNeg, sTwo, sWay, tsR, tkR, Sl.put, ts, Itm.d, dS]
  rw [if_neg hn]
  have two : ∀ c, w = hd2 c → callM N_begun_with 1 (mSeq (mIf (tB (e2 eqD (eV 0) (eC (.str "not")))) (mRet (mTup (mCons (mE (eC (.str "not"))) (mCons (mCall 1 M_taken_saying aNil) mNil)))) mNext) (mSeq (mIf (tOrR (tB (e2 eqD (eV 0) (eC (.str "and")))) (tB (e2 eqD (eV 0) (eC (.str "or"))))) (mSeq (mOf (sSetM 2 (mCall 1 M_taken_saying aNil))) (mRet (mTup (mCons (mE (eV 0)) (mCons (mE (eV 2)) (mCons (mCall 1 M_taken_saying aNil) mNil)))))) mNext) (mSeq (mIf (tOrR (tB (e2 eqD (eV 0) (eC (.str "all")))) (tB (e2 eqD (eV 0) (eC (.str "some"))))) (mSeq (mOf (sSetM 3 (mCall 1 M_taken_kind aNil))) (mRet (mTup (mCons (mE (eV 0)) (mCons (mE (eV 3)) (mCons (mCall 1 M_taken_saying aNil) mNil)))))) mNext) (mOf (sRaise "NoText" (aCons (eC (.str "a word is neither a name nor a kind nor a head")) aNil)))))) a [.str w] (dst st) =
      outR (sTwo c st) := fun c hc => by
    subst hc
    have e0 : ¬ (hd2 c = Str.ofString "not") := hn
    have e1 : decide (hd2 c = Str.ofString "and") = c := by cases c <;> decide
    have e2 : decide (hd2 c = Str.ofString "or") = !c := by cases c <;> decide
    have go := ts_of
    rcases st with _ | ⟨i, r⟩
    · cases c <;> simp [callM, beginX, mSeq, mIf, mNext, mOf, sSetM, mRet, mTup, mCons, mE, mNil, mCall, Sl.cont, outR, sNeg, sTwo, sWay, tsR, tkR, ts, e0, e1, e2]
    · cases i with
      | kind k => cases c <;> simp [callM, beginX, mSeq, mIf, mNext, mOf, sSetM, mRet, mTup, mCons, mE, mNil, mCall, Sl.cont, outR, sNeg, sTwo, sWay, tsR, tkR, Sl.put, ts, e0, e1, e2]
      | say x =>
        have t2 := go r (fun i hi => ho i (List.mem_cons_of_mem _ hi))
        rcases r with _ | ⟨j, r⟩
        · cases c <;> simp [callM, beginX, mSeq, mIf, mNext, mOf, sSetM, mRet, mTup, mCons, mE, mNil, mCall, Sl.cont, outR, sNeg, sTwo, sWay, tsR, tkR, Sl.put, ts, t2, e0, e1, e2]
        · cases j <;> cases c <;> simp [callM, beginX, mSeq, mIf, mNext, mOf, sSetM, mRet, mTup, mCons, mE, mNil, mCall, Sl.cont, outR, sNeg, sTwo, sWay, tsR, tkR, Sl.put, ts, t2, e0, e1, e2, Itm.d, dS]
  by_cases ht : w = hd2 true
  · rw [if_pos ht]; exact two true ht
  rw [if_neg ht]
  by_cases hf : w = hd2 false
  · rw [if_pos hf]; exact two false hf
  rw [if_neg hf]
  clear two
  have ea : ¬ (w = Str.ofString "and") := ht
  have eo : ¬ (w = Str.ofString "or") := hf
  have e0 : ¬ (w = Str.ofString "not") := hn
  have way : ∀ c, w = hdw c → callM N_begun_with 1 (mSeq (mIf (tB (e2 eqD (eV 0) (eC (.str "not")))) (mRet (mTup (mCons (mE (eC (.str "not"))) (mCons (mCall 1 M_taken_saying aNil) mNil)))) mNext) (mSeq (mIf (tOrR (tB (e2 eqD (eV 0) (eC (.str "and")))) (tB (e2 eqD (eV 0) (eC (.str "or"))))) (mSeq (mOf (sSetM 2 (mCall 1 M_taken_saying aNil))) (mRet (mTup (mCons (mE (eV 0)) (mCons (mE (eV 2)) (mCons (mCall 1 M_taken_saying aNil) mNil)))))) mNext) (mSeq (mIf (tOrR (tB (e2 eqD (eV 0) (eC (.str "all")))) (tB (e2 eqD (eV 0) (eC (.str "some"))))) (mSeq (mOf (sSetM 3 (mCall 1 M_taken_kind aNil))) (mRet (mTup (mCons (mE (eV 0)) (mCons (mE (eV 3)) (mCons (mCall 1 M_taken_saying aNil) mNil)))))) mNext) (mOf (sRaise "NoText" (aCons (eC (.str "a word is neither a name nor a kind nor a head")) aNil)))))) a [.str w] (dst st) =
      outR (sWay c st) := fun c hc => by
    subst hc
    have e1 : decide (hdw c = Str.ofString "all") = c := by cases c <;> decide
    have e2 : decide (hdw c = Str.ofString "some") = !c := by cases c <;> decide
    have go := ts_of
    rcases st with _ | ⟨i, r⟩
    · cases c <;> simp [callM, beginX, mSeq, mIf, mNext, mOf, sSetM, mRet, mTup, mCons, mE, mNil, mCall, Sl.cont, outR, sNeg, sTwo, sWay, tsR, tkR, tk, e0, ea, eo, e1, e2]
    · cases i with
      | say k => cases c <;> simp [callM, beginX, mSeq, mIf, mNext, mOf, sSetM, mRet, mTup, mCons, mE, mNil, mCall, Sl.cont, outR, sNeg, sTwo, sWay, tsR, tkR, Sl.put, tk, e0, ea, eo, e1, e2]
      | kind x =>
        have t2 := go r (fun i hi => ho i (List.mem_cons_of_mem _ hi))
        rcases r with _ | ⟨j, r⟩
        · cases c <;> simp [callM, beginX, mSeq, mIf, mNext, mOf, sSetM, mRet, mTup, mCons, mE, mNil, mCall, Sl.cont, outR, sNeg, sTwo, sWay, tsR, tkR, Sl.put, tk, t2, e0, ea, eo, e1, e2]
        · cases j <;> cases c <;> simp [callM, beginX, mSeq, mIf, mNext, mOf, sSetM, mRet, mTup, mCons, mE, mNil, mCall, Sl.cont, outR, sNeg, sTwo, sWay, tsR, tkR, Sl.put, tk, t2, e0, ea, eo, e1, e2, Itm.d, dS]
  by_cases wt : w = hdw true
  · rw [if_pos wt]; exact way true wt
  rw [if_neg wt]
  by_cases wf : w = hdw false
  · rw [if_pos wf]; exact way false wf
  rw [if_neg wf]
  have el : ¬ (w = Str.ofString "all") := wt
  have es : ¬ (w = Str.ofString "some") := wf
  simp [callM, beginX, mSeq, mIf, mNext, mOf, e0, ea, eo, el, es, outR]
end Pg

namespace Pg
open PySem PySem.Spec PyProof.Rows L2 Wy Wl Lw
theorem dst_len (st : List Itm) : (dst st).length = st.length := by simp [dst]
theorem step_len {w : Str} {st st' : List Itm} (h : step w st = some st') : st' ≠ [] ∧ st'.length ≤ st.length + 1 := by
  have two : ∀ c r, sTwo c st = some r → r ≠ [] ∧ r.length ≤ st.length + 1 := fun c r e => by
    unfold sTwo at e
    split at e
    · cases e; simp
    · cases e
  have way : ∀ c r, sWay c st = some r → r ≠ [] ∧ r.length ≤ st.length + 1 := fun c r e => by
    unfold sWay at e
    split at e
    · cases e; simp
    · cases e
  have neg : ∀ r, sNeg st = some r → r ≠ [] ∧ r.length ≤ st.length + 1 := fun r e => by
    unfold sNeg at e
    split at e
    · cases e; simp
    · cases e
  unfold step at h
  repeat' split at h
  all_goals first | (cases h; simp; done) | exact two _ _ h | exact way _ _ h | exact neg _ h | cases h
theorem read_turns (d0 : D) (x3 : Sl) : ∀ (ws : List Str) (st : List Itm) (x2 : Sl), (∀ w ∈ ws, asc w ∧ w.length ≤ 3000) → (∀ i ∈ st, i.ok = true) → st.length + ws.length < 16000000 →
    (∀ st', runR ws st = some st' → ∃ y, sTurns (gName' 2) (L_read_1 M_begun_with) (ws.map D.str) [.val d0, .own (dst st), x2, x3] = .nx [.val d0, .own (dst st'), y, x3]) ∧
    (runR ws st = none → ∃ Γ', sTurns (gName' 2) (L_read_1 M_begun_with) (ws.map D.str) [.val d0, .own (dst st), x2, x3] = .ex "NoText" Γ')
  | [], st, x2, _, _, _ => ⟨fun st' h => by cases h; exact ⟨x2, by simp [sTurns]⟩, fun h => by cases h⟩
  | w :: ws, st, x2, hw, ho, hl => by
    have h1 := hw w List.mem_cons_self
    have mb := m_begun w h1.1 h1.2 st ho
    simp only [List.length_cons] at hl
    have un : sTurns (gName' 2) (L_read_1 M_begun_with) ((w :: ws).map D.str) [.val d0, .own (dst st), x2, x3] = (match L_read_1 M_begun_with [.val d0, .own (dst st), .val (.str w), x3] with
        | .nx Γ' => sTurns (gName' 2) (L_read_1 M_begun_with) (ws.map D.str) Γ'
        | .ct Γ' => sTurns (gName' 2) (L_read_1 M_begun_with) (ws.map D.str) Γ'
        | .bk Γ' => .nx Γ'
        | r => r) := by
      rw [List.map_cons]
      conv => lhs; unfold sTurns
      simp only [gName', List.set_cons_succ, List.set_cons_zero]
      all_goals cases L_read_1 M_begun_with [.val d0, .own (dst st), .val (.str w), x3] <;> rfl
    cases hs : step w st with
    | none =>
      rw [hs] at mb
      have e1 : ∃ Γ', L_read_1 M_begun_with [.val d0, .own (dst st), .val (.str w), x3] = .ex "NoText" Γ' := by
        simp [L_read_1, sAppM, mCall, Sl.cont, mb, outR]
      obtain ⟨Γ', e1⟩ := e1
      rw [un, e1]
      refine ⟨fun st' h => ?_, fun _ => ⟨Γ', rfl⟩⟩
      unfold runR at h
      rw [hs] at h
      cases h
    | some s1 =>
      obtain ⟨hne, hle⟩ := step_len hs
      have o1 := (step_ws hs ho).1
      obtain ⟨i, r, rfl⟩ := List.exists_cons_of_ne_nil hne
      rw [hs] at mb
      have hr : (dst r).length < 16000000 := by rw [dst_len]; simp only [List.length_cons] at hle; omega
      have e1 : L_read_1 M_begun_with [.val d0, .own (dst st), .val (.str w), x3] = .nx [.val d0, .own (dst (i :: r)), .val (.str w), x3] := by
        simp [L_read_1, sAppM, appAt, mCall, Sl.cont, Sl.put, mb, outR, hr, dst_cons]
      rw [un, e1]
      have ih := read_turns d0 x3 ws (i :: r) (.val (.str w)) (fun v hv => hw v (List.mem_cons_of_mem _ hv)) o1 (by simp only [List.length_cons] at hle ⊢; omega)
      refine ⟨fun st' h => ih.1 st' ?_, fun h => ih.2 ?_⟩
      · unfold runR at h
        rw [hs] at h
        exact h
      · unfold runR at h
        rw [hs] at h
        exact h
theorem m_read (x : Str) (hx : x.length ≤ 3000) (ha : asc x) : (∃ s, okG s = true ∧ txt s = x ∧ M_read [.str x] = .ok (dS s)) ∨ ((∀ s, okG s = true → txt s ≠ x) ∧ M_read [.str x] = .ex "NoText") := by
  have es : splitD x " " = some ((Txt.split x blank).map D.str) := if_pos ⟨by decide, by omega⟩
  have hW := split_W x
  have hne := split_ne x
  have hwa := asc_split ha
  have hlenW := len_W (Txt.split x blank)
  have hjoin := join_split x
  have hwl : ∀ w ∈ Txt.split x blank, w.length ≤ 3000 := fun w hw => by
    have h1 : W [w] ≤ W (Txt.split x blank) := W_sub (List.singleton_sublist.mpr hw)
    unfold W at h1 hW
    simp only [List.map_cons, List.map_nil, List.sum_cons, List.sum_nil, List.length_cons, List.length_nil] at h1
    omega
  have hsp : ∀ s, okG s = true → txt s = x → Txt.split x blank = words s := fun s hs e => by rw [← e]; exact splitG hs
  generalize hws : Txt.split x blank = ws at *
  have ei : iRev (eO (oSplit (eV 0) (eC (.str " ")))) [.val (.str x), .own [], .un, .un] = .ok (ws.reverse.map D.str) := by
    simp [iRev, es, asL]
  obtain ⟨t1, t2⟩ := read_turns (.str x) .un ws.reverse [] .un (fun w hw => ⟨hwa w (List.mem_reverse.mp hw), hwl w (List.mem_reverse.mp hw)⟩) (fun i hi => nomatch hi) (by simp; omega)
  have d0 : dst [] = [] := rfl
  rw [d0] at t1 t2
  have no : ∀ st, runR ws.reverse [] = some st → (∀ s, st ≠ [.say s]) → ∀ s, okG s = true → txt s ≠ x := fun st h hn s hs e => by
    have := hsp s hs e
    rw [this, run_words s [] hs] at h
    cases h
    exact hn s rfl
  cases hr : runR ws.reverse [] with
  | none =>
    obtain ⟨Γ', e1⟩ := t2 hr
    refine .inr ⟨fun s hs e => ?_, by simp [-List.map_reverse, M_read, B_read, begin_, ei, e1]⟩
    rw [hsp s hs e, run_words s [] hs] at hr
    cases hr
  | some st =>
    obtain ⟨y, e1⟩ := t1 st hr
    obtain ⟨o1, w1⟩ := run_ws _ _ _ hr (fun i hi => nomatch hi)
    have ts := ts_of st o1
    match st, hr, e1, o1, w1, ts with
    | [], hr, e1, o1, w1, ts =>
      refine .inr ⟨no [] hr (fun s z => by cases z), ?_⟩
      simp [-List.map_reverse, M_read, B_read, begin_, ei, e1, sSetM, mCall, Sl.cont, ts, tsR]
    | .kind k :: r, hr, e1, o1, w1, ts =>
      refine .inr ⟨no _ hr (fun s z => by cases z), ?_⟩
      simp [-List.map_reverse, M_read, B_read, begin_, ei, e1, sSetM, mCall, Sl.cont, ts, tsR]
    | [.say s], hr, e1, o1, w1, ts =>
      have hs : okG s = true := o1 _ List.mem_cons_self
      refine .inl ⟨s, hs, ?_, ?_⟩
      · simp only [List.flatMap_cons, List.flatMap_nil, List.append_nil, List.reverse_reverse, Itm.ws] at w1
        rw [← join_words, w1]
        exact hjoin
      · simp [-List.map_reverse, M_read, B_read, begin_, ei, e1, sSetM, mCall, Sl.cont, Sl.put, ts, tsR, d0]
    | .say s :: i :: r, hr, e1, o1, w1, ts =>
      refine .inr ⟨no _ hr (fun s z => by cases z), ?_⟩
      have hp : (0 : Int) < ((dst (i :: r)).length : Int) := by rw [dst_len]; simp only [List.length_cons]; omega
      have hq : ¬ dst (i :: r) = [] := fun z => by rw [z] at hp; simp at hp
      simp [-List.map_reverse, M_read, B_read, begin_, ei, e1, sSetM, mCall, Sl.cont, Sl.put, ts, tsR, hq]
end Pg

namespace K04
open PySem PySem.Spec PyProof.Rows L2 Wy Wl Lw Pg L04
def top (i : Nat) : Stmt := PySem.Challenge.pw_worldyard_k04_other_texts.main.body.getD i (.Pass ⟨0, 0, 0, 0⟩)
abbrev s__law_mix : Stmt := top 28
abbrev ps__law_mix : List Str := ["_law_cell_here", "_law_prime", "_law_many"]
theorem sc__law_mix : FnScope N__law_mix ps__law_mix (defScope s__law_mix) := ⟨rfl, rfl, rfl, by decide +kernel, rfl, by decide +kernel, by decide +kernel⟩
theorem ok__law_mix {P : Program} {w : World} {K : PySem.W.Frag} {mg : Str → Option Value} {base : Heap} {k : Nat} {a : Addr} {fd : FuncData} (Df : Def K mg "_law_mix" s__law_mix ps__law_mix a fd)
    : FnOk P w K mg base (CX1 P w) (k + 1) a fd ps__law_mix (spF K mg ps__law_mix.length fun ds => callR N__law_mix (B__law_mix) ds) :=
  fn_R1 Df.fn sc__law_mix fun cdv A outer s H W E hr => (xs_one (x_ret (ev_op opd_mod (ev_op opd_mod (ev_op opd_mul (ev_var 0) ev_int) (ev_var 1)) (ev_var 2))))
abbrev s__law_saying : Stmt := top 29
abbrev ps__law_saying : List Str := ["_law_seed", "_law_left"]
theorem sc__law_saying : FnScope N__law_saying ps__law_saying (defScope s__law_saying) := ⟨rfl, rfl, rfl, by decide +kernel, rfl, by decide +kernel, by decide +kernel⟩
theorem ok__law_saying {P : Program} {w : World} {K : PySem.W.Frag} {mg : Str → Option Value} {base : Heap} {k : Nat} {a : Addr} {fd : FuncData} (Df : Def K mg "_law_saying" s__law_saying ps__law_saying a fd)
    {M__law_mix : List D → R D} {a__law_mix : Addr} {fd__law_mix : FuncData} (D__law_mix : Def K mg "_law_mix" s__law_mix ps__law_mix a__law_mix fd__law_mix) (F__law_mix : FnOk P w K mg base (CX1 P w) k a__law_mix fd__law_mix ps__law_mix (spF K mg ps__law_mix.length M__law_mix))
    {M__law_saying : List D → R D} (F__law_saying : FnOk P w K mg base (CX1 P w) k a fd ps__law_saying (spF K mg ps__law_saying.length M__law_saying))
    : FnOk P w K mg base (CX1 P w) (k + 1) a fd ps__law_saying (spF K mg ps__law_saying.length fun ds => callR N__law_saying (B__law_saying M__law_mix M__law_saying) ds) :=
  fn_R1 Df.fn sc__law_saying fun cdv A outer s H W E hr => (xs_cons (x_set 2 (ev_call F__law_mix (pw1 ⟨rfl, rfl, rfl⟩) hr rfl D__law_mix.mg D__law_mix.fn.kp D__law_mix.bd (av_cons (ev_var 0) (av_cons ev_int (av_cons ev_int av_nil)))) sc__law_saying.nd) (xs_cons (x_if (WvD.tv (wv_or (tv_cmp (opd_eqD (room_u hr)) (ev_var 1) ev_int) (wv_or1 (tv_cmp opd_lt (ev_var 2) ev_int)))) (xs_one (x_ret (ev_tup (av_cons ev_str (av_cons (ev_ixS (sq_ow (ow_lst (av_cons ev_str (av_cons ev_str (av_cons ev_str av_nil))))) (ev_call F__law_mix (pw1 ⟨rfl, rfl, rfl⟩) hr rfl D__law_mix.mg D__law_mix.fn.kp D__law_mix.bd (av_cons (ev_var 0) (av_cons ev_int (av_cons ev_int av_nil))))) av_nil))))) xs_nil) (xs_cons (x_set 3 (ev_call F__law_saying (pw1 ⟨rfl, rfl, rfl⟩) hr rfl Df.mg Df.fn.kp Df.bd (av_cons (ev_op opd_addD (ev_op opd_mul (ev_var 0) ev_int) ev_int) (av_cons (ev_op opd_sub (ev_var 1) ev_int) av_nil))) sc__law_saying.nd) (xs_cons (x_if (tv_cmp opd_lt (ev_var 2) ev_int) (xs_one (x_ret (ev_tup (av_cons ev_str (av_cons (ev_var 3) av_nil))))) xs_nil) (xs_cons (x_if (tv_cmp opd_lt (ev_var 2) ev_int) (xs_one (x_ret (ev_tup (av_cons (ev_ixS (sq_ow (ow_lst (av_cons ev_str (av_cons ev_str av_nil)))) (ev_call F__law_mix (pw1 ⟨rfl, rfl, rfl⟩) hr rfl D__law_mix.mg D__law_mix.fn.kp D__law_mix.bd (av_cons (ev_var 0) (av_cons ev_int (av_cons ev_int av_nil))))) (av_cons (ev_var 3) (av_cons (ev_call F__law_saying (pw1 ⟨rfl, rfl, rfl⟩) hr rfl Df.mg Df.fn.kp Df.bd (av_cons (ev_op opd_addD (ev_op opd_mul (ev_var 0) ev_int) ev_int) (av_cons (ev_op opd_sub (ev_var 1) ev_int) av_nil))) av_nil)))))) xs_nil) (xs_one (x_ret (ev_tup (av_cons (ev_ixS (sq_ow (ow_lst (av_cons ev_str (av_cons ev_str av_nil)))) (ev_call F__law_mix (pw1 ⟨rfl, rfl, rfl⟩) hr rfl D__law_mix.mg D__law_mix.fn.kp D__law_mix.bd (av_cons (ev_var 0) (av_cons ev_int (av_cons ev_int av_nil))))) (av_cons (ev_call F__law_mix (pw1 ⟨rfl, rfl, rfl⟩) hr rfl D__law_mix.mg D__law_mix.fn.kp D__law_mix.bd (av_cons (ev_var 0) (av_cons ev_int (av_cons ev_int av_nil)))) (av_cons (ev_var 3) av_nil)))))))))))
abbrev s_parts : Stmt := top 12
abbrev ps_parts : List Str := ["saying"]
theorem sc_parts : FnScope N_parts ps_parts (defScope s_parts) := ⟨rfl, rfl, rfl, by decide +kernel, rfl, by decide +kernel, by decide +kernel⟩
theorem ok_parts {P : Program} {w : World} {K : PySem.W.Frag} {mg : Str → Option Value} {base : Heap} {k : Nat} {a : Addr} {fd : FuncData} (Df : Def K mg "parts" s_parts ps_parts a fd)
    : FnOk P w K mg base (CX1 P w) (k + 1) a fd ps_parts (spF K mg ps_parts.length fun ds => callR N_parts (B_parts) ds) :=
  fn_R1 Df.fn sc_parts fun cdv A outer s H W E hr => (xs_cons (x_set 1 (ev_ix (ev_var 0) ev_int) sc_parts.nd) (xs_cons (x_if (tv_cmp (opd_eqD (room_u hr)) (ev_var 1) ev_str) (xs_one (x_ret (ev_tup av_nil))) xs_nil) (xs_cons (x_if (WvD.tv (wv_or (tv_cmp (opd_eqD (room_u hr)) (ev_var 1) ev_str) (wv_or1 (tv_cmp (opd_eqD (room_u hr)) (ev_var 1) ev_str)))) (xs_one (x_ret (ev_slA (ev_var 0) (ov_some ev_int) ov_none))) xs_nil) (xs_one (x_ret (ev_slA (ev_var 0) (ov_some ev_int) ov_none))))))
abbrev s_walked : Stmt := top 22
abbrev ps_walked : List Str := ["saying"]
theorem sc_walked : FnScope N_walked ps_walked (defScope s_walked) := ⟨rfl, rfl, rfl, by decide +kernel, rfl, by decide +kernel, by decide +kernel⟩
theorem ok_walked {P : Program} {w : World} {K : PySem.W.Frag} {mg : Str → Option Value} {base : Heap} {k : Nat} {a : Addr} {fd : FuncData} (Df : Def K mg "walked" s_walked ps_walked a fd)
    {M_parts : List D → R D} {a_parts : Addr} {fd_parts : FuncData} (D_parts : Def K mg "parts" s_parts ps_parts a_parts fd_parts) (F_parts : FnOk P w K mg base (CX1 P w) k a_parts fd_parts ps_parts (spF K mg ps_parts.length M_parts))
    (m_len : mg "len" = none)
    : FnOk P w K mg base (CX1 P w) (k + 1) a fd ps_walked (spF K mg ps_walked.length fun ds => callR N_walked (B_walked M_parts) ds) :=
  fn_R1 Df.fn sc_walked fun cdv A outer s H W E hr => (xs_cons (x_setO 1 (ow_lst av_nil) sc_walked.nd) (xs_cons (x_setO 2 (ow_lst (av_cons (ev_var 0) av_nil)) sc_walked.nd) (xs_cons (x_while (tv_cmp opd_gt (ev_callBS calls_len rfl m_len PySem.boot_len (sq_var 2)) ev_int) (xs_cons (x_pop 2 3 sc_walked.nd) (xs_cons (x_app 1 (ev_var 3)) (xs_one (x_ext 2 (sq_ev (ev_revT (ev_call F_parts (pw1 ⟨rfl, rfl, rfl⟩) hr rfl D_parts.mg D_parts.fn.kp D_parts.bd (av_cons (ev_var 3) av_nil)))))))) (hp := po1 ⟨rfl, rfl, rfl⟩)) (xs_one (x_retO 1)))))
abbrev s_is_name : Stmt := top 10
abbrev ps_is_name : List Str := ["thing"]
theorem sc_is_name : FnScope N_is_name ps_is_name (defScope s_is_name) := ⟨rfl, rfl, rfl, by decide +kernel, rfl, by decide +kernel, by decide +kernel⟩
theorem ok_is_name {P : Program} {w : World} {K : PySem.W.Frag} {mg : Str → Option Value} {base : Heap} {k : Nat} {a : Addr} {fd : FuncData} (Df : Def K mg "is_name" s_is_name ps_is_name a fd)
    (m_isinstance : mg "isinstance" = none)
    (m_str : mg "str" = none)
    (m_all : mg "all" = none)
    (m_len : mg "len" = none)
    (g_WORDS : GlobC K mg "WORDS" c_WORDS)
    (g_LETTERS : GlobC K mg "LETTERS" c_LETTERS)
    : FnOk P w K mg base (CX1 P w) (k + 1) a fd ps_is_name (spF K mg ps_is_name.length fun ds => callR N_is_name (B_is_name) ds) :=
  fn_R1 Df.fn sc_is_name fun cdv A outer s H W E hr => (xs_cons (x_if (WvD.tv (wv_or (tv_not (tv_val (ev_isi (g := gStr) rfl m_isinstance rfl m_str boot_str (ev_var 0) (kit_str _) boot_isinstance))) (wv_or1 (tv_cmp (opd_memA (room_u hr)) (ev_var 0) (ev_globC g_WORDS rfl))))) (xs_one (x_ret ev_bl)) xs_nil) (xs_one (x_ret (ev_and (ev_chain opd_le opd_le ev_int (ev_callB calld_len rfl m_len PySem.boot_len (av_cons (ev_var 0) av_nil)) ev_int) (ev_one (ev_callBS (calls_all rfl) rfl m_all boot_all (sq_ow (ow_comp (blk_mk (defScope s_is_name) N_is_name [] rfl rfl rfl rfl (List.forall_mem_nil _) (by decide +kernel)) rfl (it_str (ev_var 0)) (fun _ _ _ _ => ts_nil) (fun _ _ _ _ => (ev_cmp (opd_memA (room_u hr)) (ev_var 0) (ev_globC g_LETTERS rfl)))))))))))
abbrev s_is_whole : Stmt := top 7
abbrev ps_is_whole : List Str := ["thing"]
theorem sc_is_whole : FnScope N_is_whole ps_is_whole (defScope s_is_whole) := ⟨rfl, rfl, rfl, by decide +kernel, rfl, by decide +kernel, by decide +kernel⟩
theorem ok_is_whole {P : Program} {w : World} {K : PySem.W.Frag} {mg : Str → Option Value} {base : Heap} {k : Nat} {a : Addr} {fd : FuncData} (Df : Def K mg "is_whole" s_is_whole ps_is_whole a fd)
    (m_isinstance : mg "isinstance" = none)
    (m_bool : mg "bool" = none)
    (m_int : mg "int" = none)
    : FnOk P w K mg base (CX1 P w) (k + 1) a fd ps_is_whole (spF K mg ps_is_whole.length fun ds => callR N_is_whole (B_is_whole) ds) :=
  fn_R1 Df.fn sc_is_whole fun cdv A outer s H W E hr => (xs_one (x_ret (ev_and (ev_isi (g := gInt) rfl m_isinstance rfl m_int boot_int (ev_var 0) (kit_int _) boot_isinstance) (ev_one (ev_not (ev_isi (g := gBool) rfl m_isinstance rfl m_bool boot_bool (ev_var 0) (kit_bool _) boot_isinstance))))))
abbrev s_is_below : Stmt := top 8
abbrev ps_is_below : List Str := ["thing", "bound"]
theorem sc_is_below : FnScope N_is_below ps_is_below (defScope s_is_below) := ⟨rfl, rfl, rfl, by decide +kernel, rfl, by decide +kernel, by decide +kernel⟩
theorem ok_is_below {P : Program} {w : World} {K : PySem.W.Frag} {mg : Str → Option Value} {base : Heap} {k : Nat} {a : Addr} {fd : FuncData} (Df : Def K mg "is_below" s_is_below ps_is_below a fd)
    {M_is_whole : List D → R D} {a_is_whole : Addr} {fd_is_whole : FuncData} (D_is_whole : Def K mg "is_whole" s_is_whole ps_is_whole a_is_whole fd_is_whole) (F_is_whole : FnOk P w K mg base (CX1 P w) k a_is_whole fd_is_whole ps_is_whole (spF K mg ps_is_whole.length M_is_whole))
    : FnOk P w K mg base (CX1 P w) (k + 1) a fd ps_is_below (spF K mg ps_is_below.length fun ds => callR N_is_below (B_is_below M_is_whole) ds) :=
  fn_R1 Df.fn sc_is_below fun cdv A outer s H W E hr => (xs_one (x_ret (ev_and (ev_call F_is_whole (pw1 ⟨rfl, rfl, rfl⟩) hr rfl D_is_whole.mg D_is_whole.fn.kp D_is_whole.bd (av_cons (ev_var 0) av_nil)) (ev_one (ev_chain opd_le opd_lt ev_int (ev_var 0) (ev_var 1))))))
abbrev s_is_kind : Stmt := top 9
abbrev ps_is_kind : List Str := ["thing"]
theorem sc_is_kind : FnScope N_is_kind ps_is_kind (defScope s_is_kind) := ⟨rfl, rfl, rfl, by decide +kernel, rfl, by decide +kernel, by decide +kernel⟩
theorem ok_is_kind {P : Program} {w : World} {K : PySem.W.Frag} {mg : Str → Option Value} {base : Heap} {k : Nat} {a : Addr} {fd : FuncData} (Df : Def K mg "is_kind" s_is_kind ps_is_kind a fd)
    {M_is_below : List D → R D} {a_is_below : Addr} {fd_is_below : FuncData} (D_is_below : Def K mg "is_below" s_is_below ps_is_below a_is_below fd_is_below) (F_is_below : FnOk P w K mg base (CX1 P w) k a_is_below fd_is_below ps_is_below (spF K mg ps_is_below.length M_is_below))
    : FnOk P w K mg base (CX1 P w) (k + 1) a fd ps_is_kind (spF K mg ps_is_kind.length fun ds => callR N_is_kind (B_is_kind M_is_below) ds) :=
  fn_R1 Df.fn sc_is_kind fun cdv A outer s H W E hr => (xs_one (x_ret (ev_call F_is_below (pw1 ⟨rfl, rfl, rfl⟩) hr rfl D_is_below.mg D_is_below.fn.kp D_is_below.bd (av_cons (ev_var 0) (av_cons ev_int av_nil)))))
abbrev s_is_formed : Stmt := top 11
abbrev ps_is_formed : List Str := ["thing"]
theorem sc_is_formed : FnScope N_is_formed ps_is_formed (defScope s_is_formed) := ⟨rfl, rfl, rfl, by decide +kernel, rfl, by decide +kernel, by decide +kernel⟩
theorem ok_is_formed {P : Program} {w : World} {K : PySem.W.Frag} {mg : Str → Option Value} {base : Heap} {k : Nat} {a : Addr} {fd : FuncData} (Df : Def K mg "is_formed" s_is_formed ps_is_formed a fd)
    {M_is_name : List D → R D} {a_is_name : Addr} {fd_is_name : FuncData} (D_is_name : Def K mg "is_name" s_is_name ps_is_name a_is_name fd_is_name) (F_is_name : FnOk P w K mg base (CX1 P w) k a_is_name fd_is_name ps_is_name (spF K mg ps_is_name.length M_is_name))
    {M_is_kind : List D → R D} {a_is_kind : Addr} {fd_is_kind : FuncData} (D_is_kind : Def K mg "is_kind" s_is_kind ps_is_kind a_is_kind fd_is_kind) (F_is_kind : FnOk P w K mg base (CX1 P w) k a_is_kind fd_is_kind ps_is_kind (spF K mg ps_is_kind.length M_is_kind))
    (m_len : mg "len" = none)
    (m_isinstance : mg "isinstance" = none)
    (m_tuple : mg "tuple" = none)
    : FnOk P w K mg base (CX1 P w) (k + 1) a fd ps_is_formed (spF K mg ps_is_formed.length fun ds => callR N_is_formed (B_is_formed M_is_name M_is_kind) ds) :=
  fn_R1 Df.fn sc_is_formed fun cdv A outer s H W E hr => (xs_cons (x_if (WvD.tv (wv_or (tv_not (tv_val (ev_isi (g := gTuple) rfl m_isinstance rfl m_tuple boot_tuple (ev_var 0) (kit_tuple _) boot_isinstance))) (wv_or1 (tv_cmp (opd_eqD (room_u hr)) (ev_callB calld_len rfl m_len PySem.boot_len (av_cons (ev_var 0) av_nil)) ev_int)))) (xs_one (x_ret ev_bl)) xs_nil) (xs_cons (x_set 1 (ev_ix (ev_var 0) ev_int) sc_is_formed.nd) (xs_cons (x_if (tv_cmp (opd_eqD (room_u hr)) (ev_var 1) ev_str) (xs_one (x_ret (ev_and (ev_cmp (opd_eqD (room_u hr)) (ev_callB calld_len rfl m_len PySem.boot_len (av_cons (ev_var 0) av_nil)) ev_int) (ev_one (ev_call F_is_name (pw1 ⟨rfl, rfl, rfl⟩) hr rfl D_is_name.mg D_is_name.fn.kp D_is_name.bd (av_cons (ev_ix (ev_var 0) ev_int) av_nil)))))) xs_nil) (xs_cons (x_if (tv_cmp (opd_eqD (room_u hr)) (ev_var 1) ev_str) (xs_one (x_ret (ev_cmp (opd_eqD (room_u hr)) (ev_callB calld_len rfl m_len PySem.boot_len (av_cons (ev_var 0) av_nil)) ev_int))) xs_nil) (xs_cons (x_if (WvD.tv (wv_or (tv_cmp (opd_eqD (room_u hr)) (ev_var 1) ev_str) (wv_or1 (tv_cmp (opd_eqD (room_u hr)) (ev_var 1) ev_str)))) (xs_one (x_ret (ev_cmp (opd_eqD (room_u hr)) (ev_callB calld_len rfl m_len PySem.boot_len (av_cons (ev_var 0) av_nil)) ev_int))) xs_nil) (xs_cons (x_if (WvD.tv (wv_or (tv_cmp (opd_eqD (room_u hr)) (ev_var 1) ev_str) (wv_or1 (tv_cmp (opd_eqD (room_u hr)) (ev_var 1) ev_str)))) (xs_one (x_ret (ev_and (ev_cmp (opd_eqD (room_u hr)) (ev_callB calld_len rfl m_len PySem.boot_len (av_cons (ev_var 0) av_nil)) ev_int) (ev_one (ev_call F_is_kind (pw1 ⟨rfl, rfl, rfl⟩) hr rfl D_is_kind.mg D_is_kind.fn.kp D_is_kind.bd (av_cons (ev_ix (ev_var 0) ev_int) av_nil)))))) xs_nil) (xs_one (x_ret ev_bl))))))))
abbrev s_is_saying : Stmt := top 13
abbrev ps_is_saying : List Str := ["thing"]
theorem sc_is_saying : FnScope N_is_saying ps_is_saying (defScope s_is_saying) := ⟨rfl, rfl, rfl, by decide +kernel, rfl, by decide +kernel, by decide +kernel⟩
theorem ok_is_saying {P : Program} {w : World} {K : PySem.W.Frag} {mg : Str → Option Value} {base : Heap} {k : Nat} {a : Addr} {fd : FuncData} (Df : Def K mg "is_saying" s_is_saying ps_is_saying a fd)
    {M_is_formed : List D → R D} {a_is_formed : Addr} {fd_is_formed : FuncData} (D_is_formed : Def K mg "is_formed" s_is_formed ps_is_formed a_is_formed fd_is_formed) (F_is_formed : FnOk P w K mg base (CX1 P w) k a_is_formed fd_is_formed ps_is_formed (spF K mg ps_is_formed.length M_is_formed))
    {M_parts : List D → R D} {a_parts : Addr} {fd_parts : FuncData} (D_parts : Def K mg "parts" s_parts ps_parts a_parts fd_parts) (F_parts : FnOk P w K mg base (CX1 P w) k a_parts fd_parts ps_parts (spF K mg ps_parts.length M_parts))
    (m_len : mg "len" = none)
    : FnOk P w K mg base (CX1 P w) (k + 1) a fd ps_is_saying (spF K mg ps_is_saying.length fun ds => callR N_is_saying (B_is_saying M_is_formed M_parts) ds) :=
  fn_R1 Df.fn sc_is_saying fun cdv A outer s H W E hr => (xs_cons (x_setO 1 (ow_lst (av_cons (ev_var 0) av_nil)) sc_is_saying.nd) (xs_cons (x_while (tv_cmp opd_gt (ev_callBS calls_len rfl m_len PySem.boot_len (sq_var 1)) ev_int) (xs_cons (x_pop 1 2 sc_is_saying.nd) (xs_cons (x_if (tv_not (tv_val (ev_call F_is_formed (pw1 ⟨rfl, rfl, rfl⟩) hr rfl D_is_formed.mg D_is_formed.fn.kp D_is_formed.bd (av_cons (ev_var 2) av_nil)))) (xs_one (x_ret ev_bl)) xs_nil) (xs_one (x_ext 1 (sq_ev (ev_call F_parts (pw1 ⟨rfl, rfl, rfl⟩) hr rfl D_parts.mg D_parts.fn.kp D_parts.bd (av_cons (ev_var 2) av_nil))))))) (hp := po1 ⟨rfl, rfl, rfl⟩)) (xs_one (x_ret ev_bl))))
abbrev s_first_words : Stmt := top 24
abbrev ps_first_words : List Str := ["saying"]
theorem sc_first_words : FnScope N_first_words ps_first_words (defScope s_first_words) := ⟨rfl, rfl, rfl, by decide +kernel, rfl, by decide +kernel, by decide +kernel⟩
theorem ok_first_words {P : Program} {w : World} {K : PySem.W.Frag} {mg : Str → Option Value} {base : Heap} {k : Nat} {a : Addr} {fd : FuncData} (Df : Def K mg "first_words" s_first_words ps_first_words a fd)
    (m_str : mg "str" = none)
    : FnOk P w K mg base (CX1 P w) (k + 1) a fd ps_first_words (spF K mg ps_first_words.length fun ds => callR N_first_words (B_first_words) ds) :=
  fn_R1 Df.fn sc_first_words fun cdv A outer s H W E hr => (xs_cons (x_set 1 (ev_ix (ev_var 0) ev_int) sc_first_words.nd) (xs_cons (x_if (tv_cmp (opd_eqD (room_u hr)) (ev_var 1) ev_str) (xs_one (x_ret (ev_ow (ow_lst (av_cons (ev_ix (ev_var 0) ev_int) av_nil))))) xs_nil) (xs_cons (x_if (WvD.tv (wv_or (tv_cmp (opd_eqD (room_u hr)) (ev_var 1) ev_str) (wv_or1 (tv_cmp (opd_eqD (room_u hr)) (ev_var 1) ev_str)))) (xs_one (x_ret (ev_ow (ow_lst (av_cons (ev_var 1) (av_cons (ev_callT calld_str rfl m_str boot_str (av_cons (ev_ix (ev_var 0) ev_int) av_nil)) av_nil)))))) xs_nil) (xs_one (x_ret (ev_ow (ow_lst (av_cons (ev_var 1) av_nil))))))))
abbrev s_written : Stmt := top 25
abbrev ps_written : List Str := ["saying"]
theorem sc_written : FnScope N_written ps_written (defScope s_written) := ⟨rfl, rfl, rfl, by decide +kernel, rfl, by decide +kernel, by decide +kernel⟩
theorem ok_written {P : Program} {w : World} {K : PySem.W.Frag} {mg : Str → Option Value} {base : Heap} {k : Nat} {a : Addr} {fd : FuncData} (Df : Def K mg "written" s_written ps_written a fd)
    {M_is_saying : List D → R D} {a_is_saying : Addr} {fd_is_saying : FuncData} (D_is_saying : Def K mg "is_saying" s_is_saying ps_is_saying a_is_saying fd_is_saying) (F_is_saying : FnOk P w K mg base (CX1 P w) k a_is_saying fd_is_saying ps_is_saying (spF K mg ps_is_saying.length M_is_saying))
    {M_walked : List D → R D} {a_walked : Addr} {fd_walked : FuncData} (D_walked : Def K mg "walked" s_walked ps_walked a_walked fd_walked) (F_walked : FnOk P w K mg base (CX1 P w) k a_walked fd_walked ps_walked (spF K mg ps_walked.length M_walked))
    {M_first_words : List D → R D} {a_first_words : Addr} {fd_first_words : FuncData} (D_first_words : Def K mg "first_words" s_first_words ps_first_words a_first_words fd_first_words) (F_first_words : FnOk P w K mg base (CX1 P w) k a_first_words fd_first_words ps_first_words (spF K mg ps_first_words.length M_first_words))
    {C_NoSaying : Addr}
    {bm_NoSaying : List Value}
    (X_NoSaying : XCls K "NoSaying" C_NoSaying bm_NoSaying)
    : FnOk P w K mg base (CX1 P w) (k + 1) a fd ps_written (spF K mg ps_written.length fun ds => callR N_written (B_written M_is_saying M_walked M_first_words) ds) :=
  fn_R1 Df.fn sc_written fun cdv A outer s H W E hr => (xs_cons (x_if (tv_not (tv_val (ev_call F_is_saying (pw1 ⟨rfl, rfl, rfl⟩) hr rfl D_is_saying.mg D_is_saying.fn.kp D_is_saying.bd (av_cons (ev_var 0) av_nil)))) (xs_one (x_raise ⟨rfl, rfl, rfl⟩ X_NoSaying rfl rfl (av_cons ev_str av_nil))) xs_nil) (xs_cons (x_setO 1 (ow_lst av_nil) sc_written.nd) (xs_cons (x_for rfl (it_list (ev_call F_walked (pw1 ⟨rfl, rfl, rfl⟩) hr rfl D_walked.mg D_walked.fn.kp D_walked.bd (av_cons (ev_var 0) av_nil))) (tg_name 2 sc_written.nd) (xs_one (x_ext 1 (sq_ev (ev_call F_first_words (pw1 ⟨rfl, rfl, rfl⟩) hr rfl D_first_words.mg D_first_words.fn.kp D_first_words.bd (av_cons (ev_var 2) av_nil))))) (hp := po1 ⟨rfl, rfl, rfl⟩)) (xs_one (x_ret (ev_join ev_str (sq_var 1)))))))
abbrev s_taken : Stmt := top 16
abbrev ps_taken : List Str := ["ready"]
theorem sc_taken : FnScope N_taken ps_taken (defScope s_taken) := ⟨rfl, rfl, rfl, by decide +kernel, rfl, by decide +kernel, by decide +kernel⟩
theorem ok_taken {P : Program} {w : World} {K : PySem.W.Frag} {mg : Str → Option Value} {base : Heap} {k : Nat} {a : Addr} {fd : FuncData} (Df : Def K mg "taken" s_taken ps_taken a fd)
    (m_len : mg "len" = none)
    {C_NoText : Addr}
    {bm_NoText : List Value}
    (X_NoText : XCls K "NoText" C_NoText bm_NoText)
    : FnOk P w K mg base (CX1 P w) (k + 1) a fd ps_taken (spO K ps_taken.length 0 fun ds xs => par0 fun a => callM N_taken 0 (B_taken) a ds xs) :=
  fn_O1 Df.fn sc_taken fun cdv A outer s H W E hr => (xms_cons (xm_if (tv_cmp (opd_eqD (room_u hr)) (ev_callBS calls_len rfl m_len PySem.boot_len (sq_var 0)) ev_int) (xms_one (xm_lift (x_raise ⟨rfl, rfl, rfl⟩ X_NoText rfl rfl (av_cons ev_str av_nil)))) xms_nil) (xms_one (xm_ret (em_pop 0))))
abbrev s_taken_saying : Stmt := top 18
abbrev ps_taken_saying : List Str := ["ready"]
theorem sc_taken_saying : FnScope N_taken_saying ps_taken_saying (defScope s_taken_saying) := ⟨rfl, rfl, rfl, by decide +kernel, rfl, by decide +kernel, by decide +kernel⟩
theorem ok_taken_saying {P : Program} {w : World} {K : PySem.W.Frag} {mg : Str → Option Value} {base : Heap} {k : Nat} {a : Addr} {fd : FuncData} (Df : Def K mg "taken_saying" s_taken_saying ps_taken_saying a fd)
    {M_taken : List D → List D → R (D × List D)} {a_taken : Addr} {fd_taken : FuncData} (D_taken : Def K mg "taken" s_taken ps_taken a_taken fd_taken) (F_taken : FnOk P w K mg base (CX1 P w) k a_taken fd_taken ps_taken (spO K ps_taken.length 0 M_taken))
    {M_is_kind : List D → R D} {a_is_kind : Addr} {fd_is_kind : FuncData} (D_is_kind : Def K mg "is_kind" s_is_kind ps_is_kind a_is_kind fd_is_kind) (F_is_kind : FnOk P w K mg base (CX1 P w) k a_is_kind fd_is_kind ps_is_kind (spF K mg ps_is_kind.length M_is_kind))
    {C_NoText : Addr}
    {bm_NoText : List Value}
    (X_NoText : XCls K "NoText" C_NoText bm_NoText)
    : FnOk P w K mg base (CX1 P w) (k + 1) a fd ps_taken_saying (spO K ps_taken_saying.length 0 fun ds xs => par0 fun a => callM N_taken_saying 0 (B_taken_saying M_taken M_is_kind) a ds xs) :=
  fn_O1 Df.fn sc_taken_saying fun cdv A outer s H W E hr => (xms_cons (xm_lift (x_setM 1 (em_call F_taken (pw1 ⟨rfl, rfl, rfl⟩) hr rfl D_taken.mg D_taken.fn.kp D_taken.bd (ao_here 0 av_nil)) sc_taken_saying.nd)) (xms_cons (xm_if (tv_val (ev_call F_is_kind (pw1 ⟨rfl, rfl, rfl⟩) hr rfl D_is_kind.mg D_is_kind.fn.kp D_is_kind.bd (av_cons (ev_var 1) av_nil))) (xms_one (xm_lift (x_raise ⟨rfl, rfl, rfl⟩ X_NoText rfl rfl (av_cons ev_str av_nil)))) xms_nil) (xms_one (xm_ret (em_ev (ev_var 1))))))
abbrev s_taken_kind : Stmt := top 17
abbrev ps_taken_kind : List Str := ["ready"]
theorem sc_taken_kind : FnScope N_taken_kind ps_taken_kind (defScope s_taken_kind) := ⟨rfl, rfl, rfl, by decide +kernel, rfl, by decide +kernel, by decide +kernel⟩
theorem ok_taken_kind {P : Program} {w : World} {K : PySem.W.Frag} {mg : Str → Option Value} {base : Heap} {k : Nat} {a : Addr} {fd : FuncData} (Df : Def K mg "taken_kind" s_taken_kind ps_taken_kind a fd)
    {M_taken : List D → List D → R (D × List D)} {a_taken : Addr} {fd_taken : FuncData} (D_taken : Def K mg "taken" s_taken ps_taken a_taken fd_taken) (F_taken : FnOk P w K mg base (CX1 P w) k a_taken fd_taken ps_taken (spO K ps_taken.length 0 M_taken))
    {M_is_kind : List D → R D} {a_is_kind : Addr} {fd_is_kind : FuncData} (D_is_kind : Def K mg "is_kind" s_is_kind ps_is_kind a_is_kind fd_is_kind) (F_is_kind : FnOk P w K mg base (CX1 P w) k a_is_kind fd_is_kind ps_is_kind (spF K mg ps_is_kind.length M_is_kind))
    {C_NoText : Addr}
    {bm_NoText : List Value}
    (X_NoText : XCls K "NoText" C_NoText bm_NoText)
    : FnOk P w K mg base (CX1 P w) (k + 1) a fd ps_taken_kind (spO K ps_taken_kind.length 0 fun ds xs => par0 fun a => callM N_taken_kind 0 (B_taken_kind M_taken M_is_kind) a ds xs) :=
  fn_O1 Df.fn sc_taken_kind fun cdv A outer s H W E hr => (xms_cons (xm_lift (x_setM 1 (em_call F_taken (pw1 ⟨rfl, rfl, rfl⟩) hr rfl D_taken.mg D_taken.fn.kp D_taken.bd (ao_here 0 av_nil)) sc_taken_kind.nd)) (xms_cons (xm_if (tv_not (tv_val (ev_call F_is_kind (pw1 ⟨rfl, rfl, rfl⟩) hr rfl D_is_kind.mg D_is_kind.fn.kp D_is_kind.bd (av_cons (ev_var 1) av_nil)))) (xms_one (xm_lift (x_raise ⟨rfl, rfl, rfl⟩ X_NoText rfl rfl (av_cons ev_str av_nil)))) xms_nil) (xms_one (xm_ret (em_ev (ev_var 1))))))
abbrev s_begun_with : Stmt := top 19
abbrev ps_begun_with : List Str := ["word", "ready"]
theorem sc_begun_with : FnScope N_begun_with ps_begun_with (defScope s_begun_with) := ⟨rfl, rfl, rfl, by decide +kernel, rfl, by decide +kernel, by decide +kernel⟩
theorem ok_begun_with {P : Program} {w : World} {K : PySem.W.Frag} {mg : Str → Option Value} {base : Heap} {k : Nat} {a : Addr} {fd : FuncData} (Df : Def K mg "begun_with" s_begun_with ps_begun_with a fd)
    {M_is_name : List D → R D} {a_is_name : Addr} {fd_is_name : FuncData} (D_is_name : Def K mg "is_name" s_is_name ps_is_name a_is_name fd_is_name) (F_is_name : FnOk P w K mg base (CX1 P w) k a_is_name fd_is_name ps_is_name (spF K mg ps_is_name.length M_is_name))
    {M_taken_saying : List D → List D → R (D × List D)} {a_taken_saying : Addr} {fd_taken_saying : FuncData} (D_taken_saying : Def K mg "taken_saying" s_taken_saying ps_taken_saying a_taken_saying fd_taken_saying) (F_taken_saying : FnOk P w K mg base (CX1 P w) k a_taken_saying fd_taken_saying ps_taken_saying (spO K ps_taken_saying.length 0 M_taken_saying))
    {M_taken_kind : List D → List D → R (D × List D)} {a_taken_kind : Addr} {fd_taken_kind : FuncData} (D_taken_kind : Def K mg "taken_kind" s_taken_kind ps_taken_kind a_taken_kind fd_taken_kind) (F_taken_kind : FnOk P w K mg base (CX1 P w) k a_taken_kind fd_taken_kind ps_taken_kind (spO K ps_taken_kind.length 0 M_taken_kind))
    {C_NoText : Addr}
    {bm_NoText : List Value}
    (X_NoText : XCls K "NoText" C_NoText bm_NoText)
    (g_KINDS : GlobC K mg "KINDS" c_KINDS)
    (gx_KINDS : GlobTx K mg "KINDS" ct_KINDS)
    : FnOk P w K mg base (CX1 P w) (k + 1) a fd ps_begun_with (spO K ps_begun_with.length 1 fun ds xs => par0 fun a => callM N_begun_with 1 (B_begun_with M_is_name M_taken_saying M_taken_kind) a ds xs) :=
  fn_O1 Df.fn sc_begun_with fun cdv A outer s H W E hr => (xms_cons (xm_if (tv_val (ev_call F_is_name (pw1 ⟨rfl, rfl, rfl⟩) hr rfl D_is_name.mg D_is_name.fn.kp D_is_name.bd (av_cons (ev_var 0) av_nil))) (xms_one (xm_ret (em_ev (ev_tup (av_cons ev_str (av_cons (ev_var 0) av_nil)))))) xms_nil) (xms_cons (xm_if (tv_cmp (opd_memA (room_u hr)) (ev_var 0) (ev_globC g_KINDS rfl)) (xms_one (xm_ret (em_ev (ev_indexG gx_KINDS rfl (room_u hr) (ev_var 0))))) xms_nil) (xms_cons (xm_if (tv_cmp (opd_eqD (room_u hr)) (ev_var 0) ev_str) (xms_one (xm_ret (em_tup (am_cons (em_ev ev_str) (am_cons (em_call F_taken_saying (pw1 ⟨rfl, rfl, rfl⟩) hr rfl D_taken_saying.mg D_taken_saying.fn.kp D_taken_saying.bd (ao_here 1 av_nil)) am_nil))))) xms_nil) (xms_cons (xm_if (WvD.tv (wv_or (tv_cmp (opd_eqD (room_u hr)) (ev_var 0) ev_str) (wv_or1 (tv_cmp (opd_eqD (room_u hr)) (ev_var 0) ev_str)))) (xms_cons (xm_lift (x_setM 2 (em_call F_taken_saying (pw1 ⟨rfl, rfl, rfl⟩) hr rfl D_taken_saying.mg D_taken_saying.fn.kp D_taken_saying.bd (ao_here 1 av_nil)) sc_begun_with.nd)) (xms_one (xm_ret (em_tup (am_cons (em_ev (ev_var 0)) (am_cons (em_ev (ev_var 2)) (am_cons (em_call F_taken_saying (pw1 ⟨rfl, rfl, rfl⟩) hr rfl D_taken_saying.mg D_taken_saying.fn.kp D_taken_saying.bd (ao_here 1 av_nil)) am_nil))))))) xms_nil) (xms_cons (xm_if (WvD.tv (wv_or (tv_cmp (opd_eqD (room_u hr)) (ev_var 0) ev_str) (wv_or1 (tv_cmp (opd_eqD (room_u hr)) (ev_var 0) ev_str)))) (xms_cons (xm_lift (x_setM 3 (em_call F_taken_kind (pw1 ⟨rfl, rfl, rfl⟩) hr rfl D_taken_kind.mg D_taken_kind.fn.kp D_taken_kind.bd (ao_here 1 av_nil)) sc_begun_with.nd)) (xms_one (xm_ret (em_tup (am_cons (em_ev (ev_var 0)) (am_cons (em_ev (ev_var 3)) (am_cons (em_call F_taken_saying (pw1 ⟨rfl, rfl, rfl⟩) hr rfl D_taken_saying.mg D_taken_saying.fn.kp D_taken_saying.bd (ao_here 1 av_nil)) am_nil))))))) xms_nil) (xms_one (xm_lift (x_raise ⟨rfl, rfl, rfl⟩ X_NoText rfl rfl (av_cons ev_str av_nil)))))))))
abbrev s_read : Stmt := top 20
abbrev ps_read : List Str := ["text"]
theorem sc_read : FnScope N_read ps_read (defScope s_read) := ⟨rfl, rfl, rfl, by decide +kernel, rfl, by decide +kernel, by decide +kernel⟩
theorem ok_read {P : Program} {w : World} {K : PySem.W.Frag} {mg : Str → Option Value} {base : Heap} {k : Nat} {a : Addr} {fd : FuncData} (Df : Def K mg "read" s_read ps_read a fd)
    {M_begun_with : List D → List D → R (D × List D)} {a_begun_with : Addr} {fd_begun_with : FuncData} (D_begun_with : Def K mg "begun_with" s_begun_with ps_begun_with a_begun_with fd_begun_with) (F_begun_with : FnOk P w K mg base (CX1 P w) k a_begun_with fd_begun_with ps_begun_with (spO K ps_begun_with.length 1 M_begun_with))
    {M_taken_saying : List D → List D → R (D × List D)} {a_taken_saying : Addr} {fd_taken_saying : FuncData} (D_taken_saying : Def K mg "taken_saying" s_taken_saying ps_taken_saying a_taken_saying fd_taken_saying) (F_taken_saying : FnOk P w K mg base (CX1 P w) k a_taken_saying fd_taken_saying ps_taken_saying (spO K ps_taken_saying.length 0 M_taken_saying))
    (m_reversed : mg "reversed" = none)
    (m_len : mg "len" = none)
    {C_NoText : Addr}
    {bm_NoText : List Value}
    (X_NoText : XCls K "NoText" C_NoText bm_NoText)
    : FnOk P w K mg base (CX1 P w) (k + 1) a fd ps_read (spF K mg ps_read.length fun ds => callR N_read (B_read M_begun_with M_taken_saying) ds) :=
  fn_R1 Df.fn sc_read fun cdv A outer s H W E hr => (xs_cons (x_setO 1 (ow_lst av_nil) sc_read.nd) (xs_cons (x_for rfl (it_rev rfl m_reversed (ev_ow (ow_split (ev_var 0) ev_str))) (tg_name 2 sc_read.nd) (xs_one (x_appM 1 (em_call F_begun_with (pw1 ⟨rfl, rfl, rfl⟩) hr rfl D_begun_with.mg D_begun_with.fn.kp D_begun_with.bd (ao_cons (ev_var 2) (ao_here 1 av_nil))))) (hp := po1 ⟨rfl, rfl, rfl⟩)) (xs_cons (x_setM 3 (em_call F_taken_saying (pw1 ⟨rfl, rfl, rfl⟩) hr rfl D_taken_saying.mg D_taken_saying.fn.kp D_taken_saying.bd (ao_here 1 av_nil)) sc_read.nd) (xs_cons (x_if (tv_cmp opd_gt (ev_callBS calls_len rfl m_len PySem.boot_len (sq_var 1)) ev_int) (xs_one (x_raise ⟨rfl, rfl, rfl⟩ X_NoText rfl rfl (av_cons ev_str av_nil))) xs_nil) (xs_one (x_ret (ev_var 3)))))))
noncomputable def M__law_read : List D → R D := fun ds => callR N__law_read (B__law_read M_read) ds
abbrev s__law_read : Stmt := top 31
abbrev ps__law_read : List Str := ["_law_text"]
theorem sc__law_read : FnScope N__law_read ps__law_read (defScope s__law_read) := ⟨rfl, rfl, rfl, by decide +kernel, rfl, by decide +kernel, by decide +kernel⟩
theorem ok__law_read {P : Program} {w : World} {K : PySem.W.Frag} {mg : Str → Option Value} {base : Heap} {k : Nat} {a : Addr} {fd : FuncData} (Df : Def K mg "_law_read" s__law_read ps__law_read a fd)
    {M_read : List D → R D} {a_read : Addr} {fd_read : FuncData} (D_read : Def K mg "read" s_read ps_read a_read fd_read) (F_read : FnOk P w K mg base (CX1 P w) k a_read fd_read ps_read (spF K mg ps_read.length M_read))
    (m_isinstance : mg "isinstance" = none)
    (m_ValueError : mg "ValueError" = none)
    {C_YardError : Addr}
    {C_NoText : Addr}
    {bm_YardError : List Value}
    (X_YardError : XCls K "YardError" C_YardError bm_YardError)
    (T_YardError : Falls K (.ref C_YardError) t_YardError)
    (g_NoText : mg "NoText" = some (.ref C_NoText))
    (Y_ValueError : FallsY K (.ty "ValueError") y_ValueError)
    (Y_NoText : FallsY K (.ref C_NoText) y_NoText)
    : FnOk P w K mg base (CX1 P w) (k + 1) a fd ps__law_read (spF K mg ps__law_read.length fun ds => callR N__law_read (B__law_read M_read) ds) :=
  fn_R1 Df.fn sc__law_read fun cdv A outer s H W E hr => (xs_cons (x_set 1 ev_str sc__law_read.nd) (xs_cons (x_try ⟨rfl, rfl, rfl⟩ (fun pn W' => (xs_one (x_set 1 (ev_call F_read (pw1 ⟨rfl, rfl, rfl⟩) hr rfl D_read.mg D_read.fn.kp D_read.bd (av_cons (ev_var 0) av_nil)) sc__law_read.nd))) (h_named 2 ⟨rfl, rfl, rfl⟩ X_YardError rfl T_YardError (fun pn A => (xs_one (x_if (WvD.tv (wv_and (tv_val (ev_isx 2 rfl m_isinstance (pe_glob (v := .ref C_NoText) rfl g_NoText rfl) Y_NoText boot_isinstance)) (wv_and1 (tv_val (ev_isx 2 rfl m_isinstance (pe_bltn (v := .ty "ValueError") rfl m_ValueError boot_ValueError rfl) Y_ValueError boot_isinstance))))) (xs_one (x_set 1 ev_non sc__law_read.nd)) xs_nil))) sc__law_read.nd)) (xs_one (x_ret (ev_var 1)))))
abbrev s__law_spoilt : Stmt := top 30
abbrev ps__law_spoilt : List Str := ["_law_text", "_law_way", "_law_place", "_law_cell_here"]
theorem sc__law_spoilt : FnScope N__law_spoilt ps__law_spoilt (defScope s__law_spoilt) := ⟨rfl, rfl, rfl, by decide +kernel, rfl, by decide +kernel, by decide +kernel⟩
theorem ok__law_spoilt {P : Program} {w : World} {K : PySem.W.Frag} {mg : Str → Option Value} {base : Heap} {k : Nat} {a : Addr} {fd : FuncData} (Df : Def K mg "_law_spoilt" s__law_spoilt ps__law_spoilt a fd)
    (m_len : mg "len" = none)
    : FnOk P w K mg base (CX1 P w) (k + 1) a fd ps__law_spoilt (spF K mg ps__law_spoilt.length fun ds => callR N__law_spoilt (B__law_spoilt) ds) :=
  fn_R1 Df.fn sc__law_spoilt fun cdv A outer s H W E hr => (xs_cons (x_setO 4 (ow_split (ev_var 0) ev_str) sc__law_spoilt.nd) (xs_cons (x_set 5 (ev_op opd_mod (ev_var 2) (ev_callBS calls_len rfl m_len PySem.boot_len (sq_var 4))) sc__law_spoilt.nd) (xs_cons (x_set 6 (ev_ow (ow_lst (av_cons ev_str (av_cons ev_str (av_cons ev_str (av_cons ev_str (av_cons ev_str (av_cons ev_str (av_cons ev_str (av_cons ev_str (av_cons ev_str (av_cons ev_str (av_cons ev_str av_nil))))))))))))) sc__law_spoilt.nd) (xs_cons (x_if (tv_cmp (opd_eqD (room_u hr)) (ev_var 1) ev_int) (xs_one (x_ret (ev_join ev_str (sq_ow (ow_cat (sq_ow (ow_cat (sq_ow (ow_slL (sq_var 4) ov_none (ov_some (ev_var 5)))) (sq_ow (ow_lst (av_cons (ev_ix (ev_var 6) (ev_op opd_mod (ev_var 3) ev_int)) av_nil))))) (sq_ow (ow_slL (sq_var 4) (ov_some (ev_var 5)) ov_none))))))) xs_nil) (xs_cons (x_if (tv_cmp (opd_eqD (room_u hr)) (ev_var 1) ev_int) (xs_one (x_ret (ev_join ev_str (sq_ow (ow_cat (sq_ow (ow_slL (sq_var 4) ov_none (ov_some (ev_var 5)))) (sq_ow (ow_slL (sq_var 4) (ov_some (ev_op opd_addD (ev_var 5) ev_int)) ov_none))))))) xs_nil) (xs_cons (x_if (tv_cmp (opd_eqD (room_u hr)) (ev_var 1) ev_int) (xs_one (x_ret (ev_join ev_str (sq_ow (ow_cat (sq_ow (ow_cat (sq_ow (ow_slL (sq_var 4) ov_none (ov_some (ev_var 5)))) (sq_ow (ow_lst (av_cons (ev_ix (ev_var 6) (ev_op opd_mod (ev_var 3) ev_int)) av_nil))))) (sq_ow (ow_slL (sq_var 4) (ov_some (ev_op opd_addD (ev_var 5) ev_int)) ov_none))))))) xs_nil) (xs_cons (x_set 5 (ev_op opd_mod (ev_var 2) (ev_op opd_addD (ev_callB calld_len rfl m_len PySem.boot_len (av_cons (ev_var 0) av_nil)) ev_int)) sc__law_spoilt.nd) (xs_cons (x_if (tv_cmp (opd_eqD (room_u hr)) (ev_var 1) ev_int) (xs_one (x_ret (ev_op opd_addD (ev_slA (ev_var 0) ov_none (ov_some (ev_var 5))) (ev_slA (ev_var 0) (ov_some (ev_op opd_addD (ev_var 5) ev_int)) ov_none)))) xs_nil) (xs_cons (x_if (tv_cmp (opd_eqD (room_u hr)) (ev_var 1) ev_int) (xs_one (x_ret (ev_op opd_addD (ev_op opd_addD (ev_slA (ev_var 0) ov_none (ov_some (ev_var 5))) (ev_slA (ev_var 0) (ov_some (ev_var 5)) (ov_some (ev_op opd_addD (ev_var 5) ev_int)))) (ev_slA (ev_var 0) (ov_some (ev_var 5)) ov_none)))) xs_nil) (xs_one (x_ret (ev_op opd_addD (ev_op opd_addD (ev_slA (ev_var 0) ov_none (ov_some (ev_var 5))) (ev_ix ev_str (ev_op opd_mod (ev_var 3) ev_int))) (ev_slA (ev_var 0) (ov_some (ev_op opd_addD (ev_var 5) ev_int)) ov_none)))))))))))))
abbrev s__law_cell : Stmt := top 27
abbrev ps__law_cell : List Str := ["_law_script", "_law_k"]
theorem sc__law_cell : FnScope N__law_cell ps__law_cell (defScope s__law_cell) := ⟨rfl, rfl, rfl, by decide +kernel, rfl, by decide +kernel, by decide +kernel⟩
theorem ok__law_cell {P : Program} {w : World} {K : PySem.W.Frag} {mg : Str → Option Value} {base : Heap} {k : Nat} {a : Addr} {fd : FuncData} (Df : Def K mg "_law_cell" s__law_cell ps__law_cell a fd)
    (m_len : mg "len" = none)
    : FnOk P w K mg base (CX1 P w) (k + 1) a fd ps__law_cell (spF K mg ps__law_cell.length fun ds => callR N__law_cell (B__law_cell) ds) :=
  fn_R1 Df.fn sc__law_cell fun cdv A outer s H W E hr => (xs_cons (x_if (tv_cmp opd_lt (ev_var 1) (ev_callB calld_len rfl m_len PySem.boot_len (av_cons (ev_var 0) av_nil))) (xs_one (x_ret (ev_ix (ev_var 0) (ev_var 1)))) xs_nil) (xs_one (x_ret ev_int)))
noncomputable def M__law_unwritten : List D → R D := fun ds => callR N__law_unwritten (B__law_unwritten M_written) ds
abbrev s__law_unwritten : Stmt := top 32
abbrev ps__law_unwritten : List Str := ["_law_thing"]
theorem sc__law_unwritten : FnScope N__law_unwritten ps__law_unwritten (defScope s__law_unwritten) := ⟨rfl, rfl, rfl, by decide +kernel, rfl, by decide +kernel, by decide +kernel⟩
theorem ok__law_unwritten {P : Program} {w : World} {K : PySem.W.Frag} {mg : Str → Option Value} {base : Heap} {k : Nat} {a : Addr} {fd : FuncData} (Df : Def K mg "_law_unwritten" s__law_unwritten ps__law_unwritten a fd)
    {M_written : List D → R D} {a_written : Addr} {fd_written : FuncData} (D_written : Def K mg "written" s_written ps_written a_written fd_written) (F_written : FnOk P w K mg base (CX1 P w) k a_written fd_written ps_written (spF K mg ps_written.length M_written))
    {C_NoSaying : Addr}
    {bm_NoSaying : List Value}
    (X_NoSaying : XCls K "NoSaying" C_NoSaying bm_NoSaying)
    (T_NoSaying : Falls K (.ref C_NoSaying) t_NoSaying)
    : FnOk P w K mg base (CX1 P w) (k + 1) a fd ps__law_unwritten (spF K mg ps__law_unwritten.length fun ds => callR N__law_unwritten (B__law_unwritten M_written) ds) :=
  fn_R1 Df.fn sc__law_unwritten fun cdv A outer s H W E hr => (xs_cons (x_set 1 ev_bl sc__law_unwritten.nd) (xs_cons (x_try ⟨rfl, rfl, rfl⟩ (fun pn W' => (xs_one (x_expr (ev_call F_written (pw1 ⟨rfl, rfl, rfl⟩) hr rfl D_written.mg D_written.fn.kp D_written.bd (av_cons (ev_var 0) av_nil))))) (h_plain ⟨rfl, rfl, rfl⟩ X_NoSaying rfl T_NoSaying (fun pn A => (xs_one (x_set 1 ev_bl sc__law_unwritten.nd))))) (xs_one (x_ret (ev_var 1)))))
noncomputable def M_law : List D → R D := fun ds => callR N_law (B_law (M__law_saying 6) M__law_cell M_written M__law_read M__law_spoilt M__law_unwritten) ds
abbrev s_law : Stmt := top 33
abbrev ps_law : List Str := ["_law_script"]
theorem sc_law : FnScope N_law ps_law (defScope s_law) := ⟨rfl, rfl, rfl, by decide +kernel, rfl, by decide +kernel, by decide +kernel⟩
theorem ok_law {P : Program} {w : World} {K : PySem.W.Frag} {mg : Str → Option Value} {base : Heap} {k : Nat} {a : Addr} {fd : FuncData} (Df : Def K mg "law" s_law ps_law a fd)
    {M__law_saying : List D → R D} {a__law_saying : Addr} {fd__law_saying : FuncData} (D__law_saying : Def K mg "_law_saying" s__law_saying ps__law_saying a__law_saying fd__law_saying) (F__law_saying : FnOk P w K mg base (CX1 P w) k a__law_saying fd__law_saying ps__law_saying (spF K mg ps__law_saying.length M__law_saying))
    {M__law_cell : List D → R D} {a__law_cell : Addr} {fd__law_cell : FuncData} (D__law_cell : Def K mg "_law_cell" s__law_cell ps__law_cell a__law_cell fd__law_cell) (F__law_cell : FnOk P w K mg base (CX1 P w) k a__law_cell fd__law_cell ps__law_cell (spF K mg ps__law_cell.length M__law_cell))
    {M_written : List D → R D} {a_written : Addr} {fd_written : FuncData} (D_written : Def K mg "written" s_written ps_written a_written fd_written) (F_written : FnOk P w K mg base (CX1 P w) k a_written fd_written ps_written (spF K mg ps_written.length M_written))
    {M__law_read : List D → R D} {a__law_read : Addr} {fd__law_read : FuncData} (D__law_read : Def K mg "_law_read" s__law_read ps__law_read a__law_read fd__law_read) (F__law_read : FnOk P w K mg base (CX1 P w) k a__law_read fd__law_read ps__law_read (spF K mg ps__law_read.length M__law_read))
    {M__law_spoilt : List D → R D} {a__law_spoilt : Addr} {fd__law_spoilt : FuncData} (D__law_spoilt : Def K mg "_law_spoilt" s__law_spoilt ps__law_spoilt a__law_spoilt fd__law_spoilt) (F__law_spoilt : FnOk P w K mg base (CX1 P w) k a__law_spoilt fd__law_spoilt ps__law_spoilt (spF K mg ps__law_spoilt.length M__law_spoilt))
    {M__law_unwritten : List D → R D} {a__law_unwritten : Addr} {fd__law_unwritten : FuncData} (D__law_unwritten : Def K mg "_law_unwritten" s__law_unwritten ps__law_unwritten a__law_unwritten fd__law_unwritten) (F__law_unwritten : FnOk P w K mg base (CX1 P w) k a__law_unwritten fd__law_unwritten ps__law_unwritten (spF K mg ps__law_unwritten.length M__law_unwritten))
    : FnOk P w K mg base (CX1 P w) (k + 1) a fd ps_law (spF K mg ps_law.length fun ds => callR N_law (B_law M__law_saying M__law_cell M_written M__law_read M__law_spoilt M__law_unwritten) ds) :=
  fn_R1 Df.fn sc_law fun cdv A outer s H W E hr => (xs_cons (x_set 1 (ev_call F__law_saying (pw1 ⟨rfl, rfl, rfl⟩) hr rfl D__law_saying.mg D__law_saying.fn.kp D__law_saying.bd (av_cons (ev_call F__law_cell (pw1 ⟨rfl, rfl, rfl⟩) hr rfl D__law_cell.mg D__law_cell.fn.kp D__law_cell.bd (av_cons (ev_var 0) (av_cons ev_int av_nil))) (av_cons ev_int av_nil))) sc_law.nd) (xs_cons (x_set 2 (ev_call F_written (pw1 ⟨rfl, rfl, rfl⟩) hr rfl D_written.mg D_written.fn.kp D_written.bd (av_cons (ev_var 1) av_nil)) sc_law.nd) (xs_cons (x_set 3 (ev_call F__law_read (pw1 ⟨rfl, rfl, rfl⟩) hr rfl D__law_read.mg D__law_read.fn.kp D__law_read.bd (av_cons (ev_call F__law_spoilt (pw1 ⟨rfl, rfl, rfl⟩) hr rfl D__law_spoilt.mg D__law_spoilt.fn.kp D__law_spoilt.bd (av_cons (ev_var 2) (av_cons (ev_op opd_mod (ev_call F__law_cell (pw1 ⟨rfl, rfl, rfl⟩) hr rfl D__law_cell.mg D__law_cell.fn.kp D__law_cell.bd (av_cons (ev_var 0) (av_cons ev_int av_nil))) ev_int) (av_cons (ev_call F__law_cell (pw1 ⟨rfl, rfl, rfl⟩) hr rfl D__law_cell.mg D__law_cell.fn.kp D__law_cell.bd (av_cons (ev_var 0) (av_cons ev_int av_nil))) (av_cons (ev_call F__law_cell (pw1 ⟨rfl, rfl, rfl⟩) hr rfl D__law_cell.mg D__law_cell.fn.kp D__law_cell.bd (av_cons (ev_var 0) (av_cons ev_int av_nil))) av_nil))))) av_nil)) sc_law.nd) (xs_cons (x_set 4 (ev_call F__law_spoilt (pw1 ⟨rfl, rfl, rfl⟩) hr rfl D__law_spoilt.mg D__law_spoilt.fn.kp D__law_spoilt.bd (av_cons (ev_var 2) (av_cons (ev_op opd_mod (ev_call F__law_cell (pw1 ⟨rfl, rfl, rfl⟩) hr rfl D__law_cell.mg D__law_cell.fn.kp D__law_cell.bd (av_cons (ev_var 0) (av_cons ev_int av_nil))) ev_int) (av_cons (ev_call F__law_cell (pw1 ⟨rfl, rfl, rfl⟩) hr rfl D__law_cell.mg D__law_cell.fn.kp D__law_cell.bd (av_cons (ev_var 0) (av_cons ev_int av_nil))) (av_cons (ev_call F__law_cell (pw1 ⟨rfl, rfl, rfl⟩) hr rfl D__law_cell.mg D__law_cell.fn.kp D__law_cell.bd (av_cons (ev_var 0) (av_cons ev_int av_nil))) av_nil))))) sc_law.nd) (xs_cons (x_if (WvD.tv (wv_or (tv_cmp (opd_eqD (room_u hr)) (ev_var 3) ev_str) (wv_or1 (WvD.tv (wv_and (tv_cmp opd_isnotA (ev_var 3) ev_non) (wv_and1 (tv_cmp (opd_neD (room_u hr)) (ev_call F_written (pw1 ⟨rfl, rfl, rfl⟩) hr rfl D_written.mg D_written.fn.kp D_written.bd (av_cons (ev_var 3) av_nil)) (ev_var 4)))))))) (xs_one (x_ret ev_bl)) xs_nil) (xs_cons (x_for rfl (it_list (ev_ow (ow_lst (av_cons (ev_op opd_addD (ev_var 2) ev_str) (av_cons ev_str (av_cons ev_str (av_cons (ev_op opd_addD (ev_var 2) ev_str) (av_cons (ev_op opd_addD ev_str (ev_var 2)) (av_cons (ev_op opd_addD ev_str (ev_var 2)) (av_cons (ev_op opd_addD ev_str (ev_var 2)) av_nil)))))))))) (tg_name 5 sc_law.nd) (xs_one (x_if (tv_cmp opd_isnotA (ev_call F__law_read (pw1 ⟨rfl, rfl, rfl⟩) hr rfl D__law_read.mg D__law_read.fn.kp D__law_read.bd (av_cons (ev_var 5) av_nil)) ev_non) (xs_one (x_ret ev_bl)) xs_nil)) (hp := po1 ⟨rfl, rfl, rfl⟩)) (xs_one (x_ret (ev_and (ev_call F__law_unwritten (pw1 ⟨rfl, rfl, rfl⟩) hr rfl D__law_unwritten.mg D__law_unwritten.fn.kp D__law_unwritten.bd (av_cons (ev_tup (av_cons ev_str (av_cons ev_non av_nil))) av_nil)) (ev_one (ev_call F__law_unwritten (pw1 ⟨rfl, rfl, rfl⟩) hr rfl D__law_unwritten.mg D__law_unwritten.fn.kp D__law_unwritten.bd (av_cons (ev_var 2) av_nil))))))))))))
theorem all_mk {l : PySem.W.OpenLaw} {w : World} {K : PySem.W.Frag} {h : Heap} {mg : Str → Option Value} {fa f__law_mix f__law_saying f_parts f_walked f_is_name f_is_whole f_is_below f_is_kind f_is_formed f_is_saying f_first_words f_written f_taken f_taken_saying f_taken_kind f_begun_with f_read f__law_read f__law_spoilt f__law_cell f__law_unwritten f_law p_WORDS p_KINDS C_YardError n_YardError C_NoSaying n_NoSaying C_NoText n_NoText : Addr} (X : K.In h) (G : h.Ns mainGlobals mg) (hfa : mg "law" = some (.ref fa))
    {od__law_mix an__law_mix : Option Addr} {sl__law_mix : Array (Option Value)} {oc__law_mix kV__law_mix dc__law_mix pm__law_mix cd__law_mix ct__law_mix : Value}
    {od__law_saying an__law_saying : Option Addr} {sl__law_saying : Array (Option Value)} {oc__law_saying kV__law_saying dc__law_saying pm__law_saying cd__law_saying ct__law_saying : Value}
    {od_parts an_parts : Option Addr} {sl_parts : Array (Option Value)} {oc_parts kV_parts dc_parts pm_parts cd_parts ct_parts : Value}
    {od_walked an_walked : Option Addr} {sl_walked : Array (Option Value)} {oc_walked kV_walked dc_walked pm_walked cd_walked ct_walked : Value}
    {od_is_name an_is_name : Option Addr} {sl_is_name : Array (Option Value)} {oc_is_name kV_is_name dc_is_name pm_is_name cd_is_name ct_is_name : Value}
    {od_is_whole an_is_whole : Option Addr} {sl_is_whole : Array (Option Value)} {oc_is_whole kV_is_whole dc_is_whole pm_is_whole cd_is_whole ct_is_whole : Value}
    {od_is_below an_is_below : Option Addr} {sl_is_below : Array (Option Value)} {oc_is_below kV_is_below dc_is_below pm_is_below cd_is_below ct_is_below : Value}
    {od_is_kind an_is_kind : Option Addr} {sl_is_kind : Array (Option Value)} {oc_is_kind kV_is_kind dc_is_kind pm_is_kind cd_is_kind ct_is_kind : Value}
    {od_is_formed an_is_formed : Option Addr} {sl_is_formed : Array (Option Value)} {oc_is_formed kV_is_formed dc_is_formed pm_is_formed cd_is_formed ct_is_formed : Value}
    {od_is_saying an_is_saying : Option Addr} {sl_is_saying : Array (Option Value)} {oc_is_saying kV_is_saying dc_is_saying pm_is_saying cd_is_saying ct_is_saying : Value}
    {od_first_words an_first_words : Option Addr} {sl_first_words : Array (Option Value)} {oc_first_words kV_first_words dc_first_words pm_first_words cd_first_words ct_first_words : Value}
    {od_written an_written : Option Addr} {sl_written : Array (Option Value)} {oc_written kV_written dc_written pm_written cd_written ct_written : Value}
    {od_taken an_taken : Option Addr} {sl_taken : Array (Option Value)} {oc_taken kV_taken dc_taken pm_taken cd_taken ct_taken : Value}
    {od_taken_saying an_taken_saying : Option Addr} {sl_taken_saying : Array (Option Value)} {oc_taken_saying kV_taken_saying dc_taken_saying pm_taken_saying cd_taken_saying ct_taken_saying : Value}
    {od_taken_kind an_taken_kind : Option Addr} {sl_taken_kind : Array (Option Value)} {oc_taken_kind kV_taken_kind dc_taken_kind pm_taken_kind cd_taken_kind ct_taken_kind : Value}
    {od_begun_with an_begun_with : Option Addr} {sl_begun_with : Array (Option Value)} {oc_begun_with kV_begun_with dc_begun_with pm_begun_with cd_begun_with ct_begun_with : Value}
    {od_read an_read : Option Addr} {sl_read : Array (Option Value)} {oc_read kV_read dc_read pm_read cd_read ct_read : Value}
    {od__law_read an__law_read : Option Addr} {sl__law_read : Array (Option Value)} {oc__law_read kV__law_read dc__law_read pm__law_read cd__law_read ct__law_read : Value}
    {od__law_spoilt an__law_spoilt : Option Addr} {sl__law_spoilt : Array (Option Value)} {oc__law_spoilt kV__law_spoilt dc__law_spoilt pm__law_spoilt cd__law_spoilt ct__law_spoilt : Value}
    {od__law_cell an__law_cell : Option Addr} {sl__law_cell : Array (Option Value)} {oc__law_cell kV__law_cell dc__law_cell pm__law_cell cd__law_cell ct__law_cell : Value}
    {od__law_unwritten an__law_unwritten : Option Addr} {sl__law_unwritten : Array (Option Value)} {oc__law_unwritten kV__law_unwritten dc__law_unwritten pm__law_unwritten cd__law_unwritten ct__law_unwritten : Value}
    {od_law an_law : Option Addr} {sl_law : Array (Option Value)} {oc_law kV_law dc_law pm_law cd_law ct_law : Value}
    {t1_WORDS t2_WORDS t3_WORDS t4_WORDS t5_WORDS : Tok} {oc_WORDS : Option Addr} {nc_WORDS : Nat} {sc_WORDS : Array (Option Value)}
    {tc_LETTERS : Tok}
    {t1_KINDS t2_KINDS t3_KINDS : Tok}  {nc_KINDS : Nat} {sc_KINDS : Array (Option Value)}
    {nm_YardError q_YardError : Str} {bs_YardError sub_YardError : List Value} {hd_YardError ab_YardError : Bool} {sn_YardError : List Str} {col_YardError : Option Bool} {dd_YardError : Option Addr} {k0_YardError k1_YardError k2_YardError k3_YardError k5_YardError : Option Value}
    {nm_NoSaying q_NoSaying : Str} {bs_NoSaying sub_NoSaying : List Value} {hd_NoSaying ab_NoSaying : Bool} {sn_NoSaying : List Str} {col_NoSaying : Option Bool} {dd_NoSaying : Option Addr} {k0_NoSaying k1_NoSaying k2_NoSaying k3_NoSaying k5_NoSaying : Option Value}
    {nm_NoText q_NoText : Str} {bs_NoText sub_NoText : List Value} {hd_NoText ab_NoText : Bool} {sn_NoText : List Str} {col_NoText : Option Bool} {dd_NoText : Option Addr} {k0_NoText k1_NoText k2_NoText k3_NoText k5_NoText : Option Value}
    (a__law_mix : PySem.W.nsIn K mainGlobals "_law_mix" = some (some (.ref f__law_mix))) (l__law_mix : K.lookup f__law_mix = some ⟨oc__law_mix, od__law_mix, .func (PySem.W.fnOf "_law_mix" "_law_mix" (defArgs s__law_mix) (defBody s__law_mix) (defScope s__law_mix) .none kV__law_mix dc__law_mix pm__law_mix an__law_mix cd__law_mix ct__law_mix), sl__law_mix⟩) (c__law_mix : PySem.W.codeIn K cd__law_mix "_law_mix" = true) (k__law_mix : PySem.W.keepIn K (.ref f__law_mix) = true)
    (a__law_saying : PySem.W.nsIn K mainGlobals "_law_saying" = some (some (.ref f__law_saying))) (l__law_saying : K.lookup f__law_saying = some ⟨oc__law_saying, od__law_saying, .func (PySem.W.fnOf "_law_saying" "_law_saying" (defArgs s__law_saying) (defBody s__law_saying) (defScope s__law_saying) .none kV__law_saying dc__law_saying pm__law_saying an__law_saying cd__law_saying ct__law_saying), sl__law_saying⟩) (c__law_saying : PySem.W.codeIn K cd__law_saying "_law_saying" = true) (k__law_saying : PySem.W.keepIn K (.ref f__law_saying) = true)
    (a_parts : PySem.W.nsIn K mainGlobals "parts" = some (some (.ref f_parts))) (l_parts : K.lookup f_parts = some ⟨oc_parts, od_parts, .func (PySem.W.fnOf "parts" "parts" (defArgs s_parts) (defBody s_parts) (defScope s_parts) .none kV_parts dc_parts pm_parts an_parts cd_parts ct_parts), sl_parts⟩) (c_parts : PySem.W.codeIn K cd_parts "parts" = true) (k_parts : PySem.W.keepIn K (.ref f_parts) = true)
    (a_walked : PySem.W.nsIn K mainGlobals "walked" = some (some (.ref f_walked))) (l_walked : K.lookup f_walked = some ⟨oc_walked, od_walked, .func (PySem.W.fnOf "walked" "walked" (defArgs s_walked) (defBody s_walked) (defScope s_walked) .none kV_walked dc_walked pm_walked an_walked cd_walked ct_walked), sl_walked⟩) (c_walked : PySem.W.codeIn K cd_walked "walked" = true) (k_walked : PySem.W.keepIn K (.ref f_walked) = true)
    (a_is_name : PySem.W.nsIn K mainGlobals "is_name" = some (some (.ref f_is_name))) (l_is_name : K.lookup f_is_name = some ⟨oc_is_name, od_is_name, .func (PySem.W.fnOf "is_name" "is_name" (defArgs s_is_name) (defBody s_is_name) (defScope s_is_name) .none kV_is_name dc_is_name pm_is_name an_is_name cd_is_name ct_is_name), sl_is_name⟩) (c_is_name : PySem.W.codeIn K cd_is_name "is_name" = true) (k_is_name : PySem.W.keepIn K (.ref f_is_name) = true)
    (a_is_whole : PySem.W.nsIn K mainGlobals "is_whole" = some (some (.ref f_is_whole))) (l_is_whole : K.lookup f_is_whole = some ⟨oc_is_whole, od_is_whole, .func (PySem.W.fnOf "is_whole" "is_whole" (defArgs s_is_whole) (defBody s_is_whole) (defScope s_is_whole) .none kV_is_whole dc_is_whole pm_is_whole an_is_whole cd_is_whole ct_is_whole), sl_is_whole⟩) (c_is_whole : PySem.W.codeIn K cd_is_whole "is_whole" = true) (k_is_whole : PySem.W.keepIn K (.ref f_is_whole) = true)
    (a_is_below : PySem.W.nsIn K mainGlobals "is_below" = some (some (.ref f_is_below))) (l_is_below : K.lookup f_is_below = some ⟨oc_is_below, od_is_below, .func (PySem.W.fnOf "is_below" "is_below" (defArgs s_is_below) (defBody s_is_below) (defScope s_is_below) .none kV_is_below dc_is_below pm_is_below an_is_below cd_is_below ct_is_below), sl_is_below⟩) (c_is_below : PySem.W.codeIn K cd_is_below "is_below" = true) (k_is_below : PySem.W.keepIn K (.ref f_is_below) = true)
    (a_is_kind : PySem.W.nsIn K mainGlobals "is_kind" = some (some (.ref f_is_kind))) (l_is_kind : K.lookup f_is_kind = some ⟨oc_is_kind, od_is_kind, .func (PySem.W.fnOf "is_kind" "is_kind" (defArgs s_is_kind) (defBody s_is_kind) (defScope s_is_kind) .none kV_is_kind dc_is_kind pm_is_kind an_is_kind cd_is_kind ct_is_kind), sl_is_kind⟩) (c_is_kind : PySem.W.codeIn K cd_is_kind "is_kind" = true) (k_is_kind : PySem.W.keepIn K (.ref f_is_kind) = true)
    (a_is_formed : PySem.W.nsIn K mainGlobals "is_formed" = some (some (.ref f_is_formed))) (l_is_formed : K.lookup f_is_formed = some ⟨oc_is_formed, od_is_formed, .func (PySem.W.fnOf "is_formed" "is_formed" (defArgs s_is_formed) (defBody s_is_formed) (defScope s_is_formed) .none kV_is_formed dc_is_formed pm_is_formed an_is_formed cd_is_formed ct_is_formed), sl_is_formed⟩) (c_is_formed : PySem.W.codeIn K cd_is_formed "is_formed" = true) (k_is_formed : PySem.W.keepIn K (.ref f_is_formed) = true)
    (a_is_saying : PySem.W.nsIn K mainGlobals "is_saying" = some (some (.ref f_is_saying))) (l_is_saying : K.lookup f_is_saying = some ⟨oc_is_saying, od_is_saying, .func (PySem.W.fnOf "is_saying" "is_saying" (defArgs s_is_saying) (defBody s_is_saying) (defScope s_is_saying) .none kV_is_saying dc_is_saying pm_is_saying an_is_saying cd_is_saying ct_is_saying), sl_is_saying⟩) (c_is_saying : PySem.W.codeIn K cd_is_saying "is_saying" = true) (k_is_saying : PySem.W.keepIn K (.ref f_is_saying) = true)
    (a_first_words : PySem.W.nsIn K mainGlobals "first_words" = some (some (.ref f_first_words))) (l_first_words : K.lookup f_first_words = some ⟨oc_first_words, od_first_words, .func (PySem.W.fnOf "first_words" "first_words" (defArgs s_first_words) (defBody s_first_words) (defScope s_first_words) .none kV_first_words dc_first_words pm_first_words an_first_words cd_first_words ct_first_words), sl_first_words⟩) (c_first_words : PySem.W.codeIn K cd_first_words "first_words" = true) (k_first_words : PySem.W.keepIn K (.ref f_first_words) = true)
    (a_written : PySem.W.nsIn K mainGlobals "written" = some (some (.ref f_written))) (l_written : K.lookup f_written = some ⟨oc_written, od_written, .func (PySem.W.fnOf "written" "written" (defArgs s_written) (defBody s_written) (defScope s_written) .none kV_written dc_written pm_written an_written cd_written ct_written), sl_written⟩) (c_written : PySem.W.codeIn K cd_written "written" = true) (k_written : PySem.W.keepIn K (.ref f_written) = true)
    (a_taken : PySem.W.nsIn K mainGlobals "taken" = some (some (.ref f_taken))) (l_taken : K.lookup f_taken = some ⟨oc_taken, od_taken, .func (PySem.W.fnOf "taken" "taken" (defArgs s_taken) (defBody s_taken) (defScope s_taken) .none kV_taken dc_taken pm_taken an_taken cd_taken ct_taken), sl_taken⟩) (c_taken : PySem.W.codeIn K cd_taken "taken" = true) (k_taken : PySem.W.keepIn K (.ref f_taken) = true)
    (a_taken_saying : PySem.W.nsIn K mainGlobals "taken_saying" = some (some (.ref f_taken_saying))) (l_taken_saying : K.lookup f_taken_saying = some ⟨oc_taken_saying, od_taken_saying, .func (PySem.W.fnOf "taken_saying" "taken_saying" (defArgs s_taken_saying) (defBody s_taken_saying) (defScope s_taken_saying) .none kV_taken_saying dc_taken_saying pm_taken_saying an_taken_saying cd_taken_saying ct_taken_saying), sl_taken_saying⟩) (c_taken_saying : PySem.W.codeIn K cd_taken_saying "taken_saying" = true) (k_taken_saying : PySem.W.keepIn K (.ref f_taken_saying) = true)
    (a_taken_kind : PySem.W.nsIn K mainGlobals "taken_kind" = some (some (.ref f_taken_kind))) (l_taken_kind : K.lookup f_taken_kind = some ⟨oc_taken_kind, od_taken_kind, .func (PySem.W.fnOf "taken_kind" "taken_kind" (defArgs s_taken_kind) (defBody s_taken_kind) (defScope s_taken_kind) .none kV_taken_kind dc_taken_kind pm_taken_kind an_taken_kind cd_taken_kind ct_taken_kind), sl_taken_kind⟩) (c_taken_kind : PySem.W.codeIn K cd_taken_kind "taken_kind" = true) (k_taken_kind : PySem.W.keepIn K (.ref f_taken_kind) = true)
    (a_begun_with : PySem.W.nsIn K mainGlobals "begun_with" = some (some (.ref f_begun_with))) (l_begun_with : K.lookup f_begun_with = some ⟨oc_begun_with, od_begun_with, .func (PySem.W.fnOf "begun_with" "begun_with" (defArgs s_begun_with) (defBody s_begun_with) (defScope s_begun_with) .none kV_begun_with dc_begun_with pm_begun_with an_begun_with cd_begun_with ct_begun_with), sl_begun_with⟩) (c_begun_with : PySem.W.codeIn K cd_begun_with "begun_with" = true) (k_begun_with : PySem.W.keepIn K (.ref f_begun_with) = true)
    (a_read : PySem.W.nsIn K mainGlobals "read" = some (some (.ref f_read))) (l_read : K.lookup f_read = some ⟨oc_read, od_read, .func (PySem.W.fnOf "read" "read" (defArgs s_read) (defBody s_read) (defScope s_read) .none kV_read dc_read pm_read an_read cd_read ct_read), sl_read⟩) (c_read : PySem.W.codeIn K cd_read "read" = true) (k_read : PySem.W.keepIn K (.ref f_read) = true)
    (a__law_read : PySem.W.nsIn K mainGlobals "_law_read" = some (some (.ref f__law_read))) (l__law_read : K.lookup f__law_read = some ⟨oc__law_read, od__law_read, .func (PySem.W.fnOf "_law_read" "_law_read" (defArgs s__law_read) (defBody s__law_read) (defScope s__law_read) .none kV__law_read dc__law_read pm__law_read an__law_read cd__law_read ct__law_read), sl__law_read⟩) (c__law_read : PySem.W.codeIn K cd__law_read "_law_read" = true) (k__law_read : PySem.W.keepIn K (.ref f__law_read) = true)
    (a__law_spoilt : PySem.W.nsIn K mainGlobals "_law_spoilt" = some (some (.ref f__law_spoilt))) (l__law_spoilt : K.lookup f__law_spoilt = some ⟨oc__law_spoilt, od__law_spoilt, .func (PySem.W.fnOf "_law_spoilt" "_law_spoilt" (defArgs s__law_spoilt) (defBody s__law_spoilt) (defScope s__law_spoilt) .none kV__law_spoilt dc__law_spoilt pm__law_spoilt an__law_spoilt cd__law_spoilt ct__law_spoilt), sl__law_spoilt⟩) (c__law_spoilt : PySem.W.codeIn K cd__law_spoilt "_law_spoilt" = true) (k__law_spoilt : PySem.W.keepIn K (.ref f__law_spoilt) = true)
    (a__law_cell : PySem.W.nsIn K mainGlobals "_law_cell" = some (some (.ref f__law_cell))) (l__law_cell : K.lookup f__law_cell = some ⟨oc__law_cell, od__law_cell, .func (PySem.W.fnOf "_law_cell" "_law_cell" (defArgs s__law_cell) (defBody s__law_cell) (defScope s__law_cell) .none kV__law_cell dc__law_cell pm__law_cell an__law_cell cd__law_cell ct__law_cell), sl__law_cell⟩) (c__law_cell : PySem.W.codeIn K cd__law_cell "_law_cell" = true) (k__law_cell : PySem.W.keepIn K (.ref f__law_cell) = true)
    (a__law_unwritten : PySem.W.nsIn K mainGlobals "_law_unwritten" = some (some (.ref f__law_unwritten))) (l__law_unwritten : K.lookup f__law_unwritten = some ⟨oc__law_unwritten, od__law_unwritten, .func (PySem.W.fnOf "_law_unwritten" "_law_unwritten" (defArgs s__law_unwritten) (defBody s__law_unwritten) (defScope s__law_unwritten) .none kV__law_unwritten dc__law_unwritten pm__law_unwritten an__law_unwritten cd__law_unwritten ct__law_unwritten), sl__law_unwritten⟩) (c__law_unwritten : PySem.W.codeIn K cd__law_unwritten "_law_unwritten" = true) (k__law_unwritten : PySem.W.keepIn K (.ref f__law_unwritten) = true)
    (a_law : PySem.W.nsIn K mainGlobals "law" = some (some (.ref f_law))) (l_law : K.lookup f_law = some ⟨oc_law, od_law, .func (PySem.W.fnOf "law" "law" (defArgs s_law) (defBody s_law) (defScope s_law) .none kV_law dc_law pm_law an_law cd_law ct_law), sl_law⟩) (c_law : PySem.W.codeIn K cd_law "law" = true) (k_law : PySem.W.keepIn K (.ref f_law) = true)
    (a_WORDS : PySem.W.nsIn K mainGlobals "WORDS" = some (some (.ref p_WORDS))) (l_WORDS : K.lookup p_WORDS = some ⟨.type "tuple", oc_WORDS, .seq #[.str "not" t1_WORDS, .str "and" t2_WORDS, .str "or" t3_WORDS, .str "all" t4_WORDS, .str "some" t5_WORDS] nc_WORDS, sc_WORDS⟩)
    (a_LETTERS : PySem.W.nsIn K mainGlobals "LETTERS" = some (some (.str "abcdefghijklmnopqrstuvwxyz" tc_LETTERS)))
    (a_KINDS : PySem.W.nsIn K mainGlobals "KINDS" = some (some (.ref p_KINDS))) (l_KINDS : K.lookup p_KINDS = some ⟨.type "tuple", none, .seq #[.str "0" t1_KINDS, .str "1" t2_KINDS, .str "2" t3_KINDS] nc_KINDS, sc_KINDS⟩)
    (a_YardError : PySem.W.nsIn K mainGlobals "YardError" = some (some (.ref C_YardError))) (l_YardError : K.lookup C_YardError = some (excClassObj nm_YardError q_YardError C_YardError n_YardError bs_YardError bmV hd_YardError sn_YardError sub_YardError ab_YardError col_YardError dd_YardError k0_YardError k1_YardError k2_YardError k3_YardError k5_YardError "ValueError.__new__")) (q_YardError' : quietIn K n_YardError = true)
    (a_NoSaying : PySem.W.nsIn K mainGlobals "NoSaying" = some (some (.ref C_NoSaying))) (l_NoSaying : K.lookup C_NoSaying = some (excClassObj nm_NoSaying q_NoSaying C_NoSaying n_NoSaying bs_NoSaying (.ref C_YardError :: bmV) hd_NoSaying sn_NoSaying sub_NoSaying ab_NoSaying col_NoSaying dd_NoSaying k0_NoSaying k1_NoSaying k2_NoSaying k3_NoSaying k5_NoSaying "ValueError.__new__")) (q_NoSaying' : quietIn K n_NoSaying = true)
    (a_NoText : PySem.W.nsIn K mainGlobals "NoText" = some (some (.ref C_NoText))) (l_NoText : K.lookup C_NoText = some (excClassObj nm_NoText q_NoText C_NoText n_NoText bs_NoText (.ref C_YardError :: bmV) hd_NoText sn_NoText sub_NoText ab_NoText col_NoText dd_NoText k0_NoText k1_NoText k2_NoText k3_NoText k5_NoText "ValueError.__new__")) (q_NoText' : quietIn K n_NoText = true)
    (i_YardError_ValueError : PySem.W.kitOne K (.ref C_YardError) (.type "ValueError") = some true)
    (i_NoSaying_ValueError : PySem.W.kitOne K (.ref C_NoSaying) (.type "ValueError") = some true)
    (i_NoText_ValueError : PySem.W.kitOne K (.ref C_NoText) (.type "ValueError") = some true)
    (i_NoText_NoText : PySem.W.kitOne K (.ref C_NoText) (.ref C_NoText) = some true)
    (z_len : PySem.W.nsIn K mainGlobals "len" = some none)
    (z_isinstance : PySem.W.nsIn K mainGlobals "isinstance" = some none)
    (z_str : PySem.W.nsIn K mainGlobals "str" = some none)
    (z_all : PySem.W.nsIn K mainGlobals "all" = some none)
    (z_bool : PySem.W.nsIn K mainGlobals "bool" = some none)
    (z_int : PySem.W.nsIn K mainGlobals "int" = some none)
    (z_tuple : PySem.W.nsIn K mainGlobals "tuple" = some none)
    (z_reversed : PySem.W.nsIn K mainGlobals "reversed" = some none)
    (z_ValueError : PySem.W.nsIn K mainGlobals "ValueError" = some none)
    : ∃ fd : FuncData, (∀ (s : Shared) (v : Value), BindsTo s fd ⟨[v], []⟩ [("_law_script", v)]) ∧ ∀ base : Heap, K.In base → base.Ns mainGlobals mg → FnOk l.prog w K mg base (CX1 l.prog w) 8 fa fd ["_law_script"] (spL K M_law) := by
  have e := hfa.symm.trans (PySem.W.mg_of X G a_law)
  cases e
  have m_len := PySem.W.mg_none_of X G z_len
  have m_isinstance := PySem.W.mg_none_of X G z_isinstance
  have m_str := PySem.W.mg_none_of X G z_str
  have m_all := PySem.W.mg_none_of X G z_all
  have m_bool := PySem.W.mg_none_of X G z_bool
  have m_int := PySem.W.mg_none_of X G z_int
  have m_tuple := PySem.W.mg_none_of X G z_tuple
  have m_reversed := PySem.W.mg_none_of X G z_reversed
  have m_ValueError := PySem.W.mg_none_of X G z_ValueError
  have X_YardError := xcls_base a_YardError l_YardError q_YardError'
  have g_YardError := PySem.W.mg_of X G a_YardError
  have X_NoSaying := xcls_sub a_NoSaying l_NoSaying q_NoSaying' X_YardError
  have g_NoSaying := PySem.W.mg_of X G a_NoSaying
  have X_NoText := xcls_sub a_NoText l_NoText q_NoText' X_YardError
  have g_NoText := PySem.W.mg_of X G a_NoText
  have T_YardError : Falls K (.ref C_YardError) t_YardError := by
    intro c b e
    unfold t_YardError at e
    split at e
    · rename_i hc
      cases e
      simp only [List.mem_cons, List.not_mem_nil, or_false] at hc
      rcases hc with rfl | rfl | rfl
      · exact ⟨_, _, X_YardError, by simp [List.contains_cons]⟩
      · exact ⟨_, _, X_NoSaying, by simp [List.contains_cons]⟩
      · exact ⟨_, _, X_NoText, by simp [List.contains_cons]⟩
    · cases e
  have T_NoSaying : Falls K (.ref C_NoSaying) t_NoSaying := by
    intro c b e
    unfold t_NoSaying at e
    split at e
    · rename_i hc
      cases e
      simp only [List.mem_cons, List.not_mem_nil, or_false] at hc
      rcases hc with rfl
      · exact ⟨_, _, X_NoSaying, by simp [List.contains_cons]⟩
    · cases e
  have Y_ValueError : FallsY K (.ty "ValueError") y_ValueError := by
    intro c e
    have hc := of_decide_eq_true e
    simp only [List.mem_cons, List.not_mem_nil, or_false] at hc
    rcases hc with rfl | rfl | rfl
    · exact ⟨_, a_YardError, fun u r => by cases r; exact i_YardError_ValueError⟩
    · exact ⟨_, a_NoSaying, fun u r => by cases r; exact i_NoSaying_ValueError⟩
    · exact ⟨_, a_NoText, fun u r => by cases r; exact i_NoText_ValueError⟩
  have Y_NoText : FallsY K (.ref C_NoText) y_NoText := by
    intro c e
    have hc := of_decide_eq_true e
    simp only [List.mem_cons, List.not_mem_nil, or_false] at hc
    rcases hc with rfl
    · exact ⟨_, a_NoText, fun u r => by cases r; exact i_NoText_NoText⟩
  obtain ⟨fd__law_mix, D__law_mix⟩ := def_mk (st := s__law_mix) (ps := ps__law_mix) X G a__law_mix l__law_mix c__law_mix k__law_mix fun _ _ _ _ _ _ us hl => match us, hl with | [_, _, _], _ => rfl
  obtain ⟨fd__law_saying, D__law_saying⟩ := def_mk (st := s__law_saying) (ps := ps__law_saying) X G a__law_saying l__law_saying c__law_saying k__law_saying fun _ _ _ _ _ _ us hl => match us, hl with | [_, _], _ => rfl
  obtain ⟨fd_parts, D_parts⟩ := def_mk (st := s_parts) (ps := ps_parts) X G a_parts l_parts c_parts k_parts fun _ _ _ _ _ _ us hl => match us, hl with | [_], _ => rfl
  obtain ⟨fd_walked, D_walked⟩ := def_mk (st := s_walked) (ps := ps_walked) X G a_walked l_walked c_walked k_walked fun _ _ _ _ _ _ us hl => match us, hl with | [_], _ => rfl
  obtain ⟨fd_is_name, D_is_name⟩ := def_mk (st := s_is_name) (ps := ps_is_name) X G a_is_name l_is_name c_is_name k_is_name fun _ _ _ _ _ _ us hl => match us, hl with | [_], _ => rfl
  obtain ⟨fd_is_whole, D_is_whole⟩ := def_mk (st := s_is_whole) (ps := ps_is_whole) X G a_is_whole l_is_whole c_is_whole k_is_whole fun _ _ _ _ _ _ us hl => match us, hl with | [_], _ => rfl
  obtain ⟨fd_is_below, D_is_below⟩ := def_mk (st := s_is_below) (ps := ps_is_below) X G a_is_below l_is_below c_is_below k_is_below fun _ _ _ _ _ _ us hl => match us, hl with | [_, _], _ => rfl
  obtain ⟨fd_is_kind, D_is_kind⟩ := def_mk (st := s_is_kind) (ps := ps_is_kind) X G a_is_kind l_is_kind c_is_kind k_is_kind fun _ _ _ _ _ _ us hl => match us, hl with | [_], _ => rfl
  obtain ⟨fd_is_formed, D_is_formed⟩ := def_mk (st := s_is_formed) (ps := ps_is_formed) X G a_is_formed l_is_formed c_is_formed k_is_formed fun _ _ _ _ _ _ us hl => match us, hl with | [_], _ => rfl
  obtain ⟨fd_is_saying, D_is_saying⟩ := def_mk (st := s_is_saying) (ps := ps_is_saying) X G a_is_saying l_is_saying c_is_saying k_is_saying fun _ _ _ _ _ _ us hl => match us, hl with | [_], _ => rfl
  obtain ⟨fd_first_words, D_first_words⟩ := def_mk (st := s_first_words) (ps := ps_first_words) X G a_first_words l_first_words c_first_words k_first_words fun _ _ _ _ _ _ us hl => match us, hl with | [_], _ => rfl
  obtain ⟨fd_written, D_written⟩ := def_mk (st := s_written) (ps := ps_written) X G a_written l_written c_written k_written fun _ _ _ _ _ _ us hl => match us, hl with | [_], _ => rfl
  obtain ⟨fd_taken, D_taken⟩ := def_mk (st := s_taken) (ps := ps_taken) X G a_taken l_taken c_taken k_taken fun _ _ _ _ _ _ us hl => match us, hl with | [_], _ => rfl
  obtain ⟨fd_taken_saying, D_taken_saying⟩ := def_mk (st := s_taken_saying) (ps := ps_taken_saying) X G a_taken_saying l_taken_saying c_taken_saying k_taken_saying fun _ _ _ _ _ _ us hl => match us, hl with | [_], _ => rfl
  obtain ⟨fd_taken_kind, D_taken_kind⟩ := def_mk (st := s_taken_kind) (ps := ps_taken_kind) X G a_taken_kind l_taken_kind c_taken_kind k_taken_kind fun _ _ _ _ _ _ us hl => match us, hl with | [_], _ => rfl
  obtain ⟨fd_begun_with, D_begun_with⟩ := def_mk (st := s_begun_with) (ps := ps_begun_with) X G a_begun_with l_begun_with c_begun_with k_begun_with fun _ _ _ _ _ _ us hl => match us, hl with | [_, _], _ => rfl
  obtain ⟨fd_read, D_read⟩ := def_mk (st := s_read) (ps := ps_read) X G a_read l_read c_read k_read fun _ _ _ _ _ _ us hl => match us, hl with | [_], _ => rfl
  obtain ⟨fd__law_read, D__law_read⟩ := def_mk (st := s__law_read) (ps := ps__law_read) X G a__law_read l__law_read c__law_read k__law_read fun _ _ _ _ _ _ us hl => match us, hl with | [_], _ => rfl
  obtain ⟨fd__law_spoilt, D__law_spoilt⟩ := def_mk (st := s__law_spoilt) (ps := ps__law_spoilt) X G a__law_spoilt l__law_spoilt c__law_spoilt k__law_spoilt fun _ _ _ _ _ _ us hl => match us, hl with | [_, _, _, _], _ => rfl
  obtain ⟨fd__law_cell, D__law_cell⟩ := def_mk (st := s__law_cell) (ps := ps__law_cell) X G a__law_cell l__law_cell c__law_cell k__law_cell fun _ _ _ _ _ _ us hl => match us, hl with | [_, _], _ => rfl
  obtain ⟨fd__law_unwritten, D__law_unwritten⟩ := def_mk (st := s__law_unwritten) (ps := ps__law_unwritten) X G a__law_unwritten l__law_unwritten c__law_unwritten k__law_unwritten fun _ _ _ _ _ _ us hl => match us, hl with | [_], _ => rfl
  have D_law : Def K mg "law" s_law ps_law fa (PySem.W.fnOf "law" "law" (defArgs s_law) (defBody s_law) (defScope s_law) .none kV_law dc_law pm_law an_law cd_law ct_law) := ⟨fun_mk l_law c_law k_law, (fun_mk (st := s_law) l_law c_law k_law).binds fun _ _ _ _ _ _ us hl => match us, hl with | [_], _ => rfl, PySem.W.mg_of X G a_law⟩
  have g_WORDS : GlobC K mg "WORDS" c_WORDS := globT (vs := [.str "not", .str "and", .str "or", .str "all", .str "some"]) X G a_WORDS l_WORDS (by show 5 ≤ sizeLine; decide) (.cons ⟨_, rfl⟩ (.cons ⟨_, rfl⟩ (.cons ⟨_, rfl⟩ (.cons ⟨_, rfl⟩ (.cons ⟨_, rfl⟩ (.nil)))))) (denL_cons.mpr ⟨_, _, rfl, den_str, denL_cons.mpr ⟨_, _, rfl, den_str, denL_cons.mpr ⟨_, _, rfl, den_str, denL_cons.mpr ⟨_, _, rfl, den_str, denL_cons.mpr ⟨_, _, rfl, den_str, denL_nil.mpr rfl⟩⟩⟩⟩⟩)
  have g_LETTERS : GlobC K mg "LETTERS" c_LETTERS := globS X G a_LETTERS
  have g_KINDS : GlobC K mg "KINDS" c_KINDS := globT (vs := [.str "0", .str "1", .str "2"]) X G a_KINDS l_KINDS (by show 3 ≤ sizeLine; decide) (.cons ⟨_, rfl⟩ (.cons ⟨_, rfl⟩ (.cons ⟨_, rfl⟩ (.nil)))) (denL_cons.mpr ⟨_, _, rfl, den_str, denL_cons.mpr ⟨_, _, rfl, den_str, denL_cons.mpr ⟨_, _, rfl, den_str, denL_nil.mpr rfl⟩⟩⟩)
  have gx_KINDS : GlobTx K mg "KINDS" ct_KINDS := globTx (vs := [.str "0", .str "1", .str "2"]) X G a_KINDS l_KINDS (by show 3 ≤ sizeLine; decide) (.cons ⟨_, rfl⟩ (.cons ⟨_, rfl⟩ (.cons ⟨_, rfl⟩ (.nil)))) (denL_cons.mpr ⟨_, _, rfl, den_str, denL_cons.mpr ⟨_, _, rfl, den_str, denL_cons.mpr ⟨_, _, rfl, den_str, denL_nil.mpr rfl⟩⟩⟩)
  refine ⟨PySem.W.fnOf "law" "law" (defArgs s_law) (defBody s_law) (defScope s_law) .none kV_law dc_law pm_law an_law cd_law ct_law, fun s v => .of_eq rfl, fun base KB _ => ?_⟩
  have F__law_mix := ok__law_mix (P := l.prog) (w := w) (base := base) (k := 0) D__law_mix 
  have R__law_saying : ∀ n, FnOk l.prog w K mg base (CX1 l.prog w) (1 + n) f__law_saying fd__law_saying ps__law_saying (spF K mg ps__law_saying.length (M__law_saying n)) := fun n => by
    induction n with
    | zero => exact fn_none
    | succ n IH => exact ok__law_saying (k := 1 + n) D__law_saying D__law_mix (F__law_mix.mono (by omega)) IH 
  have F__law_saying := R__law_saying 6
  have F_parts := ok_parts (P := l.prog) (w := w) (base := base) (k := 0) D_parts 
  have F_walked := ok_walked (P := l.prog) (w := w) (base := base) (k := 1) D_walked D_parts (F_parts.mono (by omega)) m_len
  have F_is_name := ok_is_name (P := l.prog) (w := w) (base := base) (k := 0) D_is_name m_isinstance m_str m_all m_len g_WORDS g_LETTERS
  have F_is_whole := ok_is_whole (P := l.prog) (w := w) (base := base) (k := 0) D_is_whole m_isinstance m_bool m_int
  have F_is_below := ok_is_below (P := l.prog) (w := w) (base := base) (k := 1) D_is_below D_is_whole (F_is_whole.mono (by omega)) 
  have F_is_kind := ok_is_kind (P := l.prog) (w := w) (base := base) (k := 2) D_is_kind D_is_below (F_is_below.mono (by omega)) 
  have F_is_formed := ok_is_formed (P := l.prog) (w := w) (base := base) (k := 3) D_is_formed D_is_name (F_is_name.mono (by omega)) D_is_kind (F_is_kind.mono (by omega)) m_len m_isinstance m_tuple
  have F_is_saying := ok_is_saying (P := l.prog) (w := w) (base := base) (k := 4) D_is_saying D_is_formed (F_is_formed.mono (by omega)) D_parts (F_parts.mono (by omega)) m_len
  have F_first_words := ok_first_words (P := l.prog) (w := w) (base := base) (k := 0) D_first_words m_str
  have F_written := ok_written (P := l.prog) (w := w) (base := base) (k := 5) D_written D_is_saying (F_is_saying.mono (by omega)) D_walked (F_walked.mono (by omega)) D_first_words (F_first_words.mono (by omega))   X_NoSaying
  have F_taken := ok_taken (P := l.prog) (w := w) (base := base) (k := 0) D_taken m_len   X_NoText
  have F_taken_saying := ok_taken_saying (P := l.prog) (w := w) (base := base) (k := 3) D_taken_saying D_taken (F_taken.mono (by omega)) D_is_kind (F_is_kind.mono (by omega))   X_NoText
  have F_taken_kind := ok_taken_kind (P := l.prog) (w := w) (base := base) (k := 3) D_taken_kind D_taken (F_taken.mono (by omega)) D_is_kind (F_is_kind.mono (by omega))   X_NoText
  have F_begun_with := ok_begun_with (P := l.prog) (w := w) (base := base) (k := 4) D_begun_with D_is_name (F_is_name.mono (by omega)) D_taken_saying (F_taken_saying.mono (by omega)) D_taken_kind (F_taken_kind.mono (by omega))   X_NoText g_KINDS gx_KINDS
  have F_read := ok_read (P := l.prog) (w := w) (base := base) (k := 5) D_read D_begun_with (F_begun_with.mono (by omega)) D_taken_saying (F_taken_saying.mono (by omega)) m_reversed m_len   X_NoText
  have F__law_read := ok__law_read (P := l.prog) (w := w) (base := base) (k := 6) D__law_read D_read (F_read.mono (by omega)) m_isinstance m_ValueError    X_YardError T_YardError g_NoText Y_ValueError Y_NoText
  have F__law_spoilt := ok__law_spoilt (P := l.prog) (w := w) (base := base) (k := 0) D__law_spoilt m_len
  have F__law_cell := ok__law_cell (P := l.prog) (w := w) (base := base) (k := 0) D__law_cell m_len
  have F__law_unwritten := ok__law_unwritten (P := l.prog) (w := w) (base := base) (k := 6) D__law_unwritten D_written (F_written.mono (by omega))   X_NoSaying T_NoSaying
  have F_law := ok_law (P := l.prog) (w := w) (base := base) (k := 7) D_law D__law_saying (F__law_saying.mono (by omega)) D__law_cell (F__law_cell.mono (by omega)) D_written (F_written.mono (by omega)) D__law_read (F__law_read.mono (by omega)) D__law_spoilt (F__law_spoilt.mono (by omega)) D__law_unwritten (F__law_unwritten.mono (by omega)) 
  exact FnOk.toL F_law
end K04

namespace K04
open PySem PySem.Spec PyProof.Rows L2 Wy Wl Lw Pg L04
theorem spec : L04.Spec M_written M_read where
  written := fun s ho hl => m_written ho hl
  refuses := fun x _ => refuses_str x
  none := refuses_none
  read := fun x hx ha => m_read x hx ha
theorem law_true (ns : List Int) (hn : ns.length ≤ 63) : M_law [.lst (ns.map D.int)] = .ok (.bl true) := L04.law_ok spec rfl rfl ns hn
end K04

open PySem PySem.W PyProof.Rows
set_option maxRecDepth 100000 in
set_option maxHeartbeats 0 in
theorem PySem.Challenge.cw_worldyard_k04_other_texts_holds : PySem.Challenge.rw_worldyard_k04_other_texts.Holds := by
  w_on; o_law; k_head; (case hw => w_witness2)
  k_fill
  refine Wy.walk (l := PySem.Challenge.rw_worldyard_k04_other_texts) (CX := fun w => Wy.CX1 PySem.Challenge.rw_worldyard_k04_other_texts.prog w) (k := 8) (x := "_law_script") (F := K04.M_law) rfl rfl ⟨rfl, by decide, by decide⟩ (fun w h Y => PySem.W.kIn_of Y) K04.law_true ?F (fun _ _ _ _ _ z => Wy.cx1_E0 z)
  case F =>
    intro w mg fa h KX G hmg
    refine' K04.all_mk KX G hmg ?a__law_mix ?l__law_mix ?c__law_mix ?k__law_mix ?a__law_saying ?l__law_saying ?c__law_saying ?k__law_saying ?a_parts ?l_parts ?c_parts ?k_parts ?a_walked ?l_walked ?c_walked ?k_walked ?a_is_name ?l_is_name ?c_is_name ?k_is_name ?a_is_whole ?l_is_whole ?c_is_whole ?k_is_whole ?a_is_below ?l_is_below ?c_is_below ?k_is_below ?a_is_kind ?l_is_kind ?c_is_kind ?k_is_kind ?a_is_formed ?l_is_formed ?c_is_formed ?k_is_formed ?a_is_saying ?l_is_saying ?c_is_saying ?k_is_saying ?a_first_words ?l_first_words ?c_first_words ?k_first_words ?a_written ?l_written ?c_written ?k_written ?a_taken ?l_taken ?c_taken ?k_taken ?a_taken_saying ?l_taken_saying ?c_taken_saying ?k_taken_saying ?a_taken_kind ?l_taken_kind ?c_taken_kind ?k_taken_kind ?a_begun_with ?l_begun_with ?c_begun_with ?k_begun_with ?a_read ?l_read ?c_read ?k_read ?a__law_read ?l__law_read ?c__law_read ?k__law_read ?a__law_spoilt ?l__law_spoilt ?c__law_spoilt ?k__law_spoilt ?a__law_cell ?l__law_cell ?c__law_cell ?k__law_cell ?a__law_unwritten ?l__law_unwritten ?c__law_unwritten ?k__law_unwritten ?a_law ?l_law ?c_law ?k_law ?a_WORDS ?l_WORDS ?a_LETTERS ?a_KINDS ?l_KINDS ?a_YardError ?l_YardError ?q_YardError' ?a_NoSaying ?l_NoSaying ?q_NoSaying' ?a_NoText ?l_NoText ?q_NoText' ?i_YardError_ValueError ?i_NoSaying_ValueError ?i_NoText_ValueError ?i_NoText_NoText ?z_len ?z_isinstance ?z_str ?z_all ?z_bool ?z_int ?z_tuple ?z_reversed ?z_ValueError
    (case a__law_mix => k_is)
    (case l__law_mix => k_is)
    (case c__law_mix => k_is)
    (case k__law_mix => k_is)
    (case a__law_saying => k_is)
    (case l__law_saying => k_is)
    (case c__law_saying => k_is)
    (case k__law_saying => k_is)
    (case a_parts => k_is)
    (case l_parts => k_is)
    (case c_parts => k_is)
    (case k_parts => k_is)
    (case a_walked => k_is)
    (case l_walked => k_is)
    (case c_walked => k_is)
    (case k_walked => k_is)
    (case a_is_name => k_is)
    (case l_is_name => k_is)
    (case c_is_name => k_is)
    (case k_is_name => k_is)
    (case a_is_whole => k_is)
    (case l_is_whole => k_is)
    (case c_is_whole => k_is)
    (case k_is_whole => k_is)
    (case a_is_below => k_is)
    (case l_is_below => k_is)
    (case c_is_below => k_is)
    (case k_is_below => k_is)
    (case a_is_kind => k_is)
    (case l_is_kind => k_is)
    (case c_is_kind => k_is)
    (case k_is_kind => k_is)
    (case a_is_formed => k_is)
    (case l_is_formed => k_is)
    (case c_is_formed => k_is)
    (case k_is_formed => k_is)
    (case a_is_saying => k_is)
    (case l_is_saying => k_is)
    (case c_is_saying => k_is)
    (case k_is_saying => k_is)
    (case a_first_words => k_is)
    (case l_first_words => k_is)
    (case c_first_words => k_is)
    (case k_first_words => k_is)
    (case a_written => k_is)
    (case l_written => k_is)
    (case c_written => k_is)
    (case k_written => k_is)
    (case a_taken => k_is)
    (case l_taken => k_is)
    (case c_taken => k_is)
    (case k_taken => k_is)
    (case a_taken_saying => k_is)
    (case l_taken_saying => k_is)
    (case c_taken_saying => k_is)
    (case k_taken_saying => k_is)
    (case a_taken_kind => k_is)
    (case l_taken_kind => k_is)
    (case c_taken_kind => k_is)
    (case k_taken_kind => k_is)
    (case a_begun_with => k_is)
    (case l_begun_with => k_is)
    (case c_begun_with => k_is)
    (case k_begun_with => k_is)
    (case a_read => k_is)
    (case l_read => k_is)
    (case c_read => k_is)
    (case k_read => k_is)
    (case a__law_read => k_is)
    (case l__law_read => k_is)
    (case c__law_read => k_is)
    (case k__law_read => k_is)
    (case a__law_spoilt => k_is)
    (case l__law_spoilt => k_is)
    (case c__law_spoilt => k_is)
    (case k__law_spoilt => k_is)
    (case a__law_cell => k_is)
    (case l__law_cell => k_is)
    (case c__law_cell => k_is)
    (case k__law_cell => k_is)
    (case a__law_unwritten => k_is)
    (case l__law_unwritten => k_is)
    (case c__law_unwritten => k_is)
    (case k__law_unwritten => k_is)
    (case a_law => k_is)
    (case l_law => k_is)
    (case c_law => k_is)
    (case k_law => k_is)
    (case a_WORDS => k_is)
    (case l_WORDS => k_is)
    (case a_LETTERS => k_is)
    (case a_KINDS => k_is)
    (case l_KINDS => k_is)
    (case a_YardError => k_is)
    (case l_YardError => k_is)
    (case q_YardError' => rfl)
    (case a_NoSaying => k_is)
    (case l_NoSaying => k_is)
    (case q_NoSaying' => rfl)
    (case a_NoText => k_is)
    (case l_NoText => k_is)
    (case q_NoText' => rfl)
    (case i_YardError_ValueError => rfl)
    (case i_NoSaying_ValueError => rfl)
    (case i_NoText_ValueError => rfl)
    (case i_NoText_NoText => rfl)
    (case z_len => k_is)
    (case z_isinstance => k_is)
    (case z_str => k_is)
    (case z_all => k_is)
    (case z_bool => k_is)
    (case z_int => k_is)
    (case z_tuple => k_is)
    (case z_reversed => k_is)
    (case z_ValueError => k_is)

