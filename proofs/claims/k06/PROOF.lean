import PyProof.Rows.All
import Wide.All
import OpenK.AllK
import Wide.FinOn
import Lean
import PyProof.EqAt
import PyProof.EqKinds
import PyProof.TupleCall
import PyProof.ExcBaseAll.ValueError
import PyProof.NsDelKeeps
import KE.KIsAll
import PyProof.NeKinds
import PyProof.Rows.StrJoin2
import PyProof.StrCalls3
import PyProof.MinMaxWalk
import PyProof.Rows.SortWalkRead
import PyProof.WalkInts
import KE.KMinBuiltin
import PySem.Challenge.RW_worldyard_k06_whole_plain_forms
set_option Elab.async false
set_option linter.all false
set_option maxRecDepth 100000

namespace L2
open PySem PySem.Spec PyProof.Rows
abbrev Key := Sum Int Str
def keyIs : Key → Value → Bool
  | .inl k, v => Value.isInt k v
  | .inr x, v => Value.isStrOf x v
def keyH (w : World) : Key → Int
  | .inl k => hashInt k
  | .inr x => hashStr w x
theorem keyIs_shape : ∀ {k : Key} {v : Value}, keyIs k v = true → (∃ i t, k = Sum.inl i ∧ v = Value.int i t) ∨ (∃ x t, k = Sum.inr x ∧ v = Value.str x t)
  | .inl i, v, h => by
    obtain ⟨t, e⟩ := Value.isInt_shape (k := i) (v := v) h
    exact .inl ⟨i, t, rfl, e⟩
  | .inr x, v, h => by
    obtain ⟨t, e⟩ := Value.isStrOf_shape (x := x) (v := v) h
    exact .inr ⟨x, t, rfl, e⟩
theorem key_ll (a b : Int) : decide ((Sum.inl a : Key) = Sum.inl b) = (a == b) := by
  by_cases e : a = b
  · subst e; simp
  · have h : ¬ (Sum.inl a : Key) = Sum.inl b := fun q => e (Sum.inl.inj q)
    rw [decide_eq_false h]
    exact (beq_eq_false_iff_ne.mpr e).symm
theorem key_rr (a b : Str) : decide ((Sum.inr a : Key) = Sum.inr b) = decide (a = b) := by
  by_cases e : a = b
  · subst e; simp
  · have h : ¬ (Sum.inr a : Key) = Sum.inr b := fun q => e (Sum.inr.inj q)
    rw [decide_eq_false h, decide_eq_false e]
theorem key_lr (a : Int) (b : Str) : decide ((Sum.inl a : Key) = Sum.inr b) = false := decide_eq_false (fun q => nomatch q)
theorem key_rl (a : Str) (b : Int) : decide ((Sum.inr a : Key) = Sum.inl b) = false := decide_eq_false (fun q => nomatch q)
def mixKind (prog : Program) (w : World) : PySem.KeyKind prog w Key where
  is := keyIs
  hash := keyH w
  inj := fun v a b ha hb => by
    rcases keyIs_shape ha with ⟨i, t, rfl, rfl⟩ | ⟨x, t, rfl, rfl⟩
    · rcases keyIs_shape hb with ⟨j, u, rfl, e⟩ | ⟨y, u, rfl, e⟩
      · injection e with e1 _; rw [e1]
      · exact nomatch e
    · rcases keyIs_shape hb with ⟨j, u, rfl, e⟩ | ⟨y, u, rfl, e⟩
      · exact nomatch e
      · injection e with e1 _; rw [e1]
  byValue := fun k v h => by
    rcases keyIs_shape h with ⟨i, t, rfl, rfl⟩ | ⟨x, t, rfl, rfl⟩ <;> rfl
  pyHash := fun hv h => by
    rcases keyIs_shape hv with ⟨i, t, rfl, rfl⟩ | ⟨x, t, rfl, rfl⟩
    · exact wpAny_pyHash_int h
    · exact wpAny_pyHash_str h
  eqBool := fun hu hv h => by
    rcases keyIs_shape hu with ⟨i, t, rfl, rfl⟩ | ⟨x, t, rfl, rfl⟩
    · rcases keyIs_shape hv with ⟨j, u, rfl, rfl⟩ | ⟨y, u, rfl, rfl⟩
      · rw [key_ll] at h; exact wpAny_eqBool_int h
      · rw [key_lr] at h; exact SeqAt.EqAt.int_str i t y u _ _ _ _ h
    · rcases keyIs_shape hv with ⟨j, u, rfl, rfl⟩ | ⟨y, u, rfl, rfl⟩
      · rw [key_rl] at h; exact SeqAt.EqAt.str_int x t j u _ _ _ _ h
      · rw [key_rr] at h; exact wpAny_eqBool_str h
  «strs» := fun k x t v h => by
    rcases keyIs_shape h with ⟨i, u, rfl, e⟩ | ⟨y, u, rfl, e⟩
    · exact nomatch e
    · injection e with e1 _
      subst e1
      cases v <;> rfl
end L2
namespace L2
open PySem PySem.Spec PyProof.Rows
inductive V where
  | non | bl (b : Bool) | int (i : Int) | str (x : Str) | byt (b : Array UInt8) | flt (b : UInt64) | ref (a : Addr) | ty (n : String)
  deriving DecidableEq
def RelV : V → Value → Prop
  | .non, u => u = Value.none
  | .bl b, u => u = Value.bool b
  | .int i, u => ∃ t, u = Value.int i t
  | .str x, u => ∃ t, u = Value.str x t
  | .byt b, u => ∃ t, u = Value.bytes b t
  | .flt b, u => ∃ t, u = Value.float b t
  | .ref a, u => u = Value.ref a
  | .ty n, u => u = Value.type n
abbrev Vals : List V → List Value → Prop := Paired RelV
theorem Vals.length {xs : List V} {us : List Value} (r : Vals xs us) : xs.length = us.length := Paired.length r
theorem Vals.get : ∀ {xs : List V} {us : List Value} {i : Nat} {x : V}, Vals xs us → xs[i]? = some x → ∃ u, us[i]? = some u ∧ RelV x u
  | _, _, _, _, .nil, e => by simp at e
  | _, _, 0, _, .cons r _, e => by simp at e; subst e; exact ⟨_, rfl, r⟩
  | _, _, i + 1, x, .cons _ t, e => by
    obtain ⟨u, h1, h2⟩ := Vals.get (i := i) (x := x) t (by simpa using e)
    exact ⟨u, by simpa using h1, h2⟩
theorem Vals.append : ∀ {xs ys : List V} {us ws : List Value}, Vals xs us → Vals ys ws → Vals (xs ++ ys) (us ++ ws)
  | _, _, _, _, .nil, s => s
  | _, _, _, _, .cons r t, s => .cons r (Vals.append t s)
theorem Vals.take : ∀ {xs : List V} {us : List Value} (n : Nat), Vals xs us → Vals (xs.take n) (us.take n)
  | _, _, 0, _ => .nil
  | _, _, _ + 1, .nil => .nil
  | _, _, n + 1, .cons r t => .cons r (Vals.take n t)
theorem Vals.drop : ∀ {xs : List V} {us : List Value} (n : Nat), Vals xs us → Vals (xs.drop n) (us.drop n)
  | _, _, 0, r => r
  | _, _, _ + 1, .nil => .nil
  | _, _, n + 1, .cons _ t => Vals.drop n t
def RelO : Option V → Option Value → Prop
  | some v, some u => RelV v u
  | none, none => True
  | _, _ => False
def KV {κ : Type} : List (κ × V) → List (κ × Value) → Prop := Paired fun (p : κ × V) (q : κ × Value) => p.1 = q.1 ∧ RelV p.2 q.2
def kV : Key → V
  | .inl i => .int i
  | .inr x => .str x
inductive HO where
  | lst (xs : List V)
  | tup (xs : List V)
  | dK (kvs : List (Key × V)) | dT (kvs : List (List Key × V))
  | set (S : Int → Bool) (n : Nat)
  | ins (C dx : Addr) (fs : List (Str × V))
  | own (x : Addr)
  | xd (fs : List (Str × V))
  | met (f x : Addr)
  | rng (lo hi : Int)
  | frz (o : Obj) (u : HO)
  | tbl (ps : Array Value)
  | ext (φ : Heap → Prop)
abbrev Hp := Addr → Option HO
def upd (H : Hp) (a : Addr) (o : HO) : Hp := fun b => if b = a then some o else H b
theorem upd_same {H : Hp} {a : Addr} {o : HO} : upd H a o a = some o := by unfold upd; rw [if_pos rfl]
theorem upd_ne {H : Hp} {a b : Addr} {o : HO} (h : b ≠ a) : upd H a o b = H b := by unfold upd; rw [if_neg h]
theorem ne_of_none {H : Hp} {a b : Addr} {o : HO} (h : H a = some o) (h' : H b = none) : a ≠ b := by
  intro e; subst e; rw [h] at h'; cases h'
section
variable (P : Program) (w : World)
def ObjOk (H : Hp) (h : Heap) (a : Addr) : HO → Prop
  | .lst xs => xs.length ≤ sizeLine ∧ ∃ (its : List Value) (n : Nat), Vals xs its ∧ h.get? a = some { cls := .type "list", data := .seq its.toArray n }
  | .tup xs => xs.length ≤ sizeLine ∧ ∃ its : List Value, Vals xs its ∧ IsTup h a its.toArray
  | .dK kvs => kvs.length ≤ sizeLine ∧ (a == sysModules) = false ∧ ∃ vs, KV kvs vs ∧ h.DictOf (mixKind P w) a vs
  | .dT kvs => kvs.length ≤ sizeLine ∧ (a == sysModules) = false ∧ ∃ xs : List (List Key × Addr × Value),
      Paired (fun (p : List Key × V) (q : List Key × Addr × Value) => p.1 = q.1 ∧ H q.2.1 = some (.tup (p.1.map kV)) ∧ RelV p.2 q.2.2) kvs xs ∧
      ∃ o es ep, h.get? a = some o ∧ o.ExactDict ∧ o.data = .dict es ep ∧ es.toList = xs.map (entryOfKey (tupleKind (mixKind P w))) ∧ (xs.map (·.1)).Nodup
  | .set S n => h.SetOf (intKind P w) a S n
  | .ins C dx fs => H dx = some (.own a) ∧ fs.length ≤ 1000 ∧ dx ≠ a ∧ h.get? a = some (PySem.W.instObj C dx) ∧
      ∃ mA, h.Ns1 dx mA ∧ (∀ f, RelO (fs.lookup f) (mA f)) ∧ PySem.Within mA (fs.map (·.1))
  | .own _ => ∃ o, h.get? a = some o
  | .xd fs => ∃ mA, h.Ns1 a mA ∧ ∀ f, RelO (fs.lookup f) (mA f)
  | .rng lo hi => ∃ t u v, h.get? a = some { cls := .type "range", data := .fields #[.int lo t, .int hi u, .int 1 v] }
  | .frz o u => h.get? a = some o ∧ ObjOk H h a u
  | .tbl ps => h.get? a = some { cls := .none, data := .fields ps }
  | .met f x => h.get? a = some (PySem.W.methodObj (.ref f) (.ref x))
  | .ext φ => φ h ∧ (∃ o, h.get? a = some o) ∧ ∀ h1 h2 : Heap, φ h1 → (∀ o, h1.get? a = some o → h2.get? a = some o) → φ h2
def HOk (H : Hp) (h : Heap) : Prop := ∀ a o, H a = some o → ObjOk P w H h a o
end
section
variable {P : Program} {w : World} {H H' : Hp} {h h' : Heap} {a : Addr} {o : HO}
theorem ObjOk.lt (x : ObjOk P w H h a o) : a < h.objs.size := by
  cases o with
  | lst xs => obtain ⟨_, _, _, _, e⟩ := x; exact Heap.lt_size e
  | tup xs => obtain ⟨_, _, _, p⟩ := x; exact p.lt
  | dK kvs => obtain ⟨_, _, _, _, o, _, _, e, _⟩ := x; exact Heap.lt_size e
  | dT kvs => obtain ⟨_, _, _, _, o, _, _, e, _⟩ := x; exact Heap.lt_size e
  | set S n => obtain ⟨o, _, _, _, e, _⟩ := x; exact Heap.lt_size e
  | ins C dx fs => obtain ⟨_, _, _, e, _⟩ := x; exact Heap.lt_size e
  | own y => obtain ⟨_, e⟩ := x; exact Heap.lt_size e
  | xd fs => obtain ⟨_, ⟨_, _, _, e, _⟩, _⟩ := x; exact Heap.lt_size e
  | rng lo hi => obtain ⟨_, _, _, e⟩ := x; exact Heap.lt_size e
  | frz ob u => obtain ⟨e, _⟩ := x; exact Heap.lt_size e
  | tbl ps => exact Heap.lt_size (show h.get? a = some _ from x)
  | met f y => exact Heap.lt_size (show h.get? a = some _ from x)
  | ext φ => obtain ⟨_, ⟨_, e⟩, _⟩ := x; exact Heap.lt_size e
theorem Paired.mapP {α β : Type} {F G : α → β → Prop} : ∀ {l₁ : List α} {l₂ : List β}, Paired F l₁ l₂ → (∀ a b, F a b → G a b) → Paired G l₁ l₂
  | _, _, .nil, _ => .nil
  | _, _, .cons r t, f => .cons (f _ _ r) (Paired.mapP t f)
theorem ObjOk.stay (x : ObjOk P w H h a o) (k : ∀ b u, (b = a ∨ H b = some (.own a)) → h.get? b = some u → h'.get? b = some u)
    (ho : ∀ b, H b = some (.own a) → H' b = some (.own a)) (ht : ∀ b xs, H b = some (.tup xs) → H' b = some (.tup xs)) : ObjOk P w H' h' a o := by
  induction o with
  | lst xs => obtain ⟨z, its, n, r, e⟩ := x; exact ⟨z, its, n, r, k _ _ (.inl rfl) e⟩
  | tup xs => obtain ⟨z, its, r, ob, e, c⟩ := x; exact ⟨z, its, r, ob, k _ _ (.inl rfl) e, c⟩
  | dK kvs => obtain ⟨z, y, vs, r, ob, es, ep, e, c⟩ := x; exact ⟨z, y, vs, r, ob, es, ep, k _ _ (.inl rfl) e, c⟩
  | dT kvs =>
    obtain ⟨z, y, xs, r, ob, es, ep, e, c⟩ := x
    exact ⟨z, y, xs, Paired.mapP r fun p q z => ⟨z.1, ht _ _ z.2.1, z.2.2⟩, ob, es, ep, k _ _ (.inl rfl) e, c⟩
  | set S n => obtain ⟨ob, es, ep, t, e, c⟩ := x; exact ⟨ob, es, ep, t, k _ _ (.inl rfl) e, c⟩
  | ins C dx fs =>
    obtain ⟨d, z, ne, e, mA, ⟨od, es, ep, e2, c⟩, r⟩ := x
    exact ⟨ho _ d, z, ne, k _ _ (.inl rfl) e, mA, ⟨od, es, ep, k _ _ (.inr d) e2, c⟩, r⟩
  | own y => obtain ⟨ob, e⟩ := x; exact ⟨ob, k _ _ (.inl rfl) e⟩
  | xd fs => obtain ⟨mA, ⟨od, es, ep, e, c⟩, r⟩ := x; exact ⟨mA, ⟨od, es, ep, k _ _ (.inl rfl) e, c⟩, r⟩
  | rng lo hi => obtain ⟨t, u, v, e⟩ := x; exact ⟨t, u, v, k _ _ (.inl rfl) e⟩
  | frz ob u ih => obtain ⟨e, q⟩ := x; exact ⟨k _ _ (.inl rfl) e, ih q⟩
  | tbl ps =>
    have e : h.get? a = some { cls := .none, data := .fields ps } := x
    show h'.get? a = some { cls := .none, data := .fields ps }
    exact k a _ (.inl rfl) e
  | met f y =>
    have e : h.get? a = some (PySem.W.methodObj (.ref f) (.ref y)) := x
    show h'.get? a = some (PySem.W.methodObj (.ref f) (.ref y))
    exact k a _ (.inl rfl) e
  | ext φ => obtain ⟨p, ⟨o, e⟩, st⟩ := x; exact ⟨st _ _ p fun o q => k _ _ (.inl rfl) q, ⟨o, k _ _ (.inl rfl) e⟩, st⟩
theorem HOk.lt (x : HOk P w H h) (e : H a = some o) : a < h.objs.size := (x a o e).lt
theorem HOk.fresh (x : HOk P w H h) (e : h.objs.size ≤ a) : H a = none := by
  cases q : H a with
  | none => rfl
  | some u => exact absurd (Nat.lt_of_lt_of_le (x.lt q) e) (Nat.lt_irrefl _)
theorem HOk.kept (x : HOk P w H h) (k : ∀ b u, h.get? b = some u → h'.get? b = some u) : HOk P w H h' := fun a o e =>
  (x a o e).stay (fun b u _ q => k b u q) (fun _ q => q) fun _ _ q => q
theorem HOk.laid (x : HOk P w H h) (k : ∀ b u, h.get? b = some u → h'.get? b = some u) (hp : h.objs.size ≤ a) (new : ObjOk P w (upd H a o) h' a o) : HOk P w (upd H a o) h' := fun b u e => by
  have hn := x.fresh hp
  by_cases hb : b = a
  · subst hb; rw [upd_same] at e; cases e; exact new
  · rw [upd_ne hb] at e
    exact (x b u e).stay (fun c v _ q => k c v q) (fun c q => by rw [upd_ne (ne_of_none q hn)]; exact q) fun c xs q => by rw [upd_ne (ne_of_none q hn)]; exact q
end
def Rd (H : Hp) (a : Addr) (u : HO) : Prop := H a = some u ∨ ∃ o, H a = some (.frz o u)
theorem Rd.ok {P : Program} {w : World} {H : Hp} {h : Heap} {a : Addr} {u : HO} (r : Rd H a u) (x : HOk P w H h) : ObjOk P w H h a u := by
  rcases r with r | ⟨o, r⟩
  · exact x a u r
  · obtain ⟨_, q⟩ := x a _ r
    exact q
def Mut : Option HO → Prop
  | some (.lst _) => True
  | some (.dK _) => True
  | some (.dT _) => True
  | some (.set _ _) => True
  | some (.ins _ _ _) => True
  | some (.ext _) => True
  | _ => False
section
variable {P : Program} {w : World} {H : Hp} {h h' : Heap} {x e : Addr} {o' : HO}
theorem HOk.write (ok : HOk P w H h) (mu : Mut (H x)) (he : e = x ∨ H e = some (.own x)) (k : ∀ b u, b ≠ e → h.get? b = some u → h'.get? b = some u) (heo : ∃ u, h'.get? e = some u)
    (new : ObjOk P w (upd H x o') h' x o') : HOk P w (upd H x o') h' := fun b u q => by
  have nown : ∀ c y, H c = some (.own y) → c ≠ x := fun c y r z => by subst z; rw [r] at mu; exact mu
  have ntup : ∀ c xs, H c = some (.tup xs) → c ≠ x := fun c xs r z => by subst z; rw [r] at mu; exact mu
  by_cases hb : b = x
  · subst hb; rw [upd_same] at q; cases q; exact new
  · rw [upd_ne hb] at q
    by_cases hbe : b = e
    · have q' : H b = some (.own x) := by
        rcases he with z | z
        · exact absurd (hbe.trans z) hb
        · rw [hbe]; exact z
      rw [q] at q'; cases q'
      obtain ⟨v, hv⟩ := heo
      exact ⟨v, by rw [hbe]; exact hv⟩
    · refine (ok b u q).stay (fun c v hc r => k c v ?_ r) (fun c r => by rw [upd_ne (nown c b r)]; exact r) fun c xs r => by rw [upd_ne (ntup c xs r)]; exact r
      rcases hc with rfl | hc
      · exact hbe
      · rintro rfl
        rcases he with z | z
        · exact nown c b hc z
        · rw [hc] at z; cases z; exact hb rfl
end
structure Un (fs ex : List Addr) (H H' : Hp) (h h' : Heap) : Prop where
  keep : ∀ b o, h.get? b = some o → H b = none → b ∉ fs → b ∉ ex → h'.get? b = some o
  slot : ∀ b o, h.get? b = some o → H b = none → b ∈ fs → b ∉ ex → ∃ sl, h'.get? b = some { o with slots := sl }
  free : ∀ b o, h.get? b = some o → H b = none → b ∉ ex → H' b = none
  there : ∀ b o, h.get? b = some o → b ∉ ex → ∃ o', h'.get? b = some o'
  tups : ∀ b xs, H b = some (.tup xs) → H' b = some (.tup xs)
  frzs : ∀ b o u, H b = some (.frz o u) → H' b = some (.frz o u)
  tbls : ∀ b ps, H b = some (.tbl ps) → ∃ more, H' b = some (.tbl (ps ++ more))
section
variable {fs fs' ex ex' : List Addr} {H H1 H2 : Hp} {h h1 h2 h' : Heap} {a x e : Addr} {o : HO}
theorem Un.any (u : Un fs ex H H1 h h1) {b : Addr} {ob : Obj} (q : h.get? b = some ob) (n : H b = none) (hx : b ∉ ex) : ∃ sl, h1.get? b = some { ob with slots := sl } := by
  by_cases hb : b ∈ fs
  · exact u.slot b ob q n hb hx
  · exact ⟨ob.slots, u.keep b ob q n hb hx⟩
theorem Un.kept (k : ∀ b u, h.get? b = some u → h'.get? b = some u) : Un fs ex H H h h' :=
  ⟨fun b ob q _ _ _ => k b ob q, fun b ob q _ _ _ => ⟨ob.slots, k b ob q⟩, fun _ _ _ n _ => n, fun b ob q _ => ⟨ob, k b ob q⟩, fun _ _ q => q, fun _ _ _ q => q, fun _ ps q => ⟨#[], by rw [q]; simp⟩⟩
theorem Un.refl : Un fs ex H H h h := Un.kept fun _ _ q => q
theorem Un.laid (k : ∀ b u, h.get? b = some u → h'.get? b = some u) (hp : h.objs.size ≤ a) (hn : H a = none) : Un fs ex H (upd H a o) h h' where
  keep := fun b u q _ _ _ => k b u q
  slot := fun b u q _ _ _ => ⟨u.slots, k b u q⟩
  free := fun b u q n _ => by rw [upd_ne (Nat.ne_of_lt (Nat.lt_of_lt_of_le (Heap.lt_size q) hp))]; exact n
  there := fun b u q _ => ⟨u, k b u q⟩
  tups := fun b xs q => by rw [upd_ne (ne_of_none q hn)]; exact q
  frzs := fun b u xs q => by rw [upd_ne (ne_of_none q hn)]; exact q
  tbls := fun b ps q => ⟨#[], by rw [upd_ne (ne_of_none q hn), q]; simp⟩
theorem Un.write (mu : Mut (H x)) (he : e = x ∨ H e = some (.own x)) (k : ∀ b u, b ≠ e → h.get? b = some u → h'.get? b = some u) (heo : ∃ u, h'.get? e = some u) : Un fs ex H (upd H x o) h h' := by
  have hx : ∀ b, H b = none → b ≠ x := fun b n z => by subst z; rw [n] at mu; exact mu
  have hb : ∀ b, H b = none → b ≠ e := fun b n z => by
    subst z
    rcases he with r | r
    · exact hx b n r
    · rw [n] at r; cases r
  have hm : ∀ b u, H b = some u → ¬ Mut (some u) → b ≠ x := fun b u q nm z => by subst z; rw [q] at mu; exact nm mu
  refine ⟨fun b u q n _ _ => k b u (hb b n) q, fun b u q n _ _ => ⟨u.slots, k b u (hb b n) q⟩, fun b u q n _ => by rw [upd_ne (hx b n)]; exact n, fun b u q _ => ?_,
    fun b xs q => by rw [upd_ne (hm b _ q fun z => z)]; exact q, fun b u xs q => by rw [upd_ne (hm b _ q fun z => z)]; exact q, fun b ps q => ⟨#[], by rw [upd_ne (hm b _ q fun z => z), q]; simp⟩⟩
  by_cases hbe : b = e
  · subst hbe; exact heo
  · exact ⟨u, k b u hbe q⟩
end
def trk (h : Heap) (H : Hp) : List Addr := (List.range h.objs.size).filter fun a => (H a).isSome
def hidT (h : Heap) (H : Hp) : Heap := PySem.W.hideAll h (trk h H)
theorem hidT_size (h : Heap) (H : Hp) : (hidT h H).objs.size = h.objs.size := PySem.W.hideAll_size _ _
theorem hidT_get {h : Heap} {H : Hp} {b : Addr} {o : Obj} (e : h.get? b = some o) (n : H b = none) : (hidT h H).get? b = some o :=
  PySem.W.hideAll_get _ e fun hm => by
    have q : (H b).isSome = true := (List.mem_filter.mp hm).2
    rw [n] at q; simp at q
theorem of_hidT {h : Heap} {H : Hp} {b : Addr} {o : Obj} (e : (hidT h H).get? b = some o) : h.get? b = some o ∧ H b = none := by
  have e' : h.get? b = some o := PySem.W.of_hideAll (trk h H) e
  refine ⟨e', ?_⟩
  cases q : H b with
  | none => rfl
  | some x =>
    have hm : b ∈ trk h H := List.mem_filter.mpr ⟨List.mem_range.mpr (Heap.lt_size e'), by simp [q]⟩
    have z : (hidT h H).get? b = none := PySem.W.hideAll_none (trk h H) hm
    rw [z] at e; cases e
end L2
namespace L2
open PySem PySem.Spec PyProof.Rows
structure Mod (K : PySem.W.Frag) (mg : Str → Option Value) (base : Heap) : Prop where
  kin : K.In base
  glob : base.Ns mainGlobals mg
  blt : ∃ mb, base.Ns builtinsNs mb ∧ ∀ x : Str, x ≠ "__name__" → mb x = bootBuiltins x
  nolimit : base.NoLimit
structure Cx where
  prog : Program
  w : World
  K : PySem.W.Frag
  mg : Str → Option Value
  base : Heap
  A : Around
  N : List Str
  s₀ : Shared
  H₀ : Hp
  env : Env
  outer : List Env
  stack : List Env
  ex : List Addr
  fn : Str → Bool
  calm : Bool
  pn : List (Addr × Obj)
  xe : Value → Shared → Prop
def frs (l : List Env) : List Addr := l.filterMap (·.frame)
abbrev Cx.fs (X : Cx) : List Addr := frs X.outer
def Vis (sc : Scope) (x : Str) : Prop := sc.names.lookup x = some .local ∨ sc.names.lookup x = some .cell ∨ sc.names.lookup x = some .free
def Loc (sc : Scope) (x : Str) : Prop := sc.names.lookup x = some .local ∨ sc.names.lookup x = some .cell
def Look (env : Env) (h : Heap) (m : Str → Option Value) (x : Str) (u : Value) : Prop :=
  (env.kindOf x = some .local ∧ m x = some u) ∨ ((env.kindOf x = some .cell ∨ env.kindOf x = some .free) ∧ ∃ c, env.cells.lookup x = some c ∧ h.IsCell c (some u))
structure Cx.Ok (X : Cx) : Prop where
  mod : Mod X.K X.mg X.base
  kind : X.env.scope.kind = .function
  glob : X.env.globals = mainGlobals
  blt : X.env.builtins = builtinsNs
  above : X.s₀.heap.objs.size ≤ X.env.locals
  inj : ∀ x y c, X.env.cells.lookup x = some c → X.env.cells.lookup y = some c → x = y
  has : ∀ x, (X.env.kindOf x = some .cell ∨ X.env.kindOf x = some .free) → ∃ c, X.env.cells.lookup x = some c
  cab : ∀ x c, X.fn x = true → X.env.cells.lookup x = some c → X.s₀.heap.objs.size ≤ c
  hd : X.calm = true → X.A.handled = none
  frames : X.A.frames = some X.stack
  stk : X.stack = X.outer ∨ (X.stack = X.env :: X.outer ∧ X.env.frame = some X.env.locals)
  exf : ∀ b ∈ X.ex, b ≠ X.env.locals ∧ ∀ x c, X.env.cells.lookup x = some c → c ≠ b
  bs : ∀ b o, X.base.get? b = some o → X.s₀.heap.get? b = some o ∧ X.H₀ b = none
  bsz : X.base.objs.size ≤ X.s₀.heap.objs.size
  noex : ∀ b o, X.base.get? b = some o → b ∉ X.ex
  exfs : ∀ b ∈ X.ex, b ∉ X.fs
  funs : X.s₀.heap.FunFrames X.base X.outer
  frf : ∀ b ∈ X.fs, X.H₀ b = none
structure Inv (X : Cx) (pins : List (Addr × Obj)) (σ : List (Option V)) (H : Hp) (s : Shared) : Prop where
  ok : X.Ok
  os : s.os = X.s₀.os
  bare : AllBare s.gens
  base : Un X.fs X.ex X.H₀ H X.s₀.heap s.heap
  loc : ∃ m, s.heap.Ns X.env.locals m ∧ ∀ (i : Nat) (x : Str) (v : V), X.N[i]? = some x → σ[i]? = some (some v) → Vis X.env.scope x → ∃ u, RelV v u ∧ Look X.env s.heap m x u
  cell : ∀ x c, X.env.cells.lookup x = some c → ∃ v, s.heap.IsCell c v
  free : H X.env.locals = none
  freeC : ∀ x c, X.env.cells.lookup x = some c → H c = none
  pin : ∀ p ∈ X.pn ++ pins, s.heap.get? p.1 = some p.2 ∧ H p.1 = none ∧ p.1 ≠ X.env.locals ∧ p.1 ∉ X.fs ∧ ∀ v, p.2.data ≠ .cell v
  hok : HOk X.prog X.w H s.heap
  len : σ.length = X.N.length
section
variable {X : Cx} {pins : List (Addr × Obj)} {σ : List (Option V)} {H H' : Hp} {s : Shared} {h' : Heap}
theorem Cx.Ok.nofr (ok : X.Ok) {b : Addr} {o : Obj} (e : X.base.get? b = some o) : b ∉ X.fs := fun hb => by
  have := (ok.funs.mem hb).1
  rw [e] at this; cases this
theorem Inv.bs (I : Inv X pins σ H s) : ∀ b o, X.base.get? b = some o → s.heap.get? b = some o ∧ H b = none := fun b o e =>
  ⟨I.base.keep b o (I.ok.bs b o e).1 (I.ok.bs b o e).2 (I.ok.nofr e) (I.ok.noex b o e), I.base.free b o (I.ok.bs b o e).1 (I.ok.bs b o e).2 (I.ok.noex b o e)⟩
theorem Inv.bk (I : Inv X pins σ H s) : ∀ b o, X.base.get? b = some o → s.heap.get? b = some o := fun b o e => (I.bs b o e).1
theorem Inv.mod (I : Inv X pins σ H s) : Mod X.K X.mg X.base := I.ok.mod
theorem Inv.kIn (I : Inv X pins σ H s) : X.K.In s.heap := I.ok.mod.kin.keeps I.bk
theorem Inv.lt (I : Inv X pins σ H s) : X.env.locals < s.heap.objs.size := let ⟨_, hn, _⟩ := I.loc; hn.lt
theorem Inv.sz (I : Inv X pins σ H s) : X.s₀.heap.objs.size ≤ s.heap.objs.size := Nat.le_trans I.ok.above (Nat.le_of_lt I.lt)
theorem Inv.nofs (I : Inv X pins σ H s) {a : Addr} (h : s.heap.objs.size ≤ a) : a ∉ X.fs := fun hb => by
  obtain ⟨_, o, ho, _⟩ := I.ok.funs.mem hb
  exact absurd (Nat.lt_of_lt_of_le (Heap.lt_size ho) (Nat.le_trans I.sz h)) (Nat.lt_irrefl _)
theorem Inv.cne (I : Inv X pins σ H s) : ∀ x c, X.env.cells.lookup x = some c → c ≠ X.env.locals := fun x c e z => by
  obtain ⟨v, o, ho, hd⟩ := I.cell x c e
  obtain ⟨m, ⟨o', es, ep, ho', hd', _⟩, _⟩ := I.loc
  rw [z, ho'] at ho; cases ho; rw [hd'] at hd; cases hd
theorem Inv.funs (I : Inv X pins σ H s) : s.heap.FunFrames X.base X.outer := by
  have all : ∀ (l : List Env), (∀ b ∈ frs l, b ∈ X.fs) → X.s₀.heap.FunFrames X.base l → s.heap.FunFrames X.base l := by
    intro l
    induction l with
    | nil => intro _ _; trivial
    | cons env r ih =>
      intro hs hl
      obtain ⟨hk, ⟨L, o, hf, hn, ho, hd⟩, hr⟩ := hl
      have hL : L ∈ X.fs := hs L (by unfold frs; rw [List.filterMap_cons, hf]; exact List.mem_cons_self)
      obtain ⟨sl, e⟩ := I.base.slot L o ho (I.ok.frf L hL) hL fun z => I.ok.exfs L z hL
      exact ⟨hk, ⟨L, _, hf, hn, e, hd⟩, ih (fun b hb => hs b (by unfold frs; rw [List.filterMap_cons, hf]; exact List.mem_cons_of_mem _ hb)) hr⟩
  exact all X.outer (fun _ hb => hb) I.ok.funs
theorem Inv.stack (I : Inv X pins σ H s) : s.heap.FunFrames X.base X.stack := by
  rcases I.ok.stk with e | ⟨e, hf⟩
  · rw [e]; exact I.funs
  · rw [e]
    obtain ⟨m, hn, _⟩ := I.loc
    refine .cons (by rw [I.ok.kind]; decide) hf hn ?_ I.funs
    exact Heap.get?_none_of_le (Nat.le_trans I.ok.bsz I.ok.above)
theorem Inv.stkSub (I : Inv X pins σ H s) : ∀ b ∈ frs X.stack, b ∈ X.env.locals :: X.fs := fun b hb => by
  rcases I.ok.stk with e | ⟨e, hf⟩
  · rw [e] at hb; exact List.mem_cons_of_mem _ hb
  · rw [e] at hb
    unfold frs at hb
    rw [List.filterMap_cons, hf] at hb
    exact hb
theorem Inv.stkFree (I : Inv X pins σ H s) : ∀ b ∈ frs X.stack, H b = none := fun b hb => by
  rcases List.mem_cons.mp (I.stkSub b hb) with e | hb
  · rw [e]; exact I.free
  · obtain ⟨_, o, ho, _⟩ := I.ok.funs.mem hb
    exact I.base.free b o ho (I.ok.frf b hb) fun z => I.ok.exfs b z hb
theorem Inv.step {g' : Array GenState} {t' : Nat} {d' : Drawn} {ch : List Addr} (I : Inv X pins σ H s)
    (hch : ∀ b ∈ ch, (b ∈ X.ex ∨ X.s₀.heap.objs.size ≤ b) ∧ b ≠ X.env.locals ∧ (∀ x c, X.env.cells.lookup x = some c → c ≠ b) ∧ ∀ p ∈ X.pn ++ pins, p.1 ≠ b)
    (keep : ∀ b o, b ≠ X.env.locals → b ∉ X.fs → b ∉ ch → s.heap.get? b = some o → H b = none → h'.get? b = some o)
    (slot : ∀ b o, b ≠ X.env.locals → b ∈ X.fs → b ∉ ch → s.heap.get? b = some o → H b = none → ∃ sl, h'.get? b = some { o with slots := sl }) (free : ∀ b o, b ∉ ch → s.heap.get? b = some o → H b = none → H' b = none)
    (there : ∀ b o, b ∉ ch → s.heap.get? b = some o → ∃ o', h'.get? b = some o')
    (tups : ∀ b xs, H b = some (.tup xs) → H' b = some (.tup xs)) (frzs : ∀ b o u, H b = some (.frz o u) → H' b = some (.frz o u)) (tbls : ∀ b ps, H b = some (.tbl ps) → ∃ more, H' b = some (.tbl (ps ++ more)))
    (ns : ∀ m, s.heap.Ns X.env.locals m → h'.Ns X.env.locals m) (hok : HOk X.prog X.w H' h') (hg : AllBare g') :
    Inv X pins σ H' { s with heap := h', gens := g', drawn := d', toks := t' } := by
  have neL : ∀ b o, X.s₀.heap.get? b = some o → b ≠ X.env.locals := fun b o e => Nat.ne_of_lt (Nat.lt_of_lt_of_le (Heap.lt_size e) I.ok.above)
  have neC : ∀ b o, X.s₀.heap.get? b = some o → b ∉ X.ex → b ∉ ch := fun b o e hx hb => by
    rcases (hch b hb).1 with z | z
    · exact hx z
    · exact absurd (Nat.lt_of_lt_of_le (Heap.lt_size e) z) (Nat.lt_irrefl _)
  have cellK : ∀ x c, X.env.cells.lookup x = some c → ∀ v, s.heap.IsCell c v → h'.IsCell c v := fun x c e v ⟨o, ho, hd⟩ => by
    have nch : c ∉ ch := fun z => (hch c z).2.2.1 x c e rfl
    by_cases hc : c ∈ X.fs
    · obtain ⟨sl, q⟩ := slot c o (I.cne x c e) hc nch ho (I.freeC x c e)
      exact ⟨_, q, hd⟩
    · exact ⟨o, keep c o (I.cne x c e) hc nch ho (I.freeC x c e), hd⟩
  refine ⟨I.ok, I.os, hg, ⟨fun b o e n hb hx => ?_, fun b o e n hb hx => ?_, fun b o e n hx => ?_, fun b o e hx => ?_, fun b xs e => tups b xs (I.base.tups b xs e), fun b o xs e => frzs b o xs (I.base.frzs b o xs e), fun b ps e => ?_⟩, ?_, fun x c e => ?_, ?_, fun x c e => ?_, fun p hp => ?_, hok, I.len⟩
  · exact keep b o (neL b o e) hb (neC b o e hx) (I.base.keep b o e n hb hx) (I.base.free b o e n hx)
  · obtain ⟨sl, e1⟩ := I.base.slot b o e n hb hx
    obtain ⟨sl', e2⟩ := slot b _ (neL b o e) hb (neC b o e hx) e1 (I.base.free b o e n hx)
    exact ⟨sl', e2⟩
  · obtain ⟨o', e1⟩ := I.base.there b o e hx
    exact free b o' (neC b o e hx) e1 (I.base.free b o e n hx)
  · obtain ⟨o', e1⟩ := I.base.there b o e hx
    exact there b o' (neC b o e hx) e1
  · obtain ⟨m1, e1⟩ := I.base.tbls b ps e
    obtain ⟨m2, e2⟩ := tbls b _ e1
    exact ⟨m1 ++ m2, by rw [e2, Array.append_assoc]⟩
  · obtain ⟨m, hn, hl⟩ := I.loc
    refine ⟨m, ns m hn, fun i x v e1 e2 e3 => ?_⟩
    obtain ⟨u, r, l⟩ := hl i x v e1 e2 e3
    refine ⟨u, r, ?_⟩
    rcases l with l | ⟨k, c, e, z⟩
    · exact .inl l
    · exact .inr ⟨k, c, e, cellK x c e _ z⟩
  · obtain ⟨v, z⟩ := I.cell x c e
    exact ⟨v, cellK x c e v z⟩
  · obtain ⟨m, ⟨o, _, _, ho, _⟩, _⟩ := I.loc
    exact free _ o (fun z => (hch _ z).2.1 rfl) ho I.free
  · obtain ⟨v, o, ho, hd⟩ := I.cell x c e
    exact free c o (fun z => (hch c z).2.2.1 x c e rfl) ho (I.freeC x c e)
  · obtain ⟨e, n, ne, nf, d⟩ := I.pin p hp
    have nch : p.1 ∉ ch := fun z => (hch p.1 z).2.2.2 p hp rfl
    exact ⟨keep p.1 p.2 ne nf nch e n, free p.1 p.2 nch e n, ne, nf, d⟩
theorem Inv.un {t' : Nat} (I : Inv X pins σ H s) (u : Un X.fs [] H H' s.heap h') (hok : HOk X.prog X.w H' h') : Inv X pins σ H' { s with heap := h', toks := t' } := by
  obtain ⟨m, ⟨o, es, ep, ho, r⟩, _⟩ := id I.loc
  obtain ⟨sl, hL⟩ := u.any ho I.free (by simp)
  exact I.step (g' := s.gens) (d' := s.drawn) (ch := []) (fun _ z => nomatch z) (fun b o _ hb _ e n => u.keep b o e n hb (by simp)) (fun b o _ hb _ e n => u.slot b o e n hb (by simp)) (fun b o _ e n => u.free b o e n (by simp)) (fun b o _ e => u.there b o e (by simp)) u.tups u.frzs u.tbls (fun m' hm => by
    obtain ⟨o', es', ep', ho', r'⟩ := hm
    rw [ho] at ho'; cases ho'
    exact ⟨_, es', ep', hL, r'⟩) hok I.bare
theorem Inv.call {g' : Array GenState} {t' : Nat} {d' : Drawn} {ch : List Addr} (I : Inv X pins σ H s) (u : Un (frs X.stack) ch H H' s.heap h') (hok : HOk X.prog X.w H' h') (hg : AllBare g')
    (hch : ∀ b ∈ ch, (b ∈ X.ex ∨ X.s₀.heap.objs.size ≤ b) ∧ b ≠ X.env.locals ∧ (∀ x c, X.env.cells.lookup x = some c → c ≠ b) ∧ ∀ p ∈ X.pn ++ pins, p.1 ≠ b) :
    Inv X pins σ H' { s with heap := h', gens := g', drawn := d', toks := t' } := by
  obtain ⟨m, ⟨o, es, ep, ho, r⟩, _⟩ := id I.loc
  obtain ⟨sl, hL⟩ := u.any ho I.free fun z => (hch _ z).2.1 rfl
  exact I.step (ch := ch) hch (fun b o hL hb hc e n => u.keep b o e n (fun z => (List.mem_cons.mp (I.stkSub b z)).elim hL hb) hc) (fun b o _ _ hc e n => u.any e n hc) (fun b o hc e n => u.free b o e n hc) (fun b o hc e => u.there b o e hc) u.tups u.frzs u.tbls (fun m' hm => by
    obtain ⟨o', es', ep', ho', r'⟩ := hm
    rw [ho] at ho'; cases ho'
    exact ⟨_, es', ep', hL, r'⟩) hok hg
theorem Inv.turned {t' : Nat} {it : Addr} (I : Inv X pins σ H s) (k : ∀ b o, b ≠ it → s.heap.get? b = some o → h'.get? b = some o) (hn : H it = none) (hL : it ≠ X.env.locals)
    (h1 : it ∈ X.ex ∨ X.s₀.heap.objs.size ≤ it) (h2 : ∀ x c, X.env.cells.lookup x = some c → c ≠ it) (h3 : ∀ p ∈ X.pn ++ pins, p.1 ≠ it) : Inv X pins σ H { s with heap := h', toks := t' } := by
  have nit : ∀ b u, H b = some u → b ≠ it := fun b u e z => by rw [z, hn] at e; cases e
  refine I.step (g' := s.gens) (d' := s.drawn) (ch := [it]) (fun b hb => ?_) (fun b o _ _ hc e _ => k b o (fun z => hc (by simp [z])) e) (fun b o _ _ hc e _ => ⟨o.slots, k b o (fun z => hc (by simp [z])) e⟩) (fun _ _ _ _ n => n)
    (fun b o hc e => ⟨o, k b o (fun z => hc (by simp [z])) e⟩) (fun _ _ e => e) (fun _ _ _ e => e) (fun b ps e => ⟨#[], by rw [e]; simp⟩) (fun m hm => ?_) (fun b u e => ?_) I.bare
  · have e : b = it := by simpa using hb
    subst e
    exact ⟨h1, hL, h2, h3⟩
  · obtain ⟨o, es, ep, ho, r⟩ := hm
    exact ⟨o, es, ep, k _ o (Ne.symm hL) ho, r⟩
  · refine (I.hok b u e).stay (fun c v hc q => k c v ?_ q) (fun _ q => q) fun _ _ q => q
    rcases hc with z | z
    · rw [z]; exact nit b u e
    · exact nit c _ z
theorem Inv.tok (I : Inv X pins σ H s) (t : Nat) : Inv X pins σ H { s with toks := t } := I.un (h' := s.heap) (t' := t) Un.refl I.hok
theorem Inv.kept {t' : Nat} (I : Inv X pins σ H s) (k : ∀ b u, s.heap.get? b = some u → h'.get? b = some u) : Inv X pins σ H { s with heap := h', toks := t' } := I.un (Un.kept k) (I.hok.kept k)
theorem Inv.laid {a : Addr} {o : HO} {t' : Nat} (I : Inv X pins σ H s) (k : ∀ b u, s.heap.get? b = some u → h'.get? b = some u) (hp : s.heap.objs.size ≤ a) (new : ObjOk X.prog X.w (upd H a o) h' a o) :
    Inv X pins σ (upd H a o) { s with heap := h', toks := t' } := I.un (Un.laid k hp (I.hok.fresh hp)) (I.hok.laid k hp new)
theorem Inv.write {x e : Addr} {o : HO} {t' : Nat} (I : Inv X pins σ H s) (mu : Mut (H x)) (he : e = x ∨ H e = some (.own x)) (k : ∀ b u, b ≠ e → s.heap.get? b = some u → h'.get? b = some u) (heo : ∃ u, h'.get? e = some u)
    (new : ObjOk X.prog X.w (upd H x o) h' x o) : Inv X pins σ (upd H x o) { s with heap := h', toks := t' } := I.un (Un.write mu he k heo) (I.hok.write mu he k heo new)
theorem Inv.pins_of {pins' : List (Addr × Obj)} (I : Inv X pins σ H s) (h : ∀ p ∈ pins', s.heap.get? p.1 = some p.2 ∧ H p.1 = none ∧ p.1 ≠ X.env.locals ∧ p.1 ∉ X.fs ∧ ∀ v, p.2.data ≠ .cell v) : Inv X pins' σ H s :=
  ⟨I.ok, I.os, I.bare, I.base, I.loc, I.cell, I.free, I.freeC, fun p hp => (List.mem_append.mp hp).elim (fun z => I.pin p (List.mem_append_left _ z)) (h p), I.hok, I.len⟩
theorem nodup_ix {N : List Str} (hN : N.Nodup) {i j : Nat} {x : Str} (a : N[i]? = some x) (b : N[j]? = some x) : i = j := by
  obtain ⟨h1, e1⟩ := List.getElem?_eq_some_iff.mp a
  obtain ⟨h2, e2⟩ := List.getElem?_eq_some_iff.mp b
  exact (List.getElem_inj hN).mp (e1.trans e2.symm)
theorem store_ok2 {M : Model} {A : Around} {E : Value → Shared → Prop} {i : Nat} {x : Str} {v : V} {u : Value} {Q : Unit → Shared → Prop} (I : Inv X pins σ H s) (hN : X.N.Nodup) (hi : X.N[i]? = some x) (hx : Loc X.env.scope x) (r : RelV v u)
    (h : ∀ s', Inv X pins (σ.set i (some v)) H s' → (∃ a, Heap.SameBut a s.heap s'.heap ∧ (a = X.env.locals ∨ X.env.cells.lookup x = some a)) → Q () s') (hf : X.fn x = true ∨ X.env.scope.names.lookup x = some .local := by first | exact .inl rfl | exact .inr rfl | assumption) : wpAny M A (storeName X.env x u) Q E s := by
  obtain ⟨m, hn, hl⟩ := id I.loc
  have hcls : (X.env.scope.kind == .class || (X.env.scope.kind == .module && X.env.locals != X.env.globals)) = false := by rw [I.ok.kind]; rfl
  have hiσ : i < σ.length := by rw [I.len]; exact (List.getElem?_eq_some_iff.mp hi).1
  have cne := I.cne
  have tracked : ∀ {a : Addr} {h' : Heap}, (∃ o, s.heap.get? a = some o ∧ H a = none) → Heap.SameBut a s.heap h' → HOk X.prog X.w H h' := fun {a h'} ha hs b ob e => by
    obtain ⟨_, _, hfree⟩ := ha
    refine (I.hok b ob e).stay (fun c w' hc q => (hs.2 c ?_).trans q) (fun _ q => q) fun _ _ q => q
    rintro rfl
    rcases hc with rfl | hc
    · rw [hfree] at e; cases e
    · rw [hfree] at hc; cases hc
  rcases hx with hk | hk
  · refine wpAny_storeName_local hk hn (fun h' hn' hs => ?_) hcls
    obtain ⟨oL, _, _, hoL, _⟩ := id hn
    refine h _ ⟨I.ok, I.os, I.bare, ⟨fun b o e n hb hx => ?_, fun b o e n hb hx => ?_, I.base.free, fun b o e hx => ?_, I.base.tups, I.base.frzs, I.base.tbls⟩, ⟨_, hn', fun j y v' e1 e2 e3 => ?_⟩, fun y c e => ?_, I.free, I.freeC, fun p hp => ?_, tracked ⟨oL, hoL, I.free⟩ hs, by simpa using I.len⟩ ⟨_, hs, .inl rfl⟩
    · exact (hs.2 b (Nat.ne_of_lt (Nat.lt_of_lt_of_le (Heap.lt_size e) I.ok.above))).trans (I.base.keep b o e n hb hx)
    · obtain ⟨sl, e1⟩ := I.base.slot b o e n hb hx
      exact ⟨sl, (hs.2 b (Nat.ne_of_lt (Nat.lt_of_lt_of_le (Heap.lt_size e) I.ok.above))).trans e1⟩
    · obtain ⟨o', e1⟩ := I.base.there b o e hx
      exact ⟨o', (hs.2 b (Nat.ne_of_lt (Nat.lt_of_lt_of_le (Heap.lt_size e) I.ok.above))).trans e1⟩
    · by_cases hj : j = i
      · subst hj
        rw [hi] at e1; cases e1
        rw [List.getElem?_set_self hiσ] at e2
        cases e2
        exact ⟨u, r, .inl ⟨hk, by simp⟩⟩
      · rw [List.getElem?_set_ne (Ne.symm hj)] at e2
        obtain ⟨u', r', q⟩ := hl j y v' e1 e2 e3
        refine ⟨u', r', ?_⟩
        rcases q with ⟨k, e⟩ | ⟨k, c, e, z⟩
        · refine .inl ⟨k, ?_⟩
          have : y ≠ x := fun e => hj (nodup_ix hN e1 (e ▸ hi))
          simp [this, e]
        · exact .inr ⟨k, c, e, z.sameBut hs (cne y c e)⟩
    · obtain ⟨w', z⟩ := I.cell y c e
      exact ⟨w', z.sameBut hs (cne y c e)⟩
    · obtain ⟨e, n, ne, nf, d⟩ := I.pin p hp
      exact ⟨(hs.2 p.1 ne).trans e, n, ne, nf, d⟩
  · have hfn : X.fn x = true := by
      rcases hf with z | z
      · exact z
      · rw [z] at hk; cases hk
    obtain ⟨c, hc⟩ := I.ok.has x (.inl hk)
    obtain ⟨w', z⟩ := I.cell x c hc
    refine wpAny_storeName_cell I.ok.kind hk hc z (fun h' hc' hs => ?_)
    obtain ⟨oc, hoc, hocd⟩ := id z
    refine h { s with heap := h' } ⟨I.ok, I.os, I.bare, ⟨fun b o e n hb hx => ?_, fun b o e n hb hx => ?_, I.base.free, fun b o e hx => ?_, I.base.tups, I.base.frzs, I.base.tbls⟩, ⟨m, hn.sameBut hs (Ne.symm (cne x c hc)), fun j y v' e1 e2 e3 => ?_⟩, fun y c' e => ?_, I.free, I.freeC, fun p hp => ?_, tracked ⟨oc, hoc, I.freeC x c hc⟩ hs, by simpa using I.len⟩ ⟨c, hs, .inr hc⟩
    · exact (hs.2 b (Nat.ne_of_lt (Nat.lt_of_lt_of_le (Heap.lt_size e) (I.ok.cab x c hfn hc)))).trans (I.base.keep b o e n hb hx)
    · obtain ⟨sl, e1⟩ := I.base.slot b o e n hb hx
      exact ⟨sl, (hs.2 b (Nat.ne_of_lt (Nat.lt_of_lt_of_le (Heap.lt_size e) (I.ok.cab x c hfn hc)))).trans e1⟩
    · obtain ⟨o', e1⟩ := I.base.there b o e hx
      exact ⟨o', (hs.2 b (Nat.ne_of_lt (Nat.lt_of_lt_of_le (Heap.lt_size e) (I.ok.cab x c hfn hc)))).trans e1⟩
    · by_cases hj : j = i
      · subst hj
        rw [hi] at e1; cases e1
        rw [List.getElem?_set_self hiσ] at e2
        cases e2
        exact ⟨u, r, .inr ⟨.inl hk, c, hc, hc'⟩⟩
      · rw [List.getElem?_set_ne (Ne.symm hj)] at e2
        obtain ⟨u', r', q⟩ := hl j y v' e1 e2 e3
        refine ⟨u', r', ?_⟩
        rcases q with q | ⟨k, c', e, z'⟩
        · exact .inl q
        · refine .inr ⟨k, c', e, z'.sameBut hs ?_⟩
          rintro rfl
          exact hj (nodup_ix hN e1 (I.ok.inj _ _ _ e hc ▸ hi))
    · by_cases hcc : c' = c
      · subst hcc; exact ⟨_, hc'⟩
      · obtain ⟨w2, z2⟩ := I.cell y c' e
        exact ⟨w2, z2.sameBut hs hcc⟩
    · obtain ⟨e, n, ne, nf, d⟩ := I.pin p hp
      refine ⟨(hs.2 p.1 ?_).trans e, n, ne, nf, d⟩
      intro q
      rw [q, hoc] at e
      have q' : oc = p.2 := Option.some.inj e
      exact d w' (by rw [← q']; exact hocd)
theorem store_ok {M : Model} {A : Around} {E : Value → Shared → Prop} {i : Nat} {x : Str} {v : V} {u : Value} {Q : Unit → Shared → Prop} (I : Inv X pins σ H s) (hN : X.N.Nodup) (hi : X.N[i]? = some x) (hx : Loc X.env.scope x) (r : RelV v u)
    (h : ∀ s', Inv X pins (σ.set i (some v)) H s' → Q () s') (hf : X.fn x = true ∨ X.env.scope.names.lookup x = some .local := by first | exact .inl rfl | exact .inr rfl | assumption) : wpAny M A (storeName X.env x u) Q E s :=
  store_ok2 I hN hi hx r (fun s' I' _ => h s' I') hf
theorem Inv.call' {s' : Shared} {ch : List Addr} (I : Inv X pins σ H s) (ho : s'.os = s.os) (u : Un (frs X.stack) ch H H' s.heap s'.heap) (hok : HOk X.prog X.w H' s'.heap) (hg : AllBare s'.gens)
    (hch : ∀ b ∈ ch, (b ∈ X.ex ∨ X.s₀.heap.objs.size ≤ b) ∧ b ≠ X.env.locals ∧ (∀ x c, X.env.cells.lookup x = some c → c ≠ b) ∧ ∀ p ∈ X.pn ++ pins, p.1 ≠ b) : Inv X pins σ H' s' := by
  obtain ⟨h', g', d', t', o'⟩ := s'
  have e : o' = s.os := ho
  subst e
  exact I.call (g' := g') (t' := t') (d' := d') u hok hg hch
end
abbrev XK := Value → Option Addr → Hp → Prop
abbrev St := List (Option V)
abbrev VK := V → Hp → Prop
abbrev TE := St → Hp → VK → Prop
abbrev TT := St → Hp → (Bool → Hp → Prop) → Prop
abbrev TA := St → Hp → (List V → Hp → Prop) → Prop
structure Ends where
  nx : St → Hp → Prop
  rt : VK
  bk : St → Hp → Prop := fun _ _ => False
  ct : St → Hp → Prop := fun _ _ => False
abbrev TS := Ends → St → Hp → Prop
def EP (X : Cx) (pins : List (Addr × Obj)) (σ : St) (Q : VK) (u : Value) (s' : Shared) : Prop := ∃ v H', Inv X pins σ H' s' ∧ RelV v u ∧ Q v H'
def TP (X : Cx) (pins : List (Addr × Obj)) (σ : St) (Q : Bool → Hp → Prop) (b : Bool) (s' : Shared) : Prop := ∃ H', Inv X pins σ H' s' ∧ Q b H'
def AP (X : Cx) (pins : List (Addr × Obj)) (σ : St) (Q : List V → Hp → Prop) (us : List Value) (s' : Shared) : Prop := ∃ vs H', Inv X pins σ H' s' ∧ Vals vs us ∧ Q vs H'
def SP (X : Cx) (pins : List (Addr × Obj)) (D : Ends) (f : Flow) (s' : Shared) : Prop :=
  match f with
  | .next => ∃ σ' H', Inv X pins σ' H' s' ∧ D.nx σ' H'
  | .brk => ∃ σ' H', Inv X pins σ' H' s' ∧ D.bk σ' H'
  | .cont => ∃ σ' H', Inv X pins σ' H' s' ∧ D.ct σ' H'
  | .ret u => ∃ v σ' H', Inv X pins σ' H' s' ∧ RelV v u ∧ D.rt v H'
def PE (X : Cx) (e : Expr) (t : TE) : Prop :=
  ∀ (pins : List (Addr × Obj)) (s : Shared) (σ : St) (H : Hp) (Q : VK), Inv X pins σ H s → t σ H Q → wpAny (model X.prog X.w) X.A (eval e X.env) (EP X pins σ Q) X.xe s
def PT (X : Cx) (e : Expr) (t : TT) : Prop :=
  ∀ (pins : List (Addr × Obj)) (s : Shared) (σ : St) (H : Hp) (Q : Bool → Hp → Prop), Inv X pins σ H s → t σ H Q → wpAny (model X.prog X.w) X.A (isTrue e X.env (eval e X.env)) (TP X pins σ Q) X.xe s
def PW (X : Cx) (e : Expr) (t : TT) : Prop :=
  ∀ (whole : Sem Value) (pins : List (Addr × Obj)) (s : Shared) (σ : St) (H : Hp) (Q : Bool → Hp → Prop), Inv X pins σ H s → t σ H Q → wpAny (model X.prog X.w) X.A (isTrue e X.env whole) (TP X pins σ Q) X.xe s
theorem PW.pt {X : Cx} {e : Expr} {t : TT} (h : PW X e t) : PT X e t := h _
def PA (X : Cx) (es : List Expr) (t : TA) : Prop :=
  ∀ (pos : Pos) (pins : List (Addr × Obj)) (s : Shared) (σ : St) (H : Hp) (Q : List V → Hp → Prop), Inv X pins σ H s → t σ H Q → wpAny (model X.prog X.w) X.A (spliced (backTo pos (starEach es X.env))) (AP X pins σ Q) X.xe s
def PS (X : Cx) (st : Stmt) (t : TS) : Prop :=
  ∀ (pins : List (Addr × Obj)) (s : Shared) (σ : St) (H : Hp) (D : Ends), Inv X pins σ H s → t D σ H → wpAny (model X.prog X.w) X.A (exec st X.env) (SP X pins D) X.xe s
def PSs (X : Cx) (st : List Stmt) (t : TS) : Prop :=
  ∀ (pins : List (Addr × Obj)) (s : Shared) (σ : St) (H : Hp) (D : Ends), Inv X pins σ H s → t D σ H → wpAny (model X.prog X.w) X.A (execs st X.env) (SP X pins D) X.xe s
theorem thn {α : Type} {t : Sem α} {Q Q' : α → Shared → Prop} {M : Model} {A : Around} {E : Value → Shared → Prop} {s : Shared} (h : wpAny M A t Q E s) (hQ : ∀ a s, Q a s → Q' a s) : wpAny M A t Q' E s := wpAny_mono h hQ fun _ _ x => x
end L2
namespace L2
open PySem PySem.Spec PyProof.Rows
section
variable {X : Cx}
def tVar (i : Nat) : TE := fun σ H Q => ∃ v, σ[i]? = some (some v) ∧ Q v H
def tC (v : V) : TE := fun _ H Q => Q v H
theorem pe_var {i : Nat} {x : Str} {pos : Pos} (hN : X.N[i]? = some x) (hv : Vis X.env.scope x) (hd : (x == ("__debug__" : Str)) = false := by decide) (hcd : (x == ("__classdict__" : Str)) = false := by decide) : PE X (.Name x pos) (tVar i) := by
  intro pins s σ H Q I h
  obtain ⟨v, e, h⟩ := h
  obtain ⟨m, hn, hl⟩ := I.loc
  obtain ⟨u, r, l⟩ := hl i x v hN e hv
  have fin : EP X pins σ Q u s := ⟨v, H, I, r, h⟩
  rcases l with ⟨hk, hm⟩ | ⟨hk, c, hc, hcell⟩
  · exact wpAny_Name (wpAny_loadName_local I.ok.kind hk hn hm fin) hd
  · rcases hk with hk | hk
    · exact wpAny_Name (wpAny_loadName_cell I.ok.kind hk hc hcell fin) hd
    · exact wpAny_Name (wpAny_loadName_free I.ok.kind hk hc hcell fin hcd) hd
theorem pe_int {i j pos} : PE X (.Constant (.int i) j pos) (tC (.int i)) := fun _ _ _ H _ I h => wpAny_Constant_int ⟨.int i, H, I.tok _, ⟨_, rfl⟩, h⟩
theorem pe_bl {b j pos} : PE X (.Constant (.bool b) j pos) (tC (.bl b)) := fun _ _ _ H _ I h => Constant_bool ⟨.bl b, H, I, rfl, h⟩
theorem pe_str {x j pos} : PE X (.Constant (.str x) j pos) (tC (.str x)) := fun _ _ _ H _ I h => Calls.Constant_str ⟨.str x, H, I.tok _, ⟨_, rfl⟩, h⟩
def Gl (X : Cx) (x : Str) : Prop := X.env.kindOf x = some .globalImplicit
theorem ld_glob {E : Value → Shared → Prop} {pins : List (Addr × Obj)} {s : Shared} {σ : St} {H : Hp} {x : Str} {u : Value} {pos : Pos} {Q : Value → Shared → Prop} (I : Inv X pins σ H s) (hg : Gl X x) (hm : X.mg x = some u) (h : Q u s)
    (hd : (x == ("__debug__" : Str)) = false := by decide) : wpAny (model X.prog X.w) X.A (eval (.Name x pos) X.env) Q E s :=
  Calls.Name_function_global I.ok.kind hg (Calls.loadGlobal_global (by rw [I.ok.glob]; exact I.mod.glob.keeps I.bk) hm h) hd
theorem ld_blt {E : Value → Shared → Prop} {pins : List (Addr × Obj)} {s : Shared} {σ : St} {H : Hp} {x : Str} {u : Value} {pos : Pos} {Q : Value → Shared → Prop} (I : Inv X pins σ H s) (hg : Gl X x) (hm : X.mg x = none) (hv : bootBuiltins x = some u) (h : Q u s)
    (hn : x ≠ "__name__" := by decide) (hd : (x == ("__debug__" : Str)) = false := by decide) : wpAny (model X.prog X.w) X.A (eval (.Name x pos) X.env) Q E s := by
  obtain ⟨mb, h1, h2⟩ := I.mod.blt
  exact Calls.Name_function_global I.ok.kind hg (Calls.loadGlobal_builtin (by rw [I.ok.glob]; exact I.mod.glob.keeps I.bk) hm (by rw [I.ok.blt]; exact h1.keeps I.bk) ((h2 x hn).trans hv) h) hd
theorem pe_glob {x : Str} {v : V} {u : Value} {pos : Pos} (hg : Gl X x) (hm : X.mg x = some u) (r : RelV v u) (hd : (x == ("__debug__" : Str)) = false := by decide) : PE X (.Name x pos) (tC v) :=
  fun _ _ _ H _ I h => ld_glob I hg hm ⟨v, H, I, r, h⟩ hd
theorem pe_bltn {x : Str} {v : V} {u : Value} {pos : Pos} (hg : Gl X x) (hm : X.mg x = none) (hv : bootBuiltins x = some u) (r : RelV v u) (hn : x ≠ "__name__" := by decide) (hd : (x == ("__debug__" : Str)) = false := by decide) : PE X (.Name x pos) (tC v) :=
  fun _ _ _ H _ I h => ld_blt I hg hm hv ⟨v, H, I, r, h⟩ hn hd
variable {a b : Expr} {ta tb : TE} {pos : Pos}
variable {tA tB' : TT} {rest : List Expr}
def tAnd (t u : TT) : TT := fun σ H Q => t σ H fun c H1 => if c = true then u σ H1 Q else Q false H1
def tOr (t u : TT) : TT := fun σ H Q => t σ H fun c H1 => if c = true then Q true H1 else u σ H1 Q
def tNot (t : TT) : TT := fun σ H Q => t σ H fun c H1 => Q (!c) H1
theorem pw_and1 (ha : PT X a tA) : PW X (.BoolOp .And [a] pos) tA := by
  intro wh pins s σ H Q I h
  refine isTrue_and (thn (ha pins s σ H Q I h) fun c s1 e => ?_)
  cases c with
  | true => exact isTrue_and_nil e
  | false => exact e
theorem pw_or1 (ha : PT X a tA) : PW X (.BoolOp .Or [a] pos) tA := by
  intro wh pins s σ H Q I h
  refine isTrue_or (thn (ha pins s σ H Q I h) fun c s1 e => ?_)
  cases c with
  | false => exact isTrue_or_nil e
  | true => exact e
theorem pw_and (ha : PT X a tA) (hb : PW X (.BoolOp .And (b :: rest) pos) tB') : PW X (.BoolOp .And (a :: b :: rest) pos) (tAnd tA tB') := by
  intro wh pins s σ H Q I h
  refine isTrue_and (thn (ha pins s σ H _ I h) fun c s1 ⟨H1, I1, q1⟩ => ?_)
  cases c with
  | true => exact hb wh pins s1 σ H1 Q I1 q1
  | false => exact ⟨H1, I1, q1⟩
theorem pw_or (ha : PT X a tA) (hb : PW X (.BoolOp .Or (b :: rest) pos) tB') : PW X (.BoolOp .Or (a :: b :: rest) pos) (tOr tA tB') := by
  intro wh pins s σ H Q I h
  refine isTrue_or (thn (ha pins s σ H _ I h) fun c s1 ⟨H1, I1, q1⟩ => ?_)
  cases c with
  | true => exact ⟨H1, I1, q1⟩
  | false => exact hb wh pins s1 σ H1 Q I1 q1
theorem pt_not (ha : PT X a tA) : PT X (.UnaryOp .Not a pos) (tNot tA) := by
  intro pins s σ H Q I h
  exact isTrue_not (ha pins s σ H (fun c H1 => Q (!c) H1) I h)
def tAndV (ta tb : TE) : TE := fun σ H Q => ta σ H fun x H1 => ∃ c, x = .bl c ∧ if c = true then tb σ H1 Q else Q (.bl false) H1
def tOrV (ta tb : TE) : TE := fun σ H Q => ta σ H fun x H1 => ∃ c, x = .bl c ∧ if c = true then Q (.bl true) H1 else tb σ H1 Q
def tNotV (ta : TE) : TE := fun σ H Q => ta σ H fun x H1 => ∃ c, x = .bl c ∧ Q (.bl (!c)) H1
theorem pe_one {op} {t : TE} (h : PE X a t) : PE X (.BoolOp op [a] pos) t := fun pins s σ H Q I hw => BoolOp_one (h pins s σ H Q I hw)
theorem pe_and (ha : PE X a ta) (hb : PE X (.BoolOp .And (b :: rest) pos) tb) : PE X (.BoolOp .And (a :: b :: rest) pos) (tAndV ta tb) := by
  intro pins s σ H Q I h
  refine BoolOp_and (thn (ha pins s σ H _ I h) fun v s1 ⟨x, H1, I1, r1, q1⟩ => ?_)
  obtain ⟨c, rfl, q1⟩ := q1
  cases r1
  refine wpAny_truthy_bool ?_
  cases c with
  | true => exact hb pins s1 σ H1 Q I1 q1
  | false => exact ⟨.bl false, H1, I1, rfl, q1⟩
theorem pe_or (ha : PE X a ta) (hb : PE X (.BoolOp .Or (b :: rest) pos) tb) : PE X (.BoolOp .Or (a :: b :: rest) pos) (tOrV ta tb) := by
  intro pins s σ H Q I h
  refine BoolOp_or (thn (ha pins s σ H _ I h) fun v s1 ⟨x, H1, I1, r1, q1⟩ => ?_)
  obtain ⟨c, rfl, q1⟩ := q1
  cases r1
  refine wpAny_truthy_bool ?_
  cases c with
  | false => exact hb pins s1 σ H1 Q I1 q1
  | true => exact ⟨.bl true, H1, I1, rfl, q1⟩
theorem pe_not (ha : PE X a ta) : PE X (.UnaryOp .Not a pos) (tNotV ta) := by
  intro pins s σ H Q I h
  refine UnaryOp_ (thn (ha pins s σ H _ I h) fun v s1 ⟨x, H1, I1, r1, q1⟩ => ?_)
  obtain ⟨c, rfl, q1⟩ := q1
  cases r1
  exact not_of (wpAny_truthy_bool ⟨.bl (!c), H1, I1, rfl, q1⟩)
end
end L2
namespace L2
open PySem PySem.Spec PyProof.Rows
def SqL (K : PySem.W.Frag) (H : Hp) (a : Addr) (xs : List V) : Prop :=
  Rd H a (.lst xs) ∨
    ∃ (o : Obj) (its : Array Value) (n : Nat), K.lookup a = some o ∧ o.cls = .type "list" ∧ o.dict = none ∧ o.data = .seq its n ∧ its.size ≤ sizeLine ∧ Vals xs its.toList
def SqT (K : PySem.W.Frag) (H : Hp) (a : Addr) (xs : List V) : Prop :=
  Rd H a (.tup xs) ∨
    ∃ (o : Obj) (its : Array Value) (n : Nat), K.lookup a = some o ∧ o.cls = .type "tuple" ∧ o.data = .seq its n ∧ its.size ≤ sizeLine ∧ Vals xs its.toList
def absV : Value → Option V
  | .none => some .non
  | .bool b => some (.bl b)
  | .int i _ => some (.int i)
  | .str x _ => some (.str x)
  | .bytes b _ => some (.byt b)
  | .float b _ => some (.flt b)
  | .ref a => some (.ref a)
  | .type n => some (.ty n)
  | _ => none
theorem RelV.abs {x : V} {u : Value} (r : RelV x u) : absV u = some x := by
  cases x with
  | non => cases r; rfl
  | bl _ => cases r; rfl
  | int _ => obtain ⟨t, rfl⟩ := r; rfl
  | str _ => obtain ⟨t, rfl⟩ := r; rfl
  | byt _ => obtain ⟨t, rfl⟩ := r; rfl
  | flt _ => obtain ⟨t, rfl⟩ := r; rfl
  | ref _ => cases r; rfl
  | ty _ => cases r; rfl
theorem RelV.inj {x y : V} {u : Value} (r : RelV x u) (q : RelV y u) : x = y := Option.some.inj (r.abs.symm.trans q.abs)
theorem Vals.inj : ∀ {xs ys : List V} {us : List Value}, Vals xs us → Vals ys us → xs = ys
  | _, _, _, .nil, .nil => rfl
  | _, _, _, .cons r t, .cons r' t' => by rw [r.inj r', Vals.inj t t']
section
variable {X : Cx} {pins : List (Addr × Obj)} {σ : St} {H : Hp} {s : Shared} {a : Addr} {xs ys : List V}
theorem SqL.of {K : PySem.W.Frag} (h : H a = some (.lst xs)) : SqL K H a xs := .inl (.inl h)
theorem SqT.of {K : PySem.W.Frag} (h : H a = some (.tup xs)) : SqT K H a xs := .inl (.inl h)
theorem Inv.list (I : Inv X pins σ H s) (h : SqL X.K H a xs) : ∃ its : List Value, Vals xs its ∧ PlainL s.heap a its.toArray ∧ xs.length ≤ sizeLine := by
  rcases h with h | ⟨o, its, n, hk, hc, hd, hs, hz, r⟩
  · obtain ⟨z, its, n, r, e⟩ := h.ok I.hok
    exact ⟨its, r, ⟨_, n, e, rfl, rfl, rfl⟩, z⟩
  · refine ⟨its.toList, r, ⟨o, n, I.kIn a o hk, hc, hd, by simpa using hs⟩, ?_⟩
    have e := r.length
    simp only [Array.length_toList] at e
    omega
theorem Inv.tuple (I : Inv X pins σ H s) (h : SqT X.K H a xs) : ∃ its : List Value, Vals xs its ∧ IsTup s.heap a its.toArray ∧ xs.length ≤ sizeLine := by
  rcases h with h | ⟨o, its, n, hk, hc, hs, hz, r⟩
  · obtain ⟨z, its, r, p⟩ := h.ok I.hok
    exact ⟨its, r, p, z⟩
  · refine ⟨its.toList, r, ⟨o, I.kIn a o hk, hc, n, by simpa using hs⟩, ?_⟩
    have e := r.length
    simp only [Array.length_toList] at e
    omega
theorem Inv.list_inj (I : Inv X pins σ H s) (h : SqL X.K H a xs) (h' : SqL X.K H a ys) : xs = ys := by
  obtain ⟨its, r, ⟨o, n, e, _, _, d⟩, _⟩ := I.list h
  obtain ⟨its', r', ⟨o', n', e', _, _, d'⟩, _⟩ := I.list h'
  rw [e] at e'; cases e'
  rw [d] at d'
  injection d' with d1 _
  have : its = its' := by simpa using congrArg Array.toList d1
  subst this
  exact r.inj r'
theorem Inv.tuple_inj (I : Inv X pins σ H s) (h : SqT X.K H a xs) (h' : SqT X.K H a ys) : xs = ys := by
  obtain ⟨its, r, ⟨o, e, _, n, d⟩, _⟩ := I.tuple h
  obtain ⟨its', r', ⟨o', e', _, n', d'⟩, _⟩ := I.tuple h'
  rw [e] at e'; cases e'
  rw [d] at d'
  injection d' with d1 _
  have : its = its' := by simpa using congrArg Array.toList d1
  subst this
  exact r.inj r'
end
abbrev Cx.wish (X : Cx) (E : Value → Shared → Prop) : Cx := { X with xe := E }
theorem Cx.Ok.wish {X : Cx} (ok : X.Ok) (E : Value → Shared → Prop) : (X.wish E).Ok :=
  ⟨ok.mod, ok.kind, ok.glob, ok.blt, ok.above, ok.inj, ok.has, ok.cab, ok.hd, ok.frames, ok.stk, ok.exf, ok.bs, ok.bsz, ok.noex, ok.exfs, ok.funs, ok.frf⟩
theorem Cx.Ok.unwish {X : Cx} {E : Value → Shared → Prop} (ok : (X.wish E).Ok) : X.Ok :=
  ⟨ok.mod, ok.kind, ok.glob, ok.blt, ok.above, ok.inj, ok.has, ok.cab, ok.hd, ok.frames, ok.stk, ok.exf, ok.bs, ok.bsz, ok.noex, ok.exfs, ok.funs, ok.frf⟩
section
variable {X : Cx} {pins : List (Addr × Obj)} {σ : St} {H : Hp} {s : Shared} {E : Value → Shared → Prop}
theorem Inv.wish (I : Inv X pins σ H s) (E : Value → Shared → Prop) : Inv (X.wish E) pins σ H s := ⟨I.ok.wish E, I.os, I.bare, I.base, I.loc, I.cell, I.free, I.freeC, I.pin, I.hok, I.len⟩
theorem Inv.unwish (I : Inv (X.wish E) pins σ H s) : Inv X pins σ H s := ⟨I.ok.unwish, I.os, I.bare, I.base, I.loc, I.cell, I.free, I.freeC, I.pin, I.hok, I.len⟩
theorem SP.unwish {D : Ends} {f : Flow} {s' : Shared} (h : SP (X.wish E) pins D f s') : SP X pins D f s' := by
  cases f with
  | next => obtain ⟨σ', H', I, q⟩ := h; exact ⟨σ', H', I.unwish, q⟩
  | brk => obtain ⟨σ', H', I, q⟩ := h; exact ⟨σ', H', I.unwish, q⟩
  | cont => obtain ⟨σ', H', I, q⟩ := h; exact ⟨σ', H', I.unwish, q⟩
  | ret u => obtain ⟨v, σ', H', I, r, q⟩ := h; exact ⟨v, σ', H', I.unwish, r, q⟩
end
section
variable {X : Cx} {st : Stmt} {rest : List Stmt} {t u : TS} {e : Expr} {te : TE} {pos : Pos}
def tNext : TS := fun D σ H => D.nx σ H
def tSeq (t u : TS) : TS := fun D σ H => t { D with nx := u D } σ H
theorem pss_nil : PSs X [] tNext := fun _ _ σ H _ I h => wpAny_execs_nil ⟨σ, H, I, h⟩
theorem pss_cons (h1 : PS X st t) (h2 : PSs X rest u) : PSs X (st :: rest) (tSeq t u) := by
  intro pins s σ H D I h
  refine wpAny_execs_cons (thn (h1 pins s σ H { D with nx := u D } I h) fun f s1 q => ?_)
  cases f with
  | next =>
    obtain ⟨σ', H', I', q⟩ := q
    exact h2 pins s1 σ' H' D I' q
  | ret v => exact q
  | brk => exact q
  | cont => exact q
theorem pss_one (h1 : PS X st t) : PSs X [st] t := by
  intro pins s σ H D I h
  refine wpAny_execs_cons (thn (h1 pins s σ H D I h) fun f s1 q => ?_)
  cases f with
  | next => exact wpAny_execs_nil q
  | ret v => exact q
  | brk => exact q
  | cont => exact q
theorem Inv.quiet {pins : List (Addr × Obj)} {σ : St} {H : Hp} {s : Shared} (I : Inv X pins σ H s) : interactive X.env = false := by simp [interactive, I.ok.kind]
def tDrop (te : TE) : TS := fun D σ H => te σ H fun _ H1 => D.nx σ H1
theorem ps_expr (he : PE X e te) (hs : swapsWith e none pos.line X.env = pure false := by rfl) : PS X (.Expr e pos) (tDrop te) := by
  intro pins s σ H D I h
  exact wpAny_Expr_any (thn (he pins s σ H _ I h) fun v s1 ⟨x, H1, I1, r1, q1⟩ => ⟨σ, H1, I1, q1⟩) I.quiet hs
def tRet (te : TE) : TS := fun D σ H => te σ H D.rt
theorem ps_ret (he : PE X e te) : PS X (.Return (some e) pos) (tRet te) := by
  intro pins s σ H D I h
  exact wpAny_Return_some (thn (he pins s σ H _ I h) fun v s1 ⟨x, H1, I1, r1, q1⟩ => ⟨x, σ, H1, I1, r1, q1⟩)
def tIfS (c : TT) (t u : TS) : TS := fun D σ H => c σ H fun b H1 => if b = true then t D σ H1 else u D σ H1
theorem ps_if {c : Expr} {a b : List Stmt} {tc : TT} (hc : PT X c tc) (ha : PSs X a t) (hb : PSs X b u) : PS X (.If c a b pos) (tIfS tc t u) := by
  intro pins s σ H D I h
  refine wpAny_If (thn (hc pins s σ H _ I h) fun d s1 ⟨H1, I1, q1⟩ => ?_)
  cases d with
  | true => exact ha pins s1 σ H1 D I1 q1
  | false => exact hb pins s1 σ H1 D I1 q1
end
abbrev TG := V → St → Hp → (St → Hp → Prop) → Prop
abbrev TGs := List V → St → Hp → (St → Hp → Prop) → Prop
def PG (X : Cx) (target : Expr) (t : TG) : Prop :=
  ∀ (pins : List (Addr × Obj)) (s : Shared) (σ : St) (H : Hp) (v : V) (u : Value) (Q : St → Hp → Prop), Inv X pins σ H s → RelV v u → t v σ H Q →
    wpAny (model X.prog X.w) X.A (assign target X.env u) (fun _ s' => ∃ σ' H', Inv X pins σ' H' s' ∧ Q σ' H') X.xe s
def PGs (X : Cx) (ts : List Expr) (t : TGs) : Prop :=
  ∀ (pins : List (Addr × Obj)) (s : Shared) (σ : St) (H : Hp) (vs : List V) (us : List Value) (Q : St → Hp → Prop), Inv X pins σ H s → Vals vs us → t vs σ H Q →
    wpAny (model X.prog X.w) X.A (assignInOrder ((assignEach ts X.env).map (·.2)) us) (fun _ s' => ∃ σ' H', Inv X pins σ' H' s' ∧ Q σ' H') X.xe s
section
variable {X : Cx} {pos : Pos}
def gName (i : Nat) : TG := fun v σ H Q => Q (σ.set i (some v)) H
theorem pg_name {i : Nat} {x : Str} (hN : X.N.Nodup) (hi : X.N[i]? = some x) (hx : Loc X.env.scope x) (hf : X.fn x = true ∨ X.env.scope.names.lookup x = some .local := by first | exact .inl rfl | exact .inr rfl | assumption) : PG X (.Name x pos) (gName i) := by
  intro pins s σ H v u Q I r h
  exact wpAny_assign_Name (store_ok I hN hi hx r (fun s' I' => ⟨_, H, I', h⟩) hf)
def gNil : TGs := fun vs σ H Q => vs = [] ∧ Q σ H
def gCons (t : TG) (u : TGs) : TGs := fun vs σ H Q => ∃ v r, vs = v :: r ∧ t v σ H fun σ' H' => u r σ' H' Q
theorem pgs_nil : PGs X [] gNil := by
  intro pins s σ H vs us Q I r h
  obtain ⟨e, h⟩ := h
  subst e
  cases r
  exact assignInOrder_nil ⟨σ, H, I, h⟩
theorem pgs_cons {e : Expr} {es : List Expr} {t : TG} {u : TGs} (h1 : PG X e t) (h2 : PGs X es u)
    (hs : (assignEach (e :: es) X.env).map (·.2) = assign e X.env :: (assignEach es X.env).map (·.2) := by rfl) : PGs X (e :: es) (gCons t u) := by
  intro pins s σ H vs us Q I r h
  obtain ⟨v, vr, e1, h⟩ := h
  subst e1
  cases r with
  | cons r rr =>
    rw [hs]
    refine assignInOrder_cons (thn (h1 pins s σ H _ _ _ I r h) fun _ s1 ⟨σ1, H1, I1, q1⟩ => ?_)
    exact h2 pins s1 σ1 H1 _ _ Q I1 rr q1
def gTup (K : PySem.W.Frag) (n : Nat) (t : TGs) : TG := fun v σ H Q => ∃ a xs, v = .ref a ∧ SqT K H a xs ∧ xs.length = n ∧ t xs σ H Q
theorem pg_tup {es : List Expr} {k : Nat} {t : TGs} {n : Nat} (hc : X.calm = true) (h : PGs X es t)
    (hn : (assignEach es X.env).length = n := by rfl) (hst : (assignEach es X.env).findIdx? (·.1) = none := by rfl) : PG X (.Tuple es k pos) (gTup X.K n t) := by
  intro pins s σ H v u Q I r hw
  obtain ⟨a, xs, e1, hq, hl, hw⟩ := hw
  subst e1
  cases r
  obtain ⟨its, rv, ht, hz⟩ := I.tuple hq
  refine assign_Tuple_tuple (I.ok.hd hc) ht (by simp [hn, ← hl, rv.length]) hst fun h' hx => ?_
  have I1 : Inv X pins σ H { s with heap := h' } := I.kept (t' := s.toks) fun b o e => hx b o (Nat.ne_of_lt (Heap.lt_size e)) e
  exact h pins _ σ H xs _ Q I1 (by simpa using rv) hw
def tAsg (te : TE) (g : TG) : TS := fun D σ H => te σ H fun x H1 => g x σ H1 D.nx
theorem ps_set {i : Nat} {x : Str} {e : Expr} {te : TE} {pos' : Pos} (hN : X.N.Nodup) (hi : X.N[i]? = some x) (hx : Loc X.env.scope x) (he : PE X e te) (hs : swapsWith e (some (.Name x pos')) pos.line X.env = pure false := by rfl) (hf : X.fn x = true ∨ X.env.scope.names.lookup x = some .local := by first | exact .inl rfl | exact .inr rfl | assumption) :
    PS X (.Assign [.Name x pos'] e pos) (tAsg te (gName i)) := by
  intro pins s σ H D I h
  refine wpAny_Assign_Name (thn (he pins s σ H _ I h) fun v s1 ⟨y, H1, I1, r1, q1⟩ => ?_) hs
  exact store_ok I1 hN hi hx r1 (fun s2 I2 => ⟨_, H1, I2, q1⟩) hf
end
section
variable {X : Cx} {pos : Pos}
def tWhile (c : TT) (tb : TS) : TS := fun D σ H => ∃ W : Nat → St → Hp → Prop, (∃ m, W m σ H) ∧ ∀ m σ H, W m σ H →
  c σ H fun b H1 => if b = true then ∃ N : St → Hp → Prop, (∀ σ' H', N σ' H' → ∃ m', m' < m ∧ W m' σ' H') ∧ tb { D with nx := N, ct := N, bk := D.nx } σ H1 else D.nx σ H1
theorem ps_while {c : Expr} {body : List Stmt} {tc : TT} {tb : TS} (hp : PassesOwn (model X.prog X.w) X.A X.env X.xe) (hc : PT X c tc) (hb : PSs X body tb) : PS X (.While c body [] pos) (tWhile tc tb) := by
  intro pins s σ H D I h
  obtain ⟨W, ⟨m0, w0⟩, turn⟩ := h
  refine wpAny_While (codeAny_whileLoop (fun n s' => ∃ σ' H', Inv X pins σ' H' s' ∧ W n σ' H') ?_ m0 ⟨σ, H, I, w0⟩)
  rintro n s1 ⟨σ1, H1, I1, w1⟩
  refine wpAny_passesOwn hp (thn (hc pins s1 σ1 H1 _ I1 (turn n σ1 H1 w1)) fun b s2 ⟨H2, I2, q2⟩ => ?_)
  cases b with
  | true =>
    obtain ⟨N, hN, q2⟩ := q2
    rw [if_pos rfl]
    refine wpAny_passesOwn hp (thn (hb pins s2 σ1 H2 _ I2 q2) fun f s3 q3 => ?_)
    cases f with
    | next =>
      obtain ⟨σ3, H3, I3, n3⟩ := q3
      obtain ⟨m', hm, w3⟩ := hN σ3 H3 n3
      exact ⟨m', hm, σ3, H3, I3, w3⟩
    | cont =>
      obtain ⟨σ3, H3, I3, n3⟩ := q3
      obtain ⟨m', hm, w3⟩ := hN σ3 H3 n3
      exact ⟨m', hm, σ3, H3, I3, w3⟩
    | brk => exact q3
    | ret v => exact q3
  | false =>
    rw [if_neg Bool.false_ne_true]
    exact wpAny_execs_nil ⟨σ1, H2, I2, q2⟩
end
structure It where
  go : Nat → Hp → Prop
  yld : Nat → Hp → V → Hp → Prop
  stop : Nat → Hp → Prop
def FpOk (X : Cx) (pins : List (Addr × Obj)) (H : Hp) (b : Addr) : Prop :=
  H b = none ∧ b ≠ X.env.locals ∧ b ∉ X.fs ∧ (b ∈ X.ex ∨ X.s₀.heap.objs.size ≤ b) ∧ (∀ x c, X.env.cells.lookup x = some c → c ≠ b) ∧ ∀ p ∈ X.pn ++ pins, p.1 ≠ b
theorem Inv.fpOk {X : Cx} {pins : List (Addr × Obj)} {σ : St} {H H' : Hp} {s : Shared} {b : Addr} (I : Inv X pins σ H s) (hb : s.heap.objs.size ≤ b) (hn : H' b = none) : FpOk X pins H' b := by
  refine ⟨hn, Nat.ne_of_gt (Nat.lt_of_lt_of_le I.lt hb), I.nofs hb, .inr (Nat.le_trans I.sz hb), fun x c e z => ?_, fun p hp z => ?_⟩
  · obtain ⟨v, q⟩ := I.cell x c e
    exact absurd (Nat.lt_of_lt_of_le q.lt (by rw [z]; exact hb)) (Nat.lt_irrefl _)
  · exact absurd (Nat.lt_of_lt_of_le (Heap.lt_size (I.pin p hp).1) (by rw [z]; exact hb)) (Nat.lt_irrefl _)
structure Turn (P : Program) (w : World) (K : PySem.W.Frag) (tg : Expr) (J : It) (fp : List Addr) (it : Addr) (tn : Nat → Heap → Prop) : Prop where
  mem : it ∈ fp
  obj : ∀ i h, tn i h → ∀ b ∈ fp, ∃ o, h.get? b = some o ∧ ∀ v, o.data ≠ .cell v
  keep : ∀ i h h', tn i h → (∀ b ∈ fp, ∀ o, h.get? b = some o → h'.get? b = some o) → tn i h'
  item : ∀ (X : Cx), X.prog = P → X.w = w → X.K = K → X.calm = true → ∀ (i : Nat) (pins : List (Addr × Obj)) (s : Shared) (σ : St) (H : Hp) (E : Value → Shared → Prop), Inv X pins σ H s → (∀ b ∈ fp, FpOk X pins H b) → tn i s.heap → J.go i H →
    wpAny (model P w) X.A (pyNext (.ref it)) (fun r s1 => ∃ u, r = some u ∧
      wpAny (model P w) X.A (letOwnedTupleGo tg (.ref it) u) (fun _ s2 => ∃ x H', Inv X pins σ H' s2 ∧ RelV x u ∧ J.yld i H x H' ∧ tn (i + 1) s2.heap ∧ ∀ b ∈ fp, H' b = none) E s1) E s
  done : ∀ (X : Cx), X.prog = P → X.w = w → X.K = K → X.calm = true → ∀ (i : Nat) (pins : List (Addr × Obj)) (s : Shared) (σ : St) (H : Hp) (E : Value → Shared → Prop), Inv X pins σ H s → (∀ b ∈ fp, FpOk X pins H b) → tn i s.heap → J.stop i H →
    wpAny (model P w) X.A (pyNext (.ref it)) (fun r s1 => r = none ∧ Inv X pins σ H s1) E s
  self : ∀ (A : Around) (i : Nat) (s : Shared) (Q : Value → Shared → Prop) (E : Value → Shared → Prop), tn i s.heap → Q (.ref it) s → wpAny (model P w) A (pyIter (.ref it)) Q E s
abbrev TI := St → Hp → (It → Hp → Prop) → Prop
def PIE (X : Cx) (pins : List (Addr × Obj)) (σ : St) (tg : Expr) (R : It → Hp → Prop) (itv : Value) (s2 : Shared) : Prop :=
  ∃ (it : Addr) (fp : List Addr) (tn : Nat → Heap → Prop) (J : It) (H' : Hp), itv = .ref it ∧ Inv X pins σ H' s2 ∧ Turn X.prog X.w X.K tg J fp it tn ∧ tn 0 s2.heap ∧ (∀ b ∈ fp, FpOk X pins H' b) ∧ R J H'
def PI (X : Cx) (tg iter : Expr) (wi : TI) : Prop :=
  ∀ (pins : List (Addr × Obj)) (s : Shared) (σ : St) (H : Hp) (R : It → Hp → Prop), Inv X pins σ H s → wi σ H R →
    wpAny (model X.prog X.w) X.A (eval iter X.env) (fun v s1 => wpAny (model X.prog X.w) X.A (pyIter v) (PIE X pins σ tg R) X.xe s1) X.xe s
theorem go_of {M : Model} {A : Around} {E : Value → Shared → Prop} {s : Shared} {tg : Expr} {it : Addr} {u : Value} {o : Obj} {n : String} {vs : Array Value} {Q : Unit → Shared → Prop} (ho : s.heap.get? it = some o) (hc : o.cls = .type n) (hd : o.data = .fields vs)
    (hn : ["enumerate", "zip", "dict_itemiterator", "dict_reverseitemiterator", "odict_iterator", "itertools.zip_longest", "itertools.pairwise"].contains n = false) (hQ : Q () s) : wpAny M A (letOwnedTupleGo tg (.ref it) u) Q E s := by
  unfold letOwnedTupleGo
  cases tg <;> first
    | exact wpAny_pure hQ
    | (cases u <;> first
        | exact wpAny_pure hQ
        | (refine wpAny_bind (wpAny_load ho ?_)
           rw [hc, hd]
           show wpAny M A (if (["enumerate", "zip", "dict_itemiterator", "dict_reverseitemiterator", "odict_iterator", "itertools.zip_longest", "itertools.pairwise"].contains n && vs[0]? == some (rawInt _)) = true then _ else _) Q E s
           rw [if_neg (by intro h; rw [hn, Bool.false_and] at h; cases h)]
           exact wpAny_pure hQ))
def Itl (K : PySem.W.Frag) (a : Addr) : It :=
  ⟨fun i H => ∃ xs x, SqL K H a xs ∧ xs[i]? = some x, fun i H x H' => H' = H ∧ ∀ xs, SqL K H a xs → xs[i]? = some x, fun i H => ∃ xs, SqL K H a xs ∧ xs.length ≤ i⟩
def Itt (K : PySem.W.Frag) (a : Addr) : It :=
  ⟨fun i H => ∃ xs x, SqT K H a xs ∧ xs[i]? = some x, fun i H x H' => H' = H ∧ ∀ xs, SqT K H a xs → xs[i]? = some x, fun i H => ∃ xs, SqT K H a xs ∧ xs.length ≤ i⟩
def Itr (lo : Int) (n : Nat) : It := ⟨fun i _ => i < n, fun i H x H' => H' = H ∧ x = .int (lo + i), fun i _ => n ≤ i⟩
theorem turn_list {P : Program} {w : World} {K : PySem.W.Frag} {tg : Expr} (a it : Addr) : Turn P w K tg (Itl K a) [it] it (fun i h => h.IsListIter it a i) where
  mem := by simp
  obj := fun i h st b hb => by
    have e : b = it := by simpa using hb
    subst e
    obtain ⟨o, e, c, d⟩ := st
    exact ⟨o, e, fun v z => by rw [d] at z; cases z⟩
  keep := fun i h h' st k => st.at fun o e => k it (by simp) o e
  item := by
    intro X hP hw hK hc i pins s σ H E I hf st hg
    subst hP hw hK
    obtain ⟨xs, x, hq, hx⟩ := hg
    obtain ⟨its, rv, p, hz⟩ := I.list hq
    obtain ⟨u, hu, ru⟩ := rv.get hx
    obtain ⟨f0, f1, f2, f3, f4, f5⟩ := hf it (by simp)
    refine wpAny_pyNext_list_item st p.isList (x := u) (by simpa using hu) fun h' st' sb => ?_
    have I1 : Inv X pins σ H { s with heap := h' } := I.turned (t' := s.toks) (fun b o hb e => (sb.2 b hb).trans e) f0 f1 f3 f4 f5
    obtain ⟨o, e, c, d⟩ := id st'
    exact ⟨u, rfl, go_of (s := { s with heap := h' }) e c d (by decide) ⟨x, H, I1, ru, ⟨rfl, fun ys hy => by rw [I.list_inj hy hq]; exact hx⟩, st', fun b hb => (hf b hb).1⟩⟩
  done := by
    intro X hP hw hK hc i pins s σ H E I hf st hg
    subst hP hw hK
    obtain ⟨xs, hq, hx⟩ := hg
    obtain ⟨its, rv, p, hz⟩ := I.list hq
    obtain ⟨f0, f1, f2, f3, f4, f5⟩ := hf it (by simp)
    have hl := rv.length
    exact wpAny_pyNext_list_end (I.ok.hd hc) st p.isList (by simp; omega) fun h' eb => ⟨rfl, I.turned (t' := s.toks) (fun b o hb e => eb b o hb e) f0 f1 f3 f4 f5⟩
  self := fun _ _ _ _ _ st h => wpAny_pyIter_listiter st h
theorem turn_tuple {P : Program} {w : World} {K : PySem.W.Frag} {tg : Expr} (a it : Addr) : Turn P w K tg (Itt K a) [it] it (fun i h => h.IsTupleIter it a i) where
  mem := by simp
  obj := fun i h st b hb => by
    have e : b = it := by simpa using hb
    subst e
    obtain ⟨o, e, c, d⟩ := st
    exact ⟨o, e, fun v z => by rw [d] at z; cases z⟩
  keep := fun i h h' st k => st.at fun o e => k it (by simp) o e
  item := by
    intro X hP hw hK hc i pins s σ H E I hf st hg
    subst hP hw hK
    obtain ⟨xs, x, hq, hx⟩ := hg
    obtain ⟨its, rv, p, hz⟩ := I.tuple hq
    obtain ⟨u, hu, ru⟩ := rv.get hx
    obtain ⟨f0, f1, f2, f3, f4, f5⟩ := hf it (by simp)
    refine wpAny_pyNext_tuple_item st (show s.heap.IsTuple a its.toArray from p) (x := u) (by simpa using hu) fun h' st' sb => ?_
    have I1 : Inv X pins σ H { s with heap := h' } := I.turned (t' := s.toks) (fun b o hb e => (sb.2 b hb).trans e) f0 f1 f3 f4 f5
    obtain ⟨o, e, c, d⟩ := id st'
    exact ⟨u, rfl, go_of (s := { s with heap := h' }) e c d (by decide) ⟨x, H, I1, ru, ⟨rfl, fun ys hy => by rw [I.tuple_inj hy hq]; exact hx⟩, st', fun b hb => (hf b hb).1⟩⟩
  done := by
    intro X hP hw hK hc i pins s σ H E I hf st hg
    subst hP hw hK
    obtain ⟨xs, hq, hx⟩ := hg
    obtain ⟨its, rv, p, hz⟩ := I.tuple hq
    obtain ⟨f0, f1, f2, f3, f4, f5⟩ := hf it (by simp)
    have hl := rv.length
    exact wpAny_pyNext_tuple_end (I.ok.hd hc) st (show s.heap.IsTuple a its.toArray from p) (by simp; omega) fun h' eb => ⟨rfl, I.turned (t' := s.toks) (fun b o hb e => eb b o hb e) f0 f1 f3 f4 f5⟩
  self := fun _ _ _ _ _ st h => wpAny_pyIter_tupleiter st h
theorem turn_range {P : Program} {w : World} {K : PySem.W.Frag} {tg : Expr} (it : Addr) (lo : Int) (n : Nat) : Turn P w K tg (Itr lo n) [it] it (fun i h => IsRangeIter h it (lo + (i : Nat) * 1) ((n : Int) - (i : Nat)) 1) where
  mem := by simp
  obj := fun i h st b hb => by
    have e : b = it := by simpa using hb
    subst e
    exact ⟨_, st, fun v z => by
      have z' : Data.fields _ = Data.cell v := z
      cases z'⟩
  keep := fun i h h' st k => k it (by simp) _ st
  item := by
    intro X hP hw hK hc i pins s σ H E I hf st hg
    subst hP hw hK
    obtain ⟨f0, f1, f2, f3, f4, f5⟩ := hf it (by simp)
    have W := Walks.range (prog := X.prog) (w := X.w) (I.ok.hd hc) it lo 1 n
    refine W.item i s _ _ hg st fun v h' tk hv st' kk => ?_
    obtain ⟨t, rfl⟩ := hv
    have I1 : Inv X pins σ H { s with heap := h', toks := tk } := I.turned (fun b o hb e => kk b o (by simpa using hb) e) f0 f1 f3 f4 f5
    refine ⟨_, rfl, go_of (s := { s with heap := h', toks := tk }) (n := "range_iterator") st' rfl rfl (by decide) ⟨.int (lo + i), H, I1, ⟨t, ?_⟩, ⟨rfl, rfl⟩, st', fun b hb => (hf b hb).1⟩⟩
    rw [Int.mul_one]
  done := by
    intro X hP hw hK hc i pins s σ H E I hf st hg
    subst hP hw hK
    obtain ⟨f0, f1, f2, f3, f4, f5⟩ := hf it (by simp)
    exact wpAny_pyNext_range_end (I.ok.hd hc) st (by have : n ≤ i := hg; omega) fun h' eb => ⟨rfl, I.turned (t' := s.toks) (fun b o hb e => eb b o hb e) f0 f1 f3 f4 f5⟩
  self := fun _ _ _ _ _ st h => wpAny_pyIter_rangeiter st h
end L2
namespace L2
open PySem PySem.Spec PyProof.Rows
section
variable {X : Cx} {tg : Expr}
def iList (K : PySem.W.Frag) (tl : TE) : TI := fun σ H R => tl σ H fun x H1 => ∃ a, x = .ref a ∧ (∃ xs, SqL K H1 a xs) ∧ R (Itl K a) H1
def iTup (K : PySem.W.Frag) (tl : TE) : TI := fun σ H R => tl σ H fun x H1 => ∃ a, x = .ref a ∧ (∃ xs, SqT K H1 a xs) ∧ R (Itt K a) H1
theorem pi_list {l : Expr} {tl : TE} (hl : PE X l tl) : PI X tg l (iList X.K tl) := by
  intro pins s σ H R I h
  refine thn (hl pins s σ H _ I h) fun v s1 ⟨x, H1, I1, r1, q1⟩ => ?_
  obtain ⟨a, e, ⟨xs, hq⟩, q⟩ := q1
  subst e
  cases r1
  obtain ⟨its, rv, p, hz⟩ := I1.list hq
  refine wpAny_pyIter_list p.isList ?_
  refine ⟨s1.heap.objs.size, [s1.heap.objs.size], _, _, H1, rfl, I1.kept (t' := s1.toks) fun b o e => Heap.get?_push_of_some _ e, turn_list a _, ⟨_, Heap.get?_push_size _ rfl, rfl, rfl⟩, fun b hb => ?_, q⟩
  have e : b = s1.heap.objs.size := by simpa using hb
  subst e
  exact I1.fpOk (Nat.le_refl _) (I1.hok.fresh (Nat.le_refl _))
theorem pi_tup {l : Expr} {tl : TE} (hl : PE X l tl) : PI X tg l (iTup X.K tl) := by
  intro pins s σ H R I h
  refine thn (hl pins s σ H _ I h) fun v s1 ⟨x, H1, I1, r1, q1⟩ => ?_
  obtain ⟨a, e, ⟨xs, hq⟩, q⟩ := q1
  subst e
  cases r1
  obtain ⟨its, rv, p, hz⟩ := I1.tuple hq
  refine wpAny_pyIter_tuple (show s1.heap.IsTuple a its.toArray from p) ?_
  refine ⟨s1.heap.objs.size, [s1.heap.objs.size], _, _, H1, rfl, I1.kept (t' := s1.toks) fun b o e => Heap.get?_push_of_some _ e, turn_tuple a _, ⟨_, Heap.get?_push_size _ rfl, rfl, rfl⟩, fun b hb => ?_, q⟩
  have e : b = s1.heap.objs.size := by simpa using hb
  subst e
  exact I1.fpOk (Nat.le_refl _) (I1.hok.fresh (Nat.le_refl _))
theorem range_it {pins : List (Addr × Obj)} {σ : St} {H : Hp} {s : Shared} {R : It → Hp → Prop} {E : Value → Shared → Prop} {lo hi : Int} {t u v : Tok} {tk : Nat} (I : Inv X pins σ H s) (h1 : -(2 ^ 62) ≤ lo) (h2 : lo < 2 ^ 62) (h3 : -(2 ^ 62) ≤ hi) (h4 : hi < 2 ^ 62)
    (q : R (Itr lo (hi - lo).toNat) H) : wpAny (model X.prog X.w) X.A (pyIter (.ref s.heap.objs.size)) (PIE X pins σ tg R) E { s with heap := s.heap.push { cls := .type "range", data := .fields #[.int lo t, .int hi u, .int 1 v] }, toks := tk } := by
  refine wpAny_pyIter_range (IsRange.new ..) (small_one h1 h2 h3 h4) ?_
  have I1 : Inv X pins σ H { s with heap := s.heap.push { cls := .type "range", data := .fields #[.int lo t, .int hi u, .int 1 v] }, toks := tk } := I.kept fun b o e => Heap.get?_push_of_some _ e
  refine ⟨(s.heap.push { cls := .type "range", data := .fields #[.int lo t, .int hi u, .int 1 v] }).objs.size, [(s.heap.push { cls := .type "range", data := .fields #[.int lo t, .int hi u, .int 1 v] }).objs.size], _, _, H, rfl,
    I1.kept (t' := tk) fun b o e => Heap.get?_push_of_some _ e, turn_range _ lo (hi - lo).toNat, ?_, fun b hb => ?_, q⟩
  · have e1 : lo + ((0 : Nat) : Int) * 1 = lo := by simp
    have e2 : (((hi - lo).toNat : Nat) : Int) - ((0 : Nat) : Int) = Builtin.Range.rangeSize lo hi 1 := by rw [rangeSize_one]; split <;> omega
    show IsRangeIter _ _ (lo + ((0 : Nat) : Int) * 1) ((((hi - lo).toNat : Nat) : Int) - ((0 : Nat) : Int)) 1
    rw [e1, e2]
    exact Heap.get?_push_size _ rfl
  · have e : b = (s.heap.push { cls := .type "range", data := .fields #[.int lo t, .int hi u, .int 1 v] }).objs.size := by simpa using hb
    subst e
    exact I1.fpOk (Nat.le_refl _) (I1.hok.fresh (Nat.le_refl _))
def iRng1 (ta : TA) : TI := fun σ H R => ta σ H fun vs H1 => ∃ j : Int, vs = [.int j] ∧ -(2 ^ 62) ≤ j ∧ j < 2 ^ 62 ∧ R (Itr 0 j.toNat) H1
theorem pi_range1 {a : Expr} {ta : TA} {p pos : Pos} (hg : Gl X "range") (hm : X.mg "range" = none) (ha : PA X [a] ta) (hs : starEach [a] X.env = [(false, eval a X.env)] := by rfl) : PI X tg (.Call (.Name "range" p) [a] [] pos) (iRng1 ta) := by
  intro pins s σ H R I h
  refine Call_ (ld_blt I hg hm boot_range (PyProof.Rows.callWith_type1 (thn (ha pos pins s σ H _ I h) fun us s1 ⟨vs, H1, I1, r1, q1⟩ => ?_) hs rfl))
  obtain ⟨j, e, q1, q2, q⟩ := q1
  subst e
  cases r1 with
  | cons r rr =>
    cases rr
    obtain ⟨t, rfl⟩ := r
    exact call_range_1 (range_it I1 (by omega) (by omega) q1 q2 (by simpa using q))
def tFor (wi : TI) (g : TG) (tb : TS) : TS := fun D σ H => wi σ H fun J H1 => ∃ W : Nat → Nat → St → Hp → Prop, (∃ m, W 0 m σ H1) ∧ ∀ i m σ H, W i m σ H →
  (J.stop i H ∧ D.nx σ H) ∨ (J.go i H ∧ ∃ N : St → Hp → Prop, (∀ σ' H', N σ' H' → ∃ m', m' < m ∧ W (i + 1) m' σ' H') ∧ ∀ x H', J.yld i H x H' → g x σ H' fun σ2 H2 => tb { D with nx := N, ct := N, bk := D.nx } σ2 H2)
def pinsAt (fp : List Addr) (h : Heap) : List (Addr × Obj) := fp.filterMap fun b => (h.get? b).map fun o => (b, o)
theorem mem_pinsAt {fp : List Addr} {h : Heap} {b : Addr} {o : Obj} (hb : b ∈ fp) (e : h.get? b = some o) : (b, o) ∈ pinsAt fp h := List.mem_filterMap.mpr ⟨b, hb, by rw [e]; rfl⟩
theorem of_pinsAt {fp : List Addr} {h : Heap} {p : Addr × Obj} (hp : p ∈ pinsAt fp h) : p.1 ∈ fp ∧ h.get? p.1 = some p.2 := by
  obtain ⟨b, hb, e⟩ := List.mem_filterMap.mp hp
  cases q : h.get? b with
  | none => rw [q] at e; cases e
  | some o =>
    rw [q] at e
    have e' : (b, o) = p := Option.some.inj e
    subst e'
    exact ⟨hb, q⟩
theorem Inv.pinned {pins : List (Addr × Obj)} {σ : St} {H : Hp} {s : Shared} {fp : List Addr} (I : Inv X pins σ H s) (hf : ∀ b ∈ fp, FpOk X pins H b) (ho : ∀ b ∈ fp, ∃ o, s.heap.get? b = some o ∧ ∀ v, o.data ≠ .cell v) : Inv X (pins ++ pinsAt fp s.heap) σ H s :=
  I.pins_of fun p hp => (List.mem_append.mp hp).elim (fun z => I.pin p (List.mem_append_right _ z)) fun z => by
    obtain ⟨hb, e⟩ := of_pinsAt z
    obtain ⟨f0, f1, f2, _⟩ := hf p.1 hb
    obtain ⟨o, e', d⟩ := ho p.1 hb
    rw [e] at e'; cases e'
    exact ⟨e, f0, f1, f2, d⟩
theorem Inv.unpinned {pins pl : List (Addr × Obj)} {σ : St} {H : Hp} {s : Shared} (I : Inv X (pins ++ pl) σ H s) : Inv X pins σ H s := I.pins_of fun p hp => I.pin p (List.mem_append_right _ (List.mem_append_left _ hp))
theorem ps_for {iter : Expr} {body : List Stmt} {wi : TI} {g : TG} {tb : TS} {pos : Pos} (hp : PassesOwn (model X.prog X.w) X.A X.env X.xe) (hc : X.calm = true) (hi : PI X tg iter wi) (hg : PG X tg g) (hb : PSs X body tb)
    (hs : ∀ x, foldedSetIterable iter X.env x = pure x := by intro _; rfl) : PS X (.For tg iter body [] pos) (tFor wi g tb) := by
  intro pins s σ H D I h
  refine wpAny_For (thn (hi pins s σ H _ I h) fun v s1 h1 => thn h1 fun itv s2 h2 => ?_) hs
  obtain ⟨it, fp, tn, J, H2, e, I2, T, st2, f2, W, ⟨m0, w0⟩, turn⟩ := h2
  subst e
  -- what stays true of the iterator's objects through the loop
  have stat : ∀ {H' : Hp}, (∀ b ∈ fp, H' b = none) → ∀ b ∈ fp, FpOk X pins H' b := fun hn b hb => ⟨hn b hb, (f2 b hb).2⟩
  refine codeAny_forLoop_any (fun n s' => ∃ i σ' H', Inv X pins σ' H' s' ∧ tn i s'.heap ∧ (∀ b ∈ fp, H' b = none) ∧ W i n σ' H') ?_ m0 ⟨0, σ, H2, I2, st2, fun b hb => (f2 b hb).1, w0⟩
  rintro n s3 ⟨i, σ3, H3, I3, st3, fr3, w3⟩
  rcases turn i n σ3 H3 w3 with ⟨stop, qn⟩ | ⟨go, N, hN, step⟩
  · refine wpAny_passesOwn hp (thn (T.done X rfl rfl rfl hc i pins s3 σ3 H3 X.xe I3 (stat fr3) st3 stop) fun r s4 ⟨hr, I4⟩ => ?_)
    subst hr
    exact wpAny_execs_nil ⟨σ3, H3, I4, qn⟩
  · refine wpAny_passesOwn hp (thn (T.item X rfl rfl rfl hc i pins s3 σ3 H3 X.xe I3 (stat fr3) st3 go) fun r s4 ⟨u, hr, h4⟩ => ?_)
    subst hr
    refine wpAny_passesOwn hp (thn h4 fun _ s5 ⟨x, H5, I5, r5, y5, st5, fr5⟩ => ?_)
    have I5' := I5.pinned (stat fr5) (T.obj _ _ st5)
    refine wpAny_passesOwn hp (thn (hg _ s5 σ3 H5 x u _ I5' r5 (step x H5 y5)) fun _ s6 ⟨σ6, H6, I6, q6⟩ => ?_)
    refine wpAny_passesOwn hp (thn (hb _ s6 σ6 H6 _ I6 q6) fun f s7 q7 => ?_)
    have again : ∀ {σ7 : St} {H7 : Hp}, Inv X (pins ++ pinsAt fp s5.heap) σ7 H7 s7 → N σ7 H7 → ∃ m, m < n ∧ ∃ i σ' H', Inv X pins σ' H' s7 ∧ tn i s7.heap ∧ (∀ b ∈ fp, H' b = none) ∧ W i m σ' H' := fun {σ7 H7} I7 n7 => by
      obtain ⟨m', hm, w7⟩ := hN σ7 H7 n7
      refine ⟨m', hm, i + 1, σ7, H7, I7.unpinned, T.keep _ _ _ st5 fun b hb o e => (I7.pin (b, o) (List.mem_append_right _ (List.mem_append_right _ (mem_pinsAt hb e)))).1, fun b hb => ?_, w7⟩
      obtain ⟨o, e, d⟩ := T.obj _ _ st5 b hb
      exact (I7.pin (b, o) (List.mem_append_right _ (List.mem_append_right _ (mem_pinsAt hb e)))).2.1
    cases f with
    | next => obtain ⟨σ7, H7, I7, n7⟩ := q7; exact again I7 n7
    | cont => obtain ⟨σ7, H7, I7, n7⟩ := q7; exact again I7 n7
    | brk => obtain ⟨σ7, H7, I7, q7⟩ := q7; exact ⟨σ7, H7, I7.unpinned, q7⟩
    | ret v => obtain ⟨x7, σ7, H7, I7, r7, q7⟩ := q7; exact ⟨x7, σ7, H7, I7.unpinned, r7, q7⟩
end
end L2
namespace L2
open PySem PySem.Spec PyProof.Rows
abbrev R2 := V → V → Hp → VK → Prop
def OpR (X : Cx) (f : Value → Value → Sem Value) (r : R2) : Prop :=
  ∀ (pins : List (Addr × Obj)) (s : Shared) (σ : St) (H : Hp) (x y : V) (v u : Value) (Q : VK), Inv X pins σ H s → RelV x v → RelV y u → r x y H Q →
    wpAny (model X.prog X.w) X.A (f v u) (EP X pins σ Q) X.xe s
def UnR (X : Cx) (f : Value → Sem Value) (r : V → Hp → VK → Prop) : Prop :=
  ∀ (pins : List (Addr × Obj)) (s : Shared) (σ : St) (H : Hp) (x : V) (v : Value) (Q : VK), Inv X pins σ H s → RelV x v → r x H Q →
    wpAny (model X.prog X.w) X.A (f v) (EP X pins σ Q) X.xe s
def CallR (X : Cx) (f : Value) (r : List V → Hp → VK → Prop) : Prop :=
  ∀ (pins : List (Addr × Obj)) (s : Shared) (σ : St) (H : Hp) (xs : List V) (us : List Value) (Q : VK), Inv X pins σ H s → Vals xs us → r xs H Q →
    wpAny (model X.prog X.w) X.A (call f us) (EP X pins σ Q) X.xe s
def TruR (X : Cx) (r : V → Hp → (Bool → Hp → Prop) → Prop) : Prop :=
  ∀ (pins : List (Addr × Obj)) (s : Shared) (σ : St) (H : Hp) (x : V) (v : Value) (Q : Bool → Hp → Prop), Inv X pins σ H s → RelV x v → r x H Q →
    wpAny (model X.prog X.w) X.A (truthy v) (TP X pins σ Q) X.xe s
def tOp (r : R2) (ta tb : TE) : TE := fun σ H Q => ta σ H fun x H1 => tb σ H1 fun y H2 => r x y H2 Q
def tUn (r : V → Hp → VK → Prop) (ta : TE) : TE := fun σ H Q => ta σ H fun x H1 => r x H1 Q
def rI (C : Int → Int → Prop) (g : Int → Int → V) : R2 := fun x y H Q => ∃ i j, x = .int i ∧ y = .int j ∧ C i j ∧ Q (g i j) H
def rI0 (g : Int → Int → V) : R2 := fun x y H Q => ∃ i j, x = .int i ∧ y = .int j ∧ Q (g i j) H
def rU (g : Int → V) : V → Hp → VK → Prop := fun x H Q => ∃ i, x = .int i ∧ Q (g i) H
section
variable {X : Cx} {a b c : Expr} {ta tb tc : TE} {pos : Pos}
theorem binT (ha : PE X a ta) (hb : PE X b tb) {pins : List (Addr × Obj)} {s : Shared} {σ : St} {H : Hp} {R : V → V → Hp → Prop} (I : Inv X pins σ H s)
    (h : ta σ H fun x H1 => tb σ H1 fun y H2 => R x y H2) {Q : Value → Shared → Prop} {f : Value → Value → Sem Value}
    (hf : ∀ v u s2 x y H2, Inv X pins σ H2 s2 → RelV x v → RelV y u → R x y H2 → wpAny (model X.prog X.w) X.A (f v u) Q X.xe s2) :
    wpAny (model X.prog X.w) X.A (eval a X.env) (fun v s₁ => wpAny (model X.prog X.w) X.A (eval b X.env) (fun u s₂ => wpAny (model X.prog X.w) X.A (f v u) Q X.xe s₂) X.xe s₁) X.xe s := by
  refine thn (ha pins s σ H _ I h) fun v s1 ⟨x, H1, I1, r1, q1⟩ => ?_
  refine thn (hb pins s1 σ H1 _ I1 q1) fun u s2 ⟨y, H2, I2, r2, q2⟩ => ?_
  exact hf v u s2 x y H2 I2 r1 r2 q2
theorem pe_op {op : Operator} {r : R2} (ho : OpR X (binaryOp op) r) (ha : PE X a ta) (hb : PE X b tb) : PE X (.BinOp a op b pos) (tOp r ta tb) := by
  intro pins s σ H Q I h
  exact wpAny_BinOp (binT ha hb I h fun v u s2 x y H2 I2 rx ry q => ho pins s2 σ H2 x y v u Q I2 rx ry q)
theorem pe_un {op : UnaryOp} {r : V → Hp → VK → Prop} (ho : UnR X (unaryOp op) r) (ha : PE X a ta) : PE X (.UnaryOp op a pos) (tUn r ta) := by
  intro pins s σ H Q I h
  exact UnaryOp_ (thn (ha pins s σ H _ I h) fun v s1 ⟨x, H1, I1, r1, q1⟩ => ho pins s1 σ H1 x v Q I1 r1 q1)
theorem opI {f : Value → Value → Sem Value} {C : Int → Int → Prop} {g : Int → Int → Int}
    (rule : ∀ (i j : Int) (t u : Tok) (s : Shared) (Q : Value → Shared → Prop) (E : Value → Shared → Prop), C i j → Q (.int (g i j) s.toks) { s with toks := s.toks + 1 } → wpAny (model X.prog X.w) X.A (f (.int i t) (.int j u)) Q E s) :
    OpR X f (rI C fun i j => .int (g i j)) := by
  intro pins s σ H x y v u Q I rx ry h
  obtain ⟨i, j, rfl, rfl, hc, q⟩ := h
  obtain ⟨t, rfl⟩ := rx
  obtain ⟨t', rfl⟩ := ry
  exact rule i j t t' s _ _ hc ⟨.int (g i j), H, I.tok _, ⟨_, rfl⟩, q⟩
theorem opI0 {f : Value → Value → Sem Value} {g : Int → Int → Int}
    (rule : ∀ (i j : Int) (t u : Tok) (s : Shared) (Q : Value → Shared → Prop) (E : Value → Shared → Prop), Q (.int (g i j) s.toks) { s with toks := s.toks + 1 } → wpAny (model X.prog X.w) X.A (f (.int i t) (.int j u)) Q E s) :
    OpR X f (rI0 fun i j => .int (g i j)) := by
  intro pins s σ H x y v u Q I rx ry h
  obtain ⟨i, j, rfl, rfl, q⟩ := h
  obtain ⟨t, rfl⟩ := rx
  obtain ⟨t', rfl⟩ := ry
  exact rule i j t t' s _ _ ⟨.int (g i j), H, I.tok _, ⟨_, rfl⟩, q⟩
theorem opB0 {f : Value → Value → Sem Value} {g : Int → Int → Bool}
    (rule : ∀ (i j : Int) (t u : Tok) (s : Shared) (Q : Value → Shared → Prop) (E : Value → Shared → Prop), Q (.bool (g i j)) s → wpAny (model X.prog X.w) X.A (f (.int i t) (.int j u)) Q E s) :
    OpR X f (rI0 fun i j => .bl (g i j)) := by
  intro pins s σ H x y v u Q I rx ry h
  obtain ⟨i, j, rfl, rfl, q⟩ := h
  obtain ⟨t, rfl⟩ := rx
  obtain ⟨t', rfl⟩ := ry
  exact rule i j t t' s _ _ ⟨.bl (g i j), H, I, rfl, q⟩
def CMul (i j : Int) : Prop := (-(2 ^ 64) < i ∧ i < 2 ^ 64) ∨ (-(2 ^ 64) < j ∧ j < 2 ^ 64)
theorem CMul.ok {i j : Int} (h : CMul i j) : IntMulOk i j := by
  rcases h with ⟨h1, h2⟩ | ⟨h1, h2⟩
  · exact .of_left (intBits_le_64 h1 h2)
  · exact .of_right (intBits_le_64 h1 h2)
theorem op_add : OpR X (binaryOp .Add) (rI0 fun i j => .int (i + j)) := opI0 fun _ _ _ _ _ _ _ q => add_int q
theorem op_sub : OpR X (binaryOp .Sub) (rI0 fun i j => .int (i - j)) := opI0 fun _ _ _ _ _ _ _ q => sub_int q
theorem op_mul : OpR X (binaryOp .Mult) (rI CMul fun i j => .int (i * j)) := opI fun _ _ _ _ _ _ _ hc q => mul_int q hc.ok
theorem op_mod : OpR X (binaryOp .Mod) (rI (fun _ j => 0 < j) fun i j => .int (i % j)) := opI fun i j _ _ _ _ _ hc q => by
  have h1 : (0 : Int) < j := hc
  exact mod_int' (by omega) (by rw [Int.fmod_eq_emod_of_nonneg i (by omega)]; exact q)
theorem unI {f : Value → Sem Value} {g : Int → Int}
    (rule : ∀ (i : Int) (t : Tok) (s : Shared) (Q : Value → Shared → Prop) (E : Value → Shared → Prop), Q (.int (g i) s.toks) { s with toks := s.toks + 1 } → wpAny (model X.prog X.w) X.A (f (.int i t)) Q E s) :
    UnR X f (rU fun i => .int (g i)) := by
  intro pins s σ H x v Q I rx h
  obtain ⟨i, rfl, q⟩ := h
  obtain ⟨t, rfl⟩ := rx
  exact rule i t s _ _ ⟨.int (g i), H, I.tok _, ⟨_, rfl⟩, q⟩
theorem un_neg : UnR X (unaryOp .USub) (rU fun i => .int (-i)) := unI fun _ _ _ _ _ q => neg_int q
end
section
variable {X : Cx} {a b c : Expr} {ta tb tc : TE} {pos : Pos}
theorem fin_bl {pins : List (Addr × Obj)} {σ : St} {H : Hp} {s : Shared} {Q : VK} {k k' : Bool} (I : Inv X pins σ H s) (q : Q (.bl k) H) (e : k = k') : EP X pins σ Q (.bool k') s := by
  subst e
  exact ⟨.bl k, H, I, rfl, q⟩
theorem op_lt : OpR X (compareOp .Lt) (rI0 fun i j => .bl (decide (i < j))) := opB0 fun _ _ _ _ _ _ _ q => lt_int q
theorem op_le : OpR X (compareOp .LtE) (rI0 fun i j => .bl (decide (i ≤ j))) := opB0 fun _ _ _ _ _ _ _ q => le_int q
theorem op_gt : OpR X (compareOp .Gt) (rI0 fun i j => .bl (decide (j < i))) := opB0 fun _ _ _ _ _ _ _ q => gt_int q
theorem op_lt_str : OpR X (compareOp .Lt) (fun x y H Q => ∃ i j, x = .str i ∧ y = .str j ∧ Q (.bl (decide (i.cps.toList < j.cps.toList))) H) := by
  intro pins s σ H x y v u Q I rx ry h
  obtain ⟨i, j, rfl, rfl, q⟩ := h
  obtain ⟨t, rfl⟩ := rx
  obtain ⟨t', rfl⟩ := ry
  exact lt_str (fin_bl I q rfl)
theorem op_in_str : OpR X (compareOp .In) (fun x y H Q => ∃ i j, x = .str i ∧ y = .str j ∧ Q (.bl (!(Builtin.Str.occurrences j i 0 j.length 1).isEmpty)) H) := by
  intro pins s σ H x y v u Q I rx ry h
  obtain ⟨i, j, rfl, rfl, q⟩ := h
  obtain ⟨t, rfl⟩ := rx
  obtain ⟨t', rfl⟩ := ry
  exact in_str (fin_bl I q rfl)
theorem op_notN : OpR X (compareOp .IsNot) (fun x y H Q => y = .non ∧ Q (.bl (!decide (x = .non))) H) := by
  intro pins s σ H x y v u Q I rx ry h
  obtain ⟨rfl, q⟩ := h
  cases ry
  refine isnot_none_gen (fin_bl I q ?_)
  cases x <;> first
    | (cases rx; rfl)
    | (obtain ⟨t, rfl⟩ := rx; rfl)
theorem OpR.or {f : Value → Value → Sem Value} {r r' : R2} (h : OpR X f r) (h' : OpR X f r') : OpR X f (fun x y H Q => r x y H Q ∨ r' x y H Q) := by
  intro pins s σ H x y v u Q I rx ry q
  rcases q with q | q
  · exact h pins s σ H x y v u Q I rx ry q
  · exact h' pins s σ H x y v u Q I rx ry q
theorem nomark (b : Expr) {op : CmpOp} (h : op ≠ .In := by decide) (h2 : op ≠ .NotIn := by decide) : behindInMarks op b = false := by
  have e1 : (op == CmpOp.In) = false := by cases op <;> first | rfl | exact absurd rfl h
  have e2 : (op == CmpOp.NotIn) = false := by cases op <;> first | rfl | exact absurd rfl h2
  cases b <;> simp [behindInMarks, e1, e2]
theorem pe_cmpR {op : CmpOp} {r : R2} (ho : OpR X (compareOp op) r) (ha : PE X a ta) (hb : PE X b tb) (hm : behindInMarks op b = false) : PE X (.Compare a [op] [b] pos) (tOp r ta tb) := by
  intro pins s σ H Q I h
  exact wpAny_Compare1 (binT ha hb I h fun v u s2 x y H2 I2 rx ry q => ho pins s2 σ H2 x y v u Q I2 rx ry q) hm
def tTest (t : TE) : TT := fun σ H Q => t σ H fun x H' => ∃ k, x = .bl k ∧ Q k H'
theorem pt_cmpR {op : CmpOp} {r : R2} (ho : OpR X (compareOp op) r) (ha : PE X a ta) (hb : PE X b tb) (hm : behindInMarks op b = false) : PT X (.Compare a [op] [b] pos) (tTest (tOp r ta tb)) := by
  intro pins s σ H Q I h
  refine wpAny_isTrue_Compare1 (thn (ha pins s σ H _ I h) fun v s1 ⟨x, H1, I1, r1, q1⟩ => thn (hb pins s1 σ H1 _ I1 q1) fun u s2 ⟨y, H2, I2, r2, q2⟩ =>
    thn (ho pins s2 σ H2 x y v u _ I2 r1 r2 q2) fun c s3 ⟨z, H3, I3, r3, k, e, q3⟩ => ?_) hm
  subst e
  cases r3
  exact wpAny_truthy_bool ⟨H3, I3, q3⟩
def tChain (r r' : R2) (ta tb tc : TE) : TE := fun σ H Q => ta σ H fun x H1 => tb σ H1 fun y H2 => r x y H2 fun z H3 => ∃ k, z = .bl k ∧
  (if k = true then tc σ H3 fun w' H4 => r' y w' H4 Q else Q (.bl false) H3)
theorem pe_chain {op op' : CmpOp} {r r' : R2} (ho : OpR X (compareOp op) r) (ho' : OpR X (compareOp op') r') (ha : PE X a ta) (hb : PE X b tb) (hc : PE X c tc)
    (hm : lastMarks [op, op'] [b, c] = false := by with_unfolding_all rfl) : PE X (.Compare a [op, op'] [b, c] pos) (tChain r r' ta tb tc) := by
  intro pins s σ H Q I h
  refine Compare_chain (thn (ha pins s σ H _ I h) fun v s1 ⟨x, H1, I1, r1, q1⟩ => chain_link (thn (hb pins s1 σ H1 _ I1 q1) fun u s2 ⟨y, H2, I2, r2, q2⟩ =>
    thn (ho pins s2 σ H2 x y v u _ I2 r1 r2 q2) fun d s3 ⟨z, H3, I3, r3, k, e, q3⟩ => ?_)) hm
  subst e
  cases r3
  refine wpAny_truthy_bool ?_
  cases k with
  | false => exact ite_ff ⟨.bl false, H3, I3, rfl, q3⟩
  | true => exact ite_tt (chain_last (thn (hc pins s3 σ H3 _ I3 q3) fun w' s4 ⟨z', H4, I4, r4, q4⟩ => ho' pins s4 σ H4 y z' u w' Q I4 r2 r4 q4))
def TruV (K : PySem.W.Frag) (x : V) (H : Hp) (k : Bool) : Prop :=
  match x with
  | .non => k = false
  | .bl b => k = b
  | .int i => k = (i != 0)
  | .str y => y.length ≤ sizeLine ∧ k = ((y.length : Int) != 0)
  | .byt y => y.size ≤ sizeLine ∧ k = ((y.size : Int) != 0)
  | .ref p => (∃ xs, SqL K H p xs ∧ k = !xs.isEmpty) ∨ (∃ xs, SqT K H p xs ∧ k = !xs.isEmpty) ∨ ∃ kvs, H p = some (.dK kvs) ∧ k = !kvs.isEmpty
  | _ => False
theorem isEmpty_kv {κ : Type} {kvs : List (κ × V)} {vs : List (κ × Value)} (r : KV kvs vs) : (!vs.isEmpty) = !kvs.isEmpty := by
  cases r <;> rfl
theorem isEmpty_of {xs : List V} {its : List Value} (r : Vals xs its) : (!its.toArray.isEmpty) = !xs.isEmpty := by
  cases r <;> simp
theorem line63 : (sizeLine : Nat) < 2 ^ 63 := by rw [sizeLine_eq]; decide
theorem tru_ok : TruR X (fun x H Q => ∃ k, TruV X.K x H k ∧ Q k H) := by
  intro pins s σ H x v Q I rx h
  obtain ⟨k, e, q⟩ := h
  have hl := line63
  have hs : sizeLine = 16777216 := sizeLine_eq
  cases x with
  | non =>
    cases rx
    have e' : k = false := e
    subst e'
    exact truthy_none ⟨H, I, q⟩
  | bl b =>
    cases rx
    have e' : k = b := e
    subst e'
    exact wpAny_truthy_bool ⟨H, I, q⟩
  | int i =>
    obtain ⟨t, rfl⟩ := rx
    have e' : k = (i != 0) := e
    subst e'
    exact PySem.P.truthy_int ⟨H, I, q⟩
  | str y =>
    obtain ⟨t, rfl⟩ := rx
    obtain ⟨hy, e'⟩ : y.length ≤ sizeLine ∧ k = ((y.length : Int) != 0) := e
    subst e'
    exact PySem.P.truthy_str (by omega) ⟨H, I.tok _, q⟩
  | byt y =>
    obtain ⟨t, rfl⟩ := rx
    obtain ⟨hy, e'⟩ : y.size ≤ sizeLine ∧ k = ((y.size : Int) != 0) := e
    subst e'
    exact PySem.W.truthy_bytes (by omega) ⟨H, I.tok _, q⟩
  | ref p =>
    cases rx
    have e' : (∃ xs, SqL X.K H p xs ∧ k = !xs.isEmpty) ∨ (∃ xs, SqT X.K H p xs ∧ k = !xs.isEmpty) ∨ ∃ kvs, H p = some (.dK kvs) ∧ k = !kvs.isEmpty := e
    rcases e' with ⟨xs, hx, e'⟩ | ⟨xs, hx, e'⟩ | ⟨kvs, hx, e'⟩
    · subst e'
      obtain ⟨its, r, pl, hz⟩ := I.list hx
      have hlen := r.length
      exact wpAny_truthy_list pl.isList (by simp only [List.size_toArray]; omega) ⟨H, I.tok _, by rw [isEmpty_of r]; exact q⟩
    · subst e'
      obtain ⟨its, r, pl, hz⟩ := I.tuple hx
      have hlen := r.length
      exact truthy_tuple pl (by simp only [List.size_toArray]; omega) ⟨H, I.tok _, by rw [isEmpty_of r]; exact q⟩
    · subst e'
      obtain ⟨hz, hS, vs, r, m⟩ : kvs.length ≤ sizeLine ∧ (p == sysModules) = false ∧ ∃ vs, KV kvs vs ∧ s.heap.DictOf (mixKind X.prog X.w) p vs := I.hok p _ hx
      have hlen : kvs.length = vs.length := Paired.length r
      exact wpAny_truthy_dict hS m (by omega) ⟨H, I.tok _, by rw [isEmpty_kv r]; exact q⟩
  | _ => exact (show False from e).elim
theorem pt_truth (ha : PE X a ta) (he : ∀ whole, isTrue a X.env whole = (do let v ← whole; standAt a.pos; holding [v] (truthy v))) :
    PT X a (fun σ H Q => ta σ H fun x H' => ∃ k, TruV X.K x H' k ∧ Q k H') := by
  intro pins s σ H Q I h
  exact isTrue_plain (thn (ha pins s σ H _ I h) fun v s1 ⟨x, H1, I1, r1, q1⟩ => tru_ok pins s1 σ H1 x v Q I1 r1 q1) (he _)
theorem op_add_str : OpR X (binaryOp .Add) (fun x y H Q => ∃ i j, x = .str i ∧ y = .str j ∧ i.length + j.length ≤ sizeLine ∧ Q (.str (i ++ j)) H) := by
  intro pins s σ H x y v u Q I rx ry h
  obtain ⟨i, j, rfl, rfl, hz, q⟩ := h
  obtain ⟨t, rfl⟩ := rx
  obtain ⟨t', rfl⟩ := ry
  exact add_str (fun t' tk => ⟨.str (i ++ j), H, I.tok _, ⟨_, rfl⟩, q⟩) hz
theorem vals1 {x : V} {us : List Value} (r : Vals [x] us) : ∃ u, us = [u] ∧ RelV x u := by
  cases r with
  | cons r1 r2 => cases r2; exact ⟨_, rfl, r1⟩
def LenV (K : PySem.W.Frag) (x : V) (H : Hp) (n : Nat) : Prop :=
  match x with
  | .str y => y.length ≤ sizeLine ∧ n = y.length
  | .byt y => y.size ≤ sizeLine ∧ n = y.size
  | .ref p => (∃ xs, SqL K H p xs ∧ n = xs.length) ∨ ∃ xs, SqT K H p xs ∧ n = xs.length
  | _ => False
theorem call_len : CallR X (.builtin "len") (fun xs H Q => ∃ x n, xs = [x] ∧ LenV X.K x H n ∧ Q (.int n) H) := by
  intro pins s σ H xs us Q I r h
  obtain ⟨x, n, rfl, e, q⟩ := h
  obtain ⟨u, rfl, rx⟩ := vals1 r
  have hl := line63
  have hs : sizeLine = 16777216 := sizeLine_eq
  cases x with
  | str y =>
    obtain ⟨t, rfl⟩ := rx
    obtain ⟨hy, e'⟩ : y.length ≤ sizeLine ∧ n = y.length := e
    subst e'
    exact len_str (by omega) ⟨.int _, H, I.tok _, ⟨_, rfl⟩, q⟩
  | byt y =>
    obtain ⟨t, rfl⟩ := rx
    obtain ⟨hy, e'⟩ : y.size ≤ sizeLine ∧ n = y.size := e
    subst e'
    exact PySem.W.len_bytes (by omega) ⟨.int _, H, I.tok _, ⟨_, rfl⟩, q⟩
  | ref p =>
    cases rx
    have e' : (∃ xs, SqL X.K H p xs ∧ n = xs.length) ∨ ∃ xs, SqT X.K H p xs ∧ n = xs.length := e
    rcases e' with ⟨xs, hx, e'⟩ | ⟨xs, hx, e'⟩
    · subst e'
      obtain ⟨its, r', pl, hz⟩ := I.list hx
      have hlen := r'.length
      exact Calls.call_len_list pl.isList (by simp only [List.size_toArray]; omega) ⟨.int xs.length, H, I.tok _, ⟨_, by simp only [List.size_toArray]; rw [hlen]⟩, q⟩
    · subst e'
      obtain ⟨its, r', pl, hz⟩ := I.tuple hx
      have hlen := r'.length
      exact len_tuple pl (by simp only [List.size_toArray]; omega) ⟨.int xs.length, H, I.tok _, ⟨_, by simp only [List.size_toArray]; rw [hlen]⟩, q⟩
  | _ => exact (show False from e).elim
end
end L2
namespace L2
open PySem PySem.Spec PyProof.Rows
section
variable {prog : Program} {w : World} {A : Around} {E : Value → Shared → Prop} {s : Shared} {K : PySem.W.Frag} {x dx C f : Addr} {mA : Str → Option Value} {name : Str} {v : Value}
end
section
variable {P : Program} {w : World} {H H' : Hp} {h h' : Heap} {a C dx : Addr} {fs fs' : List (Str × V)}
end
section
variable {X : Cx} {pins : List (Addr × Obj)} {σ : St} {H : Hp} {s : Shared} {a C dx : Addr} {fs : List (Str × V)} {f : Str} {v : V} {A : Around} {E : Value → Shared → Prop}
end
section
variable {X : Cx} {o e value : Expr} {f : Str} {pos pos' tpos : Pos} {ta tv : TE}
end
section
variable {X : Cx} {pins : List (Addr × Obj)} {σ : St} {H : Hp} {s : Shared} {A : Around} {E : Value → Shared → Prop} {Q : Value → Shared → Prop} {c : Value} {b : Bool}
end
end L2
namespace L2
open PySem PySem.Spec PyProof.Rows
structure Room (k : Nat) (A : Around) : Prop where
  hd : A.handled = none
  dp : A.depth + 3 * k + 5 < recursionLimit
  un : A.units + 16 * k + 200 < cLine
theorem Room.mono {j k : Nat} {A : Around} (r : Room k A) (h : j ≤ k) : Room j A := ⟨r.hd, by have := r.dp; omega, by have := r.un; omega⟩
theorem Room.deeper {k : Nat} {A : Around} (r : Room (k + 1) A) (env : Env) : Room k (A.deeper env) :=
  ⟨r.hd, by have := r.dp; show A.depth + 1 + 3 * k + 5 < _; omega, by have := r.un; show A.units + 3 + 16 * k + 200 < _; omega⟩
theorem Room.depth {k : Nat} {A : Around} (r : Room k A) : A.depth < recursionLimit := by have := r.dp; omega
def tNil : TA := fun _ H Q => Q [] H
def tCons (ta : TE) (tr : TA) : TA := fun σ H Q => ta σ H fun x H1 => tr σ H1 fun xs H2 => Q (x :: xs) H2
section
variable {X : Cx} {e : Expr} {es : List Expr} {te : TE} {t : TA} {pos : Pos}
theorem pa_nil : PA X [] tNil := fun _ _ _ _ H Q I h => Calls.spliced_nil ⟨[], H, I, .nil, h⟩
theorem pa_cons (ha : PE X e te) (hr : PA X es t) (hs : starEach (e :: es) X.env = (false, eval e X.env) :: starEach es X.env := by rfl) : PA X (e :: es) (tCons te t) := by
  intro pos pins s σ H Q I h
  rw [hs]
  show wpAny _ _ (spliced ((false, eval e X.env) :: backTo pos (starEach es X.env))) _ _ s
  refine Calls.spliced_cons (thn (ha pins s σ H _ I h) fun u s1 ⟨x, H1, I1, r1, q1⟩ => ?_)
  exact thn (hr pos pins s1 σ H1 _ I1 q1) fun us s2 ⟨xs, H2, I2, r2, q2⟩ => ⟨x :: xs, H2, I2, .cons r1 r2, q2⟩
def tTup (t : TA) : TE := fun σ H Q => t σ H fun xs H1 => xs.length ≤ sizeLine ∧ ∀ p, H1 p = none → Q (.ref p) (upd H1 p (.tup xs))
def tLst (t : TA) : TE := fun σ H Q => t σ H fun xs H1 => xs.length ≤ sizeLine ∧ ∀ p, H1 p = none → Q (.ref p) (upd H1 p (.lst xs))
theorem pe_tup {x1} (h : PA X es t) : PE X (.Tuple es x1 pos) (tTup t) := by
  intro pins s σ H Q I hq
  refine wpAny_Tuple_spliced (thn (h pos pins s σ H _ I hq) fun us s1 ⟨xs, H1, I1, r, z, q⟩ => ⟨by rw [← r.length]; exact z, ?_⟩)
  have hf : H1 s1.heap.objs.size = none := I1.hok.fresh (Nat.le_refl _)
  refine ⟨.ref s1.heap.objs.size, upd H1 s1.heap.objs.size (.tup xs), I1.laid (t' := s1.toks) (fun b u e => Heap.get?_push_of_some _ e) (Nat.le_refl _) ?_, rfl, q _ hf⟩
  exact ⟨z, us, r, ⟨_, Heap.get?_push_size _ rfl, rfl, _, rfl⟩⟩
theorem pe_lst (h : PA X es t) : PE X (.List es pos) (tLst t) := by
  intro pins s σ H Q I hq
  refine wpAny_List_spliced (thn (h pos pins s σ H _ I hq) fun us s1 ⟨xs, H1, I1, r, z, q⟩ => ⟨by rw [← r.length]; exact z, ?_⟩)
  have hf : H1 s1.heap.objs.size = none := I1.hok.fresh (Nat.le_refl _)
  refine ⟨.ref s1.heap.objs.size, upd H1 s1.heap.objs.size (.lst xs), I1.laid (t' := s1.toks) (fun b u e => Heap.get?_push_of_some _ e) (Nat.le_refl _) ?_, rfl, q _ hf⟩
  exact ⟨z, us, 0, r, Heap.get?_push_size _ rfl⟩
end
abbrev Sp := List V → Hp → VK → XK → Prop
abbrev CXT := List Env → Hp → Shared → XK → Value → Shared → Prop
structure Env0 (P : Program) (w : World) (K : PySem.W.Frag) (mg : Str → Option Value) (base : Heap) (A : Around) (outer : List Env) (s : Shared) (H : Hp) : Prop where
  frames : A.frames = some outer
  mod : Mod K mg base
  bs : ∀ b o, base.get? b = some o → s.heap.get? b = some o ∧ H b = none
  bsz : base.objs.size ≤ s.heap.objs.size
  funs : s.heap.FunFrames base outer
  frf : ∀ b ∈ frs outer, H b = none
  hok : HOk P w H s.heap
  bare : AllBare s.gens
def CE (outer : List Env) (P : Program) (w : World) (H : Hp) (s : Shared) (Q : VK) (u : Value) (s' : Shared) : Prop :=
  ∃ v H', s'.os = s.os ∧ AllBare s'.gens ∧ Un (frs outer) [] H H' s.heap s'.heap ∧ HOk P w H' s'.heap ∧ RelV v u ∧ Q v H'
def CR (CX : CXT) (outer : List Env) (P : Program) (w : World) (H : Hp) (s : Shared) (Q : VK) (E : XK) (r : Result) (s' : Shared) : Prop :=
  match r with
  | .ok (.ret u) => CE outer P w H s Q u s'
  | .ok _ => False
  | .error e => CX outer H s E e s'
structure FnOk (P : Program) (w : World) (K : PySem.W.Frag) (mg : Str → Option Value) (base : Heap) (CX : CXT) (k : Nat) (f : Addr) (fd : FuncData) (ps : List Str) (sp : Sp) : Prop where
  len : ∀ vs H Q E, sp vs H Q E → vs.length = ps.length
  run : ∀ (A : Around) (outer : List Env) (s : Shared) (H : Hp) (args : Args) (us : List Value) (vs : List V) (Q : VK) (E : XK), Room k A → Env0 P w K mg base A outer s H → BindsTo s fd args (ps.zip us) → Vals vs us → sp vs H Q E →
    codeAny (model P w) A (.call (.ref f) args) (CR CX outer P w H s Q E) s
theorem FnOk.mono {P : Program} {w : World} {K : PySem.W.Frag} {mg : Str → Option Value} {base : Heap} {CX : CXT} {j k : Nat} {f : Addr} {fd : FuncData} {ps : List Str} {sp : Sp} (F : FnOk P w K mg base CX j f fd ps sp) (h : j ≤ k) :
    FnOk P w K mg base CX k f fd ps sp := ⟨F.len, fun A outer s H args us vs Q E hr => F.run A outer s H args us vs Q E (hr.mono h)⟩
theorem FnOk.imp {P : Program} {w : World} {K : PySem.W.Frag} {mg : Str → Option Value} {base : Heap} {CX : CXT} {k : Nat} {f : Addr} {fd : FuncData} {ps : List Str} {sp sp' : Sp} (F : FnOk P w K mg base CX k f fd ps sp)
    (h : ∀ vs H Q E, sp' vs H Q E → sp vs H Q E) : FnOk P w K mg base CX k f fd ps sp' :=
  ⟨fun vs H Q E q => F.len vs H Q E (h _ _ _ _ q), fun A outer s H args us vs Q E hr he hb hv hs => F.run A outer s H args us vs Q E hr he hb hv (h _ _ _ _ hs)⟩
section
variable {X : Cx} {pins : List (Addr × Obj)} {σ : St} {H : Hp} {s s' : Shared}
theorem Inv.env0 (I : Inv X pins σ H s) : Env0 X.prog X.w X.K X.mg X.base X.A X.stack s H :=
  ⟨I.ok.frames, I.ok.mod, I.bs, Nat.le_trans I.ok.bsz I.sz, I.stack, I.stkFree, I.hok, I.bare⟩
theorem Inv.after {Q : VK} {u : Value} (I : Inv X pins σ H s) (h : CE X.stack X.prog X.w H s Q u s') : EP X pins σ Q u s' := by
  obtain ⟨v, H', os, bare, un, hok, r, q⟩ := h
  obtain ⟨hh, g, d, t, os'⟩ := s'
  obtain rfl : os' = s.os := os
  exact ⟨v, H', I.call (h' := hh) (g' := g) (d' := d) (t' := t) (ch := []) un hok bare (fun b z => absurd z (by simp)), r, q⟩
end
def Binds (K : PySem.W.Frag) (fd : FuncData) (ps : List Str) (ds : List Value) : Prop :=
  ∀ (s : Shared) (us : List Value), K.In s.heap → (us ++ ds).length = ps.length → BindsTo s fd ⟨us, []⟩ (ps.zip (us ++ ds))
theorem Binds.all {K : PySem.W.Frag} {fd : FuncData} {ps : List Str} (h : ∀ us : List Value, us.length = ps.length → bindArgs fd ⟨us, []⟩ = pure (ps.zip us)) : Binds K fd ps [] := fun s us _ hl => by
  rw [List.append_nil] at hl ⊢
  exact .of_eq (h us hl)
section
variable {X : Cx} {CX : CXT} {k : Nat} {f C : Addr} {fd : FuncData} {ps : List Str} {sp : Sp} {dvs : List V} {ds : List Value} {E : XK} {x m : Str} {p pos apos : Pos} {e o : Expr} {es : List Expr} {ta : TE} {t : TA}
end
def PK (X : Cx) (kws : List Keyword) (t : TA) : Prop :=
  ∀ (pos : Pos) (pins : List (Addr × Obj)) (s : Shared) (σ : St) (H : Hp) (Q : List V → Hp → Prop), Inv X pins σ H s → t σ H Q → wpAny (model X.prog X.w) X.A (evalAll ((backToKw pos (keywordEach kws X.env)).map (·.2))) (AP X pins σ Q) X.xe s
section
variable {X : Cx} {CX : CXT} {k : Nat} {f C : Addr} {fd : FuncData} {ps ks : List Str} {sp : Sp} {E : XK} {x m : Str} {p pos apos kpos : Pos} {e o : Expr} {es : List Expr} {kws : List Keyword} {te ta : TE} {t tk : TA} {nm : Option Str}
theorem pk_nil : PK X [] tNil := fun _ _ _ _ H Q I h => wpAny_evalAll_nil ⟨[], H, I, .nil, h⟩
theorem pk_cons (ha : PE X e te) (hr : PK X kws t) : PK X (⟨nm, e, kpos⟩ :: kws) (tCons te t) := by
  intro pos pins s σ H Q I h
  show wpAny _ _ (evalAll ((do let v ← eval e X.env; standAt pos; pure v) :: (backToKw pos (keywordEach kws X.env)).map (·.2))) _ _ s
  refine wpAny_evalAll_cons (wpAny_bind (thn (ha pins s σ H _ I h) fun u s1 ⟨x, H1, I1, r1, q1⟩ => wpAny_bind (wpAny_standAt (wpAny_pure ?_))))
  exact thn (hr pos pins s1 σ H1 _ I1 q1) fun us s2 ⟨xs, H2, I2, r2, q2⟩ => ⟨x :: xs, H2, I2, .cons r1 r2, q2⟩
variable {g : List Value → List Value → List Value} {gV : List V → List V → List V}
end
structure FnScope (N P : List Str) (sc : Scope) : Prop where
  kind : sc.kind = .function
  co : sc.isCoroutine = false
  gen : sc.isGenerator = false
  nd : N.Nodup
  pre : N.take P.length = P
  par : ∀ x ∈ P, sc.names.lookup x = some .local ∨ sc.names.lookup x = some .cell
  nofree : ∀ y ∈ sc.names, y.2 ≠ .free
theorem bindL_out {kindOf : Str → Option NameKind} {x : Str} : ∀ {binds : List (Str × Value)} {m : Str → Option Value}, (∀ v, (x, v) ∉ binds) → bindL kindOf binds m x = m x
  | [], _, _ => rfl
  | (n, v) :: r, m, h => by
    unfold bindL
    rw [bindL_out fun w hw => h w (List.mem_cons_of_mem _ hw)]
    split
    · have : x ≠ n := by rintro rfl; exact h v List.mem_cons_self
      simp [this]
    · rfl
theorem bindC_out {kindOf : Str → Option NameKind} {x : Str} : ∀ {binds : List (Str × Value)} {m : Str → Option Value}, (∀ v, (x, v) ∉ binds) → bindC kindOf binds m x = m x
  | [], _, _ => rfl
  | (n, v) :: r, m, h => by
    unfold bindC
    rw [bindC_out fun w hw => h w (List.mem_cons_of_mem _ hw)]
    split
    · rfl
    · have : x ≠ n := by rintro rfl; exact h v List.mem_cons_self
      simp [this]
theorem bindL_get {kindOf : Str → Option NameKind} {x : Str} {v : Value} : ∀ {P : List Str} {vs : List Value} {i : Nat} {m : Str → Option Value}, P.Nodup → P[i]? = some x → vs[i]? = some v → kindOf x = some .local →
    bindL kindOf (P.zip vs) m x = some v
  | [], _, _, _, _, h, _, _ => by simp at h
  | _ :: _, [], _, _, _, _, h, _ => by simp at h
  | p :: P, w :: vs, 0, m, nd, h1, h2, hk => by
    simp at h1 h2; subst h1; subst h2
    show bindL kindOf ((p, w) :: P.zip vs) m p = _
    unfold bindL
    rw [bindL_out fun v hv => (List.nodup_cons.mp nd).1 (List.of_mem_zip hv).1, if_pos hk]
    simp
  | p :: P, w :: vs, i + 1, m, nd, h1, h2, hk => by
    show bindL kindOf ((p, w) :: P.zip vs) m x = _
    unfold bindL
    exact bindL_get (i := i) (List.nodup_cons.mp nd).2 (by simpa using h1) (by simpa using h2) hk
theorem bindC_get {kindOf : Str → Option NameKind} {x : Str} {v : Value} : ∀ {P : List Str} {vs : List Value} {i : Nat} {m : Str → Option Value}, P.Nodup → P[i]? = some x → vs[i]? = some v → kindOf x ≠ some .local →
    bindC kindOf (P.zip vs) m x = some v
  | [], _, _, _, _, h, _, _ => by simp at h
  | _ :: _, [], _, _, _, _, h, _ => by simp at h
  | p :: P, w :: vs, 0, m, nd, h1, h2, hk => by
    simp at h1 h2; subst h1; subst h2
    show bindC kindOf ((p, w) :: P.zip vs) m p = _
    unfold bindC
    rw [bindC_out fun v hv => (List.nodup_cons.mp nd).1 (List.of_mem_zip hv).1, if_neg hk]
    simp
  | p :: P, w :: vs, i + 1, m, nd, h1, h2, hk => by
    show bindC kindOf ((p, w) :: P.zip vs) m x = _
    unfold bindC
    exact bindC_get (i := i) (List.nodup_cons.mp nd).2 (by simpa using h1) (by simpa using h2) hk
def start (N : List Str) (vs : List V) : St := vs.map some ++ List.replicate (N.length - vs.length) none
def cxOf (CX : CXT) (P : Program) (w : World) (K : PySem.W.Frag) (mg : Str → Option Value) (base : Heap) (N : List Str) (qual : Str) (scope : Scope) (f : Addr) (cd : Value) (A : Around) (outer : List Env) (s : Shared) (H : Hp) (E : XK) : Cx where
  prog := P
  w := w
  K := K
  mg := mg
  base := base
  A := A.deeper (envOfC qual scope s.heap.objs.size f cd)
  N := N
  s₀ := s
  H₀ := H
  env := envOfC qual scope s.heap.objs.size f cd
  outer := outer
  stack := envOfC qual scope s.heap.objs.size f cd :: outer
  ex := []
  calm := true
  fn := fun _ => true
  pn := []
  xe := fun e s' => wpAny (model P w) (A.deeper (envOfC qual scope s.heap.objs.size f cd)) (leaving (envOfC qual scope s.heap.objs.size f cd) e) (fun _ s'' => CX outer H s E e s'') (fun e' s'' => CX outer H s E e' s'') s'
theorem cell_has {sc : Scope} {n : Nat} {x : Str} (h : sc.names.lookup x = some .cell) : ∃ c, (cellsFrom n sc.names []).lookup x = some c := by
  have q := PySem.W.cellsFrom_some sc.names n [] (.inl h)
  exact Option.isSome_iff_exists.mp q
theorem inv_start {CX : CXT} {P : Program} {w : World} {K : PySem.W.Frag} {mg : Str → Option Value} {base : Heap} {N ps : List Str} {qual : Str} {scope : Scope} {f : Addr} {cd : Value} {A : Around} {outer : List Env} {s s1 : Shared} {H : Hp} {E : XK} {us : List Value} {vs : List V}
    (S : FnScope N ps scope) (hd : A.handled = none) (e0 : Env0 P w K mg base A outer s H) (hl : vs.length = ps.length) (r : Vals vs us)
    (x : InCallC s s.heap.objs.size (bindL (envOfC qual scope s.heap.objs.size f cd).kindOf (ps.zip us) fun _ => none) (cellsFrom (s.heap.objs.size + 1) scope.names []) (bindC (envOfC qual scope s.heap.objs.size f cd).kindOf (ps.zip us) fun _ => none) s1) :
    Inv (cxOf CX P w K mg base N qual scope f cd A outer s H E) [] (start N vs) H s1 := by
  have hpl : ps.length ≤ N.length := by have := congrArg List.length S.pre; rw [List.length_take] at this; omega
  obtain ⟨h1, tk, rfl, hk⟩ := x.done
  have noA : ∀ b : Addr, b ∉ (cxOf CX P w K mg base N qual scope f cd A outer s H E).ex := fun b z => absurd (show b ∈ ([] : List Addr) from z) (by simp)
  refine ⟨⟨e0.mod, S.kind, rfl, rfl, Nat.le_refl _, fun y z c h1 h2 => ?_, fun y hy => ?_, fun y c _ h => ?_, fun _ => hd, Around.frames_deeper e0.frames, .inr ⟨rfl, rfl⟩, fun b z => absurd z (noA b), e0.bs, e0.bsz, fun b _ _ => noA b, fun b z => absurd z (noA b), e0.funs, e0.frf⟩,
    rfl, e0.bare, Un.kept hk, ⟨_, x.toInCall.ns, fun i y v h1 h2 h3 => ?_⟩, fun y c h => ⟨_, x.cell y c h⟩, e0.hok.fresh (Nat.le_refl _), fun y c h => ?_, fun p hp => absurd (show p ∈ ([] : List (Addr × Obj)) from hp) (by simp), e0.hok.kept hk, ?_⟩
  · exact name_of_addr x.apart (PySem.mem_of_lookup h1) (PySem.mem_of_lookup h2)
  · have hy : scope.names.lookup y = some .cell ∨ scope.names.lookup y = some .free := hy
    rcases hy with hy | hy
    · exact cell_has hy
    · exact absurd rfl (S.nofree _ (PySem.mem_of_lookup hy))
  · exact Nat.le_of_lt (x.above y c (PySem.mem_of_lookup h))
  · have hi : i < vs.length := by
      unfold start at h2
      by_cases hi : i < vs.length
      · exact hi
      · rw [List.getElem?_append_right (by simpa using hi)] at h2
        rw [List.getElem?_replicate] at h2
        split at h2 <;> cases h2
    have ha : vs[i]? = some v := by
      unfold start at h2
      rw [List.getElem?_append_left (by simpa using hi), List.getElem?_map] at h2
      cases e : vs[i]? with
      | none => rw [e] at h2; cases h2
      | some a => rw [e] at h2; cases h2; rfl
    obtain ⟨u, hu, rv⟩ := r.get ha
    have hp : ps[i]? = some y := by
      rw [← S.pre, List.getElem?_take_of_lt (by omega)]; exact h1
    have ndP : ps.Nodup := by rw [← S.pre]; exact S.nd.sublist (List.take_sublist _ _)
    refine ⟨u, rv, ?_⟩
    rcases S.par y (List.mem_of_getElem? hp) with k | k
    · exact .inl ⟨k, bindL_get ndP hp hu k⟩
    · obtain ⟨c, e⟩ := cell_has (n := s.heap.objs.size + 1) k
      refine .inr ⟨.inl k, c, e, ?_⟩
      have q := x.cell y c e
      rw [bindC_get ndP hp hu (by show scope.names.lookup y ≠ _; rw [k]; decide)] at q
      exact q
  · exact e0.hok.fresh (Nat.le_of_lt (x.above y c (PySem.mem_of_lookup h)))
  · unfold start
    show _ = N.length
    rw [List.length_append, List.length_map, List.length_replicate]
    omega
theorem fn_of {CX : CXT} {P : Program} {w : World} {K : PySem.W.Frag} {mg : Str → Option Value} {base : Heap} {k : Nat} {f : Addr} {name qual : Str} {params : Arguments} {body : List Stmt} {scope : Scope} {dV kV doc pm cdv ct oc : Value} {an od : Option Addr}
    {osl : Array (Option Value)} {N ps : List Str} {sp : Sp} (lk : K.lookup f = some ⟨oc, od, .func (PySem.W.fnOf name qual params body scope dV kV doc pm an cdv ct), osl⟩) (hcd : PySem.W.codeIn K cdv qual = true) (S : FnScope N ps scope)
    (len : ∀ vs H Q E, sp vs H Q E → vs.length = ps.length)
    (hbody : ∀ (A : Around) (outer : List Env) (s : Shared) (H : Hp) (vs : List V) (Q : VK) (E : XK), Room k (A.deeper (envOfC qual scope s.heap.objs.size f cdv)) → sp vs H Q E →
      ∃ t, PSs (cxOf CX P w K mg base N qual scope f cdv A outer s H E) body t ∧ t { nx := fun _ H' => Q .non H', rt := Q } (start N vs) H) :
    FnOk P w K mg base CX (k + 1) f (PySem.W.fnOf name qual params body scope dV kV doc pm an cdv ct) ps sp := by
  refine ⟨len, fun A outer s H args us vs Q E hr e0 hb r hsp => ?_⟩
  have hl := len _ _ _ _ hsp
  have KX : K.In s.heap := e0.mod.kin.keeps fun b o e => (e0.bs b o e).1
  have lim : s.heap.NoLimit := e0.mod.nolimit.keeps fun b o e => (e0.bs b o e).1
  have hkind : ∀ y ∈ ps.zip us, scope.names.lookup y.1 = some .local ∨ (scope.names.lookup y.1 = some .cell ∧ ((cellsFrom (s.heap.objs.size + 1) scope.names []).lookup y.1).isSome = true) := fun ⟨n, v⟩ hy => by
    rcases S.par n (List.of_mem_zip hy).1 with q | q
    · exact .inl q
    · exact .inr ⟨q, PySem.W.cellsFrom_some _ _ _ (.inl q)⟩
  refine codeAny_call_function hr.depth (KX _ _ lk) rfl S.co S.gen rfl (PySem.W.codeRec_of KX hcd) (hb _ _ _ _ ?_)
  refine wpAny_newFunctionEnv_cells S.kind hkind fun env he s1 x => ?_
  subst he
  refine ⟨lim.keeps x.toInCall.keep, codeAny_func ?_⟩
  obtain ⟨t, ht, hq⟩ := hbody A outer s H vs Q E (hr.deeper _) hsp
  have I : Inv (cxOf CX P w K mg base N qual scope f cdv A outer s H E) [] (start N vs) H s1 := inv_start S hr.hd e0 hl r x
  refine wpAny_mono (ht [] s1 (start N vs) H _ I hq) (fun fl s' hs => ?_) fun e s' hs => hs
  have fin : ∀ {σ' : St} {H' : Hp} {v : V} {u : Value}, Inv (cxOf CX P w K mg base N qual scope f cdv A outer s H E) [] σ' H' s' → RelV v u → Q v H' → CE outer P w H s Q u s' :=
    fun {σ' H' v u} J rv q => ⟨v, H', J.os, J.bare, J.base, J.hok, rv, q⟩
  cases fl with
  | ret u =>
    obtain ⟨v, σ', H', J, rv, q⟩ := hs
    exact fin J rv q
  | next =>
    obtain ⟨σ', H', J, q⟩ := hs
    exact fin (v := V.non) (u := Value.none) J rfl q
  | brk =>
    obtain ⟨_, _, _, q⟩ := hs
    exact False.elim q
  | cont =>
    obtain ⟨_, _, _, q⟩ := hs
    exact False.elim q
end L2
namespace L2
open PySem PySem.Spec PyProof.Rows
section
variable {X : Cx} {x : Str} {p pos : Pos} {e : Expr} {es : List Expr} {t : TA} {id T : String} {r : List V → Hp → VK → Prop}
def tCB (r : List V → Hp → VK → Prop) (t : TA) : TE := fun σ H Q => t σ H fun vs H1 => r vs H1 Q
theorem pe_callB (hc : CallR X (.builtin id) r) (hg : Gl X x) (hm : X.mg x = none) (hv : bootBuiltins x = some (.builtin id)) (ha : PA X (e :: es) t) (hn : x ≠ "__name__" := by decide) (hdb : (x == ("__debug__" : Str)) = false := by decide)
    (he : starEach (e :: es) X.env = (false, eval e X.env) :: starEach es X.env := by rfl) (hpl : (backTo pos (starEach es X.env)).any (·.1) = false := by rfl) : PE X (.Call (.Name x p) (e :: es) [] pos) (tCB r t) := by
  intro pins s σ H Q I h
  refine wpAny_Call_Name_kw (ld_blt I hg hm hv ?_ hn hdb)
  exact PyProof.Rows.callWith_builtin1 (thn (ha pos pins s σ H _ I h) fun us s1 ⟨vs, H1, I1, r1, q1⟩ => hc pins s1 σ H1 vs us Q I1 r1 q1) he hpl
theorem pe_callTy (hc : CallR X (.type T) r) (hg : Gl X x) (hm : X.mg x = none) (hv : bootBuiltins x = some (.type T)) (ha : PA X (e :: es) t) (hn : x ≠ "__name__" := by decide) (hdb : (x == ("__debug__" : Str)) = false := by decide)
    (he : starEach (e :: es) X.env = (false, eval e X.env) :: starEach es X.env := by rfl) (hpl : (backTo pos (starEach es X.env)).any (·.1) = false := by rfl) : PE X (.Call (.Name x p) (e :: es) [] pos) (tCB r t) := by
  intro pins s σ H Q I h
  refine wpAny_Call_Name_kw (ld_blt I hg hm hv ?_ hn hdb)
  exact PyProof.Rows.callWith_type1 (thn (ha pos pins s σ H _ I h) fun us s1 ⟨vs, H1, I1, r1, q1⟩ => hc pins s1 σ H1 vs us Q I1 r1 q1) he hpl
end
end L2
namespace HT
open PySem PyProof.Rows
section
open PySem.SeqAt
open PySem.AutoSeq1 (wpAny_loadPart')
open PySem.MeetsSeq PySem.MeetsSeq2 PySem.MeetsSeq3
end
section
variable {prog : Program} {w : World} {A : Around} {E : Value → Shared → Prop} {s : Shared}
theorem cat_tup {t b : Addr} {vs ws : List Value} {Q : Value → Shared → Prop} (ht : IsTup s.heap t vs.toArray) (hb : IsTup s.heap b ws.toArray) (hv : vs ≠ [])
    (h1 : ws = [] → Q (.ref t) s) (h2 : ws ≠ [] → Q (.ref s.heap.objs.size) { s with heap := s.heap.push { cls := .type "tuple", data := .seq (vs ++ ws).toArray } })
    (hsz : vs.length + ws.length ≤ sizeLine) : wpAny (model prog w) A (binaryOp .Add (.ref t) (.ref b)) Q E s := by
  obtain ⟨⟨cls, dd, data, sl⟩, ho, hc, n, hd⟩ := id ht
  obtain ⟨⟨cls2, dd2, data2, sl2⟩, ho2, hc2, n2, hd2⟩ := id hb
  simp only at hc hd hc2 hd2
  subst hc hd hc2 hd2
  have e : vs.toArray ++ ws.toArray = (vs ++ ws).toArray := by simp
  by_cases hw : ws = []
  · exact concat_meets ⟨_, ho, rfl⟩ ⟨_, ho2, rfl⟩ noFill_tuple_add seq_tuple_add PySem.F.slot_tuple_add PySem.F.entry_tuple_add (PySem.F.args_tuple_add_2 _ _)
      (tuple_addW1 t b vs.toArray ws.toArray n n2 dd dd2 sl sl2 (by simpa using hv) (by simp [hw])) ⟨ho, ho2, h1 hw⟩
  · refine concat_meets ⟨_, ho, rfl⟩ ⟨_, ho2, rfl⟩ noFill_tuple_add seq_tuple_add PySem.F.slot_tuple_add PySem.F.entry_tuple_add (PySem.F.args_tuple_add_2 _ _)
      (tuple_addW2 t b vs.toArray ws.toArray n n2 dd dd2 sl sl2 (by simpa using hv) (by simpa using hw) (by rw [List.size_toArray, List.size_toArray]; exact hsz)) ⟨ho, ho2, ?_⟩
    rw [e]
    exact h2 hw
def sIx (n d : Nat) : Option Int → Nat
  | none => d
  | some v => if v < 0 then (v + (n : Int)).toNat else min v.toNat n
theorem sIx_le (n d : Nat) (hd : d ≤ n) (o : Option Int) : sIx n d o ≤ n := by
  cases o with
  | none => exact hd
  | some v =>
    show (if v < 0 then (v + (n : Int)).toNat else min v.toNat n) ≤ n
    by_cases hv : v < 0
    · rw [if_pos hv]; omega
    · rw [if_neg hv]; exact Nat.min_le_right _ _
theorem clip_eq (v : Int) (n d : Nat) : (if v < 0 then max (v + (n : Int)) 0 else min v (n : Int)) = ((sIx n d (some v) : Nat) : Int) := by
  show (if v < 0 then max (v + (n : Int)) 0 else min v (n : Int)) = (((if v < 0 then (v + (n : Int)).toNat else min v.toNat n) : Nat) : Int)
  by_cases hv : v < 0
  · simp only [if_pos hv]; omega
  · simp only [if_neg hv]; omega
theorem adjust_gen (lo hi : Option Int) (n : Nat) : Builtin.Slice.sliceAdjust lo hi 1 (n : Int) = (((sIx n 0 lo : Nat) : Int), ((sIx n n hi : Nat) : Int)) := by
  have h1 : ¬ ((1 : Int) < 0) := by omega
  unfold Builtin.Slice.sliceAdjust
  simp only [h1, if_false]
  refine Prod.ext ?_ ?_
  · cases lo with
    | none => rfl
    | some v => exact clip_eq v n 0
  · cases hi with
    | none => rfl
    | some v => exact clip_eq v n n
theorem places_gen (i j : Nat) : Builtin.Slice.slicePlaces (i : Int) (j : Int) 1 = j - i := by
  unfold Builtin.Slice.slicePlaces
  have h1 : (1 : Int) > 0 := by omega
  simp only [h1, if_true, Int.ediv_one]
  split <;> omega
theorem slicePart_ {v : Value} {o : Option Int} {Q : Option Int → Shared → Prop} (p : IsPart v o) (h : Q o s) : wpAny (model prog w) A (Builtin.Slice.slicePartIndex v) Q E s := by
  cases p with
  | none => exact slicePart_none h
  | int i t => exact slicePart_int h
theorem sliceApplied_gen {sl : Addr} {vl vu : Value} {lo hi : Option Int} {n : Nat} {Q : Int × Int × Nat → Shared → Prop} (hs : s.heap.IsSliceOf sl vl vu .none) (pl : IsPart vl lo) (pu : IsPart vu hi)
    (h : Q (((sIx n 0 lo : Nat) : Int), 1, sIx n n hi - sIx n 0 lo) s) : wpAny (model prog w) A (Builtin.Slice.sliceApplied (.ref sl) (pure (n : Int))) Q E s := by
  obtain ⟨os, hos, hcs, hds⟩ := id hs
  unfold Builtin.Slice.sliceApplied Builtin.Slice.sliceFields
  refine wpAny_bind (wpAny_bind (wpAny_field hos hds (x := vl) rfl (wpAny_bind (wpAny_field hos hds (x := vu) rfl (wpAny_bind (wpAny_field hos hds (x := .none) rfl (wpAny_pure ?_)))))))
  refine wpAny_bind (slicePart_none ?_)
  show wpAny _ _ (if ((1 : Int) == 0) = true then _ else _) _ _ s
  rw [if_neg (by decide)]
  refine wpAny_bind (slicePart_ pl (wpAny_bind (slicePart_ pu (wpAny_bind (wpAny_pure ?_)))))
  show wpAny _ _ (match Builtin.Slice.sliceAdjust lo hi 1 (n : Int) with | (lo, hi) => pure (lo, (1 : Int), Builtin.Slice.slicePlaces lo hi 1)) _ _ s
  rw [adjust_gen lo hi n]
  show wpAny _ _ (pure (((sIx n 0 lo : Nat) : Int), (1 : Int), Builtin.Slice.slicePlaces ((sIx n 0 lo : Nat) : Int) ((sIx n n hi : Nat) : Int) 1)) _ _ s
  rw [places_gen]
  exact wpAny_pure h
theorem pick_gen (xs : Array Value) (i k : Nat) : ((List.range k).filterMap fun (m : Nat) => xs[((i : Int) + (m : Int) * 1).toNat]?).toArray = ((xs.toList.drop i).take k).toArray := by
  have e : (fun (m : Nat) => xs[((i : Int) + (m : Int) * 1).toNat]?) = fun m => xs[i + m]? := by
    funext m
    have : ((i : Int) + (m : Int) * 1).toNat = i + m := by omega
    rw [this]
  rw [e]
  have := pick_run xs i k
  rw [List.filterMap_map] at this
  have e2 : ((fun x => xs[x]?) ∘ fun x => i + x) = fun m => xs[i + m]? := rfl
  rw [e2] at this
  rw [this]
theorem getItem_tuple_cut {t sl : Addr} {items : Array Value} {vl vu : Value} {lo hi : Option Int} {Q : Value → Shared → Prop} (ht : IsTup s.heap t items) (hs : s.heap.IsSliceOf sl vl vu .none) (pl : IsPart vl lo) (pu : IsPart vu hi)
    (hw : ¬ (sIx items.size 0 lo = 0 ∧ sIx items.size items.size hi = items.size))
    (h : Q (.ref s.heap.objs.size) { s with heap := s.heap.push { cls := .type "tuple", data := .seq ((items.toList.drop (sIx items.size 0 lo)).take (sIx items.size items.size hi - sIx items.size 0 lo)).toArray } })
    (hsz : items.size ≤ sizeLine) : wpAny (model prog w) A (getItem (.ref t) (.ref sl)) Q E s := by
  have htake : sizeOk (.seq ((items.toList.drop (sIx items.size 0 lo)).take (sIx items.size items.size hi - sIx items.size 0 lo)).toArray) := by
    show ((items.toList.drop (sIx items.size 0 lo)).take (sIx items.size items.size hi - sIx items.size 0 lo)).toArray.size ≤ sizeLine
    rw [List.size_toArray, List.length_take, List.length_drop, Array.length_toList]
    omega
  have hj : sIx items.size items.size hi ≤ items.size := sIx_le _ _ (Nat.le_refl _) hi
  obtain ⟨os, hos, hcs, hds⟩ := id hs
  have hTs : s.TypeIs (.ref sl) "slice" := ⟨os, hos, hcs⟩
  unfold getItem
  try with_reducible refine wpAny_holding ?_
  first | refine wpAny_bind (wpAny_pure ?_) | skip
  refine wpAny_bind (wpAny_sequenceKey ht.typeIs (by decide) ?_)
  refine wpAny_bind (wpAny_callSpecial?_slot (name := Str.ofString "__getitem__") ht.typeIs PyProof.Rows.slot_tuple_getitem
    (wpAny_call_entry PyProof.Rows.slot_tuple_getitem ht.typeIs entry_tuple_getitem ?_ (args_tuple_getitem _ _)))
  show wpAny _ _ (Builtin.Tuple.tupleItemsOf (.ref t) >>= _) _ _ s
  refine wpAny_bind (tupleItemsOf_ ht ?_)
  refine wpAny_bind (wpAny_typeOf hTs ?_)
  rw [if_pos (by decide)]
  refine wpAny_bind (sliceApplied_gen hs pl pu ?_)
  have hno : ¬ ((((sIx items.size 0 lo : Nat) : Int) == 0 && (1 : Int) == 1 && (sIx items.size items.size hi - sIx items.size 0 lo) == items.size) = true) := by
    intro q
    rw [Bool.and_eq_true, Bool.and_eq_true] at q
    have q1 : ((sIx items.size 0 lo : Nat) : Int) = 0 := eq_of_beq q.1.1
    have q2 : sIx items.size items.size hi - sIx items.size 0 lo = items.size := eq_of_beq q.2
    exact hw ⟨by omega, by omega⟩
  show wpAny _ _ (if (((sIx items.size 0 lo : Nat) : Int) == 0 && (1 : Int) == 1 && (sIx items.size items.size hi - sIx items.size 0 lo) == items.size) = true then _ else _) _ _ s
  rw [if_neg hno, pick_gen]
  first
    | exact wpAny_bind (m := Builtin.Tuple.tupleExact _) (wpAny_newObj_type (wpAny_pure ⟨_, rfl, wpAny_pure h⟩) htake)
    | exact wpAny_bind (m := Builtin.Tuple.tupleExact _) (wpAny_newObj_type (wpAny_bind (wpAny_pure (wpAny_pure ⟨_, rfl, wpAny_pure h⟩))) htake)
    | exact wpAny_bind (wpAny_bind (m := Builtin.Tuple.tupleExact _) (wpAny_newObj_type (wpAny_pure (wpAny_pure ⟨_, rfl, wpAny_pure h⟩)) htake))
    | exact wpAny_bind (wpAny_bind (m := Builtin.Tuple.tupleExact _) (wpAny_newObj_type (wpAny_pure ⟨_, rfl, wpAny_pure h⟩) htake))
end
end HT
namespace L2
open PySem PySem.Spec PyProof.Rows
abbrev TO := St → Hp → (Option Int → Hp → Prop) → Prop
def PO (X : Cx) (e : Option Expr) (t : TO) : Prop :=
  ∀ (pins : List (Addr × Obj)) (s : Shared) (σ : St) (H : Hp) (Q : Option Int → Hp → Prop), Inv X pins σ H s → t σ H Q →
    wpAny (model X.prog X.w) X.A (evalPart e X.env) (fun u s' => ∃ o H', Inv X pins σ H' s' ∧ IsPart u o ∧ Q o H') X.xe s
def tNoPart : TO := fun _ H Q => Q none H
def tPart (t : TE) : TO := fun σ H Q => t σ H fun x H1 => ∃ i, x = .int i ∧ Q (some i) H1
section
variable {X : Cx} {e : Expr} {te : TE} {lo hi : Option Expr} {tl th : TO} {pos p2 : Pos}
theorem po_none : PO X none tNoPart := by
  intro pins s σ H Q I h
  rw [evalPart_none]
  exact wpAny_pure ⟨none, H, I, .none, h⟩
theorem po_some (h : PE X e te) : PO X (some e) (tPart te) := by
  intro pins s σ H Q I hw
  rw [evalPart_some]
  refine thn (h pins s σ H _ I hw) fun u s1 ⟨x, H1, I1, r1, q1⟩ => ?_
  obtain ⟨i, rfl, q⟩ := q1
  obtain ⟨t, rfl⟩ := r1
  exact ⟨some i, H1, I1, .int i t, q⟩
def SlR (X : Cx) (r : V → Option Int → Option Int → Hp → VK → Prop) : Prop :=
  ∀ (pins : List (Addr × Obj)) (s : Shared) (σ : St) (H : Hp) (x : V) (v vl vu : Value) (lo hi : Option Int) (sl : Addr) (Q : VK), Inv X pins σ H s → RelV x v → s.heap.IsSliceOf sl vl vu .none → IsPart vl lo → IsPart vu hi → r x lo hi H Q →
    ∃ T id, typeLookup (.type T) "__getitem__" = pure (some (.builtin id)) ∧ s.TypeIs v T ∧ wpAny (model X.prog X.w) X.A (getItem v (.ref sl)) (EP X pins σ Q) X.xe s
theorem SlR.or {r r' : V → Option Int → Option Int → Hp → VK → Prop} (h : SlR X r) (h' : SlR X r') : SlR X (fun x lo hi H Q => r x lo hi H Q ∨ r' x lo hi H Q) := by
  intro pins s σ H x v vl vu lo hi sl Q I rx hs pl pu q
  rcases q with q | q
  · exact h pins s σ H x v vl vu lo hi sl Q I rx hs pl pu q
  · exact h' pins s σ H x v vl vu lo hi sl Q I rx hs pl pu q
def tSl (r : V → Option Int → Option Int → Hp → VK → Prop) (te : TE) (tl th : TO) : TE := fun σ H Q => te σ H fun x H1 => tl σ H1 fun l H2 => th σ H2 fun u H3 => r x l u H3 Q
theorem pe_slice {r : V → Option Int → Option Int → Hp → VK → Prop} (hr : SlR X r) (he : PE X e te) (hl : PO X lo tl) (hu : PO X hi th) : PE X (.Subscript e (.Slice lo hi none p2) pos) (tSl r te tl th) := by
  intro pins s σ H Q I h
  refine Subscript_ (thn (he pins s σ H _ I h) fun v s1 ⟨x, H1, I1, r1, q1⟩ => ?_)
  refine wpAny_Slice (thn (hl pins s1 σ H1 _ I1 q1) fun vl s2 ⟨l, H2, I2, pl, q2⟩ => thn (hu pins s2 σ H2 _ I2 q2) fun vu s3 ⟨u, H3, I3, pu, q3⟩ => ?_)
  rw [evalPart_none]
  refine wpAny_pure ?_
  have I4 : Inv X pins σ H3 { s3 with heap := s3.heap.push { cls := .type "slice", data := .fields #[vl, vu, .none] } } := I3.kept (t' := s3.toks) fun b ob q => Heap.get?_push_of_some _ q
  obtain ⟨T, id, hT, ht, hg⟩ := hr pins { s3 with heap := s3.heap.push { cls := .type "slice", data := .fields #[vl, vu, .none] } } σ H3 x v vl vu l u s3.heap.objs.size Q I4 r1 (Heap.IsSliceOf.new ..) pl pu q3
  show wpAny (model X.prog X.w) X.A (subscriptTail e (.Slice lo hi none p2) v (.ref s3.heap.objs.size)) (EP X pins σ Q) X.xe { s3 with heap := s3.heap.push { cls := .type "slice", data := .fields #[vl, vu, .none] } }
  exact tail_any (ops := [.ref s3.heap.objs.size, v]) ht hT hg (by with_unfolding_all rfl)
def cutV (xs : List V) (lo hi : Option Int) : List V := (xs.drop (HT.sIx xs.length 0 lo)).take (HT.sIx xs.length xs.length hi - HT.sIx xs.length 0 lo)
theorem cutV_length (xs : List V) (lo hi : Option Int) : (cutV xs lo hi).length ≤ xs.length := by
  unfold cutV
  rw [List.length_take, List.length_drop]
  omega
def rSlT (K : PySem.W.Frag) : V → Option Int → Option Int → Hp → VK → Prop := fun x lo hi H Q => ∃ a xs, x = .ref a ∧ SqT K H a xs ∧
  ¬ (HT.sIx xs.length 0 lo = 0 ∧ HT.sIx xs.length xs.length hi = xs.length) ∧ ∀ p, H p = none → Q (.ref p) (upd H p (.tup (cutV xs lo hi)))
theorem sl_tup : SlR X (rSlT X.K) := by
  intro pins s σ H x v vl vu lo hi sl Q I rx hs pl pu h
  obtain ⟨a, xs, rfl, hx, hw, q⟩ := h
  cases rx
  obtain ⟨its, r, ht, hz⟩ := I.tuple hx
  have hlen : its.toArray.size = xs.length := by rw [List.size_toArray]; exact r.length.symm
  refine ⟨"tuple", _, PyProof.Rows.slot_tuple_getitem.lookup, ht.typeIs, ?_⟩
  refine HT.getItem_tuple_cut ht hs pl pu (by rw [hlen]; exact hw) ?_ (by rw [hlen]; exact hz)
  rw [hlen]
  refine ⟨.ref s.heap.objs.size, _, I.laid (t' := s.toks) (o := .tup (cutV xs lo hi)) (fun b ob q => Heap.get?_push_of_some _ q) (Nat.le_refl _) ?_, rfl, q _ (I.hok.fresh (Nat.le_refl _))⟩
  exact ⟨Nat.le_trans (cutV_length xs lo hi) hz, _, (r.drop (HT.sIx xs.length 0 lo)).take (HT.sIx xs.length xs.length hi - HT.sIx xs.length 0 lo), IsTup.new _ _⟩
def rCatT (K : PySem.W.Frag) : R2 := fun x y H Q => ∃ a b xs ys, x = .ref a ∧ y = .ref b ∧ SqT K H a xs ∧ SqT K H b ys ∧ xs ≠ [] ∧ xs.length + ys.length ≤ sizeLine ∧
  (ys = [] → Q (.ref a) H) ∧ (ys ≠ [] → ∀ p, H p = none → Q (.ref p) (upd H p (.tup (xs ++ ys))))
theorem Vals.nil_iff {xs : List V} {us : List Value} (r : Vals xs us) : us = [] ↔ xs = [] := by
  cases r with
  | nil => simp
  | cons _ _ => simp
theorem op_catT : OpR X (binaryOp .Add) (rCatT X.K) := by
  intro pins s σ H x y v u Q I rx ry h
  obtain ⟨a, b, xs, ys, rfl, rfl, ha, hb, hx, hz, q1, q2⟩ := h
  cases rx
  cases ry
  obtain ⟨its, r1, p1, _⟩ := I.tuple ha
  obtain ⟨its2, r2, p2, _⟩ := I.tuple hb
  refine HT.cat_tup p1 p2 (fun z => hx (r1.nil_iff.mp z)) (fun z => ⟨.ref a, H, I, rfl, q1 (r2.nil_iff.mp z)⟩) (fun z => ?_) (by rw [← r1.length, ← r2.length]; exact hz)
  refine ⟨.ref s.heap.objs.size, _, I.laid (t' := s.toks) (o := .tup (xs ++ ys)) (fun b ob q => Heap.get?_push_of_some _ q) (Nat.le_refl _) ?_, rfl, q2 (fun w => z (r2.nil_iff.mpr w)) _ (I.hok.fresh (Nat.le_refl _))⟩
  exact ⟨by rw [List.length_append]; exact hz, _, r1.append r2, IsTup.new _ _⟩
end
end L2
namespace L2
open PySem PySem.Spec PyProof.Rows
def ixN (n : Nat) (i : Int) : Option Nat := if 0 ≤ i then (if i < n then some i.toNat else none) else if -(n : Int) ≤ i then some (i + n).toNat else none
def atI {α : Type} (xs : List α) (i : Int) : Option α := (ixN xs.length i).bind fun j => xs[j]?
theorem ixN_seq {n : Nat} {i : Int} {j : Nat} (h : ixN n i = some j) : seqIndex? i n = some j ∧ j < n ∧ -(n : Int) ≤ i ∧ i < n := by
  unfold ixN at h
  by_cases h0 : 0 ≤ i
  · rw [if_pos h0] at h
    by_cases h1 : i < n
    · rw [if_pos h1] at h
      have e : i.toNat = j := Option.some.inj h
      exact ⟨by rw [seqIndex_of h0 h1, e], by omega, by omega, h1⟩
    · rw [if_neg h1] at h; cases h
  · rw [if_neg h0] at h
    by_cases h1 : -(n : Int) ≤ i
    · rw [if_pos h1] at h
      have e : (i + n).toNat = j := Option.some.inj h
      exact ⟨by rw [seqIndex_neg (by omega) h1, e], by omega, h1, by omega⟩
    · rw [if_neg h1] at h; cases h
theorem atI_get {α : Type} {xs : List α} {i : Int} {v : α} (h : atI xs i = some v) : ∃ j, seqIndex? i xs.length = some j ∧ xs[j]? = some v ∧ j < xs.length ∧ -(xs.length : Int) ≤ i ∧ i < xs.length := by
  unfold atI at h
  cases e : ixN xs.length i with
  | none => rw [e] at h; cases h
  | some j =>
    rw [e] at h
    obtain ⟨h1, h2, h3, h4⟩ := ixN_seq e
    exact ⟨j, h1, h, h2, h3, h4⟩
theorem atI_nat {α : Type} {xs : List α} {j : Nat} {v : α} (h : xs[j]? = some v) : atI xs (j : Int) = some v := by
  have hj : j < xs.length := (List.getElem?_eq_some_iff.mp h).1
  have e : ixN xs.length (j : Int) = some j := by
    unfold ixN
    rw [if_pos (by omega), if_pos (by omega)]; simp
  unfold atI; rw [e]; exact h
def PlainIx (b : Expr) : Prop := ∀ o i, subscripted b false o i = operate [o, i] (getItem o i)
def IxR (X : Cx) (r : R2) : Prop :=
  ∀ (value slice : Expr) (pins : List (Addr × Obj)) (s : Shared) (σ : St) (H : Hp) (x y : V) (v u : Value) (Q : VK), Inv X pins σ H s → RelV x v → RelV y u → r x y H Q →
    subscripted slice false v u = operate [v, u] (getItem v u) → wpAny (model X.prog X.w) X.A (subscriptTail value slice v u) (EP X pins σ Q) X.xe s
def MtR (X : Cx) (id : String) (r : V → List V → Hp → VK → Prop) : Prop :=
  ∀ (pins : List (Addr × Obj)) (s : Shared) (σ : St) (H : Hp) (x : V) (xs : List V) (v : Value) (us : List Value) (Q : VK), Inv X pins σ H s → RelV x v → Vals xs us → r x xs H Q →
    wpAny (model X.prog X.w) X.A (call (.builtin id) (v :: us)) (EP X pins σ Q) X.xe s
section
variable {X : Cx} {a b : Expr} {ta tb : TE} {pos : Pos}
theorem IxR.or {r r' : R2} (h : IxR X r) (h' : IxR X r') : IxR X (fun x y H Q => r x y H Q ∨ r' x y H Q) := by
  intro value slice pins s σ H x y v u Q I rx ry q hs
  rcases q with q | q
  · exact h value slice pins s σ H x y v u Q I rx ry q hs
  · exact h' value slice pins s σ H x y v u Q I rx ry q hs
theorem MtR.or {id : String} {r r' : V → List V → Hp → VK → Prop} (h : MtR X id r) (h' : MtR X id r') : MtR X id (fun x xs H Q => r x xs H Q ∨ r' x xs H Q) := by
  intro pins s σ H x xs v us Q I rx rs q
  rcases q with q | q
  · exact h pins s σ H x xs v us Q I rx rs q
  · exact h' pins s σ H x xs v us Q I rx rs q
theorem pe_ix {r : R2} (hr : IxR X r) (ha : PE X a ta) (hb : PE X b tb) (hs : PlainIx b) : PE X (.Subscript a b pos) (tOp r ta tb) := by
  intro pins s σ H Q I h
  exact Subscript_ (binT ha hb I h fun v u s2 x y H2 I2 rx ry q => hr a b pins s2 σ H2 x y v u Q I2 rx ry q (hs _ _))
def rIxL (K : PySem.W.Frag) : R2 := fun x y H Q => ∃ p xs i v, x = .ref p ∧ y = .int i ∧ SqL K H p xs ∧ atI xs i = some v ∧ Q v H
def rIxT (K : PySem.W.Frag) : R2 := fun x y H Q => ∃ p xs i v, x = .ref p ∧ y = .int i ∧ SqT K H p xs ∧ atI xs i = some v ∧ Q v H
def rIxS : R2 := fun x y H Q => ∃ z i c, x = .str z ∧ y = .int i ∧ z.length ≤ sizeLine ∧ atI z.cps.toList i = some c ∧ Q (.str ⟨#[c]⟩) H
theorem ix_list : IxR X (rIxL X.K) := by
  intro value slice pins s σ H x y v u Q I rx ry h hs
  obtain ⟨p, xs, i, z, rfl, rfl, hq, he, q⟩ := h
  cases rx
  obtain ⟨t, rfl⟩ := ry
  obtain ⟨its, r, pl, hz⟩ := I.list hq
  obtain ⟨j, h1, h2, h3, h4, h5⟩ := atI_get he
  obtain ⟨w, ew, rw'⟩ := r.get h2
  have hl := r.length
  have hn := line63
  have fin : EP X pins σ Q w s := ⟨z, H, I, rw', q⟩
  by_cases h0 : 0 ≤ i
  · have hj : i.toNat = j := by
      rw [seqIndex_of h0 h5] at h1
      exact Option.some.inj h1
    exact item_listR pl.isList h0 (by omega) (by rw [hj]; simpa using ew) fin hs
  · have hj : (i + (its.toArray.size : Int)).toNat = j := by
      rw [seqIndex_neg (by omega) h4] at h1
      rw [List.size_toArray, ← hl]
      exact Option.some.inj h1
    exact subscriptTail_builtinR (x := w) pl.isList.typeIs slot_list_getitem.lookup
      (wpAny_getItem_list_neg (Q := fun r s' => r = w ∧ EP X pins σ Q r s') pl.isList (by omega) (by rw [List.size_toArray] <;> omega) (by omega) (by rw [hj]; simpa using ew) ⟨rfl, fin⟩) hs
theorem ix_tup : IxR X (rIxT X.K) := by
  intro value slice pins s σ H x y v u Q I rx ry h hs
  obtain ⟨p, xs, i, z, rfl, rfl, hq, he, q⟩ := h
  cases rx
  obtain ⟨t, rfl⟩ := ry
  obtain ⟨its, r, pl, hz⟩ := I.tuple hq
  obtain ⟨j, h1, h2, h3, h4, h5⟩ := atI_get he
  obtain ⟨w, ew, rw'⟩ := r.get h2
  have hl := r.length
  have hn := line63
  have fin : EP X pins σ Q w s := ⟨z, H, I, rw', q⟩
  exact subscriptTail_builtinR (x := w) pl.typeIs slot_tuple_getitem.lookup
    (getItem_tuple (j := j) (Q := fun r s' => r = w ∧ EP X pins σ Q r s') pl (by omega) (by omega) (by rw [List.size_toArray, ← hl]; exact h1) (by simpa using ew) ⟨rfl, fin⟩) hs
theorem ix_str : IxR X rIxS := by
  intro value slice pins s σ H x y v u Q I rx ry h hs
  obtain ⟨z, i, c, rfl, rfl, hz, he, q⟩ := h
  obtain ⟨t, rfl⟩ := rx
  obtain ⟨t', rfl⟩ := ry
  obtain ⟨j, h1, h2, h3, h4, h5⟩ := atI_get he
  have hl : z.cps.toList.length = z.length := by simp [Str.length]
  rw [hl] at h1 h4 h5
  have hn := line63
  exact tail_any (typeIs_str s z t) slot_str_getitem.lookup (getItem_str (c := c) (by
    have e1 : decide (i < -(2 ^ 63 : Int)) = false := decide_eq_false (by omega)
    have e2 : decide (i ≥ 2 ^ 63) = false := decide_eq_false (by omega)
    rw [e1, e2, Bool.or_false]) (by rw [h1]; simpa using h2) ⟨.str ⟨#[c]⟩, H, I.tok _, ⟨_, rfl⟩, q⟩) hs
def rIx (K : PySem.W.Frag) : R2 := fun x y H Q => rIxL K x y H Q ∨ rIxT K x y H Q ∨ rIxS x y H Q
theorem ix_seq : IxR X (rIx X.K) := ix_list.or (ix_tup.or ix_str)
theorem slice_bounds (lo hi : Option Int) (n : Nat) : (sliceBounds lo hi none n).1 = ((HT.sIx n 0 lo : Nat) : Int) ∧ (sliceBounds lo hi none n).2.1 = ((HT.sIx n n hi : Nat) : Int) ∧ (sliceBounds lo hi none n).2.2 = 1 := by
  refine ⟨?_, ?_, rfl⟩
  · cases lo with
    | none => simp [sliceBounds, HT.sIx]
    | some i =>
      simp only [sliceBounds, HT.sIx, Option.getD_none, show (1 : Int) > 0 by decide, if_true]
      by_cases h : i < 0
      · simp only [h, if_true] <;> omega
      · simp only [h, if_false] <;> omega
  · cases hi with
    | none => simp [sliceBounds, HT.sIx]
    | some i =>
      simp only [sliceBounds, HT.sIx, Option.getD_none, show (1 : Int) > 0 by decide, if_true]
      by_cases h : i < 0
      · simp only [h, if_true] <;> omega
      · simp only [h, if_false] <;> omega
theorem slicePick_cut (its : List Value) (lo hi : Option Int) : slicePick its.toArray lo hi none = ((its.drop (HT.sIx its.length 0 lo)).take (HT.sIx its.length its.length hi - HT.sIx its.length 0 lo)).toArray := by
  obtain ⟨h1, h2, h3⟩ := slice_bounds lo hi its.toArray.size
  unfold slicePick
  rw [h1, h2, h3]
  simp only [sliceRange_one, pick_run, List.size_toArray] <;> rfl
def rSlL (K : PySem.W.Frag) : V → Option Int → Option Int → Hp → VK → Prop := fun x lo hi H Q => ∃ a xs, x = .ref a ∧ SqL K H a xs ∧ ∀ p, H p = none → Q (.ref p) (upd H p (.lst (cutV xs lo hi)))
theorem sl_list : SlR X (rSlL X.K) := by
  intro pins s σ H x v vl vu lo hi sl Q I rx hs pl pu h
  obtain ⟨a, xs, rfl, hx, q⟩ := h
  cases rx
  obtain ⟨its, r, ht, hz⟩ := I.list hx
  have hlen := r.length
  refine ⟨"list", _, slot_list_getitem.lookup, ht.isList.typeIs, ?_⟩
  refine wpAny_getItem_list_slice ht.isList hs pl pu .none (by simp) ?_ (by rw [List.size_toArray] <;> omega)
  rw [slicePick_cut, ← hlen]
  refine ⟨.ref s.heap.objs.size, _, I.laid (t' := s.toks) (o := .lst (cutV xs lo hi)) (fun b ob q => Heap.get?_push_of_some _ q) (Nat.le_refl _) ?_, rfl, q _ (I.hok.fresh (Nat.le_refl _))⟩
  exact ⟨Nat.le_trans (cutV_length xs lo hi) hz, _, 0, (r.drop (HT.sIx xs.length 0 lo)).take (HT.sIx xs.length xs.length hi - HT.sIx xs.length 0 lo), Heap.get?_push_size _ rfl⟩
theorem call_tuple_of : CallR X (.type "tuple") (fun xs H Q => ∃ p ys, xs = [.ref p] ∧ ((SqL X.K H p ys ∧ ∀ l, H l = none → Q (.ref l) (upd H l (.tup ys))) ∨ (SqT X.K H p ys ∧ Q (.ref p) H))) := by
  intro pins s σ H xs us Q I r h
  obtain ⟨p, ys, rfl, h⟩ := h
  obtain ⟨u, rfl, rx⟩ := vals1 r
  cases rx
  rcases h with ⟨hq, q⟩ | ⟨hq, q⟩
  · obtain ⟨its, r', pl, hz⟩ := I.list hq
    have hlen := r'.length
    refine call_tuple_list pl.isList (fun h' kp => ?_) (by simp only [List.size_toArray] <;> omega)
    have I1 : Inv X pins σ H { s with heap := h' } := I.kept (t' := s.toks) kp
    have I2 : Inv X pins σ (upd H h'.objs.size (.tup ys)) { s with heap := h'.push { cls := .type "tuple", data := .seq its.toArray } } :=
      I1.laid (t' := s.toks) (fun b o e => Heap.get?_push_of_some _ e) (Nat.le_refl _) (show ObjOk X.prog X.w _ _ _ (.tup ys) from ⟨hz, its, r', IsTup.new _ _⟩)
    exact ⟨.ref h'.objs.size, _, I2, rfl, q _ (I1.hok.fresh (Nat.le_refl _))⟩
  · obtain ⟨its, r', pl, hz⟩ := I.tuple hq
    exact call_tuple_same pl ⟨.ref p, H, I, rfl, q⟩
def tyV (K : PySem.W.Frag) (T : String) (x : V) (H : Hp) : Prop := match x with
  | .str _ => T = "str"
  | .int _ => T = "int"
  | .ref p => (T = "list" ∧ ∃ xs, SqL K H p xs) ∨ (T = "tuple" ∧ ∃ o, K.lookup p = some o ∧ o.cls = .type "tuple" ∧ o.dict = none) ∨
      (T = "dict" ∧ ((∃ kvs, H p = some (.dK kvs)) ∨ ∃ kvs, H p = some (.dT kvs))) ∨ (T = "set" ∧ ∃ S n, H p = some (.set S n))
  | _ => False
theorem tyV_is {pins : List (Addr × Obj)} {σ : St} {H : Hp} {s : Shared} {T : String} {x : V} {v : Value} (I : Inv X pins σ H s) (r : RelV x v) (ty : tyV X.K T x H) :
    s.TypeIs v T ∧ ∀ a, v = .ref a → ∃ ob, s.heap.get? a = some ob ∧ ob.dict = none := by
  cases x with
  | str z =>
    obtain ⟨t, rfl⟩ := r
    cases (show T = "str" from ty)
    exact ⟨typeIs_str s z t, fun _ e => nomatch e⟩
  | int i =>
    obtain ⟨t, rfl⟩ := r
    cases (show T = "int" from ty)
    exact ⟨typeIs_int s i t, fun _ e => nomatch e⟩
  | ref p =>
    cases r
    rcases ty with ⟨rfl, xs, hq⟩ | ⟨rfl, o, hk, hc, hd⟩ | ⟨rfl, hk⟩ | ⟨rfl, S, n, hk⟩
    · obtain ⟨its, _, pl, _⟩ := I.list hq
      refine ⟨pl.isList.typeIs, fun a e => ?_⟩
      cases e
      obtain ⟨o, n, e, c, hd, _⟩ := pl
      exact ⟨o, e, hd⟩
    · refine ⟨⟨o, I.kIn p o hk, hc⟩, fun a e => ?_⟩
      cases e
      exact ⟨o, I.kIn _ o hk, hd⟩
    · have z : ∃ o, s.heap.get? p = some o ∧ o.ExactDict := by
        rcases hk with ⟨kvs, hk⟩ | ⟨kvs, hk⟩
        · obtain ⟨_, _, _, _, o, _, _, e, ex, _⟩ := I.hok p _ hk
          exact ⟨o, e, ex⟩
        · obtain ⟨_, _, _, _, o, _, _, e, ex, _⟩ := I.hok p _ hk
          exact ⟨o, e, ex⟩
      obtain ⟨o, e, ex⟩ := z
      refine ⟨⟨o, e, ex.1⟩, fun a e2 => ?_⟩
      cases e2
      exact ⟨o, e, ex.2.1⟩
    · obtain ⟨o, _, _, _, e, ex, _⟩ := I.hok p _ hk
      refine ⟨⟨o, e, ex.1⟩, fun a e2 => ?_⟩
      cases e2
      exact ⟨o, e, ex.2.1⟩
  | _ => exact False.elim ty
def tBM0 (K : PySem.W.Frag) (T : String) (r : V → List V → Hp → VK → Prop) (to : TE) : TE := fun σ H Q => to σ H fun x H1 => tyV K T x H1 ∧ r x [] H1 Q
def tBM (K : PySem.W.Frag) (T : String) (r : V → List V → Hp → VK → Prop) (to : TE) (t : TA) : TE := fun σ H Q => to σ H fun x H1 => tyV K T x H1 ∧ t σ H1 fun xs H2 => r x xs H2 Q
variable {o e : Expr} {es : List Expr} {to : TE} {t : TA} {name : Str} {apos cpos : Pos} {T id : String} {r : V → List V → Hp → VK → Prop}
theorem pe_bm0 (pa : PlainAttrs T) (slot : Slot T name id) (hty : typeOf (.builtin id) = pure (.type "method_descriptor")) (hm : MtR X id r) (ho : PE X o to)
    (hbase : attributeBase o name X.env (eval o X.env) = eval o X.env := by rfl) (hline : (apos.endLine == cpos.line) = true := by rfl) : PE X (.Call (.Attribute o name apos) [] [] cpos) (tBM0 X.K T r to) := by
  intro pins s σ H Q I h
  refine wpAny_Call_method0_late hbase hline (thn (ho pins s σ H _ I h) fun v s1 ⟨x, H1, I1, r1, ty, q1⟩ => ?_)
  obtain ⟨h1, h2⟩ := tyV_is I1 r1 ty
  exact ⟨T, id, pa, slot, hty, h1, h2, Calls.callWith_builtin rfl (PySem.evalArgs_none (hm pins s1 σ H1 x [] v [] Q I1 r1 .nil q1))⟩
theorem pe_bm (pa : PlainAttrs T) (slot : Slot T name id) (hty : typeOf (.builtin id) = pure (.type "method_descriptor")) (hm : MtR X id r) (ho : PE X o to) (ha : PA X (e :: es) t)
    (hbase : attributeBase o name X.env (eval o X.env) = eval o X.env := by rfl)
    (hfew : ((backTo cpos (starEach (e :: es) X.env)).all (fun x => !x.1) && (backToKw cpos (keywordEach [] X.env)).all (fun x => x.1.isSome)
      && decide ((e :: es).length + ([] : List Keyword).length + (if ([] : List Keyword).isEmpty then 0 else 1) < 30)) = true := by rfl)
    (hline : (apos.endLine == cpos.line) = true := by rfl) (hs : starEach (e :: es) X.env = (false, eval e X.env) :: starEach es X.env := by rfl) (hplain : (backTo cpos (starEach es X.env)).any (·.1) = false := by rfl) :
    PE X (.Call (.Attribute o name apos) (e :: es) [] cpos) (tBM X.K T r to t) := by
  intro pins s σ H Q I h
  refine wpAny_Call_method_late hbase hfew hline rfl (thn (ho pins s σ H _ I h) fun v s1 ⟨x, H1, I1, r1, ty, q1⟩ => ?_)
  obtain ⟨h1, h2⟩ := tyV_is I1 r1 ty
  refine ⟨T, id, pa, slot, hty, h1, h2, ?_⟩
  have hA := ha cpos pins s1 σ H1 _ I1 q1
  rw [hs] at hA ⊢
  refine Calls.callWith_builtin (by show (false || (backTo cpos (starEach es X.env)).any (·.1)) = false; rw [hplain] <;> rfl) (Calls.evalArgs_plain ?_)
  exact thn hA fun us s2 ⟨vs, H2, I2, r2, q2⟩ => hm pins s2 σ H2 x vs v us Q I2 r1 r2 q2
end
end L2
namespace L2
open PySem PySem.Spec PyProof.Rows
def MtM (X : Cx) (id : String) (r : V → List V → Hp → VK → Prop) : Prop :=
  ∀ (pins : List (Addr × Obj)) (s : Shared) (σ : St) (H : Hp) (x : V) (xs : List V) (v : Value) (us : List Value) (Q : VK), Inv X pins σ H s → RelV x v → Vals xs us → r x xs H Q →
    wpAny (model X.prog X.w) X.A (call (.builtin id) (v :: us)) (EP X pins σ Q) X.xe s
theorem Vals.one : ∀ {x : V} {us : List Value}, Vals [x] us → ∃ u, us = [u] ∧ RelV x u
  | _, _, .cons r .nil => ⟨_, rfl, r⟩
theorem Vals.two : ∀ {x y : V} {us : List Value}, Vals [x, y] us → ∃ u v, us = [u, v] ∧ RelV x u ∧ RelV y v
  | _, _, _, .cons r (.cons q .nil) => ⟨_, _, rfl, r, q⟩
theorem Vals.zero : ∀ {us : List Value}, Vals [] us → us = []
  | _, .nil => rfl
theorem Vals.dropLast {xs : List V} {us : List Value} (h : Vals xs us) : Vals xs.dropLast us.dropLast := by
  induction h with
  | nil => exact .nil
  | cons r t ih =>
    cases t with
    | nil => exact .nil
    | cons q t' => exact .cons r ih
theorem Vals.reverse {xs : List V} {us : List Value} (h : Vals xs us) : Vals xs.reverse us.reverse := by
  induction h with
  | nil => exact .nil
  | cons r t ih => rw [List.reverse_cons, List.reverse_cons]; exact Vals.append ih (.cons r .nil)
theorem erase_last {α : Type} (l : List α) : l.eraseIdx (l.length - 1) = l.dropLast := by
  induction l with
  | nil => rfl
  | cons a r ih =>
    cases r with
    | nil => rfl
    | cons b r =>
      have e : (a :: b :: r).length - 1 = ((b :: r).length - 1) + 1 := by
        have h1 : (a :: b :: r).length = r.length + 2 := rfl
        have h2 : (b :: r).length = r.length + 1 := rfl
        omega
      rw [e, List.eraseIdx_cons_succ, ih]
      all_goals rfl
section
variable {X : Cx} {pins : List (Addr × Obj)} {σ : St} {H : Hp} {s : Shared} {l b : Addr} {xs ys zs : List V}
theorem Inv.lset {its its' : List Value} {n : Nat} {f : Array Value → Array Value} {t' : Nat} (I : Inv X pins σ H s) (hH : H l = some (.lst xs))
    (e : s.heap.get? l = some { cls := .type "list", data := .seq its.toArray n }) (hf : f its.toArray = its'.toArray) (hv : Vals ys its') (hz : ys.length ≤ sizeLine) :
    Inv X pins σ (upd H l (.lst ys)) { s with heap := s.heap.update l (Obj.mapSeq f), toks := t' } := by
  have q := PySem.IsL.update e f
  rw [hf] at q
  refine I.write (x := l) (e := l) (by rw [hH]; exact trivial) (.inl rfl) (fun b' u hb hu => (Heap.get?_update_other s.heap (Obj.mapSeq f) (Ne.symm hb)).trans hu) ⟨_, q⟩ ?_
  exact ⟨hz, its', _, hv, q⟩
theorem Inv.fresh (I : Inv X pins σ H s) : H s.heap.objs.size = none := I.hok.fresh (Nat.le_refl _)
theorem Inv.lstM (I : Inv X pins σ H s) (hH : H l = some (.lst xs)) : xs.length ≤ sizeLine ∧ ∃ (its : List Value) (n : Nat), Vals xs its ∧ xs.length = its.length ∧ s.heap.get? l = some { cls := .type "list", data := .seq its.toArray n } := by
  obtain ⟨z, its, n, r, e⟩ := I.hok l _ hH
  exact ⟨z, its, n, r, r.length, e⟩
theorem notLongL {n : Nat} (h : n ≤ sizeLine) : Builtin.List.listTooLong n = false := by
  unfold Builtin.List.listTooLong
  exact decide_eq_false (by omega)
end
section
variable {X : Cx}
def rAppend : V → List V → Hp → VK → Prop := fun x vs H Q => ∃ l xs y, x = .ref l ∧ vs = [y] ∧ H l = some (.lst xs) ∧ xs.length < sizeLine ∧ Q .non (upd H l (.lst (xs ++ [y])))
theorem mt_append : MtM X "list.append" rAppend := by
  intro pins s σ H x vs v us Q I rx rv h
  obtain ⟨l, xs, y, rfl, rfl, hH, hz, q⟩ := h
  cases rx
  obtain ⟨u, rfl, ru⟩ := rv.one
  obtain ⟨z, its, n, r, hl, e⟩ := I.lstM hH
  refine call_meets F.slot_list_append ⟨_, e, rfl⟩ F.entry_list_append (F.args_list_append_2 _ _) (PySem.list_append l its.toArray n u (by rw [List.size_toArray]; omega)) ⟨e, ?_⟩
  refine ⟨.non, _, I.lset (its' := its ++ [u]) hH e (by simp) (r.append (.cons ru .nil)) ?_, rfl, q⟩
  rw [List.length_append, List.length_singleton]
  omega
def rPop : V → List V → Hp → VK → Prop := fun x vs H Q => ∃ l xs y, x = .ref l ∧ vs = [] ∧ H l = some (.lst xs) ∧ xs[xs.length - 1]? = some y ∧ Q y (upd H l (.lst xs.dropLast))
theorem mt_pop : MtM X "list.pop" rPop := by
  intro pins s σ H x vs v us Q I rx rv h
  obtain ⟨l, xs, y, rfl, rfl, hH, hy, q⟩ := h
  cases rx
  have hus := rv.zero
  subst hus
  obtain ⟨z, its, n, r, hl, e⟩ := I.lstM hH
  obtain ⟨u, hu, ru⟩ := r.get hy
  have hy' : its.toArray[its.toArray.size - 1]? = some u := by
    show its.toArray[its.length - 1]? = some u
    rw [← Array.getElem?_toList, ← hl]
    exact hu
  refine call_meets F.slot_list_pop ⟨_, e, rfl⟩ F.entry_list_pop (F.args_list_pop_1 _) (MeetsSeq.list_pop_last l its.toArray n u hy' (by rw [List.size_toArray]; omega)) ⟨e, ?_⟩
  refine ⟨y, _, I.lset (its' := its.dropLast) hH e ?_ r.dropLast ?_, ru, q⟩
  · show its.toArray.eraseIdxIfInBounds (its.toArray.size - 1) = its.dropLast.toArray
    rw [List.size_toArray, List.eraseIdxIfInBounds_toArray, erase_last]
  · rw [List.length_dropLast]
    omega
end
section
variable {prog : Program} {w : World} {A : Around} {E : Value → Shared → Prop} {s : Shared}
set_option maxRecDepth 100000 in
end
section
variable {X : Cx}
end
end L2
namespace Att
open PySem PySem.W PySem.Calls PyProof.Rows
theorem ints_of_wellAll {P : Params} {h : Heap} : ∀ (ns : List Int) (vs : List Value), WellAll P h vs (ns.map WData.int) → IntsAre vs ns := by
  intro ns
  induction ns with
  | nil =>
    intro vs w
    rw [List.map_nil] at w
    cases w
    exact .nil
  | cons n ns ih =>
    intro vs w
    rw [List.map_cons] at w
    cases w with
    | cons a b =>
      cases a
      exact .cons _ _ (ih _ b)
theorem script_of {l : OpenLaw} {n : Nat} (hn : l.most = some n) {P : Params} {h : Heap} {args : List WData} {vals : List Value}
    (hpre : l.row.toRowW.claim.pre args = true) (hwl : WellAll P h vals args) :
    ∃ a vs ns, vals = [Value.ref a] ∧ args = [WData.list (ns.map WData.int)] ∧ h.get? a = some { cls := .type "list", data := .seq vs.toArray } ∧ IntsAre vs ns ∧ ns.length ≤ n := by
  have hsh : WShape.hasAll [] args [.list .int] = true := (pre_splitW hpre).1
  have hc : l.pre.holds [] { args := args } = true := (pre_splitW hpre).2
  obtain ⟨d, r, rfl, h1, h2⟩ := hasAllW_cons hsh
  obtain rfl := hasAllW_nil h2
  obtain ⟨xs, rfl, h3⟩ := hasW_list h1
  obtain ⟨ns, rfl⟩ := items_int h3
  have hlen : ns.length ≤ n := by
    unfold OpenLaw.pre at hc
    have h4 : (WTm.not (.lt (.lit (.int (n : Int))) (.len (.arg 0)))).holds [] { args := [.list (ns.map .int)] } = true := by
      have h4 := (holds_andW hc).1
      rw [hn] at h4
      exact h4
    have h5 := condW_of h4 (w_not (w_lt w_lit (w_len_list (w_arg rfl))))
    rw [List.length_map] at h5
    refine Nat.le_of_not_lt fun q => ?_
    have q' : (n : Int) < ((ns.length : Nat) : Int) := by omega
    first
      | (rw [decide_eq_true q'] at h5; exact absurd h5 (by decide))
      | (simp at h5; omega)
  cases hwl with
  | cons w1 w2 =>
    cases w2
    cases w1 with
    | list ho hall => exact ⟨_, _, ns, rfl, rfl, ho, ints_of_wellAll ns _ hall, hlen⟩
theorem post_true (l : OpenLaw) (args : List WData) : l.row.toRowW.claim.post args (.bool true) args = true :=
  postW_of (r := l.row.toRowW) (X := (true == true))
    (show WShape.has [] (.bool true) .bool = true by first | rfl | decide | simp [WShape.has, WShape.arms, WShape.armsAll])
    (show (WTm.eq .res (.lit (.bool true))).value [] { args := args, res := some (.bool true), after := args } = some (.bool (true == true)) from w_eq_bool (w_res rfl) w_lit) rfl
theorem attach_call {l : OpenLaw} {n : Nat} {q : Program} {loose : List Str} {XP : (Str → Option Value) → Heap → Prop} {YP : World → Heap → Prop} {d : DefRec}
    (hn : l.most = some n) (hdf : d.params.defaults = [])
    (call : ∀ (w : World) (s₀ s₁ : Shared) (mg mb : Str → Option Value) (fa : Addr) (o : Obj) (pm cd doc : Value) (a : Addr) (vs : List Value) (ns : List Int),
      Ground q loose [] XP w s₀ mg mb s₁.heap → YP w s₁.heap →
      s₁.heap.get? fa = some o → o.data = .func (docDef d.name d.params d.body d.scope pm cd doc) → s₁.heap.CodeRec cd d.name → mg d.name = some (.ref fa) →
      s₁.heap.get? a = some { cls := .type "list", data := .seq vs.toArray } → IntsAre vs ns → ns.length ≤ n → s₁.gens = #[] →
      codeAny (model l.prog w) callerA (.call (.ref fa) ⟨[.ref a], []⟩) (fun r s' => r = .ok (.ret (.bool true)) ∧ OldK s₁.heap s'.heap ∧ s'.os = s₁.os ∧ AllBare s'.gens) s₁) :
    WalkO q loose XP YP l.row.toRowW d [] (fun f vs => PySem.call f vs) := by
  intro w s₀ s₁ mg mb G Y fa o pm cd doc dV kV ho hd hcd hD hmg hg args vals as hpre hlay hrd hwl hlo
  obtain rfl : dV = .none := Dflts.none hD hdf
  obtain rfl : kV = .none := Dflts.noKw hD
  obtain ⟨a, vs, ns, rfl, rfl, hobj, hints, hlen⟩ := script_of hn hpre hwl
  refine enter_call (codeAny_mono (call w s₀ s₁ mg mb fa o pm cd doc a vs ns G Y ho (fd_plain hd) hcd hmg hobj hints hlen hg) fun r s' hq => ?_)
  obtain ⟨rfl, h2, h3, h4⟩ := hq
  exact ⟨.inl ⟨.bool true, .bool true, [], rfl, fun _ => rfl, .bool true, post_true l _, fun _ => ⟨List.Pairwise.nil, fun _ hm => (nomatch hm)⟩⟩, h2, h3, h4⟩
section
variable {prog : Program} {w : World} {A : Around} {E : Value → Shared → Prop} {s : Shared} {K : Frag}
end
end Att
namespace L2
open PySem PySem.Spec PyProof.Rows
theorem vals_ints : ∀ {vs : List Value} {ns : List Int}, IntsAre vs ns → Vals (ns.map V.int) vs
  | _, _, .nil => .nil
  | _, _, .cons n t h => .cons ⟨t, rfl⟩ (vals_ints h)
def Only (H : Hp) : Prop := ∀ b, H b = none ∨ ∃ o xs, H b = some (.frz o (.lst xs))
theorem law_call {P : Program} {w : World} {K : PySem.W.Frag} {mg mb : Str → Option Value} {CX : CXT} {k : Nat} {fa a : Addr} {fd : FuncData} {x : Str} {sp : Sp} {s₁ : Shared} {vs : List Value} {ns : List Int}
    (KX : K.In s₁.heap) (hns : s₁.heap.Ns mainGlobals mg) (hb : s₁.heap.Ns builtinsNs mb) (hbb : ∀ x : Str, x ≠ "__name__" → mb x = bootBuiltins x) (hlim : s₁.heap.NoLimit) (hg : s₁.gens = #[])
    (ha : s₁.heap.get? a = some { cls := .type "list", data := .seq vs.toArray }) (hi : IntsAre vs ns) (hl : ns.length ≤ sizeLine) (hr : Room k callerA)
    (F : ∀ base : Heap, K.In base → base.Ns mainGlobals mg → FnOk P w K mg base CX k fa fd [x] sp) (hbind : ∀ (s : Shared) (u : Value), BindsTo s fd ⟨[u], []⟩ [(x, u)])
    (hsp : ∀ H : Hp, Only H → SqL K H a (ns.map V.int) → sp [.ref a] H (fun v _ => v = .bl true) fun _ _ _ => False)
    (hCX : ∀ H e s', CX [] H s₁ (fun _ _ _ => False) e s' → False) :
    codeAny (model P w) callerA (.call (.ref fa) ⟨[.ref a], []⟩) (fun r s' => r = .ok (.ret (.bool true)) ∧ OldK s₁.heap s'.heap ∧ s'.os = s₁.os ∧ AllBare s'.gens) s₁ := by
  have rv := vals_ints hi
  have lenV := hi.length
  -- from an abstract heap in which nothing but the script may be tracked
  have core : ∀ H : Hp, Only H → SqL K H a (ns.map V.int) → HOk P w H s₁.heap → (∀ b, H b ≠ none → b = a) → (H a ≠ none → K.lookup a = none) →
      codeAny (model P w) callerA (.call (.ref fa) ⟨[.ref a], []⟩) (fun r s' => r = .ok (.ret (.bool true)) ∧ OldK s₁.heap s'.heap ∧ s'.os = s₁.os ∧ AllBare s'.gens) s₁ := by
    intro H hO hS hok hA hK
    have base_of : ∀ {b : Addr} {o : Obj}, s₁.heap.get? b = some o → H b = none → (hidT s₁.heap H).get? b = some o := fun e n => hidT_get e n
    have noA : ∀ {b : Addr} {o : Obj} {es : Array DictEntry} {ep : Nat}, s₁.heap.get? b = some o → o.data = .dict es ep → H b = none := fun {b o es ep} e d => by
      cases q : H b with
      | none => rfl
      | some u =>
        have e' : b = a := hA b (by rw [q]; simp)
        subst e'
        rw [ha] at e; cases e
        have d' : Data.seq vs.toArray _ = Data.dict es ep := d
        cases d'
    have nsK : ∀ {b : Addr} {m : Str → Option Value}, s₁.heap.Ns b m → (hidT s₁.heap H).Ns b m := fun {b m} ⟨o, es, ep, e, d, r⟩ => ⟨o, es, ep, base_of e (noA e d), d, r⟩
    have hKb : K.In (hidT s₁.heap H) := fun b o e => base_of (KX b o e) (by
      cases q : H b with
      | none => rfl
      | some u =>
        have e' : b = a := hA b (by rw [q]; simp)
        subst e'
        rw [hK (by rw [q]; simp)] at e; cases e)
    have hM : Mod K mg (hidT s₁.heap H) := ⟨hKb, nsK hns, ⟨mb, nsK hb, hbb⟩, let ⟨mc, h1, h2⟩ := hlim; ⟨mc, nsK h1, h2⟩⟩
    have e0 : Env0 P w K mg (hidT s₁.heap H) callerA [] s₁ H := ⟨rfl, hM, fun b o e => of_hidT e, Nat.le_of_eq (hidT_size _ _), trivial, fun b hb => absurd (show b ∈ ([] : List Addr) from hb) (by simp), hok, .of_eq hg⟩
    refine codeAny_mono ((F _ hKb (nsK hns)).run callerA [] s₁ H ⟨[.ref a], []⟩ [.ref a] [.ref a] _ _ hr e0 (hbind s₁ (.ref a)) (.cons rfl .nil) (hsp H hO hS)) fun r s' h => ?_
    cases r with
    | error e => exact (hCX H e s' h).elim
    | ok fl =>
      cases fl with
      | next => exact False.elim h
      | brk => exact False.elim h
      | cont => exact False.elim h
      | ret u =>
        obtain ⟨v, H', os, bare, un, hok', r', q⟩ := h
        have q' : v = .bl true := q
        subst q'
        obtain rfl : u = Value.bool true := r'
        refine ⟨rfl, OldK.of_keep fun b o e => ?_, os, bare⟩
        cases q : H b with
        | none => exact un.keep b o e q (by intro z; exact absurd (show b ∈ ([] : List Addr) from z) (by simp)) (by simp)
        | some u =>
          rcases hO b with z | ⟨ob, xs, z⟩
          · rw [q] at z; cases z
          · have z2 := un.frzs b ob _ z
            obtain ⟨e1, _⟩ := hok b _ z
            obtain ⟨e2, _⟩ := hok' b _ z2
            rw [e] at e1; cases e1
            exact e2
  cases hk : K.lookup a with
  | some o =>
    -- the script is one of the module's own objects
    have e := KX a o hk
    rw [ha] at e
    cases e
    refine core (fun _ => none) (fun _ => .inl rfl) (.inr ⟨_, vs.toArray, _, hk, rfl, rfl, rfl, by rw [List.size_toArray, lenV]; exact hl, by simpa using rv⟩) (fun b u z => by have z' : (none : Option HO) = some u := z; cases z') (fun b z => absurd rfl z) fun z => absurd rfl z
  | none =>
    refine core (fun b => if b = a then some (.frz { cls := .type "list", data := .seq vs.toArray } (.lst (ns.map V.int))) else none) (fun b => ?_) (.inl (.inr ⟨{ cls := .type "list", data := .seq vs.toArray }, if_pos rfl⟩)) (fun b u z => ?_) (fun b z => ?_) fun _ => hk
    · by_cases hb : b = a
      · exact .inr ⟨_, _, if_pos hb⟩
      · exact .inl (if_neg hb)
    · by_cases hb : b = a
      · have z' := (if_pos hb).symm.trans z
        cases z'
        subst hb
        exact ⟨ha, by rw [List.length_map]; exact hl, vs, _, rv, ha⟩
      · have z' := (if_neg hb).symm.trans z
        cases z'
    · by_cases hb : b = a
      · exact hb
      · exact absurd (if_neg hb) z
end L2
namespace L2
open PySem PySem.Spec PyProof.Rows
theorem walk_of {l : PySem.W.OpenLaw} {n k : Nat} {q : Program} {loose : List Str} {XP : (Str → Option Value) → Heap → Prop} {YP : World → Heap → Prop} {d : DefRec} {K : Params → PySem.W.Frag} {CX : World → CXT} {sp : World → Sp} {x : Str}
    (hn : l.most = some n) (hn2 : n ≤ sizeLine) (hdf : d.params.defaults = []) (hr : Room k callerA)
    (hY : ∀ (w : World) (h : Heap), YP w h → (K w.params).In h)
    (F : ∀ (w : World) (mg : Str → Option Value) (fa : Addr) (h : Heap), (K w.params).In h → h.Ns mainGlobals mg → mg d.name = some (.ref fa) →
      ∃ fd : FuncData, (∀ (s : Shared) (u : Value), BindsTo s fd ⟨[u], []⟩ [(x, u)]) ∧
        ∀ base : Heap, (K w.params).In base → base.Ns mainGlobals mg → FnOk l.prog w (K w.params) mg base (CX w) k fa fd [x] (sp w))
    (hsp : ∀ (w : World) (H : Hp) (a : Addr) (ns : List Int), ns.length ≤ n → Only H → SqL (K w.params) H a (ns.map V.int) → sp w [.ref a] H (fun v _ => v = .bl true) fun _ _ _ => False)
    (hCX : ∀ (w : World) (H : Hp) (s : Shared) (e : Value) (s' : Shared), CX w [] H s (fun _ _ _ => False) e s' → False) :
    PySem.W.WalkO q loose XP YP l.row.toRowW d [] (fun f vs => PySem.call f vs) := by
  refine Att.attach_call hn hdf fun w s₀ s₁ mg mb fa o pm cd doc a vs ns G Y ho hd hcd hmg hobj hints hlen hg => ?_
  have KX := hY w _ Y
  obtain ⟨fd, hb, hF⟩ := F w mg fa _ KX G.T.g hmg
  exact law_call KX G.T.g G.T.b G.T.builtins G.T.nolimit hg hobj hints (Nat.le_trans hlen hn2) hr hF hb (fun H hO hS => hsp w H a ns hlen hO hS) fun H e s' => hCX w H s₁ e s'
end L2
namespace L2
open PySem PySem.Spec PyProof.Rows
def defArgs (s : Stmt) : Arguments := match s with
  | .FunctionDef _ a _ _ _ _ _ _ _ _ => a
  | _ => { posonlyargs := [], args := [], vararg := none, kwonlyargs := [], kw_defaults := [], kwarg := none, defaults := [] }
def defBody (s : Stmt) : List Stmt := match s with
  | .FunctionDef _ _ b _ _ _ _ _ _ _ => b
  | _ => []
def defScope (s : Stmt) : Scope := match s with
  | .FunctionDef _ _ _ _ _ _ sc _ _ _ => sc
  | _ => { kind := .function, names := [], isGenerator := false, isCoroutine := false }
abbrev E0 : XK := fun _ _ _ => False
structure Fun (K : PySem.W.Frag) (x qual : Str) (st : Stmt) (f : Addr) (fd : FuncData) : Prop where
  ex : ∃ (oc : Value) (od : Option Addr) (kV doc pm : Value) (an : Option Addr) (cdv ct : Value) (osl : Array (Option Value)),
    fd = PySem.W.fnOf x qual (defArgs st) (defBody st) (defScope st) .none kV doc pm an cdv ct ∧ K.lookup f = some ⟨oc, od, .func fd, osl⟩ ∧ PySem.W.codeIn K cdv qual = true
  kp : PySem.W.keepIn K (.ref f) = true
section
variable {P : Program} {w : World} {K : PySem.W.Frag} {mg : Str → Option Value} {base : Heap}
theorem Fun.binds {x qual : Str} {st : Stmt} {f : Addr} {fd : FuncData} {ps : List Str} (F : Fun K x qual st f fd)
    (h : ∀ (kV doc pm : Value) (an : Option Addr) (cdv ct : Value) (us : List Value), us.length = ps.length → bindArgs (PySem.W.fnOf x qual (defArgs st) (defBody st) (defScope st) .none kV doc pm an cdv ct) ⟨us, []⟩ = pure (ps.zip us)) : Binds K fd ps [] := by
  obtain ⟨oc, od, kV, doc, pm, an, cdv, ct, osl, rfl, lk, hcd⟩ := F.ex
  exact .all (h kV doc pm an cdv ct)
theorem fun_mk {x qual : Str} {st : Stmt} {f : Addr} {oc : Value} {od an : Option Addr} {osl : Array (Option Value)} {kV doc pm cdv ct : Value} (l : K.lookup f = some ⟨oc, od, .func (PySem.W.fnOf x qual (defArgs st) (defBody st) (defScope st) .none kV doc pm an cdv ct), osl⟩)
    (c : PySem.W.codeIn K cdv qual = true) (k : PySem.W.keepIn K (.ref f) = true) : Fun K x qual st f (PySem.W.fnOf x qual (defArgs st) (defBody st) (defScope st) .none kV doc pm an cdv ct) := ⟨⟨oc, od, kV, doc, pm, an, cdv, ct, osl, rfl, l, c⟩, k⟩
end
section
variable {X : Cx}
end
theorem iteF {A B : Prop} (h : B) : if false = true then A else B := by
  rw [if_neg Bool.false_ne_true]
  exact h
theorem iteT {A B : Prop} (h : A) : if true = true then A else B := by
  rw [if_pos rfl]
  exact h
def Same (H H' : Hp) : Prop := ∀ b o, H b = some o → H' b = some o
theorem Same.refl (H : Hp) : Same H H := fun _ _ h => h
theorem Same.trans {H H1 H2 : Hp} (a : Same H H1) (b : Same H1 H2) : Same H H2 := fun c o h => b c o (a c o h)
theorem Same.free {H H' : Hp} (e : Same H H') {l : Addr} (h : H' l = Option.none) : H l = Option.none := by
  cases q : H l with
  | none => rfl
  | some o =>
    rw [e l o q] at h
    cases h
theorem Same.seq {K : PySem.W.Frag} {H H' : Hp} {a : Addr} {xs : List V} (e : Same H H') (h : SqL K H a xs) : SqL K H' a xs := by
  rcases h with (h | ⟨o, h⟩) | h
  · exact .inl (.inl (e _ _ h))
  · exact .inl (.inr ⟨o, e _ _ h⟩)
  · exact .inr h
end L2


namespace Wy
open PySem PySem.Spec PyProof.Rows L2
inductive D where
  | non | bl (b : Bool) | int (i : Int) | str (x : Str) | tup (xs : List D) | lst (xs : List D)
mutual
def Den (K : PySem.W.Frag) (G : Hp) : D → V → Prop
  | .non, v => v = .non
  | .bl b, v => v = .bl b
  | .int i, v => v = .int i
  | .str x, v => v = .str x
  | .tup ds, v => ∃ a vs, v = .ref a ∧ SqT K G a vs ∧ DenL K G ds vs
  | .lst ds, v => ∃ a vs, v = .ref a ∧ SqL K G a vs ∧ DenL K G ds vs
def DenL (K : PySem.W.Frag) (G : Hp) : List D → List V → Prop
  | [], vs => vs = []
  | d :: ds, vs => ∃ v r, vs = v :: r ∧ Den K G d v ∧ DenL K G ds r
end
theorem Same.seqT {K : PySem.W.Frag} {H H' : Hp} {a : Addr} {xs : List V} (e : Same H H') (h : SqT K H a xs) : SqT K H' a xs := by
  rcases h with (h | ⟨o, h⟩) | h
  · exact .inl (.inl (e _ _ h))
  · exact .inl (.inr ⟨o, e _ _ h⟩)
  · exact .inr h
section
variable {K : PySem.W.Frag} {G G' : Hp}
mutual
theorem Den.mono (e : Same G G') : (d : D) → (v : V) → Den K G d v → Den K G' d v
  | .non, _, h => h
  | .bl _, _, h => h
  | .int _, _, h => h
  | .str _, _, h => h
  | .tup ds, _, h => by
    unfold Den at h ⊢
    obtain ⟨a, vs, e1, s, l⟩ := h
    exact ⟨a, vs, e1, Same.seqT e s, DenL.mono e ds vs l⟩
  | .lst ds, _, h => by
    unfold Den at h ⊢
    obtain ⟨a, vs, e1, s, l⟩ := h
    exact ⟨a, vs, e1, e.seq s, DenL.mono e ds vs l⟩
theorem DenL.mono (e : Same G G') : (ds : List D) → (vs : List V) → DenL K G ds vs → DenL K G' ds vs
  | [], _, h => by unfold DenL at h ⊢; exact h
  | d :: ds, vs, h => by
    unfold DenL at h ⊢
    obtain ⟨v, r, e1, h1, h2⟩ := h
    exact ⟨v, r, e1, Den.mono e d v h1, DenL.mono e ds r h2⟩
end
theorem Den.up {d : D} {v : V} (h : Den K G d v) (e : Same G G') : Den K G' d v := Den.mono e d v h
theorem DenL.up {ds : List D} {vs : List V} (h : DenL K G ds vs) (e : Same G G') : DenL K G' ds vs := DenL.mono e ds vs h
theorem denL_nil {vs : List V} : DenL K G [] vs ↔ vs = [] := by unfold DenL; exact Iff.rfl
theorem denL_cons {d : D} {ds : List D} {vs : List V} : DenL K G (d :: ds) vs ↔ ∃ v r, vs = v :: r ∧ Den K G d v ∧ DenL K G ds r := by
  constructor
  · intro h; unfold DenL at h; exact h
  · intro h; unfold DenL; exact h
theorem den_tup {ds : List D} {v : V} : Den K G (.tup ds) v ↔ ∃ a vs, v = .ref a ∧ SqT K G a vs ∧ DenL K G ds vs := by
  constructor
  · intro h; unfold Den at h; exact h
  · intro h; unfold Den; exact h
theorem den_lst {ds : List D} {v : V} : Den K G (.lst ds) v ↔ ∃ a vs, v = .ref a ∧ SqL K G a vs ∧ DenL K G ds vs := by
  constructor
  · intro h; unfold Den at h; exact h
  · intro h; unfold Den; exact h
theorem DenL.one {d : D} {v : V} (h : Den K G d v) : DenL K G [d] [v] := denL_cons.mpr ⟨v, [], rfl, h, denL_nil.mpr rfl⟩
theorem DenL.length : ∀ {ds : List D} {vs : List V}, DenL K G ds vs → ds.length = vs.length
  | [], vs, h => by rw [denL_nil.mp h]; rfl
  | d :: ds, vs, h => by
    obtain ⟨v, r, rfl, _, h2⟩ := denL_cons.mp h
    simp [DenL.length h2]
theorem DenL.get : ∀ {ds : List D} {vs : List V} {i : Nat} {d : D}, DenL K G ds vs → ds[i]? = some d → ∃ v, vs[i]? = some v ∧ Den K G d v
  | [], _, _, _, _, e => by simp at e
  | d :: ds, vs, 0, x, h, e => by
    obtain ⟨v, r, rfl, h1, _⟩ := denL_cons.mp h
    simp at e; subst e
    exact ⟨v, rfl, h1⟩
  | d :: ds, vs, i + 1, x, h, e => by
    obtain ⟨v, r, rfl, _, h2⟩ := denL_cons.mp h
    obtain ⟨u, e1, e2⟩ := DenL.get (i := i) (d := x) h2 (by simpa using e)
    exact ⟨u, by simpa using e1, e2⟩
theorem DenL.append : ∀ {ds es : List D} {vs us : List V}, DenL K G ds vs → DenL K G es us → DenL K G (ds ++ es) (vs ++ us)
  | [], _, vs, _, h, h' => by rw [denL_nil.mp h]; exact h'
  | d :: ds, es, vs, us, h, h' => by
    obtain ⟨v, r, rfl, h1, h2⟩ := denL_cons.mp h
    exact denL_cons.mpr ⟨v, r ++ us, rfl, h1, DenL.append h2 h'⟩
theorem DenL.take : ∀ {ds : List D} {vs : List V} (n : Nat), DenL K G ds vs → DenL K G (ds.take n) (vs.take n)
  | _, _, 0, _ => by rw [List.take_zero, List.take_zero]; exact denL_nil.mpr rfl
  | [], vs, n + 1, h => by rw [denL_nil.mp h]; exact denL_nil.mpr (by simp)
  | d :: ds, vs, n + 1, h => by
    obtain ⟨v, r, rfl, h1, h2⟩ := denL_cons.mp h
    exact denL_cons.mpr ⟨v, r.take n, rfl, h1, DenL.take n h2⟩
theorem DenL.drop : ∀ {ds : List D} {vs : List V} (n : Nat), DenL K G ds vs → DenL K G (ds.drop n) (vs.drop n)
  | _, _, 0, h => h
  | [], vs, n + 1, h => by rw [denL_nil.mp h]; exact denL_nil.mpr (by simp)
  | d :: ds, vs, n + 1, h => by
    obtain ⟨v, r, rfl, h1, h2⟩ := denL_cons.mp h
    exact DenL.drop n h2
theorem DenL.dropLast {ds : List D} {vs : List V} (h : DenL K G ds vs) : DenL K G ds.dropLast vs.dropLast := by
  rw [List.dropLast_eq_take, List.dropLast_eq_take, h.length]
  exact h.take _
end
structure Ext (H G H' G' : Hp) : Prop where
  gg : Same G G'
  gh : Same G' H'
  hh : Same H H'
  fr : ∀ a, H a ≠ none → G' a = G a
theorem Ext.refl {H G : Hp} (h : Same G H) : Ext H G H G := ⟨Same.refl _, h, Same.refl _, fun _ _ => rfl⟩
theorem some_ne {α : Type} {o : Option α} {x : α} (h : o = some x) : o ≠ none := by rw [h]; exact fun z => nomatch z
theorem Same.ne {H H' : Hp} (e : Same H H') {a : Addr} (h : H a ≠ none) : H' a ≠ none := by
  cases q : H a with
  | none => exact absurd q h
  | some o => exact some_ne (e a o q)
theorem Ext.trans {H G H1 G1 H2 G2 : Hp} (a : Ext H G H1 G1) (b : Ext H1 G1 H2 G2) : Ext H G H2 G2 :=
  ⟨a.gg.trans b.gg, b.gh, a.hh.trans b.hh, fun c h => (b.fr c (Same.ne a.hh h)).trans (a.fr c h)⟩
theorem same_upd {H : Hp} {p : Addr} (h : H p = none) (o : HO) : Same H (upd H p o) := fun b u q => by rw [upd_ne (ne_of_none q h)]; exact q
theorem Ext.alloc {H G : Hp} {p : Addr} (h : Same G H) (hp : H p = none) (o : HO) : Ext H G (upd H p o) (upd G p o) where
  gg := same_upd (h.free hp) o
  gh := fun b u q => by
    by_cases e : b = p
    · subst e; rw [upd_same] at q ⊢; exact q
    · rw [upd_ne e] at q ⊢; exact h b u q
  hh := same_upd hp o
  fr := fun a ha => upd_ne (fun e => ha (by rw [e]; exact hp))
theorem Ext.own {H G : Hp} {p : Addr} (h : Same G H) (hp : H p = none) (o : HO) : Ext H G (upd H p o) G :=
  ⟨Same.refl _, h.trans (same_upd hp o), same_upd hp o, fun _ _ => rfl⟩
theorem Ext.take {H G H' G' : Hp} {p : Addr} {o : HO} (e : Ext H G H' G') (hp : H p = none) (h' : H' p = some o) (g' : G' p = none) : Ext H G H' (upd G' p o) where
  gg := e.gg.trans (same_upd g' o)
  gh := fun b u q => by
    by_cases z : b = p
    · subst z; rw [upd_same] at q; rw [h']; exact q
    · rw [upd_ne z] at q; exact e.gh b u q
  hh := e.hh
  fr := fun a ha => (upd_ne (fun z => ha (by rw [z]; exact hp))).trans (e.fr a ha)
inductive Sl where
  | un | val (d : D) | own (xs : List D) | exc (c : Str) | fn (a : Addr) | par (a : Addr) (xs : List D)
def Sl.mu : Sl → Bool
  | .own _ => true
  | .par _ _ => true
  | _ => false
def Sl.cont : Sl → Option (List D)
  | .own xs => some xs
  | .par _ xs => some xs
  | _ => none
def Sl.put (x : Sl) (ys : List D) : Sl := match x with
  | .own _ => .own ys
  | .par a _ => .par a ys
  | y => y
def ExcIs (a C : Addr) : Heap → Prop := fun h => ∃ o, h.get? a = some o ∧ o.cls = .ref C
def XcIs (K : PySem.W.Frag) (G : Hp) (c : Str) (v : V) : Prop := ∃ a C, v = .ref a ∧ PySem.W.nsIn K mainGlobals c = some (some (.ref C)) ∧ G a = some (.ext (ExcIs a C))
theorem XcIs.up {K : PySem.W.Frag} {G G' : Hp} {c : Str} {v : V} (h : XcIs K G c v) (e : Same G G') : XcIs K G' c v := by
  obtain ⟨a, C, e1, e2, e3⟩ := h
  exact ⟨a, C, e1, e2, e _ _ e3⟩
abbrev Ga := List Sl
def SlOk (K : PySem.W.Frag) (H₀ H G : Hp) : Sl → Option (Option V) → Prop
  | .un, _ => True
  | .val d, o => ∃ v, o = some (some v) ∧ Den K G d v
  | .own xs, o => ∃ a vs, o = some (some (.ref a)) ∧ H a = some (.lst vs) ∧ H₀ a = none ∧ G a = none ∧ DenL K G xs vs
  | .exc c, o => ∃ v, o = some (some v) ∧ XcIs K G c v
  | .fn a, o => o = some (some (.ref a))
  | .par a xs, o => o = some (some (.ref a)) ∧ ∃ vs, H a = some (.lst vs) ∧ H₀ a = none ∧ G a = none ∧ DenL K G xs vs
structure Rep (K : PySem.W.Frag) (H₀ G₀ : Hp) (Γ : Ga) (σ : L2.St) (H G : Hp) : Prop where
  ex : Ext H₀ G₀ H G
  ln : Γ.length = σ.length
  all : ∀ (i : Nat) x, Γ[i]? = some x → SlOk K H₀ H G x σ[i]?
  di : ∀ (i j : Nat) x y a, Γ[i]? = some x → Γ[j]? = some y → x.mu = true → y.mu = true → σ[i]? = some (some (V.ref a)) → σ[j]? = some (some (V.ref a)) → i = j
section
variable {K : PySem.W.Frag} {H₀ G₀ H G H' G' : Hp} {Γ : Ga} {σ : L2.St}
theorem Rep.gh (R : Rep K H₀ G₀ Γ σ H G) : Same G H := R.ex.gh
theorem Rep.vl (R : Rep K H₀ G₀ Γ σ H G) (i : Nat) (d : D) (h : Γ[i]? = some (.val d)) : ∃ v, σ[i]? = some (some v) ∧ Den K G d v := R.all i _ h
theorem Rep.ow (R : Rep K H₀ G₀ Γ σ H G) (i : Nat) (xs : List D) (h : Γ[i]? = some (.own xs)) : ∃ a vs, σ[i]? = some (some (.ref a)) ∧ H a = some (.lst vs) ∧ H₀ a = none ∧ G a = none ∧ DenL K G xs vs := R.all i _ h
theorem Rep.fr (R : Rep K H₀ G₀ Γ σ H G) (i : Nat) (a : Addr) (h : Γ[i]? = some (.fn a)) : σ[i]? = some (some (.ref a)) := R.all i _ h
theorem Rep.mo (R : Rep K H₀ G₀ Γ σ H G) {i : Nat} {x : Sl} {xs : List D} (h : Γ[i]? = some x) (hc : x.cont = some xs) : ∃ a vs, σ[i]? = some (some (.ref a)) ∧ H a = some (.lst vs) ∧ H₀ a = none ∧ G a = none ∧ DenL K G xs vs := by
  have q := R.all i x h
  cases x <;> first | cases hc | skip
  · exact q
  · obtain ⟨q1, vs, q2⟩ := q
    exact ⟨_, vs, q1, q2⟩
theorem Sl.mu_of {x : Sl} {xs : List D} (h : x.cont = some xs) : x.mu = true := by cases x <;> first | rfl | cases h
theorem Sl.cont_of {x : Sl} (h : x.mu = true) : ∃ xs, x.cont = some xs := by cases x <;> first | exact ⟨_, rfl⟩ | cases h
theorem SlOk.after {x : Sl} {o : Option (Option V)} (h : SlOk K H₀ H G x o) (e : Ext H G H' G') : SlOk K H₀ H' G' x o := by
  cases x with
  | un => trivial
  | val d => obtain ⟨v, e1, e2⟩ := h; exact ⟨v, e1, e2.up e.gg⟩
  | own xs =>
    obtain ⟨a, vs, e1, e2, e3, e4, e5⟩ := h
    exact ⟨a, vs, e1, e.hh _ _ e2, e3, (e.fr a (some_ne e2)).trans e4, e5.up e.gg⟩
  | exc c => obtain ⟨v, e1, e2⟩ := h; exact ⟨v, e1, e2.up e.gg⟩
  | fn a => exact h
  | par a xs =>
    obtain ⟨e1, vs, e2, e3, e4, e5⟩ := h
    exact ⟨e1, vs, e.hh _ _ e2, e3, (e.fr a (some_ne e2)).trans e4, e5.up e.gg⟩
theorem Rep.after (R : Rep K H₀ G₀ Γ σ H G) (e : Ext H G H' G') : Rep K H₀ G₀ Γ σ H' G' := ⟨R.ex.trans e, R.ln, fun i x h => (R.all i x h).after e, R.di⟩
theorem get_set_self {α : Type} {l : List α} {i : Nat} {x y : α} (h : (l.set i x)[i]? = some y) : y = x := by
  rw [List.getElem?_set] at h
  simp at h
  exact h.2.symm
theorem set_at {α : Type} {l : List α} {i j : Nat} {x y : α} (h : (l.set i x)[j]? = some y) : (j = i ∧ y = x ∧ i < l.length) ∨ (i ≠ j ∧ l[j]? = some y) := by
  by_cases e : i = j
  · subst e
    have hi := (List.getElem?_eq_some_iff.mp h).1
    rw [List.length_set] at hi
    exact .inl ⟨rfl, get_set_self h, hi⟩
  · rw [List.getElem?_set_ne e] at h
    exact .inr ⟨e, h⟩
theorem Rep.putS (R : Rep K H₀ G₀ Γ σ H G) (i : Nat) {x : Sl} {o : Option V} (h : SlOk K H₀ H G x (some o))
    (nw : x.mu = true → ∀ (j : Nat) y a, j ≠ i → Γ[j]? = some y → y.mu = true → o = some (V.ref a) → σ[j]? ≠ some (some (V.ref a))) : Rep K H₀ G₀ (Γ.set i x) (σ.set i o) H G where
  ex := R.ex
  ln := by rw [List.length_set, List.length_set]; exact R.ln
  all := fun j y q => by
    rcases set_at q with ⟨rfl, rfl, hi⟩ | ⟨ne, q⟩
    · rw [List.getElem?_set_self (by rw [← R.ln]; exact hi)]; exact h
    · rw [List.getElem?_set_ne ne]; exact R.all j y q
  di := fun j k y z a q1 q2 m1 m2 s1 s2 => by
    rcases set_at q1 with ⟨e1, e2, hi⟩ | ⟨n1, r1⟩
    · rcases set_at q2 with ⟨e3, e4, _⟩ | ⟨n2, r2⟩
      · exact e1.trans e3.symm
      · subst e1 e2
        rw [List.getElem?_set_ne n2] at s2
        rw [List.getElem?_set_self (by rw [← R.ln]; exact hi)] at s1
        exact absurd s2 (nw m1 k z a (Ne.symm n2) r2 m2 (Option.some.inj s1))
    · rw [List.getElem?_set_ne n1] at s1
      rcases set_at q2 with ⟨e3, e4, hi⟩ | ⟨n2, r2⟩
      · subst e3 e4
        rw [List.getElem?_set_self (by rw [← R.ln]; exact hi)] at s2
        exact absurd s1 (nw m2 j y a (Ne.symm n1) r1 m1 (Option.some.inj s2))
      · rw [List.getElem?_set_ne n2] at s2
        exact R.di j k y z a r1 r2 m1 m2 s1 s2
theorem Rep.setV (R : Rep K H₀ G₀ Γ σ H G) (i : Nat) {d : D} {v : V} (h : Den K G d v) : Rep K H₀ G₀ (Γ.set i (.val d)) (σ.set i (some v)) H G :=
  R.putS i (x := .val d) ⟨v, rfl, h⟩ fun z => nomatch z
theorem Rep.setO (R : Rep K H₀ G₀ Γ σ H G) (i : Nat) {xs : List D} {a : Addr} {vs : List V} (h : H a = some (.lst vs)) (h0 : H₀ a = none) (hg : G a = none) (hd : DenL K G xs vs)
    (nw : ∀ (j : Nat) y, j ≠ i → Γ[j]? = some y → y.mu = true → σ[j]? ≠ some (some (.ref a))) : Rep K H₀ G₀ (Γ.set i (.own xs)) (σ.set i (some (.ref a))) H G :=
  R.putS i (x := .own xs) ⟨a, vs, rfl, h, h0, hg, hd⟩ fun _ j y b hj hy hm e => by cases e; exact nw j y hj hy hm
theorem Rep.mutG (R : Rep K H₀ G₀ Γ σ H G) {i : Nat} {x : Sl} {xs ys : List D} {a : Addr} {us : List V} (hi : Γ[i]? = some x) (hx : x.cont = some xs) (hs : σ[i]? = some (some (.ref a))) (hd : DenL K G ys us) :
    Rep K H₀ G₀ (Γ.set i (x.put ys)) σ (upd H a (.lst us)) G := by
  obtain ⟨a', vs, e1, e2, e3, e4, e5⟩ := R.mo hi hx
  rw [hs] at e1
  cases e1
  have gne : ∀ b o, G b = some o → b ≠ a := fun b o q z => by rw [z, e4] at q; cases q
  have hne : ∀ b o, H₀ b = some o → b ≠ a := fun b o q z => by rw [z, e3] at q; cases q
  have pm : (x.put ys).mu = true := by cases x <;> first | rfl | cases hx
  refine ⟨⟨R.ex.gg, fun b o q => ?_, fun b o q => ?_, R.ex.fr⟩, by rw [List.length_set]; exact R.ln, fun j y q => ?_, fun j k y z b q1 q2 m1 m2 s1 s2 => ?_⟩
  · rw [upd_ne (gne b o q)]; exact R.ex.gh b o q
  · rw [upd_ne (hne b o q)]; exact R.ex.hh b o q
  · rcases set_at q with ⟨rfl, rfl, _⟩ | ⟨ne, q⟩
    · cases x with
      | own zs => exact ⟨a, us, hs, upd_same, e3, e4, hd⟩
      | par b zs =>
        have := (R.all j _ hi).1
        rw [hs] at this
        cases this
        exact ⟨hs, us, upd_same, e3, e4, hd⟩
      | _ => cases hx
    · have old := R.all j y q
      have nb : ∀ b, y.mu = true → σ[j]? = some (some (V.ref b)) → b ≠ a := fun b hm hb z => by
        subst z
        exact ne (R.di i j _ _ b hi q (Sl.mu_of hx) hm hs hb)
      cases y with
      | un => trivial
      | val d => exact old
      | exc c => exact old
      | fn c => exact old
      | own zs =>
        obtain ⟨b, ws, f1, f2, f3, f4, f5⟩ := old
        exact ⟨b, ws, f1, by rw [upd_ne (nb b rfl f1)]; exact f2, f3, f4, f5⟩
      | par b zs =>
        obtain ⟨f1, ws, f2, f3, f4, f5⟩ := old
        exact ⟨f1, ws, by rw [upd_ne (nb b rfl f1)]; exact f2, f3, f4, f5⟩
  · have o1 : ∀ (j : Nat) y, (Γ.set i (x.put ys))[j]? = some y → y.mu = true → ∃ y', Γ[j]? = some y' ∧ y'.mu = true := fun j y q hm => by
      rcases set_at q with ⟨rfl, rfl, _⟩ | ⟨ne, q⟩
      · exact ⟨_, hi, Sl.mu_of hx⟩
      · exact ⟨_, q, hm⟩
    obtain ⟨z1, r1, r1'⟩ := o1 j y q1 m1
    obtain ⟨z2, r2, r2'⟩ := o1 k z q2 m2
    exact R.di j k _ _ b r1 r2 r1' r2' s1 s2
theorem Rep.mut (R : Rep K H₀ G₀ Γ σ H G) {i : Nat} {xs ys : List D} {a : Addr} {us : List V} (hi : Γ[i]? = some (.own xs)) (hs : σ[i]? = some (some (.ref a))) (hd : DenL K G ys us) :
    Rep K H₀ G₀ (Γ.set i (.own ys)) σ (upd H a (.lst us)) G := R.mutG hi rfl hs hd
theorem Rep.weak (R : Rep K H₀ G₀ Γ σ H G) {Γ' : Ga} (hl : Γ'.length = Γ.length) (h : ∀ (i : Nat) x, Γ'[i]? = some x → x = .un ∨ Γ[i]? = some x) : Rep K H₀ G₀ Γ' σ H G where
  ex := R.ex
  ln := hl.trans R.ln
  all := fun i x q => by
    rcases h i _ q with z | z
    · subst z; trivial
    · exact R.all i x z
  di := fun i j x y a q1 q2 m1 m2 => by
    rcases h i _ q1 with z | z
    · subst z; cases m1
    · rcases h j _ q2 with z' | z'
      · subst z'; cases m2
      · exact R.di i j x y a z z' m1 m2
end
end Wy


namespace Wy
open PySem PySem.Spec PyProof.Rows L2
theorem nr {α : Type} {a b : α} (h : a = b) : a = b := h
inductive R (α : Type) where
  | ok (a : α) | ex (c : Str) | no
namespace R
variable {α β : Type}
def bind (x : R α) (f : α → R β) : R β := match x with
  | .ok a => f a
  | .ex c => .ex c
  | .no => .no
def want (x : R α) (E : Str → Prop) (P : α → Prop) : Prop := match x with
  | .ok a => P a
  | .ex c => E c
  | .no => False
def ofO (o : Option α) : R α := match o with
  | some a => .ok a
  | none => .no
@[simp] theorem bind_ok (a : α) (f : α → R β) : (R.ok a).bind f = f a := nr rfl
@[simp] theorem ofO_some (a : α) : ofO (some a) = .ok a := nr rfl
theorem _root_.Wy.wImp {x : R α} {E E' : Str → Prop} {P P' : α → Prop} (w : x.want E P) (he : ∀ c, E c → E' c) (h : ∀ a, P a → P' a) : x.want E' P' := by
  cases x with
  | ok a => exact h a w
  | ex c => exact he c w
  | no => exact w
theorem _root_.Wy.wStep {x : R α} {f : α → R β} {E E' : Str → Prop} {P : β → Prop} {P' : α → Prop} (w : (x.bind f).want E P) (he : ∀ c, E c → E' c) (h : ∀ a, (f a).want E P → P' a) : x.want E' P' := by
  cases x with
  | ok a => exact h a w
  | ex c => exact he c w
  | no => exact w
theorem _root_.Wy.wOfO {o : Option α} {E : Str → Prop} {P : α → Prop} (w : (ofO o).want E P) : ∃ a, o = some a ∧ P a := by
  cases o with
  | some a => exact ⟨a, rfl, w⟩
  | none => exact w.elim
theorem _root_.Wy.wOfOb {o : Option α} {f : α → R β} {E : Str → Prop} {P : β → Prop} (w : ((ofO o).bind f).want E P) : ∃ a, o = some a ∧ (f a).want E P := by
  cases o with
  | some a => exact ⟨a, rfl, w⟩
  | none => exact w.elim
end R
def R.calm {α : Type} (x : R α) : R α := match x with
  | .ex _ => .no
  | r => r
theorem calm_ok {α : Type} {x : R α} {a : α} (h : x.calm = .ok a) : x = .ok a := by
  cases x with
  | ok b => exact h
  | ex c => cases h
  | no => cases h
@[simp] theorem calm_of_ok {α : Type} (a : α) : (R.ok a).calm = .ok a := nr rfl
section
variable {K : PySem.W.Frag} {G : Hp}
theorem den_non : Den K G .non .non := by unfold Den; rfl
theorem den_bl {b : Bool} : Den K G (.bl b) (.bl b) := by unfold Den; rfl
theorem den_int {i : Int} : Den K G (.int i) (.int i) := by unfold Den; rfl
theorem den_str {x : Str} : Den K G (.str x) (.str x) := by unfold Den; rfl
theorem den_nonE {v : V} (h : Den K G .non v) : v = .non := by unfold Den at h; exact h
theorem den_blE {b : Bool} {v : V} (h : Den K G (.bl b) v) : v = .bl b := by unfold Den at h; exact h
theorem den_intE {i : Int} {v : V} (h : Den K G (.int i) v) : v = .int i := by unfold Den at h; exact h
theorem den_strE {x : Str} {v : V} (h : Den K G (.str x) v) : v = .str x := by unfold Den at h; exact h
end
abbrev XP := Str → L2.St → Hp → Hp → Prop
abbrev XP0 : XP := fun _ _ _ _ => False
def exAt (W : XP) (σ : L2.St) (H G : Hp) : Str → Prop := fun c => ∀ H' G', Ext H G H' G' → W c σ H' G'
theorem exAt.up {W : XP} {σ : L2.St} {H G H1 G1 : Hp} {c : Str} (h : exAt W σ H G c) (e : Ext H G H1 G1) : exAt W σ H1 G1 c := fun H' G' e' => h H' G' (e.trans e')
def Tells (K : PySem.W.Frag) (W : XP) (t : TE) (f : Ga → R D) : Prop :=
  ∀ (H₀ G₀ : Hp) (Γ : Ga) (σ : L2.St) (H G : Hp), Rep K H₀ G₀ Γ σ H G → ∀ Q : VK, (f Γ).want (exAt W σ H G) (fun d => ∀ v H' G', Ext H G H' G' → Den K G' d v → Q v H') → t σ H Q
def EvD (X : Cx) (W : XP) (e : Expr) (f : Ga → R D) : Prop := ∃ t, PE X e t ∧ Tells X.K W t f
def TellsL (K : PySem.W.Frag) (W : XP) (t : TA) (f : Ga → R (List D)) : Prop :=
  ∀ (H₀ G₀ : Hp) (Γ : Ga) (σ : L2.St) (H G : Hp), Rep K H₀ G₀ Γ σ H G → ∀ Q : List V → Hp → Prop, (f Γ).want (exAt W σ H G) (fun ds => ∀ vs H' G', Ext H G H' G' → DenL K G' ds vs → Q vs H') → t σ H Q
def AvD (X : Cx) (W : XP) (es : List Expr) (f : Ga → R (List D)) : Prop := ∃ t, PA X es t ∧ (∀ Γ ds, f Γ = .ok ds → ds.length = es.length) ∧ TellsL X.K W t f
def TellsT (K : PySem.W.Frag) (W : XP) (t : TT) (f : Ga → R Bool) : Prop :=
  ∀ (H₀ G₀ : Hp) (Γ : Ga) (σ : L2.St) (H G : Hp), Rep K H₀ G₀ Γ σ H G → ∀ Q : Bool → Hp → Prop, (f Γ).want (exAt W σ H G) (fun b => ∀ H' G', Ext H G H' G' → Q b H') → t σ H Q
def TvD (X : Cx) (W : XP) (e : Expr) (f : Ga → R Bool) : Prop := ∃ t, PT X e t ∧ TellsT X.K W t f
def WvD (X : Cx) (W : XP) (e : Expr) (f : Ga → R Bool) : Prop := ∃ t, PW X e t ∧ TellsT X.K W t f
def SqP (K : PySem.W.Frag) (H G : Hp) (b : Bool) (a : Addr) (vs : List V) : Prop := match b with
  | true => SqT K G a vs
  | false => SqL K H a vs
theorem SqP.up {K : PySem.W.Frag} {H G H' G' : Hp} {b : Bool} {a : Addr} {vs : List V} (h : SqP K H G b a vs) (e : Ext H G H' G') : SqP K H' G' b a vs := by
  cases b with
  | true => exact Same.seqT e.gg h
  | false => exact e.hh.seq h
theorem SqP.or {K : PySem.W.Frag} {H G : Hp} {b : Bool} {a : Addr} {vs : List V} (h : SqP K H G b a vs) (g : Same G H) : SqL K H a vs ∨ SqT K H a vs := by
  cases b with
  | true => exact .inr (Same.seqT g h)
  | false => exact .inl h
def TellsS (K : PySem.W.Frag) (W : XP) (t : TE) (f : Ga → R (Bool × List D)) : Prop :=
  ∀ (H₀ G₀ : Hp) (Γ : Ga) (σ : L2.St) (H G : Hp), Rep K H₀ G₀ Γ σ H G → ∀ Q : VK, (f Γ).want (exAt W σ H G) (fun p => ∀ a vs H' G', Ext H G H' G' → SqP K H' G' p.1 a vs → DenL K G' p.2 vs → Q (.ref a) H') → t σ H Q
def SqD (X : Cx) (W : XP) (e : Expr) (f : Ga → R (Bool × List D)) : Prop := ∃ t, PE X e t ∧ TellsS X.K W t f
def TellsO (K : PySem.W.Frag) (W : XP) (t : TE) (f : Ga → R (List D)) : Prop :=
  ∀ (H₀ G₀ : Hp) (Γ : Ga) (σ : L2.St) (H G : Hp), Rep K H₀ G₀ Γ σ H G → ∀ Q : VK, (f Γ).want (exAt W σ H G) (fun ds => ∀ p vs H' G', Ext H G H' G' → H p = none → H' p = some (.lst vs) → G' p = none → DenL K G' ds vs → Q (.ref p) H') → t σ H Q
def OwD (X : Cx) (W : XP) (e : Expr) (f : Ga → R (List D)) : Prop := ∃ t, PE X e t ∧ TellsO X.K W t f
section
variable {X : Cx} {W : XP} {a b c e : Expr} {es rest : List Expr} {fa fb fc f : Ga → R D} {fl : Ga → R (List D)} {pos : Pos}
def eC (d : D) : Ga → R D := fun _ => .ok d
theorem eC_tells {v : V} {d : D} (h : ∀ G, Den X.K G d v) : Tells X.K W (tC v) (eC d) := fun _ _ _ _ H G R Q w => w _ H G (.refl R.gh) (h G)
theorem ev_int {i j} : EvD X W (.Constant (.int i) j pos) (eC (.int i)) := ⟨_, pe_int, eC_tells fun _ => den_int⟩
theorem ev_bl {i j} : EvD X W (.Constant (.bool i) j pos) (eC (.bl i)) := ⟨_, pe_bl, eC_tells fun _ => den_bl⟩
theorem ev_str {i j} : EvD X W (.Constant (.str i) j pos) (eC (.str i)) := ⟨_, pe_str, eC_tells fun _ => den_str⟩
def eV (i : Nat) : Ga → R D := fun Γ => match Γ[i]? with
  | some (.val d) => .ok d
  | _ => .no
theorem ev_var (i : Nat) {x : Str} (hN : X.N[i]? = some x := by rfl) (hv : Vis X.env.scope x := by first | exact Or.inl rfl | exact Or.inr (Or.inl rfl) | exact Or.inr (Or.inr rfl)) (hd : (x == ("__debug__" : Str)) = false := by decide)
    (hcd : (x == ("__classdict__" : Str)) = false := by decide) : EvD X W (.Name x pos) (eV i) :=
  ⟨_, pe_var hN hv hd hcd, fun _ _ Γ _ H G R Q w => by
    unfold eV at w
    split at w
    · rename_i d q
      obtain ⟨v, e1, e2⟩ := R.vl i d q
      exact ⟨v, e1, w v H G (.refl R.gh) e2⟩
    · exact w.elim⟩
def sV (i : Nat) : Ga → R (Bool × List D) := fun Γ => match Γ[i]? with
  | some (.val (.tup ds)) => .ok (true, ds)
  | some (.val (.lst ds)) => .ok (false, ds)
  | some (.own ds) => .ok (false, ds)
  | some (.par _ ds) => .ok (false, ds)
  | _ => .no
theorem sq_var (i : Nat) {x : Str} (hN : X.N[i]? = some x := by rfl) (hv : Vis X.env.scope x := by first | exact Or.inl rfl | exact Or.inr (Or.inl rfl) | exact Or.inr (Or.inr rfl)) (hd : (x == ("__debug__" : Str)) = false := by decide)
    (hcd : (x == ("__classdict__" : Str)) = false := by decide) : SqD X W (.Name x pos) (sV i) :=
  ⟨_, pe_var hN hv hd hcd, fun _ _ Γ _ H G R Q w => by
    unfold sV at w
    split at w
    · rename_i z
      obtain ⟨v, e1, e2⟩ := R.vl i _ z
      obtain ⟨a, vs, rfl, s, l⟩ := den_tup.mp e2
      exact ⟨_, e1, w a vs H G (.refl R.gh) s l⟩
    · rename_i z
      obtain ⟨v, e1, e2⟩ := R.vl i _ z
      obtain ⟨a, vs, rfl, s, l⟩ := den_lst.mp e2
      exact ⟨_, e1, w a vs H G (.refl R.gh) (R.gh.seq s) l⟩
    · rename_i z
      obtain ⟨a, vs, e1, e2, _, _, e5⟩ := R.ow i _ z
      exact ⟨_, e1, w a vs H G (.refl R.gh) (SqL.of e2) e5⟩
    · rename_i z
      obtain ⟨e1, vs, e2, _, _, e5⟩ := R.all i _ z
      exact ⟨_, e1, w _ vs H G (.refl R.gh) (SqL.of e2) e5⟩
    · exact w.elim⟩
def seqOf : D → Option (Bool × List D)
  | .tup ds => some (true, ds)
  | .lst ds => some (false, ds)
  | _ => none
def sE (f : Ga → R D) : Ga → R (Bool × List D) := fun Γ => (f Γ).bind fun d => .ofO (seqOf d)
theorem sq_ev (h : EvD X W e f) : SqD X W e (sE f) := by
  obtain ⟨t, p, q⟩ := h
  refine ⟨t, p, fun H₀ G₀ Γ σ H G R Q w => ?_⟩
  refine q _ _ _ _ _ _ R _ (wStep w (fun _ h => h) fun d w v H' G' E1 d1 => ?_)
  obtain ⟨⟨b, ds⟩, e2, w⟩ := wOfO w
  cases d with
  | tup xs =>
    cases e2
    obtain ⟨a, vs, rfl, s, l⟩ := den_tup.mp d1
    exact w a vs H' G' E1 s l
  | lst xs =>
    cases e2
    obtain ⟨a, vs, rfl, s, l⟩ := den_lst.mp d1
    exact w a vs H' G' E1 (E1.gh.seq s) l
  | _ => cases e2
def sO (fl : Ga → R (List D)) : Ga → R (Bool × List D) := fun Γ => (fl Γ).bind fun ds => .ok (false, ds)
theorem sq_ow (h : OwD X W e fl) : SqD X W e (sO fl) := by
  obtain ⟨t, p, q⟩ := h
  refine ⟨t, p, fun H₀ G₀ Γ σ H G R Q w => ?_⟩
  exact q _ _ _ _ _ _ R _ (wStep w (fun _ h => h) fun ds w p vs H' G' E1 hp h' g' l => w p vs H' G' E1 (SqL.of h') l)
def eO (fl : Ga → R (List D)) : Ga → R D := fun Γ => (fl Γ).bind fun ds => .ok (.lst ds)
theorem ev_ow (h : OwD X W e fl) : EvD X W e (eO fl) := by
  obtain ⟨t, p, q⟩ := h
  refine ⟨t, p, fun H₀ G₀ Γ σ H G R Q w => ?_⟩
  refine q _ _ _ _ _ _ R _ (wStep w (fun _ h => h) fun ds w p vs H' G' E1 hp h' g' l => ?_)
  exact w _ H' (upd G' p (.lst vs)) (E1.take hp h' g') (den_lst.mpr ⟨p, vs, rfl, SqL.of upd_same, l.up (same_upd g' _)⟩)
theorem ev_glob {x : Str} {v : V} {u : Value} {d : D} (hg : Gl X x) (hm : X.mg x = some u) (r : RelV v u) (hd : Den X.K (fun _ => none) d v) (hdb : (x == ("__debug__" : Str)) = false := by decide) : EvD X W (.Name x pos) (eC d) :=
  ⟨_, pe_glob hg hm r hdb, eC_tells fun _ => hd.up fun _ _ z => nomatch z⟩
def aNil : Ga → R (List D) := fun _ => .ok []
def aCons (f : Ga → R D) (fl : Ga → R (List D)) : Ga → R (List D) := fun Γ => (f Γ).bind fun d => (fl Γ).bind fun ds => .ok (d :: ds)
theorem av_nil : AvD X W [] aNil := ⟨_, pa_nil, fun _ _ e => by cases e; rfl, fun _ _ _ _ H G R Q w => w [] H G (.refl R.gh) (denL_nil.mpr rfl)⟩
theorem av_cons (ha : EvD X W e f) (hr : AvD X W es fl) (hs : starEach (e :: es) X.env = (false, eval e X.env) :: starEach es X.env := by rfl) : AvD X W (e :: es) (aCons f fl) := by
  obtain ⟨t, p, q⟩ := ha
  obtain ⟨ts, ps, hl, qs⟩ := hr
  refine ⟨_, pa_cons p ps hs, fun Γ ds e' => ?_, fun H₀ G₀ Γ σ H G R Q w => ?_⟩
  · unfold aCons at e'
    cases h1 : f Γ with
    | ok d =>
      rw [h1] at e'
      cases h2 : fl Γ with
      | ok r =>
        rw [h2] at e'
        cases e'
        simp [hl Γ r h2]
      | _ => rw [h2] at e'; cases e'
    | _ => rw [h1] at e'; cases e'
  · refine q _ _ _ _ _ _ R _ (wStep w (fun _ h => h) fun d w v H1 G1 E1 d1 => ?_)
    refine qs _ _ _ _ _ _ (R.after E1) _ (wStep w (fun _ h => h.up E1) fun ds w vs H2 G2 E2 d2 => ?_)
    exact w _ H2 G2 (E1.trans E2) (denL_cons.mpr ⟨v, vs, rfl, d1.up E2.gg, d2⟩)
theorem small24 {n : Nat} (h : n ≤ 1000) : n ≤ sizeLine := Nat.le_trans h (by decide)
theorem wLen {x : R (List D)} {n : Nat} {E : Str → Prop} {P : List D → Prop} (hl : ∀ ds, x = .ok ds → ds.length = n) (w : x.want E P) : x.want E (fun ds => ds.length = n ∧ P ds) := by
  cases x with
  | ok ds => exact ⟨hl ds rfl, w⟩
  | ex c => exact w
  | no => exact w
def eTup (fl : Ga → R (List D)) : Ga → R D := fun Γ => (fl Γ).bind fun ds => .ok (.tup ds)
theorem ev_tup {k : Nat} (h : AvD X W es fl) (hl : es.length ≤ 1000 := by decide) : EvD X W (.Tuple es k pos) (eTup fl) := by
  obtain ⟨t, p, hn, q⟩ := h
  refine ⟨_, pe_tup p, fun H₀ G₀ Γ σ H G R Q w => ?_⟩
  refine q _ _ _ _ _ _ R _ (wImp (wLen (hn Γ) (wStep w (fun _ h => h) fun ds w => w)) (fun _ h => h) fun ds ⟨hd, w⟩ vs H1 G1 E1 d1 => ?_)
  refine ⟨by rw [← d1.length, hd]; exact small24 hl, fun p hp => ?_⟩
  have A := Ext.alloc (o := .tup vs) E1.gh hp
  exact w _ _ _ (E1.trans A) (den_tup.mpr ⟨p, vs, rfl, SqT.of upd_same, d1.up A.gg⟩)
theorem ow_lst (h : AvD X W es fl) (hl : es.length ≤ 1000 := by decide) : OwD X W (.List es pos) fl := by
  obtain ⟨t, p, hn, q⟩ := h
  refine ⟨_, pe_lst p, fun H₀ G₀ Γ σ H G R Q w => ?_⟩
  refine q _ _ _ _ _ _ R _ (wImp (wLen (hn Γ) w) (fun _ h => h) fun ds ⟨hd, w⟩ vs H1 G1 E1 d1 => ?_)
  refine ⟨by rw [← d1.length, hd]; exact small24 hl, fun p hp => ?_⟩
  exact w p vs _ G1 (E1.trans (.own E1.gh hp _)) (E1.hh.free hp) upd_same (E1.gh.free hp) d1
def OpD (X : Cx) (g : Value → Value → Sem Value) (F : D → D → Option D) : Prop :=
  ∃ r, OpR X g r ∧ ∀ (H G : Hp) (x y : V) (d1 d2 d : D), Same G H → Den X.K G d1 x → Den X.K G d2 y → F d1 d2 = some d → ∀ Q : VK, (∀ v H' G', Ext H G H' G' → Den X.K G' d v → Q v H') → r x y H Q
def e2 (F : D → D → Option D) (fa fb : Ga → R D) : Ga → R D := fun Γ => (fa Γ).bind fun x => (fb Γ).bind fun y => .ofO (F x y)
theorem ev_op {op : Operator} {F : D → D → Option D} (ho : OpD X (binaryOp op) F) (ha : EvD X W a fa) (hb : EvD X W b fb) : EvD X W (.BinOp a op b pos) (e2 F fa fb) := by
  obtain ⟨r, hr, ht⟩ := ho
  obtain ⟨ta, pa, qa⟩ := ha
  obtain ⟨tb, pb, qb⟩ := hb
  refine ⟨_, pe_op hr pa pb, fun H₀ G₀ Γ σ H G R Q w => ?_⟩
  refine qa _ _ _ _ _ _ R _ (wStep w (fun _ h => h) fun x w v H1 G1 E1 d1 => ?_)
  refine qb _ _ _ _ _ _ (R.after E1) _ (wStep w (fun _ h => h.up E1) fun y w u H2 G2 E2 d2 => ?_)
  obtain ⟨d, e', w⟩ := wOfO w
  exact ht _ _ _ _ _ _ _ E2.gh (d1.up E2.gg) d2 e' _ fun w' H3 G3 E3 d3 => w _ _ _ (E1.trans (E2.trans E3)) d3
theorem ev_cmp {op : CmpOp} {F : D → D → Option D} (ho : OpD X (compareOp op) F) (ha : EvD X W a fa) (hb : EvD X W b fb) (hm : behindInMarks op b = false := by first | exact nomark _ | with_unfolding_all rfl) : EvD X W (.Compare a [op] [b] pos) (e2 F fa fb) := by
  obtain ⟨r, hr, ht⟩ := ho
  obtain ⟨ta, pa, qa⟩ := ha
  obtain ⟨tb, pb, qb⟩ := hb
  refine ⟨_, pe_cmpR hr pa pb hm, fun H₀ G₀ Γ σ H G R Q w => ?_⟩
  refine qa _ _ _ _ _ _ R _ (wStep w (fun _ h => h) fun x w v H1 G1 E1 d1 => ?_)
  refine qb _ _ _ _ _ _ (R.after E1) _ (wStep w (fun _ h => h.up E1) fun y w u H2 G2 E2 d2 => ?_)
  obtain ⟨d, e', w⟩ := wOfO w
  exact ht _ _ _ _ _ _ _ E2.gh (d1.up E2.gg) d2 e' _ fun w' H3 G3 E3 d3 => w _ _ _ (E1.trans (E2.trans E3)) d3
def asB : D → Option Bool
  | .bl b => some b
  | _ => none
theorem asB_eq {d : D} {k : Bool} (h : asB d = some k) : d = .bl k := by
  cases d <;> first | (cases h; rfl) | cases h
def tB (f : Ga → R D) : Ga → R Bool := fun Γ => (f Γ).bind fun d => .ofO (asB d)
theorem tv_of_test {t : TE} (p : PT X e (tTest t)) (q : Tells X.K W t f) : TvD X W e (tB f) := by
  refine ⟨_, p, fun H₀ G₀ Γ σ H G R Q w => ?_⟩
  refine q _ _ _ _ _ _ R _ (wStep w (fun _ h => h) fun d w v H' G' E1 d1 => ?_)
  obtain ⟨kb, e2, w⟩ := wOfO w
  cases asB_eq e2
  exact ⟨kb, den_blE d1, w _ _ E1⟩
theorem op_tells {r : R2} {F : D → D → Option D} {ta tb : TE}
    (ht : ∀ (H G : Hp) (x y : V) (d1 d2 d : D), Same G H → Den X.K G d1 x → Den X.K G d2 y → F d1 d2 = some d → ∀ Q : VK, (∀ v H' G', Ext H G H' G' → Den X.K G' d v → Q v H') → r x y H Q)
    (qa : Tells X.K W ta fa) (qb : Tells X.K W tb fb) : Tells X.K W (tOp r ta tb) (e2 F fa fb) := by
  intro H₀ G₀ Γ σ H G R Q w
  refine qa _ _ _ _ _ _ R _ (wStep w (fun _ h => h) fun x w v H1 G1 E1 d1 => ?_)
  refine qb _ _ _ _ _ _ (R.after E1) _ (wStep w (fun _ h => h.up E1) fun y w u H2 G2 E2 d2 => ?_)
  obtain ⟨d, e', w⟩ := wOfO w
  exact ht _ _ _ _ _ _ _ E2.gh (d1.up E2.gg) d2 e' _ fun w' H3 G3 E3 d3 => w _ _ _ (E1.trans (E2.trans E3)) d3
theorem tv_cmp {op : CmpOp} {F : D → D → Option D} (ho : OpD X (compareOp op) F) (ha : EvD X W a fa) (hb : EvD X W b fb) (hm : behindInMarks op b = false := by first | exact nomark _ | with_unfolding_all rfl) : TvD X W (.Compare a [op] [b] pos) (tB (e2 F fa fb)) := by
  obtain ⟨r, hr, ht⟩ := ho
  obtain ⟨ta, pa, qa⟩ := ha
  obtain ⟨tb, pb, qb⟩ := hb
  exact tv_of_test (pt_cmpR hr pa pb hm) (op_tells ht qa qb)
def e3 (F F' : D → D → Option D) (fa fb fc : Ga → R D) : Ga → R D := fun Γ => (fa Γ).bind fun x => (fb Γ).bind fun y => (R.ofO (F x y)).bind fun z => match z with
  | .bl true => (fc Γ).bind fun w => .ofO (F' y w)
  | .bl false => .ok (.bl false)
  | _ => .no
theorem chain_tells {r r' : R2} {F F' : D → D → Option D} {ta tb tc : TE}
    (ht : ∀ (H G : Hp) (x y : V) (d1 d2 d : D), Same G H → Den X.K G d1 x → Den X.K G d2 y → F d1 d2 = some d → ∀ Q : VK, (∀ v H' G', Ext H G H' G' → Den X.K G' d v → Q v H') → r x y H Q)
    (ht' : ∀ (H G : Hp) (x y : V) (d1 d2 d : D), Same G H → Den X.K G d1 x → Den X.K G d2 y → F' d1 d2 = some d → ∀ Q : VK, (∀ v H' G', Ext H G H' G' → Den X.K G' d v → Q v H') → r' x y H Q)
    (qa : Tells X.K W ta fa) (qb : Tells X.K W tb fb) (qc : Tells X.K W tc fc) : Tells X.K W (tChain r r' ta tb tc) (e3 F F' fa fb fc) := by
  intro H₀ G₀ Γ σ H G R Q w
  refine qa _ _ _ _ _ _ R _ (wStep w (fun _ h => h) fun x w v H1 G1 E1 d1 => ?_)
  refine qb _ _ _ _ _ _ (R.after E1) _ (wStep w (fun _ h => h.up E1) fun y w u H2 G2 E2 d2 => ?_)
  obtain ⟨z, ez, w⟩ := wOfOb w
  refine ht _ _ _ _ _ _ _ E2.gh (d1.up E2.gg) d2 ez _ fun w' H3 G3 E3 d3 => ?_
  have R3 := (R.after E1).after (E2.trans E3)
  split at w
  · refine ⟨true, den_blE d3, ?_⟩
    rw [if_pos rfl]
    refine qc _ _ _ _ _ _ R3 _ (wStep w (fun _ h => h.up (E1.trans (E2.trans E3))) fun w' w w'' H4 G4 E4 d4 => ?_)
    obtain ⟨d, e', w⟩ := wOfO w
    exact ht' _ _ _ _ _ _ _ E4.gh (d2.up (E3.gg.trans E4.gg)) d4 e' _ fun w5 H5 G5 E5 d5 => w _ _ _ (E1.trans (E2.trans (E3.trans (E4.trans E5)))) d5
  · refine ⟨false, den_blE d3, ?_⟩
    rw [if_neg Bool.false_ne_true]
    exact w _ _ _ (E1.trans (E2.trans E3)) den_bl
  · exact w.elim
theorem ev_chain {op op' : CmpOp} {F F' : D → D → Option D} (ho : OpD X (compareOp op) F) (ho' : OpD X (compareOp op') F') (ha : EvD X W a fa) (hb : EvD X W b fb) (hc : EvD X W c fc)
    (hm : lastMarks [op, op'] [b, c] = false := by with_unfolding_all rfl) : EvD X W (.Compare a [op, op'] [b, c] pos) (e3 F F' fa fb fc) := by
  obtain ⟨r, hr, ht⟩ := ho
  obtain ⟨r', hr', ht'⟩ := ho'
  obtain ⟨ta, pa, qa⟩ := ha
  obtain ⟨tb, pb, qb⟩ := hb
  obtain ⟨tc, pc, qc⟩ := hc
  exact ⟨_, pe_chain hr hr' pa pb pc hm, chain_tells (X := X) ht ht' qa qb qc⟩
def eAnd (fa fb : Ga → R D) : Ga → R D := fun Γ => (fa Γ).bind fun x => match x with
  | .bl true => fb Γ
  | .bl false => .ok (.bl false)
  | _ => .no
def eOr (fa fb : Ga → R D) : Ga → R D := fun Γ => (fa Γ).bind fun x => match x with
  | .bl true => .ok (.bl true)
  | .bl false => fb Γ
  | _ => .no
def eNot (fa : Ga → R D) : Ga → R D := fun Γ => (fa Γ).bind fun x => match x with
  | .bl k => .ok (.bl (!k))
  | _ => .no
theorem ev_one {op} (h : EvD X W a f) : EvD X W (.BoolOp op [a] pos) f := let ⟨t, p, q⟩ := h; ⟨t, pe_one p, q⟩
theorem ev_and (ha : EvD X W a fa) (hb : EvD X W (.BoolOp .And (b :: rest) pos) fb) : EvD X W (.BoolOp .And (a :: b :: rest) pos) (eAnd fa fb) := by
  obtain ⟨ta, pa, qa⟩ := ha
  obtain ⟨tb, pb, qb⟩ := hb
  refine ⟨_, pe_and pa pb, fun H₀ G₀ Γ σ H G R Q w => ?_⟩
  refine qa _ _ _ _ _ _ R _ (wStep w (fun _ h => h) fun x w v H1 G1 E1 d1 => ?_)
  split at w
  · refine ⟨true, den_blE d1, ?_⟩
    rw [if_pos rfl]
    exact qb _ _ _ _ _ _ (R.after E1) _ (wImp w (fun _ h => h.up E1) fun d w u H2 G2 E2 d2 => w _ _ _ (E1.trans E2) d2)
  · refine ⟨false, den_blE d1, ?_⟩
    rw [if_neg Bool.false_ne_true]
    exact w _ _ _ E1 den_bl
  · exact w.elim
theorem ev_or (ha : EvD X W a fa) (hb : EvD X W (.BoolOp .Or (b :: rest) pos) fb) : EvD X W (.BoolOp .Or (a :: b :: rest) pos) (eOr fa fb) := by
  obtain ⟨ta, pa, qa⟩ := ha
  obtain ⟨tb, pb, qb⟩ := hb
  refine ⟨_, pe_or pa pb, fun H₀ G₀ Γ σ H G R Q w => ?_⟩
  refine qa _ _ _ _ _ _ R _ (wStep w (fun _ h => h) fun x w v H1 G1 E1 d1 => ?_)
  split at w
  · refine ⟨true, den_blE d1, ?_⟩
    rw [if_pos rfl]
    exact w _ _ _ E1 den_bl
  · refine ⟨false, den_blE d1, ?_⟩
    rw [if_neg Bool.false_ne_true]
    exact qb _ _ _ _ _ _ (R.after E1) _ (wImp w (fun _ h => h.up E1) fun d w u H2 G2 E2 d2 => w _ _ _ (E1.trans E2) d2)
  · exact w.elim
theorem ev_not (ha : EvD X W a fa) : EvD X W (.UnaryOp .Not a pos) (eNot fa) := by
  obtain ⟨ta, pa, qa⟩ := ha
  refine ⟨_, pe_not pa, fun H₀ G₀ Γ σ H G R Q w => ?_⟩
  refine qa _ _ _ _ _ _ R _ (wStep w (fun _ h => h) fun x w v H1 G1 E1 d1 => ?_)
  split at w
  · rename_i kb
    exact ⟨kb, den_blE d1, w _ _ _ E1 den_bl⟩
  · exact w.elim
variable {ga gb : Ga → R Bool}
theorem WvD.tv (h : WvD X W e ga) : TvD X W e ga := let ⟨t, p, q⟩ := h; ⟨t, p.pt, q⟩
def tAndR (ga gb : Ga → R Bool) : Ga → R Bool := fun Γ => (ga Γ).bind fun k => match k with
  | true => gb Γ
  | false => .ok false
def tOrR (ga gb : Ga → R Bool) : Ga → R Bool := fun Γ => (ga Γ).bind fun k => match k with
  | true => .ok true
  | false => gb Γ
def tNotR (ga : Ga → R Bool) : Ga → R Bool := fun Γ => (ga Γ).bind fun k => .ok (!k)
theorem wv_and1 (h : TvD X W a ga) : WvD X W (.BoolOp .And [a] pos) ga := let ⟨t, p, q⟩ := h; ⟨t, pw_and1 p, q⟩
theorem wv_or1 (h : TvD X W a ga) : WvD X W (.BoolOp .Or [a] pos) ga := let ⟨t, p, q⟩ := h; ⟨t, pw_or1 p, q⟩
theorem wv_and (ha : TvD X W a ga) (hb : WvD X W (.BoolOp .And (b :: rest) pos) gb) : WvD X W (.BoolOp .And (a :: b :: rest) pos) (tAndR ga gb) := by
  obtain ⟨ta, pa, qa⟩ := ha
  obtain ⟨tb, pb, qb⟩ := hb
  refine ⟨_, pw_and pa pb, fun H₀ G₀ Γ σ H G R Q w => ?_⟩
  refine qa _ _ _ _ _ _ R _ (wStep w (fun _ h => h) fun x w H1 G1 E1 => ?_)
  cases x with
  | true => exact iteT (qb _ _ _ _ _ _ (R.after E1) _ (wImp w (fun _ h => h.up E1) fun d w H2 G2 E2 => w _ _ (E1.trans E2)))
  | false => exact iteF (w _ _ E1)
theorem wv_or (ha : TvD X W a ga) (hb : WvD X W (.BoolOp .Or (b :: rest) pos) gb) : WvD X W (.BoolOp .Or (a :: b :: rest) pos) (tOrR ga gb) := by
  obtain ⟨ta, pa, qa⟩ := ha
  obtain ⟨tb, pb, qb⟩ := hb
  refine ⟨_, pw_or pa pb, fun H₀ G₀ Γ σ H G R Q w => ?_⟩
  refine qa _ _ _ _ _ _ R _ (wStep w (fun _ h => h) fun x w H1 G1 E1 => ?_)
  cases x with
  | true => exact iteT (w _ _ E1)
  | false => exact iteF (qb _ _ _ _ _ _ (R.after E1) _ (wImp w (fun _ h => h.up E1) fun d w H2 G2 E2 => w _ _ (E1.trans E2)))
theorem tv_not (ha : TvD X W a ga) : TvD X W (.UnaryOp .Not a pos) (tNotR ga) := by
  obtain ⟨ta, pa, qa⟩ := ha
  refine ⟨_, pt_not pa, fun H₀ G₀ Γ σ H G R Q w => ?_⟩
  exact qa _ _ _ _ _ _ R _ (wStep w (fun _ h => h) fun x w H1 G1 E1 => w _ _ E1)
def truD : D → Option Bool
  | .non => some false
  | .bl b => some b
  | .int i => some (i != 0)
  | .str x => if x.length ≤ 10000 then some ((x.length : Int) != 0) else none
  | .tup ds => some (!ds.isEmpty)
  | .lst ds => some (!ds.isEmpty)
theorem isEmpty_den {K : PySem.W.Frag} {G : Hp} {ds : List D} {vs : List V} (h : DenL K G ds vs) : (!ds.isEmpty) = (!vs.isEmpty) := by
  cases ds with
  | nil => rw [denL_nil.mp h]; rfl
  | cons d ds => obtain ⟨v, r, rfl, _⟩ := denL_cons.mp h; rfl
theorem big24 {n : Nat} (h : n ≤ 10000) : n ≤ sizeLine := Nat.le_trans h (by decide)
theorem tru_den {K : PySem.W.Frag} {H G : Hp} {d : D} {v : V} {k : Bool} (g : Same G H) (h : Den K G d v) (e : truD d = some k) : TruV K v H k := by
  cases d with
  | non => cases e; rw [den_nonE h]; rfl
  | bl b => cases e; rw [den_blE h]; rfl
  | int i => cases e; rw [den_intE h]; rfl
  | str x =>
    rw [den_strE h]
    have e : (if x.length ≤ 10000 then some ((x.length : Int) != 0) else none) = some k := e
    split at e
    · rename_i hl
      cases e
      exact ⟨big24 hl, rfl⟩
    · cases e
  | tup ds =>
    cases e
    obtain ⟨a, vs, rfl, s, l⟩ := den_tup.mp h
    exact .inr (.inl ⟨vs, Same.seqT g s, isEmpty_den l⟩)
  | lst ds =>
    cases e
    obtain ⟨a, vs, rfl, s, l⟩ := den_lst.mp h
    exact .inl ⟨vs, g.seq s, isEmpty_den l⟩
def tTru (f : Ga → R D) : Ga → R Bool := fun Γ => (f Γ).bind fun d => .ofO (truD d)
theorem tv_val (h : EvD X W a f) (he : ∀ whole, isTrue a X.env whole = (do let v ← whole; standAt a.pos; holding [v] (truthy v)) := by intro _; rfl) : TvD X W a (tTru f) := by
  obtain ⟨t, p, q⟩ := h
  refine ⟨_, pt_truth p he, fun H₀ G₀ Γ σ H G R Q w => ?_⟩
  refine q _ _ _ _ _ _ R _ (wStep w (fun _ h => h) fun d w v H' G' E1 d1 => ?_)
  obtain ⟨kb, e2, w⟩ := wOfO w
  exact ⟨kb, tru_den E1.gh d1 e2, w _ _ E1⟩
end
def ClsIs (K : PySem.W.Frag) (c : Str) (cls : Value) : Prop := ∃ C, cls = .ref C ∧ PySem.W.nsIn K mainGlobals c = some (some (.ref C))
def spF (K : PySem.W.Frag) (mg : Str → Option Value) (n : Nat) (F : List D → R D) : Sp := fun vs H Q E => ∃ (G : Hp) (ds : List D), Same G H ∧ DenL K G ds vs ∧ ds.length = n ∧
  (F ds).want (fun c => ∀ cls dx H' G', ClsIs K c cls → Ext H G H' G' → E cls dx H') (fun d => ∀ v H' G', Ext H G H' G' → Den K G' d v → Q v H')
def xkOf (K : PySem.W.Frag) (W : XP) (σ : L2.St) : XK := fun cls _ H' => ∃ c G', ClsIs K c cls ∧ W c σ H' G'
def PassW (CX : CXT) (X : Cx) (W : XP) : Prop := ∀ (pins : List (Addr × Obj)) (σ : L2.St) (H : Hp) (s : Shared) (e : Value) (s' : Shared), Inv X pins σ H s → CX X.stack H s (xkOf X.K W σ) e s' → X.xe e s'
section
variable {X : Cx} {W : XP} {e : Expr} {es : List Expr} {f : Ga → R D} {fl : Ga → R (List D)} {pos p : Pos}
def tCallX (K : PySem.W.Frag) (W : XP) (sp : Sp) (t : TA) : TE := fun σ H Q => t σ H fun vs H1 => sp vs H1 Q (xkOf K W σ)
theorem pe_callX {CX : CXT} {k : Nat} {fa : Addr} {fd : FuncData} {ps : List Str} {sp : Sp} {x : Str} {t : TA} (F : FnOk X.prog X.w X.K X.mg X.base CX k fa fd ps sp) (hr : Room k X.A) (hg : Gl X x) (hm : X.mg x = some (.ref fa))
    (hk : PySem.W.keepIn X.K (.ref fa) = true) (hb : Binds X.K fd ps []) (hx : PassW CX X W) (ha : PA X (e :: es) t) (hdb : (x == ("__debug__" : Str)) = false)
    (he : starEach (e :: es) X.env = (false, eval e X.env) :: starEach es X.env) (hpl : (backTo pos (starEach es X.env)).any (·.1) = false) : PE X (.Call (.Name x p) (e :: es) [] pos) (tCallX X.K W sp t) := by
  intro pins s σ H Q I h
  refine wpAny_Call_Name_kw (ld_glob I hg hm ?_ hdb)
  refine PySem.W.callWith_K (h₀ := X.base) I.ok.mod.kin hk (thn (ha pos pins s σ H _ I h) fun us s1 ⟨vs, H1, I1, r, q⟩ => ⟨I1.kIn, ?_⟩) he hpl
  have hl : us.length = ps.length := by rw [← r.length]; exact F.len _ _ _ _ q
  have bb := hb s1 us I1.kIn (by rw [List.append_nil]; exact hl)
  rw [List.append_nil] at bb
  refine wpAny_call (codeAny_mono (F.run X.A X.stack s1 H1 ⟨us, []⟩ us vs Q _ hr I1.env0 bb r q) fun r s' hq => ?_)
  cases r with
  | error e => exact hx pins σ H1 s1 e s' I1 hq
  | ok fl =>
    cases fl with
    | ret u => exact I1.after hq
    | next => exact False.elim hq
    | brk => exact False.elim hq
    | cont => exact False.elim hq
def eCall (F : List D → R D) (fl : Ga → R (List D)) : Ga → R D := fun Γ => (fl Γ).bind F
theorem ev_call {CX : CXT} {k : Nat} {fa : Addr} {fd : FuncData} {ps : List Str} {F : List D → R D} {x : Str} (Fn : FnOk X.prog X.w X.K X.mg X.base CX k fa fd ps (spF X.K X.mg ps.length F)) (hx : PassW CX X W) (hr : Room k X.A) (hg : Gl X x) (hm : X.mg x = some (.ref fa))
    (hk : PySem.W.keepIn X.K (.ref fa) = true) (hb : Binds X.K fd ps []) (ha : AvD X W (e :: es) fl) (hn : (e :: es).length = ps.length := by rfl) (hdb : (x == ("__debug__" : Str)) = false := by decide)
    (he : starEach (e :: es) X.env = (false, eval e X.env) :: starEach es X.env := by rfl) (hpl : (backTo pos (starEach es X.env)).any (·.1) = false := by rfl) :
    EvD X W (.Call (.Name x p) (e :: es) [] pos) (eCall F fl) := by
  obtain ⟨t, pt, hl, q⟩ := ha
  refine ⟨_, pe_callX Fn hr hg hm hk hb hx pt hdb he hpl, fun H₀ G₀ Γ σ H G R Q w => ?_⟩
  refine q _ _ _ _ _ _ R _ (wImp (wLen (hl Γ) (wStep w (fun _ h => h) fun ds w => w)) (fun _ h => h) fun ds ⟨hd, w⟩ vs H1 G1 E1 d1 => ?_)
  exact ⟨G1, ds, E1.gh, d1, hd.trans hn, wImp w (fun c h cls dx H' G' hc E2 => ⟨c, G', hc, h H' G' (E1.trans E2)⟩) fun d w v H' G' E2 d2 => w v H' G' (E1.trans E2) d2⟩
def CallD (X : Cx) (g : Value) (F : List D → Option D) : Prop :=
  ∃ r, CallR X g r ∧ ∀ (H G : Hp) (vs : List V) (ds : List D) (d : D), Same G H → DenL X.K G ds vs → F ds = some d → ∀ Q : VK, (∀ v H' G', Ext H G H' G' → Den X.K G' d v → Q v H') → r vs H Q
def eB (F : List D → Option D) (fl : Ga → R (List D)) : Ga → R D := fun Γ => (fl Γ).bind fun ds => .ofO (F ds)
theorem ev_callB {id : String} {F : List D → Option D} {x : Str} (hc : CallD X (.builtin id) F) (hg : Gl X x) (hm : X.mg x = none) (hv : bootBuiltins x = some (.builtin id)) (ha : AvD X W (e :: es) fl) (hn : x ≠ "__name__" := by decide)
    (hdb : (x == ("__debug__" : Str)) = false := by decide) (he : starEach (e :: es) X.env = (false, eval e X.env) :: starEach es X.env := by rfl) (hpl : (backTo pos (starEach es X.env)).any (·.1) = false := by rfl) :
    EvD X W (.Call (.Name x p) (e :: es) [] pos) (eB F fl) := by
  obtain ⟨r, hr, ht⟩ := hc
  obtain ⟨t, pt, hl, q⟩ := ha
  refine ⟨_, pe_callB hr hg hm hv pt hn hdb he hpl, fun H₀ G₀ Γ σ H G R Q w => ?_⟩
  refine q _ _ _ _ _ _ R _ (wStep w (fun _ h => h) fun ds w vs H1 G1 E1 d1 => ?_)
  obtain ⟨d, e2, w⟩ := wOfO w
  exact ht _ _ _ _ _ E1.gh d1 e2 _ fun v H' G' E2 d2 => w v H' G' (E1.trans E2) d2
def CallS (X : Cx) (g : Value) (F : Bool × List D → Option D) : Prop :=
  ∃ r, CallR X g r ∧ ∀ (H G : Hp) (b : Bool) (ds : List D) (d : D) (a : Addr) (vs : List V), Same G H → SqP X.K H G b a vs → DenL X.K G ds vs → F (b, ds) = some d → ∀ Q : VK, (∀ v H' G', Ext H G H' G' → Den X.K G' d v → Q v H') → r [.ref a] H Q
variable {fs : Ga → R (Bool × List D)}
def eS (F : Bool × List D → Option D) (fs : Ga → R (Bool × List D)) : Ga → R D := fun Γ => (fs Γ).bind fun p => .ofO (F p)
theorem ev_callBS {id : String} {F : Bool × List D → Option D} {x : Str} (hc : CallS X (.builtin id) F) (hg : Gl X x) (hm : X.mg x = none) (hv : bootBuiltins x = some (.builtin id)) (ha : SqD X W e fs) (hn : x ≠ "__name__" := by decide)
    (hdb : (x == ("__debug__" : Str)) = false := by decide) (he : starEach [e] X.env = [(false, eval e X.env)] := by rfl) : EvD X W (.Call (.Name x p) [e] [] pos) (eS F fs) := by
  obtain ⟨r, hr, ht⟩ := hc
  obtain ⟨t, pt, q⟩ := ha
  refine ⟨_, pe_callB hr hg hm hv (pa_cons pt pa_nil he) hn hdb he rfl, fun H₀ G₀ Γ σ H G R Q w => ?_⟩
  refine q _ _ _ _ _ _ R _ (wStep w (fun _ h => h) fun ⟨b, ds⟩ w a vs H1 G1 E1 s1 d1 => ?_)
  obtain ⟨d, e2, w⟩ := wOfO w
  exact ht _ _ _ _ _ _ _ E1.gh s1 d1 e2 _ fun v H' G' E2 d2 => w v H' G' (E1.trans E2) d2
theorem ev_callTS {id : String} {F : Bool × List D → Option D} {x : Str} (hc : CallS X (.type id) F) (hg : Gl X x) (hm : X.mg x = none) (hv : bootBuiltins x = some (.type id)) (ha : SqD X W e fs) (hn : x ≠ "__name__" := by decide)
    (hdb : (x == ("__debug__" : Str)) = false := by decide) (he : starEach [e] X.env = [(false, eval e X.env)] := by rfl) : EvD X W (.Call (.Name x p) [e] [] pos) (eS F fs) := by
  obtain ⟨r, hr, ht⟩ := hc
  obtain ⟨t, pt, q⟩ := ha
  refine ⟨_, pe_callTy hr hg hm hv (pa_cons pt pa_nil he) hn hdb he rfl, fun H₀ G₀ Γ σ H G R Q w => ?_⟩
  refine q _ _ _ _ _ _ R _ (wStep w (fun _ h => h) fun ⟨b, ds⟩ w a vs H1 G1 E1 s1 d1 => ?_)
  obtain ⟨d, e2, w⟩ := wOfO w
  exact ht _ _ _ _ _ _ _ E1.gh s1 d1 e2 _ fun v H' G' E2 d2 => w v H' G' (E1.trans E2) d2
end
end Wy


namespace Wy
open PySem PySem.Spec PyProof.Rows L2
inductive RS where
  | nx (Γ : Ga) | rt (d : D) | bk (Γ : Ga) | ct (Γ : Ga) | ex (c : Str) (Γ : Ga) | no
def RS.of {α : Type} (x : R α) (Γ : Ga) (k : α → RS) : RS := match x with
  | .ok a => k a
  | .ex c => .ex c Γ
  | .no => .no
@[simp] theorem RS.of_ok {α : Type} (a : α) (Γ : Ga) (k : α → RS) : RS.of (.ok a) Γ k = k a := nr rfl
def Lifts (K : PySem.W.Frag) (W : XP) (H₀ G₀ : Hp) (r : RS) (D : Ends) : Prop := match r with
  | .nx Γ => ∀ σ H G, Rep K H₀ G₀ Γ σ H G → D.nx σ H
  | .rt d => ∀ v H G, Ext H₀ G₀ H G → Den K G d v → D.rt v H
  | .bk Γ => ∀ σ H G, Rep K H₀ G₀ Γ σ H G → D.bk σ H
  | .ct Γ => ∀ σ H G, Rep K H₀ G₀ Γ σ H G → D.ct σ H
  | .ex c Γ => ∀ σ H G, Rep K H₀ G₀ Γ σ H G → W c σ H G
  | .no => False
theorem wS {K : PySem.W.Frag} {W : XP} {H₀ G₀ : Hp} {α : Type} {x : R α} {Γ : Ga} {k : α → RS} {D : Ends} {σ : L2.St} {H G : Hp} {P : α → Prop} (r : Rep K H₀ G₀ Γ σ H G) (w : Lifts K W H₀ G₀ (RS.of x Γ k) D)
    (h : ∀ a, Lifts K W H₀ G₀ (k a) D → P a) : x.want (exAt W σ H G) P := by
  cases x with
  | ok a => exact h a w
  | ex c => exact fun H' G' e => w σ H' G' (r.after e)
  | no => exact w.elim
theorem Ext.unbase {H₀ G₀ H1 G1 H G : Hp} (e : Ext H₀ G₀ H1 G1) (r : Ext H₀ G1 H G) : Ext H₀ G₀ H G := ⟨e.gg.trans r.gg, r.gh, r.hh, fun a h => (r.fr a h).trans (e.fr a h)⟩
theorem Rep.base {K : PySem.W.Frag} {H₀ G₀ H G : Hp} {Γ : Ga} {σ : L2.St} (R : Rep K H₀ G₀ Γ σ H G) : Rep K H₀ G Γ σ H G := ⟨⟨Same.refl _, R.ex.gh, R.ex.hh, fun _ _ => rfl⟩, R.ln, R.all, R.di⟩
theorem Rep.unbase {K : PySem.W.Frag} {H₀ G₀ H1 G1 H G : Hp} {Γ : Ga} {σ : L2.St} (e : Ext H₀ G₀ H1 G1) (R : Rep K H₀ G1 Γ σ H G) : Rep K H₀ G₀ Γ σ H G := ⟨e.unbase R.ex, R.ln, R.all, R.di⟩
theorem Lifts.base {K : PySem.W.Frag} {W : XP} {H₀ G₀ H1 G1 : Hp} {r : RS} {D : Ends} (e : Ext H₀ G₀ H1 G1) (w : Lifts K W H₀ G₀ r D) : Lifts K W H₀ G1 r D := by
  cases r with
  | nx Γ => exact fun σ H G R => w σ H G (R.unbase e)
  | rt d => exact fun v H G r => w v H G (e.unbase r)
  | bk Γ => exact fun σ H G R => w σ H G (R.unbase e)
  | ct Γ => exact fun σ H G R => w σ H G (R.unbase e)
  | ex c Γ => exact fun σ H G R => w σ H G (R.unbase e)
  | no => exact w
def Does (K : PySem.W.Frag) (W : XP) (t : TS) (s : Ga → RS) : Prop := ∀ (H₀ G₀ : Hp) (Γ : Ga) (σ : L2.St) (H G : Hp), Rep K H₀ G₀ Γ σ H G → ∀ D : Ends, Lifts K W H₀ G₀ (s Γ) D → t D σ H
def ExD (X : Cx) (W : XP) (st : Stmt) (s : Ga → RS) : Prop := ∃ t, PS X st t ∧ Does X.K W t s
def ExDs (X : Cx) (W : XP) (sts : List Stmt) (s : Ga → RS) : Prop := ∃ t, PSs X sts t ∧ Does X.K W t s
def TgD (X : Cx) (tg : Expr) (g : D → Ga → Option Ga) : Prop := ∃ t : TG, PG X tg t ∧ ∀ (H₀ G₀ : Hp) (Γ : Ga) (σ : L2.St) (H G : Hp) (d : D) (v : V) (Γ' : Ga), Rep X.K H₀ G₀ Γ σ H G → Den X.K G d v → g d Γ = some Γ' →
  ∀ Q : L2.St → Hp → Prop, (∀ σ' , Rep X.K H₀ G₀ Γ' σ' H G → Q σ' H) → t v σ H Q
section
variable {X : Cx} {W : XP} {st : Stmt} {rest sa sb : List Stmt} {T U : Ga → RS} {e c : Expr} {f : Ga → R D} {fl : Ga → R (List D)} {fs : Ga → R (Bool × List D)} {g : Ga → R Bool} {pos pos' apos cpos : Pos} {x y : Str} {i j : Nat}
def sNext : Ga → RS := fun Γ => .nx Γ
def sSeq (T U : Ga → RS) : Ga → RS := fun Γ => match T Γ with
  | .nx Γ' => U Γ'
  | r => r
theorem xs_nil : ExDs X W [] sNext := ⟨_, pss_nil, fun _ _ Γ σ H G R D w => w σ H G R⟩
theorem Lifts.seq {K : PySem.W.Frag} {H₀ G₀ : Hp} {D : Ends} {u : TS} {Γ : Ga} (q : Does K W u U) (w : Lifts K W H₀ G₀ (sSeq T U Γ) D) : Lifts K W H₀ G₀ (T Γ) { D with nx := u D } := by
  unfold sSeq at w
  cases h : T Γ with
  | nx Γ' => rw [h] at w; exact fun σ H G R => q H₀ G₀ Γ' σ H G R D w
  | rt d => rw [h] at w; exact w
  | bk d => rw [h] at w; exact w
  | ct d => rw [h] at w; exact w
  | ex c d => rw [h] at w; exact w
  | no => rw [h] at w; exact w
theorem xs_cons (h1 : ExD X W st T) (h2 : ExDs X W rest U) : ExDs X W (st :: rest) (sSeq T U) := by
  obtain ⟨t, p, q⟩ := h1
  obtain ⟨u, p', q'⟩ := h2
  exact ⟨_, pss_cons p p', fun H₀ G₀ Γ σ H G R D w => q H₀ G₀ Γ σ H G R _ (Lifts.seq q' w)⟩
theorem xs_one (h1 : ExD X W st T) : ExDs X W [st] T := let ⟨t, p, q⟩ := h1; ⟨t, pss_one p, q⟩
def sRet (f : Ga → R D) : Ga → RS := fun Γ => .of (f Γ) Γ fun d => .rt d
theorem x_ret (h : EvD X W e f) : ExD X W (.Return (some e) pos) (sRet f) := by
  obtain ⟨t, p, q⟩ := h
  refine ⟨_, ps_ret p, fun H₀ G₀ Γ σ H G R D w => ?_⟩
  exact q _ _ _ _ _ _ R _ (wS R w fun d w v H' G' E1 d1 => w v H' G' (R.ex.trans E1) d1)
def sRetO (i : Nat) : Ga → RS := fun Γ => match Γ[i]? with
  | some (.own xs) => .rt (.lst xs)
  | _ => .no
theorem x_retO (i : Nat) (hN : X.N[i]? = some x := by rfl) (hv : Vis X.env.scope x := by first | exact Or.inl rfl | exact Or.inr (Or.inl rfl) | exact Or.inr (Or.inr rfl)) (hd : (x == ("__debug__" : Str)) = false := by decide)
    (hcd : (x == ("__classdict__" : Str)) = false := by decide) : ExD X W (.Return (some (.Name x pos')) pos) (sRetO i) := by
  refine ⟨_, ps_ret (pe_var hN hv hd hcd), fun H₀ G₀ Γ σ H G R D w => ?_⟩
  unfold sRetO at w
  split at w
  · rename_i xs e1
    obtain ⟨a, vs, s1, s2, s3, s4, s5⟩ := R.ow i xs e1
    exact ⟨_, s1, w _ H _ (R.ex.take s3 s2 s4) (den_lst.mpr ⟨a, vs, rfl, SqL.of upd_same, s5.up (same_upd s4 _)⟩)⟩
  · exact w.elim
def sSet (i : Nat) (f : Ga → R D) : Ga → RS := fun Γ => .of (f Γ) Γ fun d => .nx (Γ.set i (.val d))
theorem x_set (i : Nat) (he : EvD X W e f) (hN : X.N.Nodup) (hi : X.N[i]? = some x := by rfl) (hx : Loc X.env.scope x := by first | exact Or.inl rfl | exact Or.inr rfl) (hs : swapsWith e (some (.Name x pos')) pos.line X.env = pure false := by rfl)
    (hf : X.fn x = true ∨ X.env.scope.names.lookup x = some .local := by first | exact .inl rfl | exact .inr rfl | assumption) : ExD X W (.Assign [.Name x pos'] e pos) (sSet i f) := by
  obtain ⟨t, p, q⟩ := he
  refine ⟨_, ps_set hN hi hx p hs hf, fun H₀ G₀ Γ σ H G R D w => ?_⟩
  exact q _ _ _ _ _ _ R _ (wS R w fun d w v H' G' E1 d1 => w _ H' G' ((R.after E1).setV i d1))
theorem own_new {K : PySem.W.Frag} {H₀ G₀ H G : Hp} {Γ : Ga} {σ : L2.St} {p : Addr} (R : Rep K H₀ G₀ Γ σ H G) (hp : H p = none) : ∀ (j : Nat) y, Γ[j]? = some y → y.mu = true → σ[j]? ≠ some (some (.ref p)) := fun j y hy hm hs => by
  obtain ⟨ys, hc⟩ := Sl.cont_of hm
  obtain ⟨a, us, s1, s2, _⟩ := R.mo hy hc
  rw [hs] at s1
  cases s1
  rw [hp] at s2
  cases s2
def sSetO (i : Nat) (fl : Ga → R (List D)) : Ga → RS := fun Γ => .of (fl Γ) Γ fun ds => .nx (Γ.set i (.own ds))
theorem x_setO (i : Nat) (he : OwD X W e fl) (hN : X.N.Nodup) (hi : X.N[i]? = some x := by rfl) (hx : Loc X.env.scope x := by first | exact Or.inl rfl | exact Or.inr rfl) (hs : swapsWith e (some (.Name x pos')) pos.line X.env = pure false := by rfl)
    (hf : X.fn x = true ∨ X.env.scope.names.lookup x = some .local := by first | exact .inl rfl | exact .inr rfl | assumption) : ExD X W (.Assign [.Name x pos'] e pos) (sSetO i fl) := by
  obtain ⟨t, p, q⟩ := he
  refine ⟨_, ps_set hN hi hx p hs hf, fun H₀ G₀ Γ σ H G R D w => ?_⟩
  exact q _ _ _ _ _ _ R _ (wS R w fun d w p vs H' G' E1 hp h' g' l => w _ H' G' ((R.after E1).setO i h' (R.ex.hh.free hp) g' l fun j ys hj hy => own_new R hp j ys hy))
def sIf (g : Ga → R Bool) (T U : Ga → RS) : Ga → RS := fun Γ => .of (g Γ) Γ fun k => match k with
  | true => T Γ
  | false => U Γ
theorem x_if (hc : TvD X W c g) (ha : ExDs X W sa T) (hb : ExDs X W sb U) : ExD X W (.If c sa sb pos) (sIf g T U) := by
  obtain ⟨t, p, q⟩ := hc
  obtain ⟨ta, pa, qa⟩ := ha
  obtain ⟨tb, pb, qb⟩ := hb
  refine ⟨_, ps_if p pa pb, fun H₀ G₀ Γ σ H G R D w => ?_⟩
  refine q _ _ _ _ _ _ R _ (wS R w fun k w H' G' E1 => ?_)
  cases k with
  | true => exact iteT (qa _ _ _ _ _ _ (R.after E1) D w)
  | false => exact iteF (qb _ _ _ _ _ _ (R.after E1) D w)
theorem lt24 {n : Nat} (h : n < 16000000) : n < sizeLine := Nat.lt_of_lt_of_le h (by decide)
def sApp (i : Nat) (f : Ga → R D) : Ga → RS := fun Γ => match Γ[i]? with
  | some (.own xs) => .of (f Γ) Γ fun d => if xs.length < 16000000 then .nx (Γ.set i (.own (xs ++ [d]))) else .no
  | _ => .no
theorem x_app (i : Nat) (he : EvD X W e f) (hN : X.N[i]? = some x := by rfl) (hv : Vis X.env.scope x := by first | exact Or.inl rfl | exact Or.inr (Or.inl rfl) | exact Or.inr (Or.inr rfl)) (hd : (x == ("__debug__" : Str)) = false := by decide)
    (hcd : (x == ("__classdict__" : Str)) = false := by decide) (hs : starEach [e] X.env = [(false, eval e X.env)] := by rfl) (hline : (apos.endLine == cpos.line) = true := by rfl)
    (hsw : swapsWith (.Call (.Attribute (.Name x pos') "append" apos) [e] [] cpos) none pos.line X.env = pure false := by rfl)
    (hbase : attributeBase (.Name x pos') "append" X.env (eval (.Name x pos') X.env) = eval (.Name x pos') X.env := by rfl)
    (hfew : ((backTo cpos (starEach [e] X.env)).all (fun x => !x.1) && (backToKw cpos (keywordEach [] X.env)).all (fun x => x.1.isSome)
      && decide ([e].length + ([] : List Keyword).length + (if ([] : List Keyword).isEmpty then 0 else 1) < 30)) = true := by rfl) :
    ExD X W (.Expr (.Call (.Attribute (.Name x pos') "append" apos) [e] [] cpos) pos) (sApp i f) := by
  obtain ⟨t, p, q⟩ := he
  refine ⟨_, ps_expr (pe_bm PySem.F.plainAttrs_list PySem.F.slot_list_append PySem.F.type_list_append mt_append (pe_var hN hv hd hcd) (pa_cons p pa_nil hs) hbase hfew hline hs rfl) hsw, fun H₀ G₀ Γ σ H G R D w => ?_⟩
  unfold sApp at w
  split at w
  · rename_i xs e1
    obtain ⟨a, vs, s1, s2, s3, s4, s5⟩ := R.ow i xs e1
    refine ⟨_, s1, .inl ⟨rfl, vs, SqL.of s2⟩, ?_⟩
    refine q _ _ _ _ _ _ R _ (wS R w fun d w v H' G' E1 d1 => ?_)
    have l1 := s5.up E1.gg
    split at w
    · rename_i hz
      exact ⟨a, vs, v, rfl, rfl, E1.hh _ _ s2, by rw [← l1.length]; exact lt24 hz, w _ _ G' ((R.after E1).mut e1 s1 (l1.append (.one d1)))⟩
    · exact w.elim
  · exact w.elim
def sPop (i j : Nat) : Ga → RS := fun Γ => match Γ[i]? with
  | some (.own xs) => match xs.getLast? with
    | some d => .nx ((Γ.set i (.own xs.dropLast)).set j (.val d))
    | none => .no
  | _ => .no
theorem x_pop (i j : Nat) (hnd : X.N.Nodup) (hN : X.N[i]? = some x := by rfl) (hv : Vis X.env.scope x := by first | exact Or.inl rfl | exact Or.inr (Or.inl rfl) | exact Or.inr (Or.inr rfl)) (hj : X.N[j]? = some y := by rfl)
    (hy : Loc X.env.scope y := by first | exact Or.inl rfl | exact Or.inr rfl) (hd : (x == ("__debug__" : Str)) = false := by decide)
    (hcd : (x == ("__classdict__" : Str)) = false := by decide) (hline : (apos.endLine == cpos.line) = true := by rfl) {py : Pos}
    (hsw : swapsWith (.Call (.Attribute (.Name x pos') "pop" apos) [] [] cpos) (some (.Name y py)) pos.line X.env = pure false := by rfl)
    (hf : X.fn y = true ∨ X.env.scope.names.lookup y = some .local := by first | exact .inl rfl | exact .inr rfl | assumption)
    (hbase : attributeBase (.Name x pos') "pop" X.env (eval (.Name x pos') X.env) = eval (.Name x pos') X.env := by rfl) :
    ExD X W (.Assign [.Name y py] (.Call (.Attribute (.Name x pos') "pop" apos) [] [] cpos) pos) (sPop i j) := by
  refine ⟨_, ps_set hnd hj hy (pe_bm0 PySem.F.plainAttrs_list PySem.F.slot_list_pop PySem.F.type_list_pop mt_pop (pe_var hN hv hd hcd) hbase hline) hsw hf, fun H₀ G₀ Γ σ H G R D w => ?_⟩
  unfold sPop at w
  split at w
  · rename_i zs e1
    split at w
    · rename_i d hlast
      obtain ⟨a, vs, s1, s2, s3, s4, s5⟩ := R.ow i _ e1
      obtain ⟨xs, rfl⟩ := List.getLast?_eq_some_iff.mp hlast
      rw [List.dropLast_concat] at w
      have hl := s5.length
      rw [List.length_append, List.length_singleton] at hl
      obtain ⟨v, hv1, hv2⟩ := s5.get (i := xs.length) (d := d) (by simp)
      have dl := s5.dropLast
      rw [List.dropLast_concat] at dl
      refine ⟨_, s1, .inl ⟨rfl, vs, SqL.of s2⟩, a, vs, v, rfl, rfl, s2, by rw [← hl]; exact hv1, ?_⟩
      exact w _ _ G ((R.mut e1 s1 dl).setV j hv2)
    · exact w.elim
  · exact w.elim
def sWhileN (g : Ga → R Bool) (T : Ga → RS) : Nat → Ga → RS
  | 0, _ => .no
  | n + 1, Γ => .of (g Γ) Γ fun k => match k with
    | false => .nx Γ
    | true => match T Γ with
      | .nx Γ' => sWhileN g T n Γ'
      | .ct Γ' => sWhileN g T n Γ'
      | .bk Γ' => .nx Γ'
      | r => r
def FUEL : Nat := 1000000
def sWhile (g : Ga → R Bool) (T : Ga → RS) : Ga → RS := sWhileN g T FUEL
theorem x_while (hc : TvD X W c g) (hb : ExDs X W sa T) (hp : PassesOwn (model X.prog X.w) X.A X.env X.xe := by exact PassesOwn.never) : ExD X W (.While c sa [] pos) (sWhile g T) := by
  obtain ⟨t, p, q⟩ := hc
  obtain ⟨tb, pb, qb⟩ := hb
  refine ⟨_, ps_while hp p pb, fun H₀ G₀ Γ σ H G R D w => ?_⟩
  refine ⟨fun m σ H => ∃ Γ G, Rep X.K H₀ G₀ Γ σ H G ∧ Lifts X.K W H₀ G₀ (sWhileN g T m Γ) D, ⟨FUEL, Γ, G, R, w⟩, fun m σ H ⟨Γ, G, R, w⟩ => ?_⟩
  cases m with
  | zero => exact w.elim
  | succ n =>
    unfold sWhileN at w
    refine q _ _ _ _ _ _ R _ (wS R w fun k w H' G' E1 => ?_)
    cases k with
    | false => exact iteF (w _ _ _ (R.after E1))
    | true =>
      refine iteT ⟨fun σ' H' => ∃ m', m' < n + 1 ∧ ∃ Γ G, Rep X.K H₀ G₀ Γ σ' H' G ∧ Lifts X.K W H₀ G₀ (sWhileN g T m' Γ) D, fun σ' H' h => h, ?_⟩
      refine qb _ _ _ _ _ _ (R.after E1) _ ?_
      dsimp only at w
      cases h : T Γ with
      | nx Γ' => rw [h] at w; exact fun σ H G R => ⟨n, Nat.lt_succ_self _, Γ', G, R, w⟩
      | ct Γ' => rw [h] at w; exact fun σ H G R => ⟨n, Nat.lt_succ_self _, Γ', G, R, w⟩
      | bk Γ' => rw [h] at w; exact w
      | rt d => rw [h] at w; exact w
      | ex c d => rw [h] at w; exact w
      | no => rw [h] at w; exact w
def gName' (i : Nat) : D → Ga → Option Ga := fun d Γ => some (Γ.set i (.val d))
theorem tg_name (i : Nat) (hN : X.N.Nodup) (hi : X.N[i]? = some x := by rfl) (hx : Loc X.env.scope x := by first | exact Or.inl rfl | exact Or.inr rfl)
    (hf : X.fn x = true ∨ X.env.scope.names.lookup x = some .local := by first | exact .inl rfl | exact .inr rfl | assumption) : TgD X (.Name x pos) (gName' i) :=
  ⟨_, pg_name hN hi hx hf, fun H₀ G₀ Γ σ H G d v Γ' R h e Q q => by cases e; exact q _ (R.setV i h)⟩
def gTwo (g1 g2 : D → Ga → Option Ga) : D → Ga → Option Ga := fun d Γ => match d with
  | .tup [d1, d2] => (g1 d1 Γ).bind (g2 d2)
  | _ => none
theorem tg_two {e1 e2 : Expr} {g1 g2 : D → Ga → Option Ga} {k : Nat} (hc : X.calm = true) (h1 : TgD X e1 g1) (h2 : TgD X e2 g2)
    (hs1 : (assignEach [e1, e2] X.env).map (·.2) = assign e1 X.env :: (assignEach [e2] X.env).map (·.2) := by rfl) (hs2 : (assignEach [e2] X.env).map (·.2) = assign e2 X.env :: (assignEach [] X.env).map (·.2) := by rfl)
    (hn : (assignEach [e1, e2] X.env).length = 2 := by rfl) (hst : (assignEach [e1, e2] X.env).findIdx? (·.1) = none := by rfl) :
    TgD X (.Tuple [e1, e2] k pos) (gTwo g1 g2) := by
  obtain ⟨t1, p1, q1⟩ := h1
  obtain ⟨t2, p2, q2⟩ := h2
  refine ⟨_, pg_tup hc (pgs_cons p1 (pgs_cons p2 pgs_nil hs2) hs1) hn hst, fun H₀ G₀ Γ σ H G d v Γ' R h e' Q q => ?_⟩
  unfold gTwo at e'
  split at e'
  · rename_i d1 d2
    obtain ⟨Γ1, e1, e2⟩ := Option.bind_eq_some_iff.mp e'
    obtain ⟨a, vs, rfl, s, l⟩ := den_tup.mp h
    obtain ⟨v1, r1, rfl, l1, l⟩ := denL_cons.mp l
    obtain ⟨v2, r2, rfl, l2, l⟩ := denL_cons.mp l
    cases denL_nil.mp l
    refine ⟨a, _, rfl, Same.seqT R.gh s, rfl, v1, _, rfl, q1 _ _ _ _ _ _ _ _ _ R l1 e1 _ fun σ1 R1 => ⟨v2, [], rfl, q2 _ _ _ _ _ _ _ _ _ R1 l2 e2 _ fun σ2 R2 => ⟨rfl, q σ2 R2⟩⟩⟩
  · cases e'
def sTurns (g : D → Ga → Option Ga) (T : Ga → RS) : List D → Ga → RS
  | [], Γ => .nx Γ
  | d :: ds, Γ => match g d Γ with
    | none => .no
    | some Γ1 => match T Γ1 with
      | .nx Γ' => sTurns g T ds Γ'
      | .ct Γ' => sTurns g T ds Γ'
      | .bk Γ' => .nx Γ'
      | r => r
end
def begin_ (N : List Str) (ds : List D) : Ga := ds.map Sl.val ++ List.replicate (N.length - ds.length) Sl.un
theorem begin_at {N : List Str} {ds : List D} {i : Nat} {x : Sl} (h : (begin_ N ds)[i]? = some x) : x = .un ∨ ∃ d, x = .val d ∧ ds[i]? = some d := by
  unfold begin_ at h
  by_cases hi : i < ds.length
  · rw [List.getElem?_append_left (by simpa using hi), List.getElem?_map] at h
    obtain ⟨d', e1, e2⟩ := Option.map_eq_some_iff.mp h
    exact .inr ⟨d', e2.symm, e1⟩
  · rw [List.getElem?_append_right (by simpa using hi)] at h
    obtain ⟨_, e⟩ := List.getElem?_eq_some_iff.mp h
    rw [List.getElem_replicate] at e
    exact .inl e.symm
theorem start_at {N : List Str} {vs : List V} {i : Nat} {v : V} (h : vs[i]? = some v) : (L2.start N vs)[i]? = some (some v) := by
  unfold L2.start
  rw [List.getElem?_append_left (by rw [List.length_map]; exact (List.getElem?_eq_some_iff.mp h).1), List.getElem?_map, h]
  rfl
theorem rep_begin {K : PySem.W.Frag} {H G : Hp} {N : List Str} {ds : List D} {vs : List V} (g : Same G H) (l : DenL K G ds vs) : Rep K H G (begin_ N ds) (L2.start N vs) H G where
  ex := .refl g
  ln := by unfold begin_ L2.start; simp [l.length]
  all := fun i x h => by
    rcases begin_at h with rfl | ⟨d, rfl, e⟩
    · trivial
    · obtain ⟨v, e3, e4⟩ := l.get e
      exact ⟨v, start_at e3, e4⟩
  di := fun i j x y a h _ m => by
    rcases begin_at h with rfl | ⟨d, rfl, e⟩ <;> cases m
def callR (N : List Str) (s : Ga → RS) (ds : List D) : R D := match s (begin_ N ds) with
  | .rt d => .ok d
  | .nx _ => .ok .non
  | .ex c _ => .ex c
  | _ => .no
section
variable {P : Program} {w : World} {K : PySem.W.Frag} {mg : Str → Option Value} {base : Heap}
end
end Wy


namespace Wy
open PySem PySem.Spec PyProof.Rows L2
def Yields (K : PySem.W.Frag) (J : It) (G : Hp) (ds : List D) : Prop := ∀ (k : Nat) (H' G' : Hp), Same G G' → Same G' H' →
  (∀ d, ds[k]? = some d → J.go k H' ∧ ∀ x H'', J.yld k H' x H'' → ∃ G'', Ext H' G' H'' G'' ∧ Den K G'' d x) ∧ (ds.length ≤ k → J.stop k H')
def ItD (X : Cx) (W : XP) (tg iter : Expr) (f : Ga → R (List D)) : Prop := ∃ wi, PI X tg iter wi ∧ ∀ (H₀ G₀ : Hp) (Γ : Ga) (σ : L2.St) (H G : Hp), Rep X.K H₀ G₀ Γ σ H G →
  ∀ R : It → Hp → Prop, (f Γ).want (exAt W σ H G) (fun ds => ∀ J H' G', Ext H G H' G' → Yields X.K J G' ds → R J H') → wi σ H R
section
variable {X : Cx} {W : XP} {tg e : Expr} {f : Ga → R D} {fl : Ga → R (List D)} {pos pos' : Pos} {sa : List Stmt} {T : Ga → RS}
def asL : D → Option (List D)
  | .lst ds => some ds
  | _ => none
def asT : D → Option (List D)
  | .tup ds => some ds
  | _ => none
theorem asL_eq {d : D} {ds : List D} (h : asL d = some ds) : d = .lst ds := by cases d <;> first | (cases h; rfl) | cases h
theorem asT_eq {d : D} {ds : List D} (h : asT d = some ds) : d = .tup ds := by cases d <;> first | (cases h; rfl) | cases h
def iL (f : Ga → R D) : Ga → R (List D) := fun Γ => (f Γ).bind fun d => .ofO (asL d)
def iT (f : Ga → R D) : Ga → R (List D) := fun Γ => (f Γ).bind fun d => .ofO (asT d)
theorem it_list (he : EvD X W e f) : ItD X W tg e (iL f) := by
  obtain ⟨t, p, q⟩ := he
  refine ⟨_, pi_list p, fun H₀ G₀ Γ σ H G R Q w => ?_⟩
  refine q _ _ _ _ _ _ R _ (wStep w (fun _ h => h) fun d w v H' G' E1 d1 => ?_)
  obtain ⟨ds, e2, k⟩ := wOfO w
  cases asL_eq e2
  obtain ⟨a, vs, rfl, s, l⟩ := den_lst.mp d1
  refine ⟨a, rfl, ⟨vs, E1.gh.seq s⟩, k _ H' G' E1 fun i H2 G2 g2 h2 => ⟨fun d hd => ?_, fun hi => ⟨vs, (g2.trans h2).seq s, by rw [← l.length]; exact hi⟩⟩⟩
  obtain ⟨v, hv, dv⟩ := l.get hd
  refine ⟨⟨vs, v, (g2.trans h2).seq s, hv⟩, fun x H3 ⟨z, y⟩ => ?_⟩
  subst z
  have q := y vs ((g2.trans h2).seq s)
  rw [hv] at q
  cases q
  exact ⟨G2, .refl h2, dv.up g2⟩
theorem it_tup (he : EvD X W e f) : ItD X W tg e (iT f) := by
  obtain ⟨t, p, q⟩ := he
  refine ⟨_, pi_tup p, fun H₀ G₀ Γ σ H G R Q w => ?_⟩
  refine q _ _ _ _ _ _ R _ (wStep w (fun _ h => h) fun d w v H' G' E1 d1 => ?_)
  obtain ⟨ds, e2, k⟩ := wOfO w
  cases asT_eq e2
  obtain ⟨a, vs, rfl, s, l⟩ := den_tup.mp d1
  refine ⟨a, rfl, ⟨vs, Same.seqT E1.gh s⟩, k _ H' G' E1 fun i H2 G2 g2 h2 => ⟨fun d hd => ?_, fun hi => ⟨vs, Same.seqT (g2.trans h2) s, by rw [← l.length]; exact hi⟩⟩⟩
  obtain ⟨v, hv, dv⟩ := l.get hd
  refine ⟨⟨vs, v, Same.seqT (g2.trans h2) s, hv⟩, fun x H3 ⟨z, y⟩ => ?_⟩
  subst z
  have q := y vs (Same.seqT (g2.trans h2) s)
  rw [hv] at q
  cases q
  exact ⟨G2, .refl h2, dv.up g2⟩
def rng1 : List D → Option (List D)
  | [.int j] => if -(2 ^ 62) ≤ j ∧ j < 2 ^ 62 then some ((List.range j.toNat).map fun (k : Nat) => D.int (0 + (k : Int))) else none
  | _ => none
theorem yields_rng {K : PySem.W.Frag} {G : Hp} (lo : Int) (n : Nat) : Yields K (Itr lo n) G ((List.range n).map fun (k : Nat) => D.int (lo + (k : Int))) := by
  intro i H' G' g h
  refine ⟨fun d hd => ?_, fun hi => by have h := hi; simp at h; exact h⟩
  rw [List.getElem?_map] at hd
  obtain ⟨j, e1, e2⟩ := Option.map_eq_some_iff.mp hd
  obtain ⟨hi, e3⟩ := List.getElem?_eq_some_iff.mp e1
  rw [List.getElem_range] at e3
  rw [List.length_range] at hi
  subst e3
  subst e2
  refine ⟨hi, fun x H'' ⟨z, y⟩ => ?_⟩
  subst z
  subst y
  exact ⟨G', .refl h, den_int⟩
def iR1 (fl : Ga → R (List D)) : Ga → R (List D) := fun Γ => (fl Γ).bind fun d => .ofO (rng1 d)
theorem it_range1 {p : Pos} (hg : Gl X "range") (hm : X.mg "range" = none) (he : AvD X W [e] fl) (hse : starEach [e] X.env = [(false, eval e X.env)] := by rfl) : ItD X W tg (.Call (.Name "range" p) [e] [] pos) (iR1 fl) := by
  obtain ⟨t, pe, _, q⟩ := he
  refine ⟨_, pi_range1 hg hm pe hse, fun H₀ G₀ Γ σ H G R Q w => ?_⟩
  refine q _ _ _ _ _ _ R _ (wStep w (fun _ h => h) fun d w vs H' G' E1 d1 => ?_)
  obtain ⟨ds, e2, k⟩ := wOfO w
  unfold rng1 at e2
  split at e2
  · rename_i j
    split at e2
    · rename_i hj
      cases e2
      obtain ⟨v, r, rfl, da, db⟩ := denL_cons.mp d1
      cases denL_nil.mp db
      cases den_intE da
      exact ⟨j, rfl, hj.1, hj.2, k _ H' G' E1 (yields_rng 0 _)⟩
    · cases e2
  · cases e2
def sFor (fl : Ga → R (List D)) (g : D → Ga → Option Ga) (T : Ga → RS) : Ga → RS := fun Γ => .of (fl Γ) Γ fun ds => sTurns g T ds Γ
theorem drop_at {α : Type} : ∀ {l : List α} {k : Nat} (h : k < l.length), ∃ d, l[k]? = some d ∧ l.drop k = d :: l.drop (k + 1) := fun {l k} h => ⟨l[k], List.getElem?_eq_getElem h, List.drop_eq_getElem_cons h⟩
theorem x_for {gg : D → Ga → Option Ga} (hc : X.calm = true) (he : ItD X W tg e fl) (ht : TgD X tg gg) (hb : ExDs X W sa T) (hs : ∀ x, foldedSetIterable e X.env x = pure x := by intro _; rfl) (hp : PassesOwn (model X.prog X.w) X.A X.env X.xe := by exact PassesOwn.never) :
    ExD X W (.For tg e sa [] pos) (sFor fl gg T) := by
  obtain ⟨wi, p, q⟩ := he
  obtain ⟨t', p', q'⟩ := ht
  obtain ⟨tb, pb, qb⟩ := hb
  refine ⟨_, ps_for hp hc p p' pb hs, fun H₀ G₀ Γ σ H G R D w => ?_⟩
  refine q _ _ _ _ _ _ R _ (wS R w fun ds hr J H' G' E1 y => ?_)
  have R1 := (R.after E1).base
  have hr := hr.base (R.after E1).ex
  refine ⟨fun k m σ H => ∃ Γ G, Rep X.K H₀ G' Γ σ H G ∧ Lifts X.K W H₀ G' (sTurns gg T (ds.drop k) Γ) D ∧ m + k = ds.length, ⟨ds.length, Γ, G', R1, hr, rfl⟩, fun k m σ H ⟨Γ, G, R, hr, hm⟩ => ?_⟩
  have Y := y k H G R.ex.gg R.gh
  by_cases hk : k < ds.length
  · obtain ⟨d, hd, hdr⟩ := drop_at hk
    obtain ⟨go, yl⟩ := Y.1 d hd
    rw [hdr] at hr
    unfold sTurns at hr
    cases g1 : gg d Γ with
    | none => rw [g1] at hr; exact hr.elim
    | some Γ1 =>
      rw [g1] at hr
      dsimp only at hr
      refine .inr ⟨go, fun σ' H' => ∃ Γ G, Rep X.K H₀ G' Γ σ' H' G ∧ Lifts X.K W H₀ G' (sTurns gg T (ds.drop (k + 1)) Γ) D, fun σ' H' ⟨Γ, G, R, h⟩ => ⟨m - 1, by omega, Γ, G, R, h, by omega⟩, fun x H2 hy => ?_⟩
      obtain ⟨G2, E2, dv⟩ := yl x H2 hy
      refine q' _ _ _ _ _ _ _ _ _ (R.after E2) dv g1 _ fun σ' R1 => ?_
      refine qb _ _ _ _ _ _ R1 _ ?_
      cases h : T Γ1 with
      | nx Γ' => rw [h] at hr; exact fun σ H G R => ⟨Γ', G, R, hr⟩
      | ct Γ' => rw [h] at hr; exact fun σ H G R => ⟨Γ', G, R, hr⟩
      | bk Γ' => rw [h] at hr; exact hr
      | rt d => rw [h] at hr; exact hr
      | ex c d => rw [h] at hr; exact hr
      | no => rw [h] at hr; exact hr
  · have z : ds.drop k = [] := List.drop_eq_nil_of_le (by omega)
    rw [z] at hr
    exact .inl ⟨Y.2 (by omega), hr _ _ _ R⟩
end
def dots (n : Nat) : Str := ⟨Array.replicate n 46⟩
def dum (n : Nat) : Str := dots (2 * n + 3)
def accN (n : Nat) : Str := dots (2 * n + 2)
def blkN (x : Str) (N : List Str) : List Str := x :: accN N.length :: N.map fun y => if y = x then dum N.length else y
def blk (X : Cx) (scope : Scope) (cl : List (Str × Addr)) (C : Addr) (x : Str) (s₀ : Shared) (H₀ : Hp) (ex : List Addr) : Cx :=
  { X with N := blkN x X.N, s₀ := s₀, H₀ := H₀, env := compEnvC scope cl C X.env, outer := X.stack, stack := X.stack, ex := ex, fn := fun _ => false, pn := [], xe := fun _ _ => False }
structure BlkOk (X : Cx) (scope : Scope) (cl : List (Str × Addr)) (x : Str) : Prop where
  kind : scope.kind = .function
  cells : ∀ y ∈ scope.names, y.2 ≠ .cell
  clos : closureFor scope X.env = pure cl
  names : ∀ y ∈ scope.names, y.2 = .local → scope.names.lookup y.1 = some .local
  var : scope.names.lookup x = some .local
  nd : (blkN x X.N).Nodup
  cl1 : ∀ y c, cl.lookup y = some c → X.env.cells.lookup y = some c
  cl2 : ∀ y, ((relabel scope X.env).names.lookup y = some .cell ∨ (relabel scope X.env).names.lookup y = some .free) → ∃ c, cl.lookup y = some c
  acc : ¬ Vis (relabel scope X.env) (accN X.N.length)
  vis : ∀ y ∈ X.N, (if y = x then dum X.N.length else y) ∈ blkN x X.N → Vis (relabel scope X.env) (if y = x then dum X.N.length else y) → y ≠ x ∧ ((relabel scope X.env).names.lookup y = some .cell ∨ (relabel scope X.env).names.lookup y = some .free) ∧ (X.env.kindOf y = some .cell ∨ X.env.kindOf y = some .free)
section
variable {X : Cx} {pins : List (Addr × Obj)} {σ : L2.St} {H : Hp} {s : Shared} {scope : Scope} {cl : List (Str × Addr)} {x : Str} {fp : List Addr}
theorem blk_ok (B : BlkOk X scope cl x) (I : Inv X pins σ H s) (hf : ∀ b ∈ fp, FpOk X pins H b) (hfp : ∀ b ∈ fp, b < s.heap.objs.size) {C : Addr} (hC : s.heap.objs.size ≤ C) : (blk X scope cl C x s H fp).Ok where
  mod := I.ok.mod
  kind := B.kind
  glob := I.ok.glob
  blt := I.ok.blt
  above := hC
  inj := fun y z c h1 h2 => I.ok.inj y z c (B.cl1 y c h1) (B.cl1 z c h2)
  has := fun y h => B.cl2 y h
  cab := fun _ _ h => nomatch h
  hd := I.ok.hd
  frames := I.ok.frames
  stk := .inl rfl
  exf := fun b hb => ⟨Nat.ne_of_lt (Nat.lt_of_lt_of_le (hfp b hb) hC), fun y c h => (hf b hb).2.2.2.2.1 y c (B.cl1 y c h)⟩
  bs := I.bs
  bsz := Nat.le_trans I.ok.bsz I.sz
  noex := fun b o e hb => by
    rcases (hf b hb).2.2.2.1 with z | z
    · exact I.ok.noex b o e z
    · exact absurd (Nat.lt_of_lt_of_le (Heap.lt_size e) (Nat.le_trans I.ok.bsz z)) (Nat.lt_irrefl _)
  exfs := fun b hb z => by
    rcases List.mem_cons.mp (I.stkSub b z) with e | e
    · exact (hf b hb).2.1 e
    · exact (hf b hb).2.2.1 e
  funs := I.stack
  frf := I.stkFree
theorem blk_inv (B : BlkOk X scope cl x) (I : Inv X pins σ H s) (hf : ∀ b ∈ fp, FpOk X pins H b) (hfp : ∀ b ∈ fp, b < s.heap.objs.size) {C Dd : Addr} {h1 : Heap} {tk : Nat} {m : Str → Option Value}
    (hC : s.heap.objs.size ≤ C) (hD : s.heap.objs.size ≤ Dd) (hDC : Dd ≠ C) (hn : h1.Ns C m) (hd : h1.get? Dd = some { cls := .type "list", data := .seq #[] 0 }) (k : ∀ b o, s.heap.get? b = some o → h1.get? b = some o) :
    Inv (blk X scope cl C x s H fp) [] (none :: some (V.ref Dd) :: σ) (upd H Dd (.lst [])) { s with heap := h1, toks := tk } where
  ok := blk_ok B I hf hfp hC
  os := rfl
  bare := I.bare
  base := Un.laid k hD (I.hok.fresh hD)
  loc := by
    refine ⟨m, hn, fun i y v e1 e2 e3 => ?_⟩
    match i, e1, e2 with
    | 0, e1, e2 => cases e2
    | 1, e1, e2 =>
      have e : y = accN X.N.length := by
        have := e1
        simp only [blk, blkN, List.getElem?_cons_succ, List.getElem?_cons_zero] at this
        exact (Option.some.inj this).symm
      subst e
      exact absurd e3 B.acc
    | i + 2, e1, e2 =>
      have e1' : (X.N.map fun y => if y = x then dum X.N.length else y)[i]? = some y := e1
      have e2' : σ[i]? = some (some v) := e2
      rw [List.getElem?_map] at e1'
      obtain ⟨z, hz, ez⟩ := Option.map_eq_some_iff.mp e1'
      subst ez
      have hmem : z ∈ X.N := List.mem_of_getElem? hz
      obtain ⟨hne, hk1, hk2⟩ := B.vis z hmem (List.mem_cons_of_mem _ (List.mem_cons_of_mem _ (List.mem_map_of_mem (f := fun y => if y = x then dum X.N.length else y) hmem))) e3
      rw [if_neg hne]
      obtain ⟨m0, _, hl⟩ := I.loc
      obtain ⟨u, r, l⟩ := hl i z v hz e2' (hk2.elim (fun q => .inr (.inl q)) fun q => .inr (.inr q))
      refine ⟨u, r, .inr ⟨hk1, ?_⟩⟩
      rcases l with ⟨q, _⟩ | ⟨_, c, hc, hcell⟩
      · rcases hk2 with q' | q' <;> (rw [q] at q'; cases q')
      · obtain ⟨c', hc'⟩ := B.cl2 z hk1
        have := B.cl1 z c' hc'
        rw [hc] at this
        cases this
        obtain ⟨o, ho, hod⟩ := hcell
        exact ⟨c, hc', o, k _ _ ho, hod⟩
  cell := fun y c h => by
    obtain ⟨v, o, ho, hod⟩ := I.cell y c (B.cl1 y c h)
    exact ⟨v, o, k _ _ ho, hod⟩
  free := by
    show upd H Dd (.lst []) C = none
    rw [upd_ne (Ne.symm hDC)]
    exact I.hok.fresh hC
  freeC := fun y c h => by
    obtain ⟨v, o, ho, hod⟩ := I.cell y c (B.cl1 y c h)
    show upd H Dd (.lst []) c = none
    rw [upd_ne (fun e => absurd (Nat.lt_of_lt_of_le (Heap.lt_size ho) (by rw [e]; exact hD)) (Nat.lt_irrefl _))]
    exact I.freeC y c (B.cl1 y c h)
  pin := fun p hp => nomatch hp
  hok := I.hok.laid k hD ⟨Nat.zero_le _, [], 0, .nil, hd⟩
  len := by
    show (none :: some (V.ref Dd) :: σ).length = (blkN x X.N).length
    simp [blkN, I.len]
end
theorem bind_ok' {α β : Type} {x : R α} {f : α → R β} {b : β} (h : x.bind f = .ok b) : ∃ a, x = .ok a ∧ f a = .ok b := by
  cases x with
  | ok a => exact ⟨a, rfl, h⟩
  | ex c => cases h
  | no => cases h
def compR (c : Ga → R Bool) (f : Ga → R D) (Γ : Ga) : List D → R (List D)
  | [] => .ok []
  | d :: ds => (c (.val d :: .un :: Γ)).calm.bind fun k => match k with
    | true => (f (.val d :: .un :: Γ)).calm.bind fun y => (compR c f Γ ds).bind fun r => .ok (y :: r)
    | false => compR c f Γ ds
theorem compR_calm (c : Ga → R Bool) (f : Ga → R D) (Γ : Ga) : ∀ ds x, compR c f Γ ds ≠ .ex x
  | [], x, h => by cases h
  | d :: ds, x, h => by
    unfold compR at h
    cases h1 : c (.val d :: .un :: Γ) with
    | ok k =>
      rw [h1] at h
      cases k with
      | false => exact compR_calm c f Γ ds x h
      | true =>
        simp only [calm_of_ok, R.bind_ok] at h
        cases h2 : f (.val d :: .un :: Γ) with
        | ok y =>
          rw [h2] at h
          simp only [calm_of_ok, R.bind_ok] at h
          cases h3 : compR c f Γ ds with
          | ok r => rw [h3] at h; cases h
          | ex z => exact compR_calm c f Γ ds z h3
          | no => rw [h3] at h; cases h
        | ex z => rw [h2] at h; cases h
        | no => rw [h2] at h; cases h
    | ex z => rw [h1] at h; cases h
    | no => rw [h1] at h; cases h
def TsD (X : Cx) (ifs : List Expr) (c : Ga → R Bool) : Prop :=
  ∀ (pins : List (Addr × Obj)) (s : Shared) (σ : L2.St) (H : Hp) (H₀ G₀ : Hp) (Γ : Ga) (G : Hp) (b : Bool), Inv X pins σ H s → Rep X.K H₀ G₀ Γ σ H G → c Γ = .ok b →
    wpAny (model X.prog X.w) X.A (forIn ifs true fun t r => if r = true then do let ok ← isTrue t X.env (eval t X.env); pure (ForInStep.yield ok) else pure (ForInStep.yield r)) (fun ok s' => ok = b ∧ ∃ H' G', Inv X pins σ H' s' ∧ Ext H G H' G') X.xe s
def cTrue : Ga → R Bool := fun _ => .ok true
theorem ts_nil {X : Cx} : TsD X [] cTrue := fun pins s σ H H₀ G₀ Γ G b I R e => by
  cases e
  exact wpAny_tests_nil ⟨rfl, H, G, I, .refl R.gh⟩
theorem ts_one {X : Cx} {t : Expr} {c : Ga → R Bool} (h : TvD X XP0 t c) : TsD X [t] c := fun pins s σ H H₀ G₀ Γ G b I R e => by
  obtain ⟨tt, p, q⟩ := h
  refine wpAny_tests_one (thn (p pins s σ H (fun k H' => k = b ∧ ∃ G', Ext H G H' G') I (q _ _ _ _ _ _ R _ (by rw [e]; exact fun H' G' E1 => ⟨rfl, G', E1⟩))) fun ok s' ⟨H', I', e', G', E1⟩ => ⟨e', H', G', I', E1⟩)
section
variable {prog : Program} {w : World} {A : Around} {R : Result → Shared → Prop} {s : Shared}
theorem compLoop_own {elt target iter : Expr} {ifs : List Expr} {scope : Scope} {pos : Pos} {it acc : Value} {env : Env} (I : Nat → Shared → Prop)
    (turn : ∀ n s, I n s → wpAny (model prog w) A (pyNext it) (fun r s₁ => match r with
      | none => R (.ok .next) s₁
      | some v => wpAny (model prog w) A (letOwnedTupleGo target it v) (fun _ s₁ => wpAny (model prog w) A (assign target env v) (fun _ s₂ =>
          wpAny (model prog w) A (forIn ifs true fun c r => if r = true then do let ok ← isTrue c env (eval c env); pure (ForInStep.yield ok) else pure (ForInStep.yield r)) (fun ok s₃ =>
            if ok = true then wpAny (model prog w) A (eval elt env) (fun x s₄ =>
              wpAny (model prog w) A (call (.builtin "list.append") [acc, x]) (fun _ s₅ => ∃ m, m < n ∧ I m s₅) (fun _ _ => False) s₄) (fun _ _ => False) s₃
            else ∃ m, m < n ∧ I m s₃) (fun _ _ => False) s₂) (fun _ _ => False) s₁) (fun _ _ => False) s₁) (fun _ _ => False) s)
    (n : Nat) (h : I n s) :
    codeAny (model prog w) A (.compLoop (.ListComp elt [⟨target, iter, ifs, 0⟩] scope pos) 0 it acc env) R s := by
  refine codeAny_loop rfl I (fun n s hI => ?_) n h
  show wpAny _ A ((compTurn (.ListComp elt [⟨target, iter, ifs, 0⟩] scope pos) 0 it acc env).onRaise (fun x => do noteFrame x env; theTreesLotGoes x)) _ _ s
  refine wpAny_noted ?_
  rw [compTurn_list]
  refine wpAny_bind (wpAny_standAt (wpAny_bind (wpAny_mono (turn n s hI) (fun r s₁ h₁ => ?_) fun _ _ h' => h'.elim)))
  cases r with
  | none => exact wpAny_pure h₁
  | some v =>
    refine wpAny_bind (wpAny_mono h₁ (fun _ s₁ h₁ => ?_) fun _ _ h' => h'.elim)
    refine wpAny_bind (wpAny_mono h₁ (fun _ s₂ h₂ => wpAny_bind (wpAny_mono h₂ (fun ok s₃ h₃ => ?_) fun _ _ h' => h'.elim)) fun _ _ h' => h'.elim)
    cases ok with
    | false => exact wpAny_pure ⟨rfl, h₃⟩
    | true =>
      exact wpAny_bind (wpAny_bind (wpAny_mono h₃ (fun x s₄ h₄ => wpAny_bind (wpAny_mono h₄ (fun _ s₅ h₅ => wpAny_pure (wpAny_pure ⟨rfl, h₅⟩)) fun _ _ h' => h'.elim)) fun _ _ h' => h'.elim))
end
theorem Rep.consUn {K : PySem.W.Frag} {H₀ G₀ H G : Hp} {Γ : Ga} {σ : L2.St} (R : Rep K H₀ G₀ Γ σ H G) (o : Option V) : Rep K H₀ G₀ (.un :: Γ) (o :: σ) H G where
  ex := R.ex
  ln := by simp [R.ln]
  all := fun i x h => by
    cases i with
    | zero => cases h; trivial
    | succ i => exact R.all i x (by simpa using h)
  di := fun i j x y a h1 h2 m1 m2 h3 h4 => by
    cases i with
    | zero => cases h1; cases m1
    | succ i =>
      cases j with
      | zero => cases h2; cases m2
      | succ j => exact congrArg (· + 1) (R.di i j x y a (by simpa using h1) (by simpa using h2) m1 m2 (by simpa using h3) (by simpa using h4))
section
variable {X : Cx} {pins : List (Addr × Obj)} {σ : L2.St} {H H₀ G₀ G : Hp} {Γ : Ga} {s : Shared} {scope : Scope} {cl : List (Str × Addr)} {x : Str} {px pos : Pos} {fp : List Addr} {elt iter : Expr} {ifs : List Expr} {c : Ga → R Bool} {f : Ga → R D}
theorem comp_core {J : It} {it : Addr} {tn : Nat → Heap → Prop} {ds outs : List D} {E : Value → Shared → Prop} (B : BlkOk X scope cl x) (hcalm : X.calm = true) (I : Inv X pins σ H s) (R : Rep X.K H₀ G₀ Γ σ H G)
    (T : Turn X.prog X.w X.K (.Name x px) J fp it tn) (st : tn 0 s.heap) (hf : ∀ b ∈ fp, FpOk X pins H b) (Y : Yields X.K J G ds)
    (hT : ∀ C, TsD (blk X scope cl C x s H fp) ifs c) (hE : ∀ C, EvD (blk X scope cl C x s H fp) XP0 elt f) (hc : compR c f Γ ds = .ok outs) (hlen : ds.length < 16000000)
    {RR : Value → Addr → Result → Shared → Prop}
    (hRR : ∀ Dd C s' H' G' vs m, s'.os = s.os → AllBare s'.gens → Un (frs X.stack) fp H H' s.heap s'.heap → HOk X.prog X.w H' s'.heap → s.heap.objs.size ≤ C → H' C = none → s'.heap.Ns C m →
      Ext H G H' G' → H Dd = none → H' Dd = some (.lst vs) → G' Dd = none → DenL X.K G' outs vs → RR (.ref Dd) C (.ok .next) s') :
    wpAny (model X.prog X.w) X.A (newList []) (fun acc s₃ => wpAny (model X.prog X.w) X.A (newFunctionEnv scope X.env.globals cl [] X.env.qual none .none (some X.env)) (fun cenv s₄ =>
      codeAny (model X.prog X.w) X.A (.compStart (.ListComp elt [⟨.Name x px, iter, ifs, 0⟩] scope pos) 0 (.ref it) acc { cenv with scope := relabel scope X.env }) (RR acc cenv.locals) s₄) E s₃) E s := by
  have hfp : ∀ b ∈ fp, b < s.heap.objs.size := fun b hb => by
    obtain ⟨o, e, _⟩ := T.obj 0 _ st b hb
    exact Heap.lt_size e
  refine wpAny_newObj_type (wpAny_newFunctionEnv B.cells (by intro y hy; simp at hy) (fun h₁ hns₁ hsb₁ => ?_) B.kind)
  dsimp only at hns₁ hsb₁ ⊢
  generalize hH2 : s.heap.push { cls := .type "list", dict := none, data := .seq ([] : List Value).toArray } = H2 at hns₁ hsb₁ ⊢
  have hC : H2.objs.size = s.heap.objs.size + 1 := by rw [← hH2, Heap.size_push]
  have hDC : s.heap.objs.size ≠ H2.objs.size := by rw [hC]; exact Nat.ne_of_lt (Nat.lt_succ_self _)
  have hCle : s.heap.objs.size ≤ H2.objs.size := by rw [hC]; exact Nat.le_succ _
  have old : ∀ b o, s.heap.get? b = some o → h₁.get? b = some o := fun b o e => hsb₁.extBut b o (by rw [hC]; exact Nat.ne_of_lt (Nat.lt_succ_of_lt (Heap.lt_size e))) (Heap.get?_push_of_some _ (hH2 ▸ Heap.get?_push_of_some _ e))
  have hacc : h₁.get? s.heap.objs.size = some { cls := .type "list", data := .seq #[] 0 } := hsb₁.extBut _ _ hDC (Heap.get?_push_of_some _ (hH2 ▸ Heap.get?_push_size _ rfl))
  have I0 := blk_inv (tk := s.toks + ([] : List (Str × Value)).length) B I hf hfp hCle (Nat.le_refl _) hDC hns₁ hacc old
  have hp : H s.heap.objs.size = none := I.fresh
  have E0 : Ext H G (upd H s.heap.objs.size (.lst [])) G := .own R.gh hp _
  have R0 : Rep X.K H₀ G₀ (.un :: .own [] :: Γ) (none :: some (V.ref s.heap.objs.size) :: σ) (upd H s.heap.objs.size (.lst [])) G := by
    have r1 := ((R.after E0).consUn (some (V.ref s.heap.objs.size)))
    have r2 := r1.setO 0 (xs := []) (a := s.heap.objs.size) (vs := []) upd_same (R.ex.hh.free hp) (R.gh.free hp) (denL_nil.mpr rfl) (fun j ys hj hy hm hs => ?_)
    · exact r2.consUn none
    · cases j with
      | zero => exact hj rfl
      | succ j =>
        obtain ⟨zs, hz⟩ := Sl.cont_of hm
        obtain ⟨a, us, s1, s2, _⟩ := R.mo (i := j) (x := ys) (by simpa using hy) hz
        have hs' : σ[j]? = some (some (V.ref s.heap.objs.size)) := by simpa using hs
        rw [hs'] at s1
        cases s1
        rw [hp] at s2
        cases s2
  generalize hX : blk X scope cl H2.objs.size x s H fp = X' at I0
  have eK : X'.K = X.K := by rw [← hX]; rfl
  have eP : X'.prog = X.prog := by rw [← hX]; rfl
  have eW : X'.w = X.w := by rw [← hX]; rfl
  have eA : X'.A = X.A := by rw [← hX]; rfl
  have eE : X'.env = compEnvC scope cl H2.objs.size X.env := by rw [← hX]; rfl
  have eX : X'.xe = fun _ _ => False := by rw [← hX]; rfl
  have eN : X'.N = blkN x X.N := by rw [← hX]; rfl
  have eF : X'.fs = frs X.stack := by rw [← hX]; rfl
  have eCa : X'.calm = true := by rw [← hX]; exact hcalm
  have hT' : TsD X' ifs c := hX ▸ hT _
  have hE' : EvD X' XP0 elt f := hX ▸ hE _
  have fpok : ∀ {H' : Hp}, (∀ b ∈ fp, H' b = none) → ∀ b ∈ fp, FpOk X' [] H' b := fun hn b hb => by
    refine ⟨hn b hb, ?_, ?_, .inl (by rw [← hX]; exact hb), ?_, fun p hp => by rw [← hX] at hp; exact nomatch hp⟩
    · rw [← hX]; exact Nat.ne_of_lt (Nat.lt_of_lt_of_le (hfp b hb) hCle)
    · rw [eF]
      intro z
      rcases List.mem_cons.mp (I.stkSub b z) with e | e
      · exact (hf b hb).2.1 e
      · exact (hf b hb).2.2.1 e
    · rw [eE]; exact fun y c' h => (hf b hb).2.2.2.2.1 y c' (B.cl1 y c' h)
  obtain ⟨te, pe, qe⟩ := hE'
  have pg : PG X' (.Name x px) (gName 0) := pg_name (by rw [eN]; exact B.nd) (by rw [eN]; rfl) (by rw [eE]; exact .inl (lookup_relabel_local B.var)) (by rw [eE]; exact .inr (lookup_relabel_local B.var))
  have loop : ∀ s₃ : Shared, s₃ = { s with heap := h₁, toks := s.toks + ([] : List (Str × Value)).length } →
      codeAny (model X.prog X.w) X.A (.compLoop (.ListComp elt [⟨.Name x px, iter, ifs, 0⟩] scope pos) 0 (.ref it) (.ref s.heap.objs.size) (compEnvC scope cl H2.objs.size X.env)) (RR (.ref s.heap.objs.size) H2.objs.size) s₃ := by
    rintro s₃ rfl
    refine compLoop_own (fun n s' => ∃ (k : Nat) (sl : Sl) (o : Option V) (H' G' : Hp) (dn rs : List D), Inv X' [] (o :: some (V.ref s.heap.objs.size) :: σ) H' s' ∧ tn k s'.heap ∧ (∀ b ∈ fp, H' b = none) ∧
      Rep X.K H₀ G₀ (sl :: .own dn :: Γ) (o :: some (V.ref s.heap.objs.size) :: σ) H' G' ∧ Ext H G H' G' ∧ compR c f Γ (ds.drop k) = .ok rs ∧ dn ++ rs = outs ∧ dn.length ≤ k ∧ k ≤ ds.length ∧ n + k = ds.length) ?_ ds.length
      ⟨0, .un, none, _, G, [], outs, I0, T.keep _ _ _ st (fun b hb o e => old b o e), fun b hb => by
        rw [upd_ne (Nat.ne_of_lt (hfp b hb))]; exact (hf b hb).1, R0, E0, hc, rfl, Nat.zero_le _, Nat.zero_le _, rfl⟩
    rintro n s' ⟨k, sl, o, H', G', dn, rs, I', st', fr', R', E', hc', ho, hdn, hkl, hn⟩
    have Yk := Y k H' G' E'.gg E'.gh
    by_cases hk : k < ds.length
    · obtain ⟨d, hd, hdr⟩ := drop_at hk
      obtain ⟨go, yl⟩ := Yk.1 d hd
      rw [hdr] at hc'
      have it1 := T.item X' eP eW eK eCa k [] s' _ H' (fun _ _ => False) I' (fpok fr') st' go
      rw [eA] at it1
      refine wpAny_mono it1 (fun r s1 ⟨u, hr, h4⟩ => ?_) fun _ _ z => z
      subst hr
      refine wpAny_mono h4 (fun _ s5 ⟨xv, H5, I5, r5, y5, st5, fr5⟩ => ?_) fun _ _ z => z
      obtain ⟨G5, E5, d5⟩ := yl xv H5 y5
      have I5' := I5.pinned (fpok fr5) (T.obj _ _ st5)
      have R5 := R'.after E5
      have asg := pg _ s5 _ H5 xv u (fun σ' H' => σ' = some xv :: some (V.ref s.heap.objs.size) :: σ ∧ H' = H5) I5' r5 ⟨rfl, rfl⟩
      rw [eP, eW, eA, eE, eX] at asg
      refine wpAny_mono asg (fun _ s6 ⟨σ6, H6, I6, q6, q6'⟩ => ?_) fun _ _ z => z
      subst q6 q6'
      have R6 : Rep X.K H₀ G₀ (.val d :: .own dn :: Γ) (some xv :: some (V.ref s.heap.objs.size) :: σ) H6 G5 := R5.setV 0 d5
      have R6u : Rep X'.K H₀ G₀ (.val d :: .un :: Γ) (some xv :: some (V.ref s.heap.objs.size) :: σ) H6 G5 := by
        rw [eK]
        refine R6.weak rfl fun i y h => ?_
        match i, h with
        | 0, h => exact .inr h
        | 1, h => cases h; exact .inl rfl
        | i + 2, h => exact .inr h
      unfold compR at hc'
      obtain ⟨kb, ec, hc'⟩ := bind_ok' hc'
      have ec := calm_ok ec
      have tst := hT' _ s6 _ H6 _ _ _ _ _ I6 R6u ec
      rw [eP, eW, eA, eE, eX] at tst
      refine wpAny_mono tst (fun ok s7 ⟨hok, H7, G7, I7, E7⟩ => ?_) fun _ _ z => z
      subst hok
      have R7 := R6.after E7
      have back : ∀ {s8 : Shared} {H8 : Hp} {G8 : Hp} {dn' rs' : List D}, Inv X' (([] : List (Addr × Obj)) ++ pinsAt fp s5.heap) (some xv :: some (V.ref s.heap.objs.size) :: σ) H8 s8 → Rep X.K H₀ G₀ (.val d :: .own dn' :: Γ) (some xv :: some (V.ref s.heap.objs.size) :: σ) H8 G8 → Ext H G H8 G8 →
          compR c f Γ (ds.drop (k + 1)) = .ok rs' → dn' ++ rs' = outs → dn'.length ≤ k + 1 → ∃ m, m < n ∧ ∃ (k : Nat) (sl : Sl) (o : Option V) (H' G' : Hp) (dn rs : List D), Inv X' [] (o :: some (V.ref s.heap.objs.size) :: σ) H' s8 ∧ tn k s8.heap ∧ (∀ b ∈ fp, H' b = none) ∧
            Rep X.K H₀ G₀ (sl :: .own dn :: Γ) (o :: some (V.ref s.heap.objs.size) :: σ) H' G' ∧ Ext H G H' G' ∧ compR c f Γ (ds.drop k) = .ok rs ∧ dn ++ rs = outs ∧ dn.length ≤ k ∧ k ≤ ds.length ∧ m + k = ds.length := fun {s8 H8 G8 dn' rs'} I8 R8 E8 c8 o8 l8 => by
        refine ⟨n - 1, by omega, k + 1, _, _, H8, G8, dn', rs', I8.unpinned, T.keep _ _ _ st5 fun b hb o e => (I8.pin (b, o) (List.mem_append_right _ (List.mem_append_right _ (mem_pinsAt hb e)))).1, fun b hb => ?_, R8, E8, c8, o8, l8, by omega, by omega⟩
        obtain ⟨o, e, _⟩ := T.obj _ _ st5 b hb
        exact (I8.pin (b, o) (List.mem_append_right _ (List.mem_append_right _ (mem_pinsAt hb e)))).2.1
      have E57 : Ext H G H7 G7 := E'.trans (E5.trans E7)
      cases ok with
      | false =>
        rw [if_neg Bool.false_ne_true]
        exact back I7 R7 E57 hc' ho (by omega)
      | true =>
        rw [if_pos rfl]
        obtain ⟨y, ey, hc'⟩ := bind_ok' hc'
        have ey := calm_ok ey
        obtain ⟨r', er, hc'⟩ := bind_ok' hc'
        cases hc'
        have R7u := R6u.after E7
        have ev := pe _ s7 _ H7 (fun v H8 => ∃ G8, Ext H7 G7 H8 G8 ∧ Den X'.K G8 y v) I7 (qe _ _ _ _ _ _ R7u _ (by rw [ey]; exact fun v H8 G8 E8 d8 => ⟨G8, E8, d8⟩))
        rw [eP, eW, eA, eE, eX] at ev
        refine wpAny_mono ev (fun yv s8 ⟨v8, H8, I8, r8, G8, E8, d8⟩ => ?_) fun _ _ z => z
        rw [eK] at d8
        have R8 := R7.after E8
        obtain ⟨a, vs, q1, q2, q3, q4, q5⟩ := R8.ow 1 dn rfl
        cases q1
        have ap := mt_append (X := X') _ s8 _ H8 (.ref s.heap.objs.size) [v8] _ _ (fun v H9 => v = .non ∧ H9 = upd H8 s.heap.objs.size (.lst (vs ++ [v8]))) I8 rfl (.cons r8 .nil) ⟨_, vs, v8, rfl, rfl, q2, by rw [← q5.length]; exact lt24 (by omega), rfl, rfl⟩
        rw [eP, eW, eA, eX] at ap
        refine wpAny_mono ap (fun _ s9 ⟨_, H9, I9, _, _, q9⟩ => ?_) fun _ _ z => z
        subst q9
        refine back I9 (R8.mut (i := 1) rfl rfl (q5.append (.one d8))) ⟨(E57.trans E8).gg, fun b o q => ?_, fun b o q => ?_, (E57.trans E8).fr⟩ er (by rw [List.append_assoc]; exact ho) (by rw [List.length_append, List.length_singleton]; omega)
        · rw [upd_ne (fun z => by rw [z, q4] at q; cases q)]; exact E8.gh b o q
        · rw [upd_ne (fun z => by rw [z, hp] at q; cases q)]; exact (E57.trans E8).hh b o q
    · have z : ds.drop k = [] := List.drop_eq_nil_of_le (by omega)
      rw [z] at hc'
      cases hc'
      rw [List.append_nil] at ho
      subst ho
      have dn1 := T.done X' eP eW eK eCa k [] s' _ H' (fun _ _ => False) I' (fpok fr') st' (Yk.2 (by omega))
      rw [eA] at dn1
      refine wpAny_mono dn1 (fun r s1 ⟨hr, I1⟩ => ?_) fun _ _ z => z
      subst hr
      obtain ⟨a, vs, q1, q2, q3, q4, q5⟩ := R'.ow 1 dn rfl
      cases q1
      obtain ⟨m, hm, _⟩ := I1.loc
      have base := I1.base
      rw [eF] at base
      refine hRR s.heap.objs.size H2.objs.size s1 H' G' vs m ?_ I1.bare ?_ ?_ hCle ?_ ?_ E' hp q2 q4 q5
      · have := I1.os; rw [← hX] at this; exact this
      · rw [← hX] at base; exact base
      · have := I1.hok; rw [eP, eW] at this; exact this
      · have := I1.free; rw [eE] at this; exact this
      · rw [eE] at hm; exact hm
  exact codeAny_compStart_list (loop _ rfl) (T.self _ 0 _ _ _ (T.keep _ _ _ st fun b hb o e => old b o e) (loop _ rfl))
end
section
variable {X : Cx} {scope : Scope} {cl : List (Str × Addr)} {x y : Str} {px py pos spos : Pos} {elt iter : Expr} {ifs : List Expr} {c : Ga → R Bool} {f : Ga → R D} {fl : Ga → R (List D)}
def cpR (fl : Ga → R (List D)) (c : Ga → R Bool) (f : Ga → R D) : Ga → R (List D) := fun Γ => (fl Γ).bind fun ds => if ds.length < 16000000 then compR c f Γ ds else .no
theorem cp_want {Γ : Ga} {ds : List D} {E : Str → Prop} {P : List D → Prop} (h : R.want (if ds.length < 16000000 then compR c f Γ ds else .no) E P) : ∃ outs, ds.length < 16000000 ∧ compR c f Γ ds = .ok outs ∧ P outs := by
  split at h
  · rename_i hl
    cases q : compR c f Γ ds with
    | ok outs => rw [q] at h; exact ⟨outs, hl, rfl, h⟩
    | ex z => exact absurd q (compR_calm c f Γ ds z)
    | no => rw [q] at h; exact h.elim
  · exact h.elim
theorem after_block {pins : List (Addr × Obj)} {σ : L2.St} {H H' : Hp} {s s' : Shared} {fp : List Addr} (I : Inv X pins σ H s) (hf : ∀ b ∈ fp, FpOk X pins H b) (os : s'.os = s.os) (bare : AllBare s'.gens) (un : Un (frs X.stack) fp H H' s.heap s'.heap) (hok : HOk X.prog X.w H' s'.heap) : Inv X pins σ H' s' :=
  I.call' (ch := fp) os un hok bare fun b hb => ⟨(hf b hb).2.2.2.1, (hf b hb).2.1, (hf b hb).2.2.2.2.1, (hf b hb).2.2.2.2.2⟩
theorem turned_C {pins : List (Addr × Obj)} {σ : L2.St} {H H' : Hp} {s s' : Shared} {σ' : L2.St} {C : Addr} {h'' : Heap} (I : Inv X pins σ H s) (I' : Inv X pins σ' H' s') (hC : s.heap.objs.size ≤ C) (hCn : H' C = none) (hsb : Heap.SameBut C s'.heap h'') : Inv X pins σ' H' { s' with heap := h'' } := by
  have q := I.fpOk (H' := H') hC hCn
  exact I'.turned (it := C) (t' := s'.toks) (fun b o hb e => (hsb.2 b hb).trans e) hCn q.2.1 q.2.2.2.1 q.2.2.2.2.1 q.2.2.2.2.2
theorem ow_comp {W : XP} (B : BlkOk X scope cl x) (hcalm : X.calm = true) (hi : ItD X W (.Name x px) iter fl) (hT : ∀ C s H fp, TsD (blk X scope cl C x s H fp) ifs c) (hE : ∀ C s H fp, EvD (blk X scope cl C x s H fp) XP0 elt f)
    (hs : ∀ x, foldedSetIterable iter X.env x = pure x := by intro _; rfl) : OwD X W (.ListComp elt [⟨.Name x px, iter, ifs, 0⟩] scope pos) (cpR fl c f) := by
  obtain ⟨wi, pI, qI⟩ := hi
  refine ⟨fun σ H Q => ∃ (H₀ G₀ : Hp) (Γ : Ga) (G : Hp), Rep X.K H₀ G₀ Γ σ H G ∧ (cpR fl c f Γ).want (exAt W σ H G) fun outs => ∀ p vs H' G', Ext H G H' G' → H p = none → H' p = some (.lst vs) → G' p = none → DenL X.K G' outs vs → Q (.ref p) H', ?_, fun H₀ G₀ Γ σ H G R Q w => ⟨H₀, G₀, Γ, G, R, w⟩⟩
  rintro pins s σ H Q I ⟨H₀, G₀, Γ, G, R, w⟩
  rw [eval_ListComp]
  refine wpAny_comprehension_free (use := none) rfl hs B.clos B.kind B.names ?_
  have h1 := pI pins s σ H (fun J H' => ∃ G' ds outs, Ext H G H' G' ∧ Yields X.K J G' ds ∧ ds.length < 16000000 ∧ compR c f Γ ds = .ok outs ∧ ∀ p vs H' G', Ext H G H' G' → H p = none → H' p = some (.lst vs) → G' p = none → DenL X.K G' outs vs → Q (.ref p) H') I
    (qI _ _ _ _ _ _ R _ (wStep w (fun _ h => h) fun ds w J H' G' E1 y => let ⟨outs, hl, e2, k⟩ := cp_want w; ⟨G', ds, outs, E1, y, hl, e2, k⟩))
  refine thn h1 fun xv s1 h1 => thn h1 fun itv s2 ⟨it, fp, tn, J, H2, e, I2, T, st, hf, G2, ds, outs, E2, y2, hl, e2, k⟩ => ?_
  subst e
  refine comp_core (RR := fun acc C => compPost (model X.prog X.w) X.A X.xe none (EP X pins σ Q) acc C) B hcalm I2 (R.after E2) T st hf y2 (fun C => hT _ _ _ _) (fun C => hE _ _ _ _) e2 hl ?_
  intro Dd C s' H' G' vs m os bare un hok hC hCn hns E' hp h' g' l
  refine ⟨m, hns, fun h'' hsb => ?_⟩
  have I3 := turned_C I2 (after_block I2 hf os bare un hok) hC hCn hsb
  exact ⟨.ref Dd, H', I3, rfl, k Dd vs H' G' (E2.trans E') (E2.hh.free hp) h' g' l⟩
theorem x_setComp {W : XP} (i : Nat) (B : BlkOk X scope cl x) (hcalm : X.calm = true) (hi : ItD X W (.Name x px) iter fl) (hT : ∀ C s H fp, TsD (blk X scope cl C x s H fp) ifs c) (hE : ∀ C s H fp, EvD (blk X scope cl C x s H fp) XP0 elt f)
    (hN : X.N.Nodup) (hy : X.N[i]? = some y := by rfl) (hx : Loc X.env.scope y := by first | exact Or.inl rfl | exact Or.inr rfl)
    (hsw : swapsWith (.ListComp elt [⟨.Name x px, iter, ifs, 0⟩] scope pos) (some (.Name y py)) spos.line X.env = pure true := by rfl)
    (hf' : X.fn y = true ∨ X.env.scope.names.lookup y = some .local := by first | exact .inl rfl | exact .inr rfl | assumption)
    (hs : ∀ x, foldedSetIterable iter X.env x = pure x := by intro _; rfl) : ExD X W (.Assign [.Name y py] (.ListComp elt [⟨.Name x px, iter, ifs, 0⟩] scope pos) spos) (sSetO i (cpR fl c f)) := by
  obtain ⟨wi, pI, qI⟩ := hi
  refine ⟨fun DD σ H => ∃ (H₀ G₀ : Hp) (Γ : Ga) (G : Hp), Rep X.K H₀ G₀ Γ σ H G ∧ (cpR fl c f Γ).want (exAt W σ H G) fun outs => ∀ p vs H' G', Ext H G H' G' → H p = none → H' p = some (.lst vs) → G' p = none → DenL X.K G' outs vs → DD.nx (σ.set i (some (.ref p))) H', ?_, ?_⟩
  · rintro pins s σ H D I ⟨H₀, G₀, Γ, G, R, w⟩
    rw [exec_Assign_Name_used _ _ _ _ hsw]
    refine wpAny_bind (wpAny_standAt (wpAny_bind ?_))
    show wpAny _ X.A (do let _ ← comprehension (.ListComp elt [⟨.Name x px, iter, ifs, 0⟩] scope pos) scope X.env _ (newList []) false (eval iter X.env) (some (assign (.Name y py) X.env))) _ _ s
    refine wpAny_bind (wpAny_mono (wpAny_comprehension_free (use := some (assign (.Name y py) X.env)) (Q := fun _ s' => SP X pins D .next s') rfl hs B.clos B.kind B.names ?_) (fun _ s' hq => wpAny_pure (wpAny_pure hq)) fun _ _ e => e)
    have h1 := pI pins s σ H (fun J H' => ∃ G' ds outs, Ext H G H' G' ∧ Yields X.K J G' ds ∧ ds.length < 16000000 ∧ compR c f Γ ds = .ok outs ∧ ∀ p vs H' G', Ext H G H' G' → H p = none → H' p = some (.lst vs) → G' p = none → DenL X.K G' outs vs → D.nx (σ.set i (some (.ref p))) H') I
      (qI _ _ _ _ _ _ R _ (wStep w (fun _ h => h) fun ds w J H' G' E1 y => let ⟨outs, hl, e2, k⟩ := cp_want w; ⟨G', ds, outs, E1, y, hl, e2, k⟩))
    refine thn h1 fun xv s1 h1 => thn h1 fun itv s2 ⟨it, fp, tn, J, H2, e, I2, T, st, hf, G2, ds, outs, E2, y2, hl, e2, k⟩ => ?_
    subst e
    refine comp_core (RR := fun acc C => compPost (model X.prog X.w) X.A X.xe (some (assign (.Name y py) X.env)) (fun _ s' => SP X pins D .next s') acc C) B hcalm I2 (R.after E2) T st hf y2 (fun C => hT _ _ _ _) (fun C => hE _ _ _ _) e2 hl ?_
    intro Dd C s' H' G' vs m os bare un hok hC hCn hns E' hp h' g' l
    have I3 := after_block I2 hf os bare un hok
    show wpAny _ X.A (assign (.Name y py) X.env (.ref Dd)) _ _ _
    refine wpAny_assign_Name (store_ok2 (v := .ref Dd) I3 hN hy hx rfl (fun s4 I4 ⟨a, hsa, ha⟩ => ?_) hf')
    have nC : C ≠ a := fun z => by
      subst z
      rcases ha with z | z
      · exact absurd (Nat.lt_of_lt_of_le I2.lt (by rw [← z]; exact hC)) (Nat.lt_irrefl _)
      · obtain ⟨v, q⟩ := I2.cell y _ z
        exact absurd (Nat.lt_of_lt_of_le q.lt hC) (Nat.lt_irrefl _)
    refine ⟨m, hns.sameBut hsa nC, fun h'' hsb => ?_⟩
    exact ⟨_, H', turned_C I2 I4 hC hCn hsb, k Dd vs H' G' (E2.trans E') (E2.hh.free hp) h' g' l⟩
  · intro H₀ G₀ Γ σ H G R D w
    refine ⟨H₀, G₀, Γ, G, R, wS R w fun outs w p vs H' G' E1 hp h' g' l => ?_⟩
    exact w _ H' G' ((R.after E1).setO i h' (R.ex.hh.free hp) g' l fun j ys hj hy => own_new R hp j ys hy)
end
end Wy


namespace HT
open PySem PySem.Spec PyProof.Rows L2
section
variable {prog : Program} {w : World} {A : Around} {E : Value → Shared → Prop} {s : Shared}
theorem getItem_tuple_whole {t sl : Addr} {items : Array Value} {vl vu : Value} {lo hi : Option Int} {Q : Value → Shared → Prop} (ht : IsTup s.heap t items) (hs : s.heap.IsSliceOf sl vl vu .none) (pl : IsPart vl lo) (pu : IsPart vu hi)
    (hw : sIx items.size 0 lo = 0 ∧ sIx items.size items.size hi = items.size) (h : Q (.ref t) s) : wpAny (model prog w) A (getItem (.ref t) (.ref sl)) Q E s := by
  obtain ⟨os, hos, hcs, hds⟩ := id hs
  have hTs : s.TypeIs (.ref sl) "slice" := ⟨os, hos, hcs⟩
  unfold getItem
  try with_reducible refine wpAny_holding ?_
  first | refine wpAny_bind (wpAny_pure ?_) | skip
  refine wpAny_bind (wpAny_sequenceKey ht.typeIs (by decide) ?_)
  refine wpAny_bind (wpAny_callSpecial?_slot (name := Str.ofString "__getitem__") ht.typeIs PyProof.Rows.slot_tuple_getitem
    (wpAny_call_entry PyProof.Rows.slot_tuple_getitem ht.typeIs entry_tuple_getitem ?_ (args_tuple_getitem _ _)))
  show wpAny _ _ (Builtin.Tuple.tupleItemsOf (.ref t) >>= _) _ _ s
  refine wpAny_bind (tupleItemsOf_ ht ?_)
  refine wpAny_bind (wpAny_typeOf hTs ?_)
  rw [if_pos (by decide)]
  refine wpAny_bind (sliceApplied_gen hs pl pu ?_)
  have hno : (((sIx items.size 0 lo : Nat) : Int) == 0 && (1 : Int) == 1 && (sIx items.size items.size hi - sIx items.size 0 lo) == items.size) = true := by
    rw [hw.1, hw.2]
    simp
  show wpAny _ _ (if (((sIx items.size 0 lo : Nat) : Int) == 0 && (1 : Int) == 1 && (sIx items.size items.size hi - sIx items.size 0 lo) == items.size) = true then _ else _) _ _ s
  rw [if_pos hno]
  unfold Builtin.Tuple.tupleIsExact
  refine wpAny_bind (wpAny_bind (wpAny_typeOf ht.typeIs (wpAny_pure ?_)))
  rw [if_pos (by decide)]
  exact wpAny_bind (wpAny_rule (wpAny_bind (wpAny_pure (wpAny_pure ⟨_, rfl, wpAny_pure h⟩))))
end
end HT
namespace Wy
open PySem PySem.Spec PyProof.Rows L2
section
variable {X : Cx}
def rSlTA (K : PySem.W.Frag) : V → Option Int → Option Int → Hp → VK → Prop := fun x lo hi H Q => ∃ a xs, x = .ref a ∧ SqT K H a xs ∧
  ((HT.sIx xs.length 0 lo = 0 ∧ HT.sIx xs.length xs.length hi = xs.length) → Q (.ref a) H) ∧ (¬ (HT.sIx xs.length 0 lo = 0 ∧ HT.sIx xs.length xs.length hi = xs.length) → ∀ p, H p = none → Q (.ref p) (upd H p (.tup (cutV xs lo hi))))
theorem sl_tupA : SlR X (rSlTA X.K) := by
  intro pins s σ H x v vl vu lo hi sl Q I rx hs pl pu h
  obtain ⟨a, xs, rfl, hx, q1, q2⟩ := h
  by_cases hw : HT.sIx xs.length 0 lo = 0 ∧ HT.sIx xs.length xs.length hi = xs.length
  · cases rx
    obtain ⟨its, r, ht, hz⟩ := I.tuple hx
    have hlen : its.toArray.size = xs.length := by rw [List.size_toArray]; exact r.length.symm
    refine ⟨"tuple", _, PyProof.Rows.slot_tuple_getitem.lookup, ht.typeIs, ?_⟩
    exact HT.getItem_tuple_whole ht hs pl pu (by rw [hlen]; exact hw) ⟨.ref a, H, I, rfl, q1 hw⟩
  · exact sl_tup pins s σ H _ v vl vu lo hi sl Q I rx hs pl pu ⟨a, xs, rfl, hx, hw, q2 hw⟩
end
end Wy


namespace Wy
open PySem PySem.Spec PyProof.Rows L2
def int2 (g : Int → Int → Option D) : D → D → Option D
  | .int i, .int j => g i j
  | _, _ => none
theorem int2_some {g : Int → Int → Option D} {d1 d2 d : D} (h : int2 g d1 d2 = some d) : ∃ i j, d1 = .int i ∧ d2 = .int j ∧ g i j = some d := by
  cases d1 <;> cases d2 <;> first | exact ⟨_, _, rfl, rfl, h⟩ | cases h
def mulI (i j : Int) : Option D := if (-(2 ^ 64) < i ∧ i < 2 ^ 64) ∨ (-(2 ^ 64) < j ∧ j < 2 ^ 64) then some (.int (i * j)) else none
def modI (i j : Int) : Option D := if 0 < j then some (.int (i % j)) else none
section
variable {X : Cx}
theorem opd_add : OpD X (binaryOp .Add) (int2 fun i j => some (.int (i + j))) := ⟨_, op_add, fun H G x y d1 d2 d g h1 h2 e Q q => by
  obtain ⟨i, j, rfl, rfl, e⟩ := int2_some e
  cases e
  exact ⟨i, j, den_intE h1, den_intE h2, q _ H G (.refl g) den_int⟩⟩
theorem opd_sub : OpD X (binaryOp .Sub) (int2 fun i j => some (.int (i - j))) := ⟨_, op_sub, fun H G x y d1 d2 d g h1 h2 e Q q => by
  obtain ⟨i, j, rfl, rfl, e⟩ := int2_some e
  cases e
  exact ⟨i, j, den_intE h1, den_intE h2, q _ H G (.refl g) den_int⟩⟩
theorem opd_mul : OpD X (binaryOp .Mult) (int2 mulI) := ⟨_, op_mul, fun H G x y d1 d2 d g h1 h2 e Q q => by
  obtain ⟨i, j, rfl, rfl, e2⟩ := int2_some e
  clear e
  unfold mulI at e2
  split at e2
  · rename_i hc
    cases e2
    exact ⟨i, j, den_intE h1, den_intE h2, hc, q _ H G (.refl g) den_int⟩
  · cases e2⟩
theorem opd_mod : OpD X (binaryOp .Mod) (int2 modI) := ⟨_, op_mod, fun H G x y d1 d2 d g h1 h2 e Q q => by
  obtain ⟨i, j, rfl, rfl, e2⟩ := int2_some e
  clear e
  unfold modI at e2
  split at e2
  · rename_i hc
    cases e2
    exact ⟨i, j, den_intE h1, den_intE h2, hc, q _ H G (.refl g) den_int⟩
  · cases e2⟩
theorem opd_le : OpD X (compareOp .LtE) (int2 fun i j => some (.bl (decide (i ≤ j)))) := ⟨_, op_le, fun H G x y d1 d2 d g h1 h2 e Q q => by
  obtain ⟨i, j, rfl, rfl, e⟩ := int2_some e
  cases e
  exact ⟨i, j, den_intE h1, den_intE h2, q _ H G (.refl g) den_bl⟩⟩
theorem opd_gt : OpD X (compareOp .Gt) (int2 fun i j => some (.bl (decide (j < i)))) := ⟨_, op_gt, fun H G x y d1 d2 d g h1 h2 e Q q => by
  obtain ⟨i, j, rfl, rfl, e⟩ := int2_some e
  cases e
  exact ⟨i, j, den_intE h1, den_intE h2, q _ H G (.refl g) den_bl⟩⟩
def ltD : D → D → Option D
  | .int i, .int j => some (.bl (decide (i < j)))
  | .str x, .str y => some (.bl (decide (x.cps.toList < y.cps.toList)))
  | _, _ => none
theorem opd_lt : OpD X (compareOp .Lt) ltD := ⟨_, op_lt.or op_lt_str, fun H G x y d1 d2 d g h1 h2 e Q q => by
  cases d1 <;> cases d2 <;> first | cases e | skip
  · exact .inl ⟨_, _, den_intE h1, den_intE h2, q _ H G (.refl g) den_bl⟩
  · exact .inr ⟨_, _, den_strE h1, den_strE h2, q _ H G (.refl g) den_bl⟩⟩
def inStr (x y : Str) : Bool := !(Builtin.Str.occurrences y x 0 y.length 1).isEmpty
theorem is_bl_val {x : V} {v : Value} {b : Bool} (r : RelV x v) : plainIs v (.bool b) = true ∧ (v == Value.bool b) = decide (x = .bl b) := by
  cases x with
  | non => obtain rfl : v = Value.none := r; exact ⟨rfl, by rw [decide_eq_false (by intro z; cases z)]; rfl⟩
  | bl c =>
    obtain rfl : v = Value.bool c := r
    refine ⟨rfl, ?_⟩
    cases b <;> cases c <;> rfl
  | int i => obtain ⟨t, rfl⟩ := r; exact ⟨rfl, by rw [decide_eq_false (by intro z; cases z)]; rfl⟩
  | str i => obtain ⟨t, rfl⟩ := r; exact ⟨rfl, by rw [decide_eq_false (by intro z; cases z)]; rfl⟩
  | byt i => obtain ⟨t, rfl⟩ := r; exact ⟨rfl, by rw [decide_eq_false (by intro z; cases z)]; rfl⟩
  | flt i => obtain ⟨t, rfl⟩ := r; exact ⟨rfl, by rw [decide_eq_false (by intro z; cases z)]; rfl⟩
  | ref a => obtain rfl : v = Value.ref a := r; exact ⟨rfl, by rw [decide_eq_false (by intro z; cases z)]; rfl⟩
  | ty n => obtain rfl : v = Value.type n := r; exact ⟨rfl, by rw [decide_eq_false (by intro z; cases z)]; rfl⟩
theorem op_isnot_bl : OpR X (compareOp .IsNot) (fun x y H Q => ∃ b, y = .bl b ∧ Q (.bl (!decide (x = .bl b))) H) := by
  rintro pins s σ H x y v u Q I rx ry ⟨b, rfl, q⟩
  obtain rfl : u = Value.bool b := ry
  obtain ⟨p, e⟩ := is_bl_val (b := b) rx
  exact wpAny_isNot_plain p ⟨_, H, I, by rw [e]; rfl, q⟩
def isB (x : D) (b : Bool) : Bool := match x with
  | .bl c => c == b
  | _ => false
theorem isB_den {K : PySem.W.Frag} {G : Hp} {d : D} {v : V} {b : Bool} (h : Den K G d v) : decide (v = .bl b) = isB d b := by
  cases d with
  | non => rw [den_nonE h]; rfl
  | bl c => rw [den_blE h]; cases b <;> cases c <;> rfl
  | int c => rw [den_intE h]; rfl
  | str c => rw [den_strE h]; rfl
  | tup c => obtain ⟨a, vs, rfl, _⟩ := den_tup.mp h; rfl
  | lst c => obtain ⟨a, vs, rfl, _⟩ := den_lst.mp h; rfl
def isnotD (x : D) : D → Option D
  | .bl b => some (.bl (!isB x b))
  | _ => none
theorem opd_isnot : OpD X (compareOp .IsNot) isnotD := ⟨_, op_isnot_bl, fun H G x y d1 d2 d g h1 h2 e Q q => by
  cases d2 <;> first | cases e | skip
  exact ⟨_, den_blE h2, by rw [isB_den h1]; exact q _ H G (.refl g) den_bl⟩⟩
def lenD : List D → Option D
  | [.str x] => if x.length ≤ 10000 then some (.int x.length) else none
  | [.tup ds] => some (.int ds.length)
  | [.lst ds] => some (.int ds.length)
  | _ => none
theorem calld_len : CallD X (.builtin "len") lenD := ⟨_, call_len, fun H G vs ds d g l e Q q => by
  unfold lenD at e
  split at e
  · split at e
    · rename_i hx
      cases e
      obtain ⟨v, r, rfl, h1, h2⟩ := denL_cons.mp l
      cases denL_nil.mp h2
      cases den_strE h1
      exact ⟨_, _, rfl, ⟨big24 hx, rfl⟩, q _ H G (.refl g) den_int⟩
    · cases e
  · cases e
    obtain ⟨v, r, rfl, h1, h2⟩ := denL_cons.mp l
    cases denL_nil.mp h2
    obtain ⟨a, vs, rfl, s, l⟩ := den_tup.mp h1
    exact ⟨_, _, rfl, .inr ⟨vs, Same.seqT g s, rfl⟩, q _ H G (.refl g) (by rw [l.length]; exact den_int)⟩
  · cases e
    obtain ⟨v, r, rfl, h1, h2⟩ := denL_cons.mp l
    cases denL_nil.mp h2
    obtain ⟨a, vs, rfl, s, l⟩ := den_lst.mp h1
    exact ⟨_, _, rfl, .inl ⟨vs, g.seq s, rfl⟩, q _ H G (.refl g) (by rw [l.length]; exact den_int)⟩
  · cases e⟩
theorem calls_len : CallS X (.builtin "len") (fun p => some (.int p.2.length)) := ⟨_, call_len, fun H G b ds d a vs g s l e Q q => by
  cases e
  refine ⟨_, _, rfl, ?_, q _ H G (.refl g) (by rw [l.length]; exact den_int)⟩
  rcases s.or g with z | z
  · exact .inl ⟨vs, z, rfl⟩
  · exact .inr ⟨vs, z, rfl⟩⟩
theorem calls_tuple : CallS X (.type "tuple") (fun p => some (.tup p.2)) := ⟨_, call_tuple_of, fun H G b ds d a vs g s l e Q q => by
  cases e
  cases b with
  | true => exact ⟨a, vs, rfl, .inr ⟨Same.seqT g s, q _ H G (.refl g) (den_tup.mpr ⟨a, vs, rfl, s, l⟩)⟩⟩
  | false =>
    refine ⟨a, vs, rfl, .inl ⟨s, fun p hp => ?_⟩⟩
    have A := Ext.alloc (o := .tup vs) g hp
    exact q _ _ _ A (den_tup.mpr ⟨p, vs, rfl, SqT.of upd_same, l.up A.gg⟩)⟩
variable {W : XP}
theorem atI_den {K : PySem.W.Frag} {G : Hp} {ds : List D} {vs : List V} {i : Int} {d : D} (l : DenL K G ds vs) (h : atI ds i = some d) : ∃ v, atI vs i = some v ∧ Den K G d v := by
  unfold atI at h ⊢
  rw [← l.length]
  obtain ⟨j, e1, e2⟩ := Option.bind_eq_some_iff.mp h
  obtain ⟨v, e3, e4⟩ := l.get e2
  exact ⟨v, by rw [e1]; exact e3, e4⟩
def ixD : D → D → Option D
  | .tup ds, .int i => atI ds i
  | .lst ds, .int i => atI ds i
  | .str z, .int i => if z.length ≤ 10000 then (atI z.cps.toList i).bind fun c => some (.str ⟨#[c]⟩) else none
  | _, _ => none
variable {a b e : Expr} {fa fb f : Ga → R D} {fs : Ga → R (Bool × List D)} {pos : Pos}
theorem ev_ix (ha : EvD X W a fa) (hb : EvD X W b fb) (hs : PlainIx b := by intro _ _; rfl) : EvD X W (.Subscript a b pos) (e2 ixD fa fb) := by
  obtain ⟨ta, pa, qa⟩ := ha
  obtain ⟨tb, pb, qb⟩ := hb
  refine ⟨_, pe_ix ix_seq pa pb hs, fun H₀ G₀ Γ σ H G R Q w => ?_⟩
  refine qa _ _ _ _ _ _ R _ (wStep w (fun _ h => h) fun x w v H1 G1 E1 d1 => ?_)
  refine qb _ _ _ _ _ _ (R.after E1) _ (wStep w (fun _ h => h.up E1) fun y w u H2 G2 E2 d2 => ?_)
  obtain ⟨d, e', k⟩ := wOfO w
  unfold ixD at e'
  split at e'
  · obtain ⟨p, vs, rfl, s, l⟩ := den_tup.mp (d1.up E2.gg)
    obtain ⟨v, h1, h2⟩ := atI_den l e'
    exact .inr (.inl ⟨p, vs, _, v, rfl, den_intE d2, Same.seqT E2.gh s, h1, k _ _ _ (E1.trans E2) h2⟩)
  · obtain ⟨p, vs, rfl, s, l⟩ := den_lst.mp (d1.up E2.gg)
    obtain ⟨v, h1, h2⟩ := atI_den l e'
    exact .inl ⟨p, vs, _, v, rfl, den_intE d2, E2.gh.seq s, h1, k _ _ _ (E1.trans E2) h2⟩
  · split at e'
    · rename_i hz
      obtain ⟨c, ec, e'⟩ := Option.bind_eq_some_iff.mp e'
      cases e'
      exact .inr (.inr ⟨_, _, c, den_strE d1, den_intE d2, big24 hz, ec, k _ _ _ (E1.trans E2) den_str⟩)
    · cases e'
  · cases e'
def ixS : Bool × List D → D → Option D := fun p y => match y with
  | .int i => atI p.2 i
  | _ => none
def eIxS (fs : Ga → R (Bool × List D)) (fb : Ga → R D) : Ga → R D := fun Γ => (fs Γ).bind fun p => (fb Γ).bind fun y => .ofO (ixS p y)
theorem ev_ixS (ha : SqD X W a fs) (hb : EvD X W b fb) (hs : PlainIx b := by intro _ _; rfl) : EvD X W (.Subscript a b pos) (eIxS fs fb) := by
  obtain ⟨ta, pa, qa⟩ := ha
  obtain ⟨tb, pb, qb⟩ := hb
  refine ⟨_, pe_ix ix_seq pa pb hs, fun H₀ G₀ Γ σ H G R Q w => ?_⟩
  refine qa _ _ _ _ _ _ R _ (wStep w (fun _ h => h) fun ⟨b, ds⟩ w p vs H1 G1 E1 s1 l1 => ?_)
  refine qb _ _ _ _ _ _ (R.after E1) _ (wStep w (fun _ h => h.up E1) fun y w u H2 G2 E2 d2 => ?_)
  obtain ⟨d, e', k⟩ := wOfO w
  unfold ixS at e'
  split at e'
  · obtain ⟨v, h1, h2⟩ := atI_den (l1.up E2.gg) e'
    rcases (s1.up E2).or E2.gh with z | z
    · exact .inl ⟨p, vs, _, v, rfl, den_intE d2, z, h1, k _ _ _ (E1.trans E2) h2⟩
    · exact .inr (.inl ⟨p, vs, _, v, rfl, den_intE d2, z, h1, k _ _ _ (E1.trans E2) h2⟩)
  · cases e'
def OvD (X : Cx) (W : XP) (o : Option Expr) (g : Ga → R (Option Int)) : Prop := ∃ t, PO X o t ∧ ∀ (H₀ G₀ : Hp) (Γ : Ga) (σ : L2.St) (H G : Hp), Rep X.K H₀ G₀ Γ σ H G → ∀ Q : Option Int → Hp → Prop, (g Γ).want (exAt W σ H G) (fun b => ∀ H' G', Ext H G H' G' → Q b H') → t σ H Q
def oN : Ga → R (Option Int) := fun _ => .ok none
theorem ov_none : OvD X W none oN := ⟨_, po_none, fun _ _ _ _ H G R Q w => w H G (.refl R.gh)⟩
def asI : D → Option Int
  | .int i => some i
  | _ => none
def oI (f : Ga → R D) : Ga → R (Option Int) := fun Γ => (f Γ).bind fun d => (R.ofO (asI d)).bind fun i => .ok (some i)
theorem ov_some (h : EvD X W e f) : OvD X W (some e) (oI f) := by
  obtain ⟨t, p, q⟩ := h
  refine ⟨_, po_some p, fun H₀ G₀ Γ σ H G R Q w => ?_⟩
  refine q _ _ _ _ _ _ R _ (wStep w (fun _ h => h) fun d w v H' G' E1 d1 => ?_)
  obtain ⟨i, e2, k⟩ := wOfOb w
  cases d <;> first | cases e2 | skip
  exact ⟨_, den_intE d1, k _ _ E1⟩
def cut {α : Type} (xs : List α) (lo hi : Option Int) : List α := (xs.drop (HT.sIx xs.length 0 lo)).take (HT.sIx xs.length xs.length hi - HT.sIx xs.length 0 lo)
theorem cut_whole {α : Type} {xs : List α} {lo hi : Option Int} (h : HT.sIx xs.length 0 lo = 0 ∧ HT.sIx xs.length xs.length hi = xs.length) : cut xs lo hi = xs := by
  unfold cut
  rw [h.1, h.2]
  simp
theorem cut_den {K : PySem.W.Frag} {G : Hp} {ds : List D} {vs : List V} (l : DenL K G ds vs) (lo hi : Option Int) : DenL K G (cut ds lo hi) (cutV vs lo hi) := by
  unfold cut cutV
  rw [← l.length]
  exact (l.drop _).take _
variable {lo hi : Option Expr} {gl gh : Ga → R (Option Int)} {p2 : Pos}
def cutS (p : Bool × List D) (l h : Option Int) : Option (List D) := match p with
  | (false, ds) => some (cut ds l h)
  | _ => none
def oSl (fs : Ga → R (Bool × List D)) (gl gh : Ga → R (Option Int)) : Ga → R (List D) := fun Γ => (fs Γ).bind fun d => (gl Γ).bind fun l => (gh Γ).bind fun h => .ofO (cutS d l h)
theorem ow_slL (he : SqD X W e fs) (hl : OvD X W lo gl) (hh : OvD X W hi gh) : OwD X W (.Subscript e (.Slice lo hi none p2) pos) (oSl fs gl gh) := by
  obtain ⟨t, p, q⟩ := he
  obtain ⟨t1, p1, q1⟩ := hl
  obtain ⟨t2, p2, q2⟩ := hh
  refine ⟨_, pe_slice sl_list p p1 p2, fun H₀ G₀ Γ σ H G R Q w => ?_⟩
  refine q _ _ _ _ _ _ R _ (wStep w (fun _ h => h) fun ⟨b, ds⟩ w a vs H1 G1 E1 s1 d1 => ?_)
  refine q1 _ _ _ _ _ _ (R.after E1) _ (wStep w (fun _ h => h.up E1) fun l w H2 G2 E2 => ?_)
  refine q2 _ _ _ _ _ _ ((R.after E1).after E2) _ (wStep w (fun _ h => h.up (E1.trans E2)) fun h w H3 G3 E3 => ?_)
  obtain ⟨d, e', k⟩ := wOfO w
  cases b with
  | true => cases e'
  | false =>
    cases e'
    have E13 := E1.trans (E2.trans E3)
    refine ⟨a, vs, rfl, (s1.up E2).up E3, fun p hp => ?_⟩
    exact k p _ _ G3 (E13.trans (.own E13.gh hp _)) (E13.hh.free hp) upd_same (E13.gh.free hp) (cut_den (d1.up (E2.gg.trans E3.gg)) l h)
theorem bools_of {bs : List Bool} : ∀ {us : List Value}, Vals (bs.map V.bl) us → LSm.BoolsAre us bs := by
  induction bs with
  | nil => intro us h; cases h; exact .nil
  | cons b bs ih =>
    intro us h
    cases h with
    | cons r t =>
      obtain rfl := (show _ = Value.bool b from r)
      exact .cons b (ih t)
theorem call_all : CallR X (.builtin "all") (fun xs H Q => X.calm = true ∧ ∃ (p : Addr) (bs : List Bool), xs = [.ref p] ∧ SqL X.K H p (bs.map V.bl) ∧ Q (.bl (bs.all id)) H) := by
  rintro pins s σ H xs us Q I rv ⟨hc, p, bs, rfl, hs, q⟩
  obtain ⟨u, rfl, ru⟩ := rv.one
  obtain rfl : u = Value.ref p := ru
  obtain ⟨its, vv, ⟨o, n, h1, h2, h3, h4⟩, hl⟩ := I.list hs
  have hb := bools_of vv
  have hL : s.heap.IsList p its.toArray := ⟨o, h1, h2, n, h4⟩
  have hlt : p < s.heap.objs.size := Heap.lt_size h1
  refine call_all_walk (wpAny_pyIter_list hL ?_)
  refine ⟨s.heap.objs.size, [s.heap.objs.size, p], [s.heap.objs.size], its.toArray.size, _, _, fun i => (bs[i]?).getD true, rfl, Walks.list (A := X.A.in1) (I.ok.hd hc) _ p (Nat.ne_of_lt hlt) its.toArray,
    ⟨⟨_, Heap.get?_push_size _ rfl, rfl, rfl⟩, hL.push _⟩, fun i v s' Q' E' hP hQ => ?_, fun h' tk hk => ?_⟩
  · obtain ⟨b, e, rfl⟩ := hb.get i v (by simpa using hP)
    simp only [e, Option.getD_some] at hQ
    exact wpAny_truthy_bool hQ
  · have e : ((List.range its.toArray.size).all fun i => (bs[i]?).getD true) = bs.all id := by
      rw [List.size_toArray, hb.length]; exact LSm.range_all bs
    rw [e]
    exact ⟨.bl _, H, I.kept (LSm.kept_iter hk), rfl, q⟩
def asBs : List D → Option (List Bool)
  | [] => some []
  | .bl b :: ds => (asBs ds).bind fun r => some (b :: r)
  | _ => none
theorem asBs_den {K : PySem.W.Frag} {G : Hp} : ∀ {ds : List D} {vs : List V} {bs : List Bool}, DenL K G ds vs → asBs ds = some bs → vs = bs.map V.bl
  | [], vs, bs, h, e => by cases e; exact denL_nil.mp h
  | d :: ds, vs, bs, h, e => by
    obtain ⟨v, r, rfl, h1, h2⟩ := denL_cons.mp h
    cases d <;> first | cases e | skip
    obtain ⟨r', e1, e2⟩ := Option.bind_eq_some_iff.mp e
    cases e2
    rw [den_blE h1, asBs_den h2 e1]
    rfl
theorem calls_all (hc : X.calm = true) : CallS X (.builtin "all") (fun p => match p with | (false, ds) => (asBs ds).bind fun bs => some (.bl (bs.all id)) | _ => none) := ⟨_, call_all, fun H G b ds d a vs g s l e Q q => by
  cases b with
  | true => cases e
  | false =>
    obtain ⟨bs, e1, e2⟩ := Option.bind_eq_some_iff.mp e
    cases e2
    have := asBs_den l e1
    subst this
    exact ⟨hc, a, bs, rfl, s, q _ H G (.refl g) den_bl⟩⟩
def tyN : D → String
  | .non => "NoneType"
  | .bl _ => "bool"
  | .int _ => "int"
  | .str _ => "str"
  | .tup _ => "tuple"
  | .lst _ => "list"
def tyK (K : PySem.W.Frag) (H : Hp) (x : V) (t : String) : Prop := match x with
  | .non => t = "NoneType"
  | .bl _ => t = "bool"
  | .int _ => t = "int"
  | .str _ => t = "str"
  | .ref a => (t = "tuple" ∧ ∃ vs, SqT K H a vs) ∨ (t = "list" ∧ ∃ vs, SqL K H a vs)
  | _ => False
theorem tyK_den {K : PySem.W.Frag} {H G : Hp} {d : D} {v : V} (g : Same G H) (h : Den K G d v) : tyK K H v (tyN d) := by
  cases d with
  | non => rw [den_nonE h]; rfl
  | bl b => rw [den_blE h]; rfl
  | int b => rw [den_intE h]; rfl
  | str b => rw [den_strE h]; rfl
  | tup _ => obtain ⟨a, vs, rfl, s, _⟩ := den_tup.mp h; exact .inl ⟨rfl, vs, Same.seqT g s⟩
  | lst _ => obtain ⟨a, vs, rfl, s, _⟩ := den_lst.mp h; exact .inr ⟨rfl, vs, g.seq s⟩
theorem call_isi : CallR X (.builtin "isinstance") (fun xs H Q => ∃ x T t b, xs = [x, .ty T] ∧ tyK X.K H x t ∧ PySem.W.kitOne X.K (.type t) (.type T) = some b ∧ Q (.bl b) H) := by
  rintro pins s σ H xs us Q I rv ⟨x, T, t, b, rfl, ty, e, q⟩
  obtain ⟨u, c, rfl, rx, rc⟩ := rv.two
  obtain rfl : c = Value.type T := rc
  have fin : ∀ tk, EP X pins σ Q (.bool b) { s with toks := tk } := fun tk => ⟨.bl b, H, I.tok tk, rfl, q⟩
  cases x with
  | non => obtain rfl : t = _ := ty; cases (show u = Value.none from rx); exact PySem.W.kia_one PySem.W.kitx_none I.kIn True.intro e (fun z => nomatch z) fin
  | bl y => obtain rfl : t = _ := ty; cases (show u = Value.bool y from rx); exact PySem.W.kia_one PySem.W.kitx_bool I.kIn True.intro e (fun z => nomatch z) fin
  | int i => obtain rfl : t = _ := ty; obtain ⟨t, z⟩ := (show ∃ t, u = Value.int i t from rx); cases z; exact PySem.W.kia_one PySem.W.kitx_int I.kIn True.intro e (fun z => nomatch z) fin
  | str y => obtain rfl : t = _ := ty; obtain ⟨t, z⟩ := (show ∃ t, u = Value.str y t from rx); cases z; exact PySem.W.kia_one PySem.W.kitx_str I.kIn True.intro e (fun z => nomatch z) fin
  | ref a =>
    cases (show u = Value.ref a from rx)
    rcases ty with ⟨rfl, vs, h⟩ | ⟨rfl, vs, h⟩
    · obtain ⟨its, _, ⟨o, h1, h2, _⟩, _⟩ := I.tuple h
      exact PySem.W.kia_one PySem.W.kitx_tuple I.kIn ⟨o, h1, h2⟩ e (fun z => nomatch z) fin
    · obtain ⟨its, _, ⟨o, n, h1, h2, _⟩, _⟩ := I.list h
      exact PySem.W.kia_one PySem.W.kitx_list I.kIn ⟨o, h1, h2⟩ e (fun z => nomatch z) fin
  | byt _ => exact ty.elim
  | flt _ => exact ty.elim
  | ty _ => exact ty.elim
def eIsi (g : String → Bool) (fa : Ga → R D) : Ga → R D := fun Γ => (fa Γ).bind fun d => .ok (.bl (g (tyN d)))
theorem ev_isi {T : String} {nT : Str} {g : String → Bool} {p p3 : Pos} (hg : Gl X "isinstance") (hm : X.mg "isinstance" = none) (hgT : Gl X nT) (hmT : X.mg nT = none) (hv : bootBuiltins nT = some (.type T)) (ha : EvD X W a fa)
    (hk : ∀ d : D, PySem.W.kitOne X.K (.type (tyN d)) (.type T) = some (g (tyN d))) (hvi : bootBuiltins "isinstance" = some (.builtin "isinstance")) (hn : nT ≠ "__name__" := by decide) (hdb : (nT == ("__debug__" : Str)) = false := by decide)
    (hs : starEach [a, .Name nT p3] X.env = (false, eval a X.env) :: starEach [.Name nT p3] X.env := by rfl) (hs2 : starEach [.Name nT p3] X.env = [(false, eval (.Name nT p3) X.env)] := by rfl) :
    EvD X W (.Call (.Name "isinstance" p) [a, .Name nT p3] [] pos) (eIsi g fa) := by
  obtain ⟨t, pt, q⟩ := ha
  have pT : PE X (.Name nT p3) (tC (.ty T)) := pe_bltn hgT hmT hv rfl hn hdb
  refine ⟨_, pe_callB call_isi hg hm hvi (pa_cons pt (pa_cons pT pa_nil hs2) hs) (by decide) (by decide) hs (by rw [hs2]; rfl), fun H₀ G₀ Γ σ H G R Q w => ?_⟩
  refine q _ _ _ _ _ _ R _ (wStep w (fun _ h => h) fun d k v H1 G1 E1 d1 => ?_)
  exact ⟨v, T, _, _, rfl, tyK_den E1.gh d1, hk d, k _ _ _ E1 den_bl⟩
end
end Wy


namespace Wy
open PySem PySem.Spec PyProof.Rows L2
def Its (x : Str) : It := ⟨fun i _ => i < x.cps.size, fun i H v H' => H' = H ∧ ∃ c, x.cps[i]? = some c ∧ v = .str ⟨#[c]⟩, fun i _ => x.cps.size ≤ i⟩
theorem turn_str {P : Program} {w : World} {K : PySem.W.Frag} {tg : Expr} (x : Str) (t : Tok) (it : Addr) : Turn P w K tg (Its x) [it] it (fun i h => h.IsStrIter it "str_ascii_iterator" x t i) where
  mem := by simp
  obj := fun i h st b hb => by
    have e : b = it := by simpa using hb
    subst e
    obtain ⟨o, e, c, d⟩ := st
    exact ⟨o, e, fun v z => by rw [d] at z; cases z⟩
  keep := fun i h h' st k => by
    obtain ⟨o, e, c, d⟩ := st
    exact ⟨o, k it (by simp) o e, c, d⟩
  item := by
    intro X hP hw hK hc i pins s σ H E I hf st hg
    subst hP hw hK
    have hg' : i < x.cps.size := hg
    obtain ⟨f0, f1, f2, f3, f4, f5⟩ := hf it (by simp)
    refine wpAny_pyNext_ascii_item st (c := x.cps[i]) (by rw [Array.getElem?_eq_getElem hg']) fun h' st' sb => ?_
    have I1 : Inv X pins σ H { s with heap := h', toks := s.toks + 1 } := I.turned (t' := s.toks + 1) (fun b o hb e => (sb.2 b hb).trans e) f0 f1 f3 f4 f5
    obtain ⟨o, e, c, d⟩ := id st'
    exact ⟨_, rfl, go_of (s := { s with heap := h', toks := s.toks + 1 }) e c d (by decide) ⟨.str ⟨#[x.cps[i]]⟩, H, I1, ⟨_, rfl⟩, ⟨rfl, _, by rw [Array.getElem?_eq_getElem hg'], rfl⟩, st', fun b hb => (hf b hb).1⟩⟩
  done := by
    intro X hP hw hK hc i pins s σ H E I hf st hg
    subst hP hw hK
    obtain ⟨f0, f1, f2, f3, f4, f5⟩ := hf it (by simp)
    have hg' : x.cps.size ≤ i := hg
    exact wpAny_pyNext_ascii_end (I.ok.hd hc) st (by rw [Array.getElem?_eq_none hg']) fun h' eb => ⟨rfl, I.turned (t' := s.toks) (fun b o hb e => eb b o hb e) f0 f1 f3 f4 f5⟩
  self := fun _ _ _ _ _ st h => wpAny_pyIter_striter_ascii st h
section
variable {X : Cx} {W : XP} {tg e : Expr} {f : Ga → R D} {te : TE}
def iStr (tl : TE) : TI := fun σ H R => tl σ H fun x H1 => ∃ z, x = .str z ∧ z.cps.all (· < 128) = true ∧ R (Its z) H1
theorem pi_str {l : Expr} {tl : TE} (hl : PE X l tl) : PI X tg l (iStr tl) := by
  intro pins s σ H R I h
  refine thn (hl pins s σ H _ I h) fun v s1 ⟨x, H1, I1, r1, q1⟩ => ?_
  obtain ⟨z, rfl, hz, q⟩ := q1
  obtain ⟨t, rfl⟩ := r1
  refine wpAny_pyIter_ascii hz ?_
  refine ⟨s1.heap.objs.size, [s1.heap.objs.size], _, _, H1, rfl, I1.kept (t' := s1.toks) fun b o e => Heap.get?_push_of_some _ e, turn_str z t _, ⟨_, Heap.get?_push_size _ rfl, rfl, rfl⟩, fun b hb => ?_, q⟩
  have e : b = s1.heap.objs.size := by simpa using hb
  subst e
  exact I1.fpOk (Nat.le_refl _) (I1.hok.fresh (Nat.le_refl _))
def signs (z : Str) : List D := z.cps.toList.map fun c => D.str ⟨#[c]⟩
def asSigns : D → Option (List D)
  | .str z => if z.cps.all (· < 128) = true then some (signs z) else none
  | _ => none
def iS (f : Ga → R D) : Ga → R (List D) := fun Γ => (f Γ).bind fun d => .ofO (asSigns d)
theorem it_str (he : EvD X W e f) : ItD X W tg e (iS f) := by
  obtain ⟨t, p, q⟩ := he
  refine ⟨_, pi_str p, fun H₀ G₀ Γ σ H G R Q w => ?_⟩
  refine q _ _ _ _ _ _ R _ (wStep w (fun _ h => h) fun d w v H' G' E1 d1 => ?_)
  obtain ⟨ds, e2, k⟩ := wOfO w
  unfold asSigns at e2
  split at e2
  · rename_i z
    split at e2
    · rename_i hz
      cases e2
      refine ⟨z, den_strE d1, hz, k _ H' G' E1 fun i H2 G2 g2 h2 => ⟨fun d hd => ?_, fun hi => by have h := hi; simp [signs] at h; exact h⟩⟩
      unfold signs at hd
      rw [List.getElem?_map] at hd
      obtain ⟨c, ec, rfl⟩ := Option.map_eq_some_iff.mp hd
      have ec' : z.cps[i]? = some c := by simpa using ec
      refine ⟨(Array.getElem?_eq_some_iff.mp ec').1, fun x H3 ⟨y, c', hc', hx⟩ => ?_⟩
      subst y
      rw [ec'] at hc'
      cases hc'
      subst hx
      exact ⟨G2, .refl h2, den_str⟩
    · cases e2
  · cases e2
end
section
open PySem.SeqAt
open PySem.AutoSeq1 (wpAny_loadPart')
open PySem.MeetsSeq PySem.MeetsSeq2 PySem.MeetsSeq3 PySem.AutoSeq1
theorem list_extend_tup (l : Addr) (items : Array Value) (n : Nat) (b : Addr) (items2 : Array Value) (n2 : Nat) (dd : Option Addr) (sl : Array (Option Value)) (hs0 : ¬(!items.isEmpty && Builtin.List.listTooLong (items.size + items2.size)) = true) (hs1 : items.size ≤ sizeLine) (hs2 : items.size + items2.size ≤ sizeLine + 1) :
    Meets (Builtin.«list.extend» ⟨[.ref l, .ref b], []⟩) (fun _ R s => s.heap.get? l = some { cls := .type "list", dict := none, data := .seq items n, slots := #[] } ∧ s.heap.get? b = some { cls := .type "tuple", dict := dd, data := .seq items2 n2, slots := sl } ∧ R (.ok (.ret Value.none)) { s with heap := s.heap.update l (Obj.mapSeq fun x => x ++ items2), toks := s.toks }) :=
  .of_wp fun prog w A R s h => by
    obtain ⟨hp, g, d, tk, os⟩ := s; obtain ⟨hl, hb, h⟩ := h; have f1 := idx_int; have f2 := AutoSeq1.sub_tuple_tuple; have f3 := AutoSeq1.sub_list_list; have f4 := AutoSeq1.sub_tuple_list; have f5 := AutoSeq1.sub_list_tuple;
    have hz' : (items ++ items2).size ≤ sizeLine + 1 := by rw [Array.size_append]; exact hs2
    wp_walk using (wpAny_updateSeq hl rfl (hz := hs1) (_hz' := hz')), wpAny_loadPart' hl, wpAny_loadPart' hb; exact ⟨_, rfl, h⟩
end
section
variable {X : Cx}
def rExtT (K : PySem.W.Frag) : V → List V → Hp → VK → Prop := fun x vs H Q => ∃ l b xs zs, x = .ref l ∧ vs = [.ref b] ∧ H l = some (.lst xs) ∧ SqT K H b zs ∧ xs.length + zs.length ≤ sizeLine ∧ Q .non (upd H l (.lst (xs ++ zs)))
theorem mt_extT : MtR X "list.extend" (rExtT X.K) := by
  intro pins s σ H x vs v us Q I rx rv h
  obtain ⟨l, b, xs, zs, rfl, rfl, hH, hB, hz, q⟩ := h
  cases rx
  obtain ⟨u, rfl, ru⟩ := rv.one
  cases ru
  obtain ⟨z, its, n, r, hl, e⟩ := I.lstM hH
  obtain ⟨its2, r2, ⟨⟨c2, d2, dt2, s2⟩, e2, hc2, n2, hd2⟩, z2⟩ := I.tuple hB
  have hl2 := r2.length
  cases hc2
  cases hd2
  have hsz : its.toArray.size + its2.toArray.size ≤ sizeLine := by rw [List.size_toArray, List.size_toArray]; omega
  have hlong : ¬ (!its.toArray.isEmpty && Builtin.List.listTooLong (its.toArray.size + its2.toArray.size)) = true := by
    rw [notLongL hsz, Bool.and_false]
    exact Bool.false_ne_true
  refine call_meets F.slot_list_extend ⟨_, e, rfl⟩ F.entry_list_extend (F.args_list_extend_2 _ _)
    (list_extend_tup l its.toArray n b its2.toArray n2 d2 s2 hlong (by rw [List.size_toArray]; omega) (by omega)) ⟨e, e2, ?_⟩
  refine ⟨.non, _, I.lset (its' := its ++ its2) hH e (by simp) (r.append r2) ?_, rfl, q⟩
  rw [List.length_append]
  omega
variable {W : XP} {e : Expr} {f : Ga → R D} {pos pos' apos cpos : Pos} {x : Str}
end
end Wy


namespace Wy
open PySem PySem.Spec PyProof.Rows L2
def relS (scope osc : Scope) : Scope :=
  { scope with names := scope.names.map fun (n, k) => if (k == .free && osc.kind == .function && osc.names.lookup n == some .cell) then (n, .cell) else (n, k) }
theorem relS_eq (scope : Scope) (env : Env) : relabel scope env = relS scope env.scope := rfl
def isCF (k : Option NameKind) : Bool := k == some .cell || k == some .free
def visB (sc : Scope) (x : Str) : Bool := sc.names.lookup x == some .local || isCF (sc.names.lookup x)
theorem visB_of {sc : Scope} {x : Str} (h : Vis sc x) : visB sc x = true := by
  unfold visB isCF
  rcases h with h | h | h <;> (rw [h]; rfl)
theorem isCF_iff {k : Option NameKind} (h : isCF k = true) : k = some .cell ∨ k = some .free := by
  unfold isCF at h
  rw [Bool.or_eq_true] at h
  exact h.imp (fun z => beq_iff_eq.mp z) (fun z => beq_iff_eq.mp z)
theorem isCF_of {k : Option NameKind} (h : k = some .cell ∨ k = some .free) : isCF k = true := by
  rcases h with rfl | rfl <;> rfl
def blkCheck (scope osc : Scope) (N keys : List Str) (x : Str) : Bool :=
  scope.kind == .function && scope.names.all (fun y => y.2 != .cell) && scope.names.all (fun y => y.2 != .local || scope.names.lookup y.1 == some .local) && (scope.names.lookup x == some .local) &&
  decide (blkN x N).Nodup && (relS scope osc).names.all (fun y => !isCF ((relS scope osc).names.lookup y.1) || keys.contains y.1) && !visB (relS scope osc) (accN N.length) &&
  N.all (fun y => !visB (relS scope osc) (if y = x then dum N.length else y) || (decide (y ≠ x) && isCF ((relS scope osc).names.lookup y) && isCF (osc.names.lookup y)))
theorem mem_of_lookup {α : Type} {l : List (Str × α)} {x : Str} {a : α} (h : l.lookup x = some a) : ∃ p ∈ l, p.1 = x ∧ p.2 = a := by
  induction l with
  | nil => cases h
  | cons p l ih =>
    obtain ⟨y, b⟩ := p
    rw [List.lookup_cons] at h
    split at h
    · rename_i hx
      cases h
      exact ⟨_, List.mem_cons_self, (beq_iff_eq.mp hx).symm, rfl⟩
    · obtain ⟨p, hp, e⟩ := ih h
      exact ⟨p, List.mem_cons_of_mem _ hp, e⟩
theorem lookup_of_key {α : Type} {l : List (Str × α)} {x : Str} (h : (l.map (·.1)).contains x = true) : ∃ a, l.lookup x = some a := by
  induction l with
  | nil => cases h
  | cons p l ih =>
    obtain ⟨y, b⟩ := p
    rw [List.lookup_cons]
    by_cases hx : (x == y) = true
    · rw [hx]; exact ⟨b, rfl⟩
    · rw [Bool.eq_false_iff.mpr hx]
      apply ih
      rw [List.map_cons, List.contains_cons] at h
      rw [Bool.eq_false_iff.mpr hx, Bool.false_or] at h
      exact h
theorem blk_mk {X : Cx} {scope : Scope} {cl : List (Str × Addr)} {x : Str} (osc : Scope) (N keys : List Str) (e1 : X.env.scope = osc) (e2 : X.N = N) (clos : closureFor scope X.env = pure cl) (hk : keys.all (fun y => (cl.map (·.1)).contains y) = true)
    (hc : ∀ p ∈ cl, X.env.cells.lookup p.1 = some p.2) (chk : blkCheck scope osc N keys x = true) : BlkOk X scope cl x := by
  subst e1 e2
  unfold blkCheck at chk
  simp only [Bool.and_eq_true] at chk
  obtain ⟨⟨⟨⟨⟨⟨⟨c1, c2⟩, c3⟩, c4⟩, c5⟩, c6⟩, c7⟩, c8⟩ := chk
  refine ⟨beq_iff_eq.mp c1, fun y hy => ?_, clos, fun y hy hl => ?_, beq_iff_eq.mp c4, of_decide_eq_true c5, fun y c h => ?_, fun y h => ?_, fun h => ?_, fun y hy _ hv => ?_⟩
  · exact bne_iff_ne.mp (List.all_eq_true.mp c2 y hy)
  · have := List.all_eq_true.mp c3 y hy
    rw [hl] at this
    exact beq_iff_eq.mp (by simpa using this)
  · obtain ⟨p, hp, rfl, rfl⟩ := mem_of_lookup h
    exact hc p hp
  · have hcf := isCF_of h
    rw [relS_eq] at hcf
    obtain ⟨k, hkk⟩ : ∃ k, (relS scope X.env.scope).names.lookup y = some k := by
      rcases h with h | h
      · exact ⟨_, h⟩
      · exact ⟨_, h⟩
    obtain ⟨p, hp, rfl, _⟩ := mem_of_lookup hkk
    have := List.all_eq_true.mp c6 p hp
    rw [hcf] at this
    exact lookup_of_key (List.all_eq_true.mp hk p.1 (List.contains_iff_mem.mp (by simpa using this)))
  · rw [relS_eq] at h
    rw [visB_of h] at c7
    cases c7
  · rw [relS_eq] at hv ⊢
    have := List.all_eq_true.mp c8 y hy
    rw [visB_of hv] at this
    simp only [Bool.not_true, Bool.false_or, Bool.and_eq_true] at this
    exact ⟨of_decide_eq_true this.1.1, isCF_iff this.1.2, isCF_iff this.2⟩
def gInt : String → Bool := fun t => t == "int" || t == "bool"
def gBool : String → Bool := fun t => t == "bool"
def gStr : String → Bool := fun t => t == "str"
def gTuple : String → Bool := fun t => t == "tuple"
theorem kit_int (K : PySem.W.Frag) (d : D) : PySem.W.kitOne K (.type (tyN d)) (.type "int") = some (gInt (tyN d)) := by cases d <;> kernel_rfl
theorem kit_bool (K : PySem.W.Frag) (d : D) : PySem.W.kitOne K (.type (tyN d)) (.type "bool") = some (gBool (tyN d)) := by cases d <;> kernel_rfl
theorem kit_str (K : PySem.W.Frag) (d : D) : PySem.W.kitOne K (.type (tyN d)) (.type "str") = some (gStr (tyN d)) := by cases d <;> kernel_rfl
theorem kit_tuple (K : PySem.W.Frag) (d : D) : PySem.W.kitOne K (.type (tyN d)) (.type "tuple") = some (gTuple (tyN d)) := by cases d <;> kernel_rfl
structure Def (K : PySem.W.Frag) (mg : Str → Option Value) (x : Str) (st : Stmt) (ps : List Str) (f : Addr) (fd : FuncData) : Prop where
  fn : Fun K x x st f fd
  bd : Binds K fd ps []
  mg : mg x = some (.ref f)
theorem def_mk {K : PySem.W.Frag} {h : Heap} {mg : Str → Option Value} (X : K.In h) (G : h.Ns mainGlobals mg) {x : Str} {st : Stmt} {ps : List Str} {f : Addr} {oc : Value} {od an : Option Addr} {osl : Array (Option Value)} {kV doc pm cdv ct : Value}
    (a : PySem.W.nsIn K mainGlobals x = some (some (.ref f))) (l : K.lookup f = some ⟨oc, od, .func (PySem.W.fnOf x x (defArgs st) (defBody st) (defScope st) .none kV doc pm an cdv ct), osl⟩)
    (c : PySem.W.codeIn K cdv x = true) (k : PySem.W.keepIn K (.ref f) = true)
    (b : ∀ (kV doc pm : Value) (an : Option Addr) (cdv ct : Value) (us : List Value), us.length = ps.length → bindArgs (PySem.W.fnOf x x (defArgs st) (defBody st) (defScope st) .none kV doc pm an cdv ct) ⟨us, []⟩ = pure (ps.zip us)) :
    ∃ fd, Def K mg x st ps f fd := ⟨_, fun_mk l c k, (fun_mk (st := st) l c k).binds b, PySem.W.mg_of X G a⟩
def spL (K : PySem.W.Frag) (F : List D → R D) : Sp := fun vs H Q E => ∃ (G : Hp) (ds : List D), Same G H ∧ DenL K G ds vs ∧ ds.length = 1 ∧ (F ds).want (fun _ => False) (fun d => ∀ v H' G', Ext H G H' G' → Den K G' d v → Q v H')
theorem spL_of {K : PySem.W.Frag} {H : Hp} {a : Addr} {ns : List Int} {F : List D → R D} {E : XK} (h : SqL K H a (ns.map V.int)) (hF : F [.lst (ns.map D.int)] = .ok (.bl true)) : spL K F [.ref a] H (fun v _ => v = .bl true) E := by
  have l : ∀ ns : List Int, DenL K H (ns.map D.int) (ns.map V.int) := fun ns => by
    induction ns with
    | nil => exact denL_nil.mpr rfl
    | cons n ns ih => exact denL_cons.mpr ⟨_, _, rfl, den_int, ih⟩
  exact ⟨H, _, Same.refl _, .one (den_lst.mpr ⟨a, _, rfl, h, l ns⟩), rfl, by rw [hF]; exact fun v H' G' _ d => den_blE d⟩
theorem FnOk.toL {P : Program} {w : World} {K : PySem.W.Frag} {mg : Str → Option Value} {base : Heap} {CX : CXT} {k : Nat} {f : Addr} {fd : FuncData} {ps : List Str} {F : List D → R D} (h : FnOk P w K mg base CX k f fd ps (spF K mg 1 F)) : FnOk P w K mg base CX k f fd ps (spL K F) :=
  h.imp fun vs H Q E ⟨G, ds, a, b, c, d⟩ => ⟨G, ds, a, b, c, wImp d (fun _ z => z.elim) fun _ z => z⟩
def GlobC (K : PySem.W.Frag) (mg : Str → Option Value) (x : Str) (d : D) : Prop := ∃ (u : Value) (v : V), mg x = some u ∧ RelV v u ∧ Den K (fun _ => none) d v
theorem ev_globC {X : Cx} {W : XP} {x : Str} {d : D} {pos : Pos} (h : GlobC X.K X.mg x d) (hg : Gl X x) (hdb : (x == ("__debug__" : Str)) = false := by decide) : EvD X W (.Name x pos) (eC d) :=
  let ⟨_, _, h1, h2, h3⟩ := h
  ev_glob hg h1 h2 h3 hdb
theorem compR_map {f : Ga → R D} {Γ : Ga} {h : D → D} : ∀ {ds : List D}, (∀ d ∈ ds, f (.val d :: .un :: Γ) = .ok (h d)) → compR cTrue f Γ ds = .ok (ds.map h)
  | [], _ => rfl
  | d :: ds, H => by
    unfold compR
    show (f (.val d :: .un :: Γ)).calm.bind _ = _
    rw [H d List.mem_cons_self]
    show (compR _ f Γ ds).bind _ = _
    rw [compR_map fun x hx => H x (List.mem_cons_of_mem _ hx)]
    rfl
theorem compR_filter {c : Ga → R Bool} {f : Ga → R D} {Γ : Ga} {p : D → Bool} {h : D → D} : ∀ {ds : List D}, (∀ d ∈ ds, c (.val d :: .un :: Γ) = .ok (p d)) → (∀ d ∈ ds, p d = true → f (.val d :: .un :: Γ) = .ok (h d)) → compR c f Γ ds = .ok ((ds.filter p).map h)
  | [], _, _ => rfl
  | d :: ds, H, H2 => by
    have ih := compR_filter (c := c) (f := f) (Γ := Γ) (p := p) (h := h) (ds := ds) (fun x hx => H x (List.mem_cons_of_mem _ hx)) (fun x hx => H2 x (List.mem_cons_of_mem _ hx))
    unfold compR
    rw [H d List.mem_cons_self]
    cases hp : p d with
    | true =>
      rw [List.filter_cons_of_pos hp]
      show (f (.val d :: .un :: Γ)).calm.bind _ = _
      rw [H2 d List.mem_cons_self hp]
      show (compR _ f Γ ds).bind _ = _
      rw [ih]
      rfl
    | false =>
      rw [List.filter_cons_of_neg (by rw [hp]; exact Bool.false_ne_true)]
      exact ih
theorem asBs_map {α : Type} (g : α → Bool) : ∀ xs : List α, asBs (xs.map fun x => D.bl (g x)) = some (xs.map g)
  | [] => rfl
  | x :: xs => by
    show (asBs (xs.map fun x => D.bl (g x))).bind _ = _
    rw [asBs_map g xs]
    rfl
theorem whileN_inv {g : Ga → R Bool} {T : Ga → RS} (I : Nat → Ga → Prop) (E : RS → Prop)
    (turn : ∀ m Γ, I m Γ → (g Γ = .ok false ∧ E (.nx Γ)) ∨ (g Γ = .ok true ∧ ((∃ Γ' m', (T Γ = .nx Γ' ∨ T Γ = .ct Γ') ∧ m' < m ∧ I m' Γ') ∨ (∃ Γ', T Γ = .bk Γ' ∧ E (.nx Γ')) ∨ (∃ d, T Γ = .rt d ∧ E (.rt d)) ∨ (∃ c Γ', T Γ = .ex c Γ' ∧ E (.ex c Γ'))))) :
    ∀ (n m : Nat) (Γ : Ga), I m Γ → m < n → E (sWhileN g T n Γ)
  | 0, m, Γ, _, h => by omega
  | n + 1, m, Γ, hI, h => by
    unfold sWhileN
    rcases turn m Γ hI with ⟨hg, hE⟩ | ⟨hg, ht⟩
    · rw [hg]; exact hE
    · rw [hg]
      show E (match T Γ with
          | .nx Γ' => sWhileN g T n Γ'
          | .ct Γ' => sWhileN g T n Γ'
          | .bk Γ' => .nx Γ'
          | r => r)
      rcases ht with ⟨Γ', m', hT, hm, hI'⟩ | ⟨Γ', hT, hE⟩ | ⟨d, hT, hE⟩ | ⟨c, Γ', hT, hE⟩
      · rcases hT with hT | hT <;> (rw [hT]; exact whileN_inv I E turn n m' Γ' hI' (by omega))
      · rw [hT]; exact hE
      · rw [hT]; exact hE
      · rw [hT]; exact hE
theorem while_inv {g : Ga → R Bool} {T : Ga → RS} (I : Nat → Ga → Prop) (E : RS → Prop) {m : Nat} {Γ : Ga} (h0 : I m Γ) (hm : m < FUEL)
    (turn : ∀ m Γ, I m Γ → (g Γ = .ok false ∧ E (.nx Γ)) ∨ (g Γ = .ok true ∧ ((∃ Γ' m', (T Γ = .nx Γ' ∨ T Γ = .ct Γ') ∧ m' < m ∧ I m' Γ') ∨ (∃ Γ', T Γ = .bk Γ' ∧ E (.nx Γ')) ∨ (∃ d, T Γ = .rt d ∧ E (.rt d)) ∨ (∃ c Γ', T Γ = .ex c Γ' ∧ E (.ex c Γ'))))) :
    E (sWhile g T Γ) := whileN_inv I E turn FUEL m Γ h0 hm
theorem fn_none {P : Program} {w : World} {K : PySem.W.Frag} {mg : Str → Option Value} {base : Heap} {CX : CXT} {k n : Nat} {f : Addr} {fd : FuncData} {ps : List Str} : FnOk P w K mg base CX k f fd ps (spF K mg n fun _ => .no) := by
  have no : ∀ vs H Q E, ¬ spF K mg n (fun _ => .no) vs H Q E := fun vs H Q E ⟨G, ds, _, _, _, e⟩ => e
  exact ⟨fun vs H Q E z => absurd z (no vs H Q E), fun A outer s H args us vs Q E _ _ _ _ z => absurd z (no vs H Q E)⟩
theorem globS {K : PySem.W.Frag} {h : Heap} {mg : Str → Option Value} (X : K.In h) (G : h.Ns mainGlobals mg) {x : Str} {y : Str} {t : Tok} (a : PySem.W.nsIn K mainGlobals x = some (some (.str y t))) : GlobC K mg x (.str y) :=
  ⟨_, .str y, PySem.W.mg_of X G a, ⟨t, rfl⟩, den_str⟩
theorem globT {K : PySem.W.Frag} {h : Heap} {mg : Str → Option Value} (X : K.In h) (G : h.Ns mainGlobals mg) {x : Str} {p : Addr} {od : Option Addr} {its : Array Value} {n : Nat} {sl : Array (Option Value)} {ds : List D} {vs : List V}
    (a : PySem.W.nsIn K mainGlobals x = some (some (.ref p))) (l : K.lookup p = some ⟨.type "tuple", od, .seq its n, sl⟩) (hz : its.size ≤ sizeLine) (hv : Vals vs its.toList) (hd : DenL K (fun _ => none) ds vs) : GlobC K mg x (.tup ds) :=
  ⟨_, .ref p, PySem.W.mg_of X G a, rfl, den_tup.mpr ⟨p, vs, rfl, .inr ⟨_, its, n, l, rfl, rfl, hz, hv⟩, hd⟩⟩
theorem walk {l : PySem.W.OpenLaw} {CX : World → CXT} {k : Nat} {x : Str} {F : List D → R D} {q : Program} {loose : List Str} {XP : (Str → Option Value) → Heap → Prop} {YP : World → Heap → Prop} {d : DefRec} {K : Params → PySem.W.Frag} (hn : l.most = some 63) (hdf : d.params.defaults = []) (hr : Room k callerA)
    (hY : ∀ (w : World) (h : Heap), YP w h → (K w.params).In h) (hF : ∀ ns : List Int, ns.length ≤ 63 → F [.lst (ns.map D.int)] = .ok (.bl true))
    (A : ∀ (w : World) (mg : Str → Option Value) (fa : Addr) (h : Heap), (K w.params).In h → h.Ns mainGlobals mg → mg d.name = some (.ref fa) →
      ∃ fd : FuncData, (∀ (s : Shared) (u : Value), BindsTo s fd ⟨[u], []⟩ [(x, u)]) ∧ ∀ base : Heap, (K w.params).In base → base.Ns mainGlobals mg → FnOk l.prog w (K w.params) mg base (CX w) k fa fd [x] (spL (K w.params) F))
    (hCX : ∀ (w : World) (H : Hp) (s : Shared) (e : Value) (s' : Shared), CX w [] H s E0 e s' → False) :
    PySem.W.WalkO q loose XP YP l.row.toRowW d [] (fun f vs => PySem.call f vs) :=
  L2.walk_of (n := 63) (k := k) (x := x) (CX := CX) (sp := fun w => spL (K w.params) F) hn (by decide) hdf hr hY A (fun _ _ a ns hl _ hS => spL_of hS (hF ns hl)) hCX
end Wy


namespace Wy
open PySem PySem.Spec PyProof.Rows L2
section
variable {X : Cx}
theorem op_cat0 : OpR X (binaryOp .Add) (fun x y H Q => ∃ a b ys, x = .ref a ∧ y = .ref b ∧ SqT X.K H a [] ∧ SqT X.K H b ys ∧ Q (.ref b) H) := by
  rintro pins s σ H x y v u Q I rx ry ⟨a, b, ys, rfl, rfl, ha, hb, q⟩
  obtain rfl : v = Value.ref a := rx
  obtain rfl : u = Value.ref b := ry
  obtain ⟨ia, ra, ⟨⟨c1, d1, t1, s1⟩, g1, hc1, n1, hd1⟩, _⟩ := I.tuple ha
  obtain ⟨ib, rb, ⟨⟨c2, d2, t2, s2⟩, g2, hc2, n2, hd2⟩, _⟩ := I.tuple hb
  cases ra
  cases hc1
  cases hd1
  cases hc2
  cases hd2
  exact concat_meets ⟨_, g1, rfl⟩ ⟨_, g2, rfl⟩ noFill_tuple_add seq_tuple_add PySem.F.slot_tuple_add PySem.F.entry_tuple_add (PySem.F.args_tuple_add_2 _ _) (tuple_addW0 a b _ ib.toArray n1 n2 d1 d2 s1 s2 rfl) ⟨g1, g2, .ref b, H, I, rfl, q⟩
def catD : D → D → Option D
  | .tup xs, .tup ys => if 100000 < xs.length + ys.length then none else some (.tup (xs ++ ys))
  | _, _ => none
theorem opd_cat : OpD X (binaryOp .Add) catD := ⟨_, op_cat0.or op_catT, fun H G x y d1 d2 d g h1 h2 e Q q => by
  unfold catD at e
  split at e
  · rename_i xs ys
    split at e
    · cases e
    · rename_i hz
      cases e
      obtain ⟨a, vs, rfl, sa, la⟩ := den_tup.mp h1
      obtain ⟨b, us, rfl, sb, lb⟩ := den_tup.mp h2
      cases xs with
      | nil =>
        cases denL_nil.mp la
        exact .inl ⟨a, b, us, rfl, rfl, Same.seqT g sa, Same.seqT g sb, q _ H G (.refl g) h2⟩
      | cons x1 xs =>
        have zv : vs ≠ [] := fun z => by have := la.length; rw [z] at this; cases this
        refine .inr ⟨a, b, vs, us, rfl, rfl, Same.seqT g sa, Same.seqT g sb, zv, by rw [← la.length, ← lb.length]; exact Nat.le_trans (Nat.le_of_not_lt hz) (by decide), fun z => ?_, fun z p hp => ?_⟩
        · have : ys = [] := List.length_eq_zero_iff.mp (by rw [lb.length, z]; rfl)
          subst this
          exact q _ H G (.refl g) (by rw [List.append_nil]; exact h1)
        · have A := Ext.alloc (o := .tup (vs ++ us)) g hp
          exact q _ _ _ A (den_tup.mpr ⟨p, _, rfl, SqT.of upd_same, (la.append lb).up A.gg⟩)
  · cases e⟩
end
section
variable {prog : Program} {w : World} {A : Around} {E : Value → Shared → Prop} {s : Shared}
theorem nextT_item {j t : Addr} {k : Nat} {its : Array Value} {v : Value} {Q : Value → Shared → Prop} (hj : s.heap.IsTupleIter j t k) (ht : s.heap.IsTuple t its) (hv : its[k]? = some v)
    (go : ∀ h', h'.IsTupleIter j t (k + 1) → Heap.SameBut j s.heap h' → Q v { s with heap := h' }) : wpAny (model prog w) A (Builtin.SmallTypes.nextOf (.ref j)) Q E s := by
  obtain ⟨oj, gj, cj, dj⟩ := id hj
  obtain ⟨ot, gt, _, nt, dt⟩ := ht
  unfold Builtin.SmallTypes.nextOf
  refine wpAny_bind (wpAny_callSpecial?_slot (name := Str.ofString "__next__") hj.typeIs F.slot_tuple_iterator_next (wpAny_call_entry F.slot_tuple_iterator_next hj.typeIs F.entry_tuple_iterator_next ?_ (F.args_tuple_iterator_next_1 _)))
  refine wpAny_bind (m := field (.ref j) 0) (wpAny_field gj dj (x := .ref t) rfl ?_)
  show wpAny _ _ (if (Value.ref t == Value.none) = true then _ else _) _ _ s
  rw [if_neg (show ¬ ((Value.ref t == Value.none) = true) by exact Bool.false_ne_true)]
  refine wpAny_bind (m := field (.ref j) 1) (wpAny_field gj dj (x := .int k 0) rfl (wpAny_bind (m := seqItems? (.ref t)) (wpAny_seqItems gt dt ?_)))
  simp only [hv, Int.toNat_natCast]
  refine wpAny_bind (wpAny_setField gj dj (by simp) (wpAny_pure ⟨v, rfl, wpAny_pure (go _ ⟨_, Heap.get?_update_self _ gj (Obj.isFreed_of_fields (Obj.data_mapFields dj _)), (Obj.cls_mapFields ..).trans cj, ?_⟩ (Heap.SameBut.update ..))⟩))
  rw [Obj.data_mapFields dj]
  simp [rawInt]
theorem nextT_stop {j t : Addr} {k : Nat} {its : Array Value} {Q : Value → Shared → Prop} (hh : A.handled = none) (hj : s.heap.IsTupleIter j t k) (ht : s.heap.IsTuple t its) (hv : its[k]? = none)
    (go : ∀ h' x, Heap.ExtBut j s.heap h' → (∃ o, h'.get? x = some o ∧ o.cls = .type "StopIteration") → E (.ref x) { s with heap := h' }) : wpAny (model prog w) A (Builtin.SmallTypes.nextOf (.ref j)) Q E s := by
  obtain ⟨oj, gj, cj, dj⟩ := id hj
  obtain ⟨ot, gt, _, nt, dt⟩ := ht
  unfold Builtin.SmallTypes.nextOf
  refine wpAny_bind (wpAny_callSpecial?_slot (name := Str.ofString "__next__") hj.typeIs F.slot_tuple_iterator_next (wpAny_call_entry F.slot_tuple_iterator_next hj.typeIs F.entry_tuple_iterator_next ?_ (F.args_tuple_iterator_next_1 _)))
  refine wpAny_bind (m := field (.ref j) 0) (wpAny_field gj dj (x := .ref t) rfl ?_)
  show wpAny _ _ (if (Value.ref t == Value.none) = true then _ else _) _ _ s
  rw [if_neg (show ¬ ((Value.ref t == Value.none) = true) by exact Bool.false_ne_true)]
  refine wpAny_bind (m := field (.ref j) 1) (wpAny_field gj dj (x := .int k 0) rfl (wpAny_bind (m := seqItems? (.ref t)) (wpAny_seqItems gt dt ?_)))
  simp only [hv, Int.toNat_natCast]
  refine wpAny_bind (wpAny_rule (wpAny_bind (wpAny_setField gj dj (by simp) ?_)))
  refine wpAny_bind (m := newExc (.type "StopIteration") []) ?_
  simp only [newExc, newTuple]
  refine wpAny_bind (wpAny_newObj_type (wpAny_bind (m := firstArgMember _ _) (wpAny_of_eq (a := Value.none) (by first | rfl | (simp only [firstArgMember]; rfl)) (wpAny_newObj_type ?_ (by size_fits)))) (by size_fits))
  simp only [raiseNew]
  refine wpAny_bind (wpAny_handled ?_)
  first | rw [show A.in1.handled = none from hh] | rw [hh]
  exact wpAny_bind (wpAny_pure (wpAny_throw (go _ _ (((Heap.SameBut.update ..).extBut.push _).push _) ⟨_, Heap.get?_push_size _ rfl, rfl⟩)))
theorem enum_turn {e j : Addr} {k : Nat} {v old : Value} {R : Heap → Prop} {Q : Value → Shared → Prop} (he : IsEnum s.heap e j k old) (hne : e ≠ j)
    (nx : ∀ (Q' : Value → Shared → Prop), (∀ h1, R h1 → Heap.SameBut j s.heap h1 → Q' v { s with heap := h1 }) → wpAny (model prog w) A (Builtin.SmallTypes.nextOf (.ref j)) Q' E s)
    (stay : ∀ h h', R h → (∀ o, h.get? j = some o → h'.get? j = some o) → R h')
    (go : ∀ h', IsEnumOut h' e j ((k : Int) + 1) v s.heap.objs.size → R h' → h'.get? s.heap.objs.size = some { cls := .type "tuple", data := .seq #[.int k s.toks, v] } →
      (∀ b o, b ≠ e → b ≠ j → s.heap.get? b = some o → h'.get? b = some o) → Q (.ref s.heap.objs.size) { s with heap := h', toks := s.toks + 1 }) :
    wpAny (model prog w) A (Builtin.«enumerate.__next__» ⟨[.ref e], []⟩) (fun fin s' => ∃ x, fin = .done (.ret x) ∧ Q x s') E s := by
  obtain ⟨h0, gs, dr, tk, os⟩ := s
  have le : e < h0.objs.size := Heap.lt_size he
  refine wpAny_bind (m := field (.ref e) 2) (wpAny_field he rfl (x := .ref j) rfl (wpAny_bind (nx _ fun h1 r1 b1 => ?_)))
  have b1 : Heap.SameBut j h0 h1 := b1
  have e1 : IsEnum h1 e j k old := (b1.2 e hne).trans he
  refine wpAny_bind (m := field (.ref e) 3) (wpAny_field e1 rfl (x := rawInt k) rfl (wpAny_bind (m := field (.ref e) 4) (wpAny_field e1 rfl (x := .none) rfl (wpAny_bind (m := mkInt k) (wpAny_mkInt ?_)))))
  refine wpAny_bind (m := setField (.ref e) 3 (rawInt ((k : Int) + 1))) (wpAny_setField_rec e1 (by simp) fun h2 e2 b2 => ?_)
  have b2 : Heap.SameBut e h1 h2 := b2
  have e2 : IsEnum h2 e j ((k : Int) + 1) old := e2
  refine wpAny_bind (m := setField (.ref e) 4 .none) (wpAny_setField_rec e2 (by simp) fun h3 e3 b3 => ?_)
  have b3 : Heap.SameBut e h2 h3 := b3
  have e3 : IsEnum h3 e j ((k : Int) + 1) old := e3
  refine wpAny_bind (m := newTuple [.int k tk, v]) (wpAny_newTuple ?_)
  have z3 : h3.objs.size = h0.objs.size := by rw [b3.1, b2.1, b1.1]
  rw [show (Value.ref (Shared.heap ⟨h3, gs, dr, tk + 1, os⟩).objs.size) = Value.ref h0.objs.size from congrArg Value.ref z3]
  have e4 : IsEnum (h3.push { cls := .type "tuple", data := .seq #[.int k tk, v] }) e j ((k : Int) + 1) old := Heap.get?_push_of_some _ e3
  have t4 : (h3.push { cls := .type "tuple", data := .seq #[.int k tk, v] }).get? h0.objs.size = some { cls := .type "tuple", data := .seq #[.int k tk, v] } := by rw [← z3]; exact Heap.get?_push_size _ rfl
  have old4 : ∀ b o, b ≠ e → b ≠ j → h0.get? b = some o → (h3.push { cls := .type "tuple", data := .seq #[.int k tk, v] }).get? b = some o := fun b o hb hb' g => Heap.get?_push_of_some _ (b3.extBut b o hb (b2.extBut b o hb (b1.extBut b o hb' g)))
  have r4 : R (h3.push { cls := .type "tuple", data := .seq #[.int k tk, v] }) := stay h1 _ r1 fun o g => Heap.get?_push_of_some _ (b3.extBut j o (Ne.symm hne) (b2.extBut j o (Ne.symm hne) g))
  generalize h3.push { cls := .type "tuple", data := .seq #[.int k tk, v] } = h4 at e4 t4 old4 r4
  refine wpAny_bind (m := Builtin.SmallTypes.ownedTupleIsFree (.ref e)) ?_
  unfold Builtin.SmallTypes.ownedTupleIsFree
  refine wpAny_bind (wpAny_field e4 rfl (x := .none) rfl (wpAny_pure ?_))
  simp only [if_true]
  refine wpAny_bind (wpAny_rule (wpAny_bind (wpAny_field e4 rfl (x := old) rfl (wpAny_bind (wpAny_setField_rec e4 (by simp) fun h5 e5 b5 => ?_)))))
  have b5 : Heap.SameBut e h4 h5 := b5
  have e5 : IsEnum h5 e j ((k : Int) + 1) v := e5
  refine wpAny_bind (m := Builtin.SmallTypes.ownedTupleHandOut (.ref e) (.ref h0.objs.size)) ?_
  unfold Builtin.SmallTypes.ownedTupleHandOut
  refine wpAny_bind (wpAny_setField_rec e5 (by simp) fun h6 e6 b6 => ?_)
  have b6 : Heap.SameBut e h5 h6 := b6
  have e6 : IsEnumOut h6 e j ((k : Int) + 1) v h0.objs.size := e6
  refine wpAny_setField_rec e6 (by simp) fun h7 e7 b7 => ?_
  have b7 : Heap.SameBut e h6 h7 := b7
  have all : ∀ b o, b ≠ e → h4.get? b = some o → h7.get? b = some o := fun b o hb g => b7.extBut b o hb (b6.extBut b o hb (b5.extBut b o hb g))
  exact wpAny_bind (wpAny_letGo (wpAny_pure ⟨_, rfl, go h7 e7 (stay h4 h7 r4 fun o g => all j o (Ne.symm hne) g) (all _ _ (Nat.ne_of_gt le) t4) fun b o hb hb' g => all b o hb (old4 b o hb hb' g)⟩))
theorem enum_item {e j : Addr} {k : Nat} {v old : Value} {R : Heap → Prop} {Q : Option Value → Shared → Prop} (he : IsEnum s.heap e j k old) (hne : e ≠ j)
    (nx : ∀ (A' : Around) (Q' : Value → Shared → Prop) (E' : Value → Shared → Prop), (∀ h1, R h1 → Heap.SameBut j s.heap h1 → Q' v { s with heap := h1 }) → wpAny (model prog w) A' (Builtin.SmallTypes.nextOf (.ref j)) Q' E' s)
    (stay : ∀ h h', R h → (∀ o, h.get? j = some o → h'.get? j = some o) → R h')
    (go : ∀ h', IsEnumOut h' e j ((k : Int) + 1) v s.heap.objs.size → R h' → h'.get? s.heap.objs.size = some { cls := .type "tuple", data := .seq #[.int k s.toks, v] } →
      (∀ b o, b ≠ e → b ≠ j → s.heap.get? b = some o → h'.get? b = some o) → Q (some (.ref s.heap.objs.size)) { s with heap := h', toks := s.toks + 1 }) : wpAny (model prog w) A (pyNext (.ref e)) Q E s := by
  have ty : s.TypeIs (.ref e) "enumerate" := ⟨_, he, rfl⟩
  unfold pyNext
  exact wpAny_bind (wpAny_attempt (wpAny_callSpecial?_slot (name := Str.ofString "__next__") ty F.slot_enumerate_next (wpAny_call_entry F.slot_enumerate_next ty F.entry_enumerate_next
    (enum_turn he hne (fun Q' hq => nx _ Q' _ hq) stay fun h' x1 x2 x3 x4 => wpAny_pure (go h' x1 x2 x3 x4)) (F.args_enumerate_next_1 _))))
theorem enum_stop {e j : Addr} {k : Nat} {old : Value} {Q : Option Value → Shared → Prop} (he : IsEnum s.heap e j k old)
    (nx : ∀ (A' : Around) (Q' : Value → Shared → Prop) (E' : Value → Shared → Prop), A'.handled = A.handled → (∀ h' x, Heap.ExtBut j s.heap h' → (∃ o, h'.get? x = some o ∧ o.cls = .type "StopIteration") → E' (.ref x) { s with heap := h' }) → wpAny (model prog w) A' (Builtin.SmallTypes.nextOf (.ref j)) Q' E' s)
    (go : ∀ h', Heap.ExtBut j s.heap h' → Q none { s with heap := h' }) : wpAny (model prog w) A (pyNext (.ref e)) Q E s := by
  have ty : s.TypeIs (.ref e) "enumerate" := ⟨_, he, rfl⟩
  unfold pyNext
  refine wpAny_bind (wpAny_attempt (wpAny_callSpecial?_slot (name := Str.ofString "__next__") ty F.slot_enumerate_next (wpAny_call_entry F.slot_enumerate_next ty F.entry_enumerate_next ?_ (F.args_enumerate_next_1 _))))
  refine wpAny_bind (m := field (.ref e) 2) (wpAny_field he rfl (x := .ref j) rfl (wpAny_bind (nx _ _ _ rfl fun h' x b hx => ?_)))
  obtain ⟨o, go', hc⟩ := hx
  exact wpAny_bind (wpAny_isInstance (T := "StopIteration") (b := true) ⟨o, go', hc⟩ isSubtype_stop (wpAny_pure (go _ b)))
end
section
open PySem.AutoSeq1 (wpAny_loadPart')
theorem meets_enumT (t : Addr) (its : Array Value) (n : Nat) (dd : Option Addr) (sl : Array (Option Value)) : Meets (Builtin.«enumerate.__new__» ⟨[.type "enumerate", .ref t], []⟩) (fun _ R s => s.heap.get? t = some { cls := .type "tuple", dict := dd, data := .seq its n, slots := sl } ∧
    R (.ok (.ret (.ref (s.heap.push { cls := .type "tuple_iterator", data := .fields #[.ref t, .int 0 0] }).objs.size))) { s with heap := (s.heap.push { cls := .type "tuple_iterator", data := .fields #[.ref t, .int 0 0] }).push { cls := .type "enumerate", data := .fields #[.none, .bool false, .ref s.heap.objs.size, rawInt 0, .none, .none] } }) :=
  .of_wp fun prog w A R s hh => by
    obtain ⟨h0, gs, dr, tk, os⟩ := s
    obtain ⟨gt, hR⟩ := hh
    have se := sub_enumerate
    have iT : Heap.IsTuple (Shared.heap ⟨h0, gs, dr, tk, os⟩) t its := ⟨_, gt, rfl, n, rfl⟩
    wp_walk using wpAny_loadPart' gt
    refine wpAny_stack_any fun st => wpAny_pure ?_
    split
    · rename_i c _ _ _ _ _
      cases (c == Value.type "enumerate") <;> (wp_walk using wpAny_loadPart' gt, wpAny_pyIter_tuple iT; exact ⟨_, rfl, hR⟩)
    · wp_walk using wpAny_loadPart' gt, wpAny_pyIter_tuple iT
      exact ⟨_, rfl, hR⟩
end
def SqQ (K : PySem.W.Frag) (q : Bool) (H : Hp) (a : Addr) (xs : List V) : Prop := match q with
  | true => SqT K H a xs
  | false => SqL K H a xs
def innerQ (q : Bool) (j a : Addr) (i : Nat) (h : Heap) : Prop := match q with
  | true => h.IsTupleIter j a i
  | false => h.IsListIter j a i
def Ite (K : PySem.W.Frag) (q : Bool) (a : Addr) : It :=
  ⟨fun i H => ∃ xs x, SqQ K q H a xs ∧ xs[i]? = some x, fun i H x H' => ∃ p v, H p = none ∧ H' = upd H p (.tup [.int i, v]) ∧ x = .ref p ∧ ∀ xs, SqQ K q H a xs → xs[i]? = some v, fun i H => ∃ xs, SqQ K q H a xs ∧ xs.length ≤ i⟩
section
variable {X : Cx} {pins : List (Addr × Obj)} {σ : L2.St} {H : Hp} {s : Shared}
theorem Inv.enumd {e j : Addr} {i : Nat} {x : V} {u : Value} {h' : Heap} {t' tk : Nat} (I : L2.Inv X pins σ H s) (fe : FpOk X pins H e) (fj : FpOk X pins H j) (ru : RelV x u) (hp : h'.get? s.heap.objs.size = some { cls := .type "tuple", data := .seq #[.int i tk, u] })
    (kp : ∀ b o, b ≠ e → b ≠ j → s.heap.get? b = some o → h'.get? b = some o) (th : ∀ b o, s.heap.get? b = some o → ∃ o', h'.get? b = some o') : L2.Inv X pins σ (upd H s.heap.objs.size (.tup [.int i, x])) { s with heap := h', toks := t' } := by
  have fr : H s.heap.objs.size = none := I.fresh
  have ne : ∀ b o, s.heap.get? b = some o → b ≠ s.heap.objs.size := fun b o g => Nat.ne_of_lt (Heap.lt_size g)
  have nh : ∀ b o, H b = some o → b ≠ s.heap.objs.size := fun b o g z => by rw [z, fr] at g; cases g
  have nf : ∀ b o, H b = some o → b ≠ e ∧ b ≠ j := fun b o g => ⟨fun z => (by rw [z, fe.1] at g; cases g), fun z => (by rw [z, fj.1] at g; cases g)⟩
  have nch : ∀ b, b ∉ [e, j] → b ≠ e ∧ b ≠ j := fun b h => ⟨fun z => h (by simp [z]), fun z => h (by simp [z])⟩
  refine I.step (g' := s.gens) (d' := s.drawn) (ch := [e, j]) (fun b hb => ?_) (fun b o _ _ hc g _ => kp b o (nch b hc).1 (nch b hc).2 g) (fun b o _ _ hc g _ => ⟨o.slots, kp b o (nch b hc).1 (nch b hc).2 g⟩) (fun b o _ g n => by rw [upd_ne (ne b o g)]; exact n)
    (fun b o _ g => th b o g) (fun b ys g => by rw [upd_ne (nh b _ g)]; exact g) (fun b o ys g => by rw [upd_ne (nh b _ g)]; exact g) (fun b ps g => ⟨#[], by rw [upd_ne (nh b _ g), g]; simp⟩) (fun m hm => ?_) (fun b o g => ?_) I.bare
  · rcases List.mem_cons.mp hb with z | hb
    · subst z; exact ⟨fe.2.2.2.1, fe.2.1, fe.2.2.2.2.1, fe.2.2.2.2.2⟩
    · rcases List.mem_cons.mp hb with z | hb
      · subst z; exact ⟨fj.2.2.2.1, fj.2.1, fj.2.2.2.2.1, fj.2.2.2.2.2⟩
      · cases hb
  · obtain ⟨o, es, ep, g, r⟩ := hm
    exact ⟨o, es, ep, kp _ o (Ne.symm fe.2.1) (Ne.symm fj.2.1) g, r⟩
  · by_cases z : b = s.heap.objs.size
    · subst z
      rw [upd_same] at g
      cases g
      exact ⟨(by show 2 ≤ sizeLine; decide), [.int i tk, u], .cons ⟨tk, rfl⟩ (.cons ru .nil), _, hp, rfl, _, rfl⟩
    · rw [upd_ne z] at g
      have keepH : ∀ c o, H c = some o → upd H s.heap.objs.size (.tup [.int i, x]) c = some o := fun c o gc => by rw [upd_ne (nh c o gc)]; exact gc
      refine (I.hok b o g).stay (fun c v hc gv => ?_) (fun c gc => keepH c _ gc) fun c ys gc => keepH c _ gc
      rcases hc with z' | z'
      · subst z'; exact kp c v (nf c o g).1 (nf c o g).2 gv
      · exact kp c v (nf c _ z').1 (nf c _ z').2 gv
end
theorem there_enum {e j p : Addr} {h h1 h2 : Heap} (a : ∀ b o, b ≠ e → b ≠ j → h.get? b = some o → h1.get? b = some o) (ej : ∃ o, h1.get? e = some o) (jj : ∃ o, h1.get? j = some o) (sb : Heap.SameBut e h1 h2) (e2 : ∃ o, h2.get? e = some o) : ∀ b o, h.get? b = some o → ∃ o', h2.get? b = some o' := fun b o g => by
  by_cases z : b = e
  · subst z; exact e2
  · by_cases z' : b = j
    · subst z'
      obtain ⟨o', g'⟩ := jj
      exact ⟨o', (sb.2 b z).trans g'⟩
    · exact ⟨o, (sb.2 b z).trans (a b o z z' g)⟩
theorem inner_at {q : Bool} {j a : Addr} {i : Nat} {h h' : Heap} (st : innerQ q j a i h) (k : ∀ o, h.get? j = some o → h'.get? j = some o) : innerQ q j a i h' := by
  cases q with
  | true => exact Heap.IsTupleIter.at st k
  | false => exact Heap.IsListIter.at st k
theorem inner_there {q : Bool} {j a : Addr} {i : Nat} {h : Heap} (st : innerQ q j a i h) : ∃ o, h.get? j = some o ∧ ∀ v, o.data ≠ .cell v := by
  cases q with
  | true => obtain ⟨o, g, _, d⟩ := st; exact ⟨o, g, fun v z => by rw [d] at z; cases z⟩
  | false => obtain ⟨o, g, _, d⟩ := st; exact ⟨o, g, fun v z => by rw [d] at z; cases z⟩
theorem turn_enum {P : Program} {w : World} {K : PySem.W.Frag} {elts : List Expr} {x1 : Nat} {pos : Pos} (q : Bool) (a e j : Addr) (hej : e ≠ j) : Turn P w K (.Tuple elts x1 pos) (Ite K q a) [e, j] e (fun i h => (∃ old, IsEnum h e j i old) ∧ innerQ q j a i h) where
  mem := by simp
  obj := fun i h st b hb => by
    rcases List.mem_cons.mp hb with z | hb
    · subst z
      obtain ⟨⟨old, g⟩, _⟩ := st
      exact ⟨_, g, fun v z => by have z' : Data.fields _ = Data.cell v := z; cases z'⟩
    · have z : b = j := by simpa using hb
      subst z
      exact inner_there st.2
  keep := fun i h h' st k => by
    obtain ⟨⟨old, g⟩, st⟩ := st
    exact ⟨⟨old, k e (by simp) _ g⟩, inner_at st fun o g => k j (by simp) o g⟩
  item := by
    intro X hP hw hK hc i pins s σ H E I hf st hg
    subst hP hw hK
    obtain ⟨⟨old, he⟩, st⟩ := st
    obtain ⟨xs, x, hq, hx⟩ := hg
    have fe := hf e (by simp)
    have fj := hf j (by simp)
    have fin : ∀ u, RelV x u → ∀ h', IsEnumOut h' e j ((i : Int) + 1) u s.heap.objs.size → innerQ q j a (i + 1) h' → h'.get? s.heap.objs.size = some { cls := .type "tuple", data := .seq #[.int i s.toks, u] } →
        (∀ b o, b ≠ e → b ≠ j → s.heap.get? b = some o → h'.get? b = some o) → (∀ ys, SqQ X.K q H a ys → ys[i]? = some x) → ∃ v, some (Value.ref s.heap.objs.size) = some v ∧ wpAny (model X.prog X.w) X.A (letOwnedTupleGo (.Tuple elts x1 pos) (.ref e) v)
          (fun _ s2 => ∃ x H', L2.Inv X pins σ H' s2 ∧ RelV x v ∧ (Ite X.K q a).yld i H x H' ∧ ((∃ old, IsEnum s2.heap e j ((i + 1 : Nat) : Int) old) ∧ innerQ q j a (i + 1) s2.heap) ∧ ∀ b ∈ [e, j], H' b = none) E { s with heap := h', toks := s.toks + 1 } := fun u ru h' ho hin hp kp hy => by
      refine ⟨_, rfl, wpAny_letOwnedTupleGo_enum (s := { s with heap := h', toks := s.toks + 1 }) ho fun h2 he2 sb => ?_⟩
      have sb : Heap.SameBut e h' h2 := sb
      obtain ⟨oj, gj, _⟩ := inner_there hin
      have le : e < s.heap.objs.size := Heap.lt_size he
      have lj : j < s.heap.objs.size := by obtain ⟨o, g, _⟩ := inner_there st; exact Heap.lt_size g
      refine ⟨.ref s.heap.objs.size, upd H s.heap.objs.size (.tup [.int i, x]), Inv.enumd (tk := s.toks) (t' := s.toks + 1) I fe fj ru ((sb.2 _ (Nat.ne_of_gt le)).trans hp) (fun b o hb hb' g => (sb.2 b hb).trans (kp b o hb hb' g)) (there_enum (p := e) kp ⟨_, ho⟩ ⟨oj, gj⟩ sb ⟨_, he2⟩), rfl,
        ⟨_, x, I.fresh, rfl, rfl, hy⟩, ⟨⟨u, he2⟩, inner_at hin fun o g => (sb.2 j (Ne.symm hej)).trans g⟩, fun b hb => ?_⟩
      rcases List.mem_cons.mp hb with z | hb
      · subst z; rw [upd_ne (Nat.ne_of_lt le)]; exact fe.1
      · have z : b = j := by simpa using hb
        subst z; rw [upd_ne (Nat.ne_of_lt lj)]; exact fj.1
    cases q with
    | true =>
      obtain ⟨its, rv, p, hz⟩ := I.tuple hq
      obtain ⟨u, hu, ru⟩ := rv.get hx
      exact enum_item (R := innerQ true j a (i + 1)) he hej (fun A' Q' E' hq' => nextT_item st (show s.heap.IsTuple a its.toArray from p) (by simpa using hu) hq') (fun h h' r k => inner_at r k) fun h' x1 x2 x3 x4 => fin u ru h' x1 x2 x3 x4 fun ys hys => by rw [I.tuple_inj hys hq]; exact hx
    | false =>
      obtain ⟨its, rv, p, hz⟩ := I.list hq
      obtain ⟨u, hu, ru⟩ := rv.get hx
      exact enum_item (R := innerQ false j a (i + 1)) he hej (fun A' Q' E' hq' => wpAny_nextOf_list_item st p.isList (by simpa using hu) hq') (fun h h' r k => inner_at r k) fun h' x1 x2 x3 x4 => fin u ru h' x1 x2 x3 x4 fun ys hys => by rw [I.list_inj hys hq]; exact hx
  done := by
    intro X hP hw hK hc i pins s σ H E I hf st hg
    subst hP hw hK
    obtain ⟨⟨old, he⟩, st⟩ := st
    obtain ⟨xs, hq, hx⟩ := hg
    obtain ⟨f0, f1, f2, f3, f4, f5⟩ := hf j (by simp)
    have hh := I.ok.hd hc
    cases q with
    | true =>
      obtain ⟨its, rv, p, hz⟩ := I.tuple hq
      have hl := rv.length
      exact enum_stop he (fun A' Q' E' hA go => nextT_stop (hA.trans hh) st (show s.heap.IsTuple a its.toArray from p) (by simp; omega) go) fun h' eb => ⟨rfl, I.turned (t' := s.toks) (fun b o hb g => eb b o hb g) f0 f1 f3 f4 f5⟩
    | false =>
      obtain ⟨its, rv, p, hz⟩ := I.list hq
      have hl := rv.length
      exact enum_stop he (fun A' Q' E' hA go => wpAny_nextOf_list_end (hA.trans hh) st p.isList (by simp; omega) go) fun h' eb => ⟨rfl, I.turned (t' := s.toks) (fun b o hb g => eb b o hb g) f0 f1 f3 f4 f5⟩
  self := fun _ _ _ _ _ st h => let ⟨⟨_, g⟩, _⟩ := st; wpAny_pyIter_enum g h
section
variable {X : Cx} {W : XP} {a : Expr} {f : Ga → R D} {p pos tpos : Pos} {elts : List Expr} {x1 : Nat}
def enumL (ds : List D) : List D := (List.range ds.length).map fun (k : Nat) => D.tup [.int (k : Int), ds.getD k .non]
def enumD (d : D) : Option (List D) := match d with
  | .tup ds => some (enumL ds)
  | .lst ds => some (enumL ds)
  | _ => none
def iEnum (K : PySem.W.Frag) (ta : TE) : TI := fun σ H R => ta σ H fun x H1 => ∃ q a, x = .ref a ∧ (∃ xs, SqQ K q H1 a xs) ∧ R (Ite K q a) H1
theorem enum_made {s : Shared} {t : Addr} {its : Array Value} {Q : Value → Shared → Prop} {prog : Program} {w : World} {A : Around} {E : Value → Shared → Prop} (ht : s.heap.IsTuple t its)
    (go : ∀ h', IsEnum h' (s.heap.objs.size + 1) s.heap.objs.size 0 .none → h'.IsTupleIter s.heap.objs.size t 0 → (∀ b o, s.heap.get? b = some o → h'.get? b = some o) → Q (.ref (s.heap.objs.size + 1)) { s with heap := h' }) :
    wpAny (model prog w) A (call (.type "enumerate") [.ref t]) Q E s := by
  obtain ⟨⟨c, dd, dt, sl⟩, gt, hc, n, hd⟩ := ht
  cases hc
  cases hd
  refine callType_new F.called_enumerate (by decide) (F.typeCall_enumerate_1 _) (F.newCall_enumerate_1 _) (fun obj => F.args_object_init_2 obj _) F.entry_enumerate_new (meets_enumT t its n dd sl) ⟨gt, ?_⟩
  have hz : (s.heap.push { cls := .type "tuple_iterator", data := .fields #[.ref t, .int 0 0] }).objs.size = s.heap.objs.size + 1 := Heap.size_push ..
  have he := Heap.get?_push_size (s.heap.push { cls := .type "tuple_iterator", data := .fields #[.ref t, .int 0 0] }) (o := { cls := .type "enumerate", data := .fields #[.none, .bool false, .ref s.heap.objs.size, rawInt 0, .none, .none] }) rfl
  rw [hz] at he
  show _ ∧ _
  rw [hz]
  exact ⟨⟨_, he, rfl⟩, go _ he ⟨_, Heap.get?_push_of_some _ (Heap.get?_push_size _ rfl), rfl, rfl⟩ fun b o g => Heap.get?_push_of_some _ (Heap.get?_push_of_some _ g)⟩
theorem pi_enum {ta : TE} (hg : Gl X "enumerate") (hm : X.mg "enumerate" = none) (ha : PE X a ta) (hs : starEach [a] X.env = [(false, eval a X.env)] := by rfl) : PI X (.Tuple elts x1 tpos) (.Call (.Name "enumerate" p) [a] [] pos) (iEnum X.K ta) := by
  intro pins s σ H R I h
  refine Call_ (ld_blt I hg hm boot_enumerate (PyProof.Rows.callWith_type1 (thn (pa_cons ha pa_nil hs pos pins s σ H (fun vs H1 => ∃ v, vs = [v] ∧ ∃ q a, v = .ref a ∧ (∃ xs, SqQ X.K q H1 a xs) ∧ R (Ite X.K q a) H1) I ?_) fun us s1 ⟨vs, H1, I1, r1, q1⟩ => ?_) hs rfl))
  · have h' : ta σ H fun x H1 => ∃ q a, x = .ref a ∧ (∃ xs, SqQ X.K q H1 a xs) ∧ R (Ite X.K q a) H1 := h
    have mono : ∀ (Q1 Q2 : VK), (∀ v H, Q1 v H → Q2 v H) → Q1 = Q1 := fun _ _ _ => rfl
    show ta σ H fun x H1 => ∃ v, [x] = [v] ∧ ∃ q a, v = .ref a ∧ (∃ xs, SqQ X.K q H1 a xs) ∧ R (Ite X.K q a) H1
    have e : (fun (x : V) (H1 : Hp) => ∃ v, [x] = [v] ∧ ∃ q a, v = .ref a ∧ (∃ xs, SqQ X.K q H1 a xs) ∧ R (Ite X.K q a) H1) = (fun x H1 => ∃ q a, x = .ref a ∧ (∃ xs, SqQ X.K q H1 a xs) ∧ R (Ite X.K q a) H1) := by
      funext x H1
      refine propext ⟨?_, fun z => ⟨x, rfl, z⟩⟩
      rintro ⟨v, e, z⟩
      cases e
      exact z
    rw [e]
    exact h'
  · obtain ⟨v, rfl, q, l, rfl, ⟨xs, hq⟩, hR⟩ := q1
    obtain ⟨u, rfl, ru⟩ := r1.one
    obtain rfl : u = Value.ref l := ru
    have fin : ∀ h', IsEnum h' (s1.heap.objs.size + 1) s1.heap.objs.size 0 .none → innerQ q s1.heap.objs.size l 0 h' → (∀ b o, s1.heap.get? b = some o → h'.get? b = some o) →
        wpAny (model X.prog X.w) X.A (pyIter (.ref (s1.heap.objs.size + 1))) (PIE X pins σ (.Tuple elts x1 tpos) R) X.xe { s1 with heap := h' } := fun h' he hin kp => by
      refine wpAny_pyIter_enum (s := { s1 with heap := h' }) he ?_
      refine ⟨s1.heap.objs.size + 1, [s1.heap.objs.size + 1, s1.heap.objs.size], _, _, H1, rfl, I1.kept (t' := s1.toks) kp, turn_enum q l _ _ (by simp), ⟨⟨_, he⟩, hin⟩, fun b hb => ?_, hR⟩
      rcases List.mem_cons.mp hb with z | hb
      · subst z; exact I1.fpOk (Nat.le_succ _) (I1.hok.fresh (Nat.le_succ _))
      · have z : b = s1.heap.objs.size := by simpa using hb
        subst z; exact I1.fpOk (Nat.le_refl _) (I1.hok.fresh (Nat.le_refl _))
    cases q with
    | true =>
      obtain ⟨its, rv, pt, hz⟩ := I1.tuple hq
      exact enum_made (show s1.heap.IsTuple l its.toArray from pt) fun h' he hin kp => fin h' he hin kp
    | false =>
      obtain ⟨its, rv, pl, hz⟩ := I1.list hq
      exact call_enumerate_list pl.isList fun h' he hin _ kp => fin h' he hin kp
def iE (f : Ga → R D) : Ga → R (List D) := fun Γ => (f Γ).bind fun d => .ofO (enumD d)
theorem it_enum (hg : Gl X "enumerate") (hm : X.mg "enumerate" = none) (he : EvD X W a f) (hs : starEach [a] X.env = [(false, eval a X.env)] := by rfl) : ItD X W (.Tuple elts x1 tpos) (.Call (.Name "enumerate" p) [a] [] pos) (iE f) := by
  obtain ⟨t, pe, q⟩ := he
  refine ⟨_, pi_enum hg hm pe hs, fun H₀ G₀ Γ σ H G R Q w => ?_⟩
  refine q _ _ _ _ _ _ R _ (wStep w (fun _ h => h) fun d w v H' G' E1 d1 => ?_)
  obtain ⟨ds, e2, k⟩ := wOfO w
  have main : ∀ (b : Bool) (a : Addr) (xs : List D) (vs : List V), SqQ X.K b G' a vs → DenL X.K G' xs vs → ds = enumL xs → ∃ q a', V.ref a = .ref a' ∧ (∃ xs, SqQ X.K q H' a' xs) ∧ Q (Ite X.K q a') H' := fun b a xs vs sq l hds => by
    have up : ∀ {H2 : Hp}, Same G' H2 → SqQ X.K b H2 a vs := fun {H2} g => by
      cases b with
      | true => exact Same.seqT g sq
      | false => exact g.seq sq
    subst hds
    refine ⟨b, a, rfl, ⟨vs, up E1.gh⟩, k _ H' G' E1 fun i H2 G2 g2 h2 => ⟨fun d hd => ?_, fun hi => ⟨vs, up (g2.trans h2), ?_⟩⟩⟩
    · unfold enumL at hd
      rw [List.getElem?_map] at hd
      obtain ⟨m, em, ed⟩ := Option.map_eq_some_iff.mp hd
      obtain ⟨hm', e3⟩ := List.getElem?_eq_some_iff.mp em
      rw [List.getElem_range] at e3
      rw [List.length_range] at hm'
      subst e3
      obtain ⟨v, hv, dv⟩ := l.get (List.getElem?_eq_getElem hm')
      refine ⟨⟨vs, v, up (g2.trans h2), hv⟩, fun x H3 ⟨p, v', hp, eH, ex, hy⟩ => ?_⟩
      have hv' := hy vs (up (g2.trans h2))
      rw [hv] at hv'
      cases hv'
      subst eH ex ed
      have A := Ext.alloc (o := .tup [.int i, v]) h2 hp
      refine ⟨_, A, den_tup.mpr ⟨p, _, rfl, SqT.of upd_same, denL_cons.mpr ⟨_, _, rfl, den_int, .one ?_⟩⟩⟩
      rw [List.getD_eq_getElem?_getD, List.getElem?_eq_getElem hm']
      exact (dv.up g2).up A.gg
    · have hi' := hi
      unfold enumL at hi'
      rw [List.length_map, List.length_range] at hi'
      rw [← l.length]
      exact hi'
  cases d with
  | tup xs =>
    cases e2
    obtain ⟨a, vs, rfl, s, l⟩ := den_tup.mp d1
    exact main true a xs vs s l rfl
  | lst xs =>
    cases e2
    obtain ⟨a, vs, rfl, s, l⟩ := den_lst.mp d1
    exact main false a xs vs s l rfl
  | _ => cases e2
end
end Wy


namespace Wy
open PySem PySem.Spec PyProof.Rows L2
def lenS : Bool × List D → Option D := fun p => some (.int p.2.length)
def allS : Bool × List D → Option D := fun p => match p with
  | (false, ds) => (asBs ds).bind fun bs => some (.bl (bs.all id))
  | _ => none
def tupS : Bool × List D → Option D := fun p => some (.tup p.2)
def RS.seq (r : RS) (U : Ga → RS) : RS := match r with
  | .nx Γ' => U Γ'
  | r => r
def RS.fin (r : RS) : R D := match r with
  | .rt d => .ok d
  | .nx _ => .ok .non
  | .ex c _ => .ex c
  | _ => .no
@[simp] theorem callR_eq (N : List Str) (s : Ga → RS) (ds : List D) : callR N s ds = (s (begin_ N ds)).fin := nr rfl
section
variable {α β : Type} {Γ Γ' : Ga} {d x y : D} {xs : List D} {f fa fb fc : Ga → R D} {fl : Ga → R (List D)} {fs : Ga → R (Bool × List D)} {g ga gb : Ga → R Bool} {T U : Ga → RS} {F F' : D → D → Option D} {n : Nat} {sl : Sl} {c : Str}
@[simp] theorem seq_nx : RS.seq (.nx Γ) U = U Γ := nr rfl
@[simp] theorem seq_rt : RS.seq (.rt d) U = .rt d := nr rfl
@[simp] theorem fin_rt : RS.fin (.rt d) = .ok d := nr rfl
@[simp] theorem eC_eq : eC d Γ = .ok d := nr rfl
@[simp] theorem eV_zero : eV 0 (.val d :: Γ) = .ok d := nr rfl
@[simp] theorem eV_succ : eV (n + 1) (sl :: Γ) = eV n Γ := by simp [eV]
@[simp] theorem sV_lst : sV 0 (.val (.lst xs) :: Γ) = .ok (false, xs) := nr rfl
@[simp] theorem sV_own : sV 0 (.own xs :: Γ) = .ok (false, xs) := nr rfl
@[simp] theorem sV_succ : sV (n + 1) (sl :: Γ) = sV n Γ := by simp [sV]
@[simp] theorem sE_eq : sE f Γ = (f Γ).bind fun d => .ofO (seqOf d) := nr rfl
@[simp] theorem seqOf_tup : seqOf (.tup xs) = some (true, xs) := nr rfl
@[simp] theorem sO_eq : sO fl Γ = (fl Γ).bind fun ds => .ok (false, ds) := nr rfl
@[simp] theorem eO_eq : eO fl Γ = (fl Γ).bind fun ds => .ok (.lst ds) := nr rfl
@[simp] theorem aNil_eq : aNil Γ = .ok [] := nr rfl
@[simp] theorem aCons_eq : aCons f fl Γ = (f Γ).bind fun d => (fl Γ).bind fun ds => .ok (d :: ds) := nr rfl
@[simp] theorem eTup_eq : eTup fl Γ = (fl Γ).bind fun ds => .ok (.tup ds) := nr rfl
@[simp] theorem e2_eq : e2 F fa fb Γ = (fa Γ).bind fun x => (fb Γ).bind fun y => .ofO (F x y) := nr rfl
@[simp] theorem asB_bl {b : Bool} : asB (.bl b) = some b := nr rfl
@[simp] theorem tB_eq : Wy.tB f Γ = (f Γ).bind fun d => .ofO (asB d) := nr rfl
def chainK (k : D) (r : R D) : R D := match k with
  | .bl true => r
  | .bl false => .ok (.bl false)
  | _ => .no
@[simp] theorem chainK_bl {b : Bool} {r : R D} : chainK (.bl b) r = if b = true then r else .ok (.bl false) := by cases b <;> rfl
@[simp] theorem e3_eq : e3 F F' fa fb fc Γ = (fa Γ).bind fun x => (fb Γ).bind fun y => (R.ofO (F x y)).bind fun z => chainK z ((fc Γ).bind fun w => .ofO (F' y w)) := nr rfl
def orK (k : D) (r : R D) : R D := match k with
  | .bl true => .ok (.bl true)
  | .bl false => r
  | _ => .no
@[simp] theorem orK_bl {b : Bool} {r : R D} : orK (.bl b) r = if b = true then .ok (.bl true) else r := by cases b <;> rfl
@[simp] theorem eAnd_eq : eAnd fa fb Γ = (fa Γ).bind fun x => chainK x (fb Γ) := nr rfl
@[simp] theorem eOr_eq : eOr fa fb Γ = (fa Γ).bind fun x => orK x (fb Γ) := nr rfl
def notK (k : D) : R D := match k with
  | .bl k => .ok (.bl (!k))
  | _ => .no
@[simp] theorem notK_bl {b : Bool} : notK (.bl b) = .ok (.bl (!b)) := nr rfl
@[simp] theorem eNot_eq : eNot fa Γ = (fa Γ).bind notK := nr rfl
@[simp] theorem tAndR_eq : tAndR ga gb Γ = (ga Γ).bind fun k => if k = true then gb Γ else .ok false := by
  show (ga Γ).bind _ = _
  congr 1; funext k; cases k <;> rfl
@[simp] theorem tOrR_eq : tOrR ga gb Γ = (ga Γ).bind fun k => if k = true then .ok true else gb Γ := by
  show (ga Γ).bind _ = _
  congr 1; funext k; cases k <;> rfl
@[simp] theorem tNotR_eq : tNotR ga Γ = (ga Γ).bind fun k => .ok (!k) := nr rfl
@[simp] theorem tTru_eq : tTru f Γ = (f Γ).bind fun d => .ofO (truD d) := nr rfl
@[simp] theorem truD_bl {b : Bool} : truD (.bl b) = some b := nr rfl
@[simp] theorem eCall_eq {M : List D → R D} : eCall M fl Γ = (fl Γ).bind M := nr rfl
@[simp] theorem eB_eq {M : List D → Option D} : eB M fl Γ = (fl Γ).bind fun ds => .ofO (M ds) := nr rfl
@[simp] theorem eS_eq {M : Bool × List D → Option D} : eS M fs Γ = (fs Γ).bind fun p => .ofO (M p) := nr rfl
@[simp] theorem lenD_tup : lenD [.tup xs] = some (.int xs.length) := nr rfl
@[simp] theorem lenD_lst : lenD [.lst xs] = some (.int xs.length) := nr rfl
@[simp] theorem lenS_eq {b : Bool} : lenS (b, xs) = some (.int xs.length) := nr rfl
@[simp] theorem tupS_eq {b : Bool} : tupS (b, xs) = some (.tup xs) := nr rfl
@[simp] theorem ixD_tup {i : Int} : ixD (.tup xs) (.int i) = atI xs i := nr rfl
@[simp] theorem ixD_lst {i : Int} : ixD (.lst xs) (.int i) = atI xs i := nr rfl
@[simp] theorem ixS_int {b : Bool} {i : Int} : ixS (b, xs) (.int i) = atI xs i := nr rfl
@[simp] theorem eIxS_eq : eIxS fs fb Γ = (fs Γ).bind fun p => (fb Γ).bind fun y => .ofO (ixS p y) := nr rfl
@[simp] theorem oN_eq : oN Γ = .ok none := nr rfl
@[simp] theorem asI_int {i : Int} : asI (.int i) = some i := nr rfl
@[simp] theorem oI_eq : oI f Γ = (f Γ).bind fun d => (R.ofO (asI d)).bind fun i => .ok (some i) := nr rfl
@[simp] theorem cutS_eq {l h : Option Int} : cutS (false, xs) l h = some (cut xs l h) := nr rfl
@[simp] theorem oSl_eq {gl gh : Ga → R (Option Int)} : oSl fs gl gh Γ = (fs Γ).bind fun d => (gl Γ).bind fun l => (gh Γ).bind fun h => .ofO (cutS d l h) := nr rfl
@[simp] theorem sPop_eq {m : Nat} : sPop n m Γ = match Γ[n]? with | some (.own xs) => (match xs.getLast? with | some d => .nx ((Γ.set n (.own xs.dropLast)).set m (.val d)) | none => .no) | _ => .no := nr rfl
@[simp] theorem eIsi_eq {k : String → Bool} : eIsi k fa Γ = (fa Γ).bind fun d => .ok (.bl (k (tyN d))) := nr rfl
@[simp] theorem int2_int {k : Int → Int → Option D} {i j : Int} : int2 k (.int i) (.int j) = k i j := nr rfl
@[simp] theorem ltD_int {i j : Int} : ltD (.int i) (.int j) = some (.bl (decide (i < j))) := nr rfl
@[simp] theorem isB_bl {a b : Bool} : isB (.bl a) b = (a == b) := nr rfl
@[simp] theorem mulI_r {i j : Int} (h : -(2 ^ 64) < j ∧ j < 2 ^ 64) : mulI i j = some (.int (i * j)) := if_pos (.inr h)
@[simp] theorem mulI_l {i j : Int} (h : -(2 ^ 64) < i ∧ i < 2 ^ 64) : mulI i j = some (.int (i * j)) := if_pos (.inl h)
@[simp] theorem modI_pos {i j : Int} (h : 0 < j) : modI i j = some (.int (i % j)) := if_pos h
@[simp] theorem sNext_eq : sNext Γ = .nx Γ := nr rfl
@[simp] theorem sSeq_eq : sSeq T U Γ = RS.seq (T Γ) U := nr rfl
@[simp] theorem sRet_eq : sRet f Γ = .of (f Γ) Γ fun d => .rt d := nr rfl
@[simp] theorem sRetO_eq : sRetO n Γ = match Γ[n]? with | some (.own xs) => .rt (.lst xs) | _ => .no := nr rfl
@[simp] theorem sSet_eq : sSet n f Γ = .of (f Γ) Γ fun d => .nx (Γ.set n (.val d)) := nr rfl
@[simp] theorem sSetO_eq : sSetO n fl Γ = .of (fl Γ) Γ fun d => .nx (Γ.set n (.own d)) := nr rfl
@[simp] theorem sIf_eq : sIf g T U Γ = .of (g Γ) Γ fun k => if k = true then T Γ else U Γ := by
  show RS.of (g Γ) Γ _ = _
  congr 1; funext k; cases k <;> rfl
@[simp] theorem sApp_eq : sApp n f Γ = match Γ[n]? with | some (.own xs) => .of (f Γ) Γ fun d => if xs.length < 16000000 then .nx (Γ.set n (.own (xs ++ [d]))) else .no | _ => .no := nr rfl
@[simp] theorem gName_eq : gName' n d Γ = some (Γ.set n (.val d)) := nr rfl
@[simp] theorem iL_eq : iL f Γ = (f Γ).bind fun d => .ofO (asL d) := nr rfl
@[simp] theorem iT_eq : iT f Γ = (f Γ).bind fun d => .ofO (asT d) := nr rfl
@[simp] theorem asL_lst : asL (.lst xs) = some xs := nr rfl
@[simp] theorem asT_tup : asT (.tup xs) = some xs := nr rfl
@[simp] theorem iR1_eq : iR1 fl Γ = (fl Γ).bind fun d => .ofO (rng1 d) := nr rfl
@[simp] theorem iE_eq : iE f Γ = (f Γ).bind fun d => .ofO (enumD d) := nr rfl
@[simp] theorem enumD_lst : enumD (.lst xs) = some (enumL xs) := nr rfl
@[simp] theorem iS_eq : iS f Γ = (f Γ).bind fun d => .ofO (asSigns d) := nr rfl
@[simp] theorem sFor_eq {gg : D → Ga → Option Ga} : sFor fl gg T Γ = .of (fl Γ) Γ fun ds => sTurns gg T ds Γ := nr rfl
@[simp] theorem cTrue_eq : cTrue Γ = .ok true := nr rfl
@[simp] theorem cpR_eq : cpR fl g f Γ = (fl Γ).bind fun ds => if ds.length < 16000000 then compR g f Γ ds else .no := nr rfl
theorem rng1_nat {k : Nat} (h : (k : Int) < 2 ^ 62) : rng1 [.int (k : Int)] = some ((List.range k).map fun (j : Nat) => D.int (j : Int)) := by
  simp only [rng1]
  rw [if_pos ⟨by omega, h⟩, Int.toNat_natCast]
  congr 2
  funext j
  rw [Int.zero_add]
theorem allS_eq {bs : List Bool} : allS (false, bs.map D.bl) = some (.bl (bs.all id)) := by
  show (asBs (bs.map D.bl)).bind _ = _
  have := asBs_map id bs
  rw [show (bs.map D.bl) = (bs.map fun x => D.bl (id x)) from rfl, this]
  simp
theorem atI_zero {α : Type} (x : α) (xs : List α) : atI (x :: xs) 0 = some x := atI_nat (j := 0) rfl
theorem atI_one {α : Type} (x y : α) (xs : List α) : atI (x :: y :: xs) 1 = some y := atI_nat (j := 1) rfl
theorem atI_two {α : Type} (x y z : α) (xs : List α) : atI (x :: y :: z :: xs) 2 = some z := atI_nat (j := 2) rfl
end
end Wy


namespace Wy
open PySem PySem.Spec PyProof.Rows L2
theorem turns_st {α : Type} {g : D → Ga → Option Ga} {T : Ga → RS} (P : α → Ga → Prop) (F : α → D → α) : ∀ (ds : List D) (a : α) (Γ : Ga), (∀ a d Γ, d ∈ ds → P a Γ → ∃ Γ1 Γ', g d Γ = some Γ1 ∧ (T Γ1 = .nx Γ' ∨ T Γ1 = .ct Γ') ∧ P (F a d) Γ') → P a Γ → ∃ Γ', sTurns g T ds Γ = .nx Γ' ∧ P (ds.foldl F a) Γ'
  | [], a, Γ, _, h => ⟨Γ, rfl, h⟩
  | d :: ds, a, Γ, H, h => by
    obtain ⟨Γ1, Γ2, h1, h2, h3⟩ := H a d Γ List.mem_cons_self h
    obtain ⟨Γ', e, q⟩ := turns_st P F ds (F a d) Γ2 (fun a x Γ hx => H a x Γ (List.mem_cons_of_mem _ hx)) h3
    refine ⟨Γ', ?_, q⟩
    unfold sTurns
    rw [h1]
    rcases h2 with h2 | h2 <;> (dsimp only; rw [h2]; exact e)
theorem all_cp {it : Ga → R (List D)} {f : Ga → R D} {Γ : Ga} {ds : List D} {p : D → Bool} (h1 : it Γ = .ok ds) (h2 : ds.length < 16000000) (h3 : ∀ d ∈ ds, f (.val d :: .un :: Γ) = .ok (.bl (p d))) :
    eS allS (sO (cpR it cTrue f)) Γ = .ok (.bl (ds.all p)) := by
  have e := compR_map (f := f) (Γ := Γ) (h := fun d => D.bl (p d)) h3
  have e2 : allS (false, ds.map fun d => D.bl (p d)) = some (.bl (ds.all p)) := by
    have := allS_eq (bs := ds.map p)
    rw [List.map_map] at this
    rw [show (D.bl ∘ p) = fun d => D.bl (p d) from rfl] at this
    rw [this]
    simp [Function.comp_def]
  simp [h1, h2, e, e2]
theorem turns_ix {α : Type} {g : D → Ga → Option Ga} {T : Ga → RS} (P : Nat → α → Ga → Prop) (F : α → D → α) : ∀ (ds : List D) (j : Nat) (a : α) (Γ : Ga), (∀ i a d Γ, ds[i]? = some d → P (j + i) a Γ → ∃ Γ1 Γ', g d Γ = some Γ1 ∧ (T Γ1 = .nx Γ' ∨ T Γ1 = .ct Γ') ∧ P (j + i + 1) (F a d) Γ') → P j a Γ → ∃ Γ', sTurns g T ds Γ = .nx Γ' ∧ P (j + ds.length) (ds.foldl F a) Γ'
  | [], j, a, Γ, _, h => ⟨Γ, rfl, h⟩
  | d :: ds, j, a, Γ, H, h => by
    obtain ⟨Γ1, Γ2, h1, h2, h3⟩ := H 0 a d Γ rfl h
    obtain ⟨Γ', e, q⟩ := turns_ix P F ds (j + 1) (F a d) Γ2 (fun i a x Γ hx h => by
      have := H (i + 1) a x Γ (by simpa using hx) (by rw [show j + (i + 1) = j + 1 + i by omega]; exact h)
      rw [show j + (i + 1) = j + 1 + i by omega] at this
      exact this) h3
    refine ⟨Γ', ?_, by rw [List.length_cons, show j + (ds.length + 1) = j + 1 + ds.length by omega]; exact q⟩
    unfold sTurns
    rw [h1]
    rcases h2 with h2 | h2 <;> (dsimp only; rw [h2]; exact e)
theorem foldl_app {α β : Type} (h : α → β) : ∀ (ds : List α) (a : List β), ds.foldl (fun acc d => acc ++ [h d]) a = a ++ ds.map h
  | [], a => by simp
  | d :: ds, a => by rw [List.foldl_cons, foldl_app h ds]; simp
end Wy
namespace Wl
open PySem PySem.Spec PyProof.Rows L2 Wy
abbrev Wd := List Str × List (List Nat)
def dNames (ns : List Str) : D := .tup (ns.map .str)
def dRow (r : List Nat) : D := .tup (r.map fun (n : Nat) => D.int (n : Int))
def dWays (w : List (List Nat)) : D := .tup (w.map dRow)
def dWd (w : Wd) : D := .tup [dNames w.1, dWays w.2]
def dYd (y : List Wd) : D := .tup (y.map dWd)
def dLs (ns : List Int) : D := .lst (ns.map D.int)
def cellI (ns : List Int) (k : Nat) : Int := ns.getD k 0
def mixI (c p m : Int) : Int := c * 48271 % p % m
theorem mix_lt (c p m : Int) (h : 0 < m) : 0 ≤ mixI c p m ∧ mixI c p m < m := ⟨Int.emod_nonneg _ (by omega), Int.emod_lt_of_pos _ h⟩
def yCount (ns : List Int) (k : Nat) : Nat := (1 + cellI ns k % 5).toNat
def yNames (ns : List Int) (k w : Nat) : List Str := (([(0, "a"), (1, "b"), (2, "zz")] : List (Nat × Str)).filter fun p => decide (mixI (cellI ns (k + 1) + 7 * (w : Int) + (p.1 : Int)) 9929 2 = 0)).map (·.2)
def yRow (ns : List Int) (k : Nat) (own : Int) (w kind : Nat) : List Nat := (List.range (yCount ns k)).filter fun one => decide (mixI (cellI ns (k + 2 + kind) + 31 * (w : Int) + 5 * (one : Int)) 9923 3 = 0) || (decide (own = 1) && decide (one = w))
def lawWd (ns : List Int) (k : Nat) (own : Int) (w : Nat) : Wd := (yNames ns k w, (List.range 3).map (yRow ns k own w))
def lawYd (ns : List Int) (k : Nat) (own : Int) : List Wd := (List.range (yCount ns k)).map (lawWd ns k own)
theorem yCount_le (ns : List Int) (k : Nat) : 1 ≤ yCount ns k ∧ yCount ns k ≤ 5 := by
  have h1 := Int.emod_nonneg (cellI ns k) (show (5 : Int) ≠ 0 by decide)
  have h2 := Int.emod_lt_of_pos (cellI ns k) (show (0 : Int) < 5 by decide)
  unfold yCount
  omega
section
variable {r : List Nat} {nms : List Str} {ws : List (List Nat)} {w : Wd} {y : List Wd}
@[simp] theorem len_yd : lenD [dYd y] = some (.int y.length) := by simp [dYd]
@[simp] theorem as_row : asT (dRow r) = some (r.map fun (n : Nat) => D.int (n : Int)) := nr rfl
@[simp] theorem wd_0 : ixD (dWd w) (.int 0) = some (dNames w.1) := by rw [show dWd w = .tup [dNames w.1, dWays w.2] from rfl, ixD_tup, atI_zero]
@[simp] theorem wd_1 : ixD (dWd w) (.int 1) = some (dWays w.2) := by rw [show dWd w = .tup [dNames w.1, dWays w.2] from rfl, ixD_tup, atI_one]
theorem yd_at {k : Nat} (h : y[k]? = some w) : ixD (dYd y) (.int (k : Int)) = some (dWd w) := by
  rw [show dYd y = .tup (y.map dWd) from rfl, ixD_tup]
  exact atI_nat (by simp [h])
end
@[simp] theorem ty_str {x : Str} : tyN (.str x) = "str" := nr rfl
@[simp] theorem ty_int {x : Int} : tyN (.int x) = "int" := nr rfl
end Wl


namespace Wy
open PySem PySem.Spec PyProof.Rows L2
structure Chg (F ch : List Addr) (h h' : Heap) : Prop where
  keep : ∀ b o, h.get? b = some o → b ∉ F → b ∉ ch → h'.get? b = some o
  slot : ∀ b o, h.get? b = some o → b ∈ F → b ∉ ch → ∃ sl, h'.get? b = some { o with slots := sl }
  there : ∀ b o, h.get? b = some o → b ∉ ch → ∃ o', h'.get? b = some o'
theorem Chg.trans {F ch : List Addr} {h h1 h2 : Heap} (a : Chg F ch h h1) (b : Chg F ch h1 h2) : Chg F ch h h2 where
  keep := fun c o e h1 h2 => b.keep c o (a.keep c o e h1 h2) h1 h2
  slot := fun c o e h1 h2 => by
    obtain ⟨sl, e1⟩ := a.slot c o e h1 h2
    obtain ⟨sl', e2⟩ := b.slot c _ e1 h1 h2
    exact ⟨sl', e2⟩
  there := fun c o e h2 => by
    obtain ⟨o', e1⟩ := a.there c o e h2
    exact b.there c o' e1 h2
theorem Chg.of_slots {F ch : List Addr} {h h' : Heap} (x : Heap.SlotsOnly F h h') : Chg F ch h h' :=
  ⟨fun b o e hb _ => (x.2.1 b hb).trans e, fun b o e _ _ => x.2.2 b o e, fun b o e _ => let ⟨_, q⟩ := x.2.2 b o e; ⟨_, q⟩⟩
theorem Chg.push {F ch : List Addr} {h : Heap} (o : Obj) : Chg F ch h (h.push o) :=
  ⟨fun b _ e _ _ => Heap.get?_push_of_some _ e, fun b o' e _ _ => ⟨o'.slots, Heap.get?_push_of_some _ e⟩, fun b o' e _ => ⟨o', Heap.get?_push_of_some _ e⟩⟩
theorem Chg.update {F ch : List Addr} {h : Heap} {a : Addr} {f : Obj → Obj} (ha : a ∈ ch) : Chg F ch h (h.update a f) := by
  have ne : ∀ b, b ∉ ch → a ≠ b := fun b hb z => hb (z ▸ ha)
  exact ⟨fun b o e _ hc => (Heap.get?_update_other _ _ (ne b hc)).trans e, fun b o e _ hc => ⟨o.slots, (Heap.get?_update_other _ _ (ne b hc)).trans e⟩, fun b o e hc => ⟨o, (Heap.get?_update_other _ _ (ne b hc)).trans e⟩⟩
structure DefCx (X : Cx) : Prop where
  stk : X.stack = X.env :: X.outer
  frm : X.env.frame = some X.env.locals
  ex : X.ex = []
structure Fp (X : Cx) (pins : List (Addr × Obj)) (H : Hp) (b : Addr) : Prop where
  fr : H b = none
  loc : b ≠ X.env.locals
  fs : b ∉ X.fs
  new : X.s₀.heap.get? b = none
  cel : ∀ x c, X.env.cells.lookup x = some c → c ≠ b
  pin : ∀ p ∈ X.pn ++ pins, p.1 ≠ b
section
variable {X : Cx} {pins : List (Addr × Obj)} {σ : L2.St} {H H' : Hp} {s : Shared}
theorem inv_fp {b : Addr} (Dc : DefCx X) (I : Inv X pins σ H s) (hb : s.heap.get? b = none) (hn : H' b = none) : Fp X pins H' b := by
  refine ⟨hn, fun z => ?_, fun z => ?_, ?_, fun x c e z => ?_, fun p hp z => ?_⟩
  · obtain ⟨m, ⟨o, _, _, ho, _⟩, _⟩ := I.loc
    rw [← z, hb] at ho; cases ho
  · obtain ⟨_, o, ho, _⟩ := I.funs.mem z
    rw [hb] at ho; cases ho
  · cases q : X.s₀.heap.get? b with
    | none => rfl
    | some o =>
      obtain ⟨o', e⟩ := I.base.there b o q (by rw [Dc.ex]; simp)
      rw [hb] at e; cases e
  · obtain ⟨v, o, ho, _⟩ := I.cell x c e
    rw [z, hb] at ho; cases ho
  · have := (I.pin p hp).1
    rw [z, hb] at this; cases this
theorem chg_inv {ch : List Addr} {h' : Heap} {t' : Nat} (I : Inv X pins σ H s) (c : Chg (frs X.stack) ch s.heap h') (hch : ∀ b ∈ ch, Fp X pins H b) : Inv X pins σ H { s with heap := h', toks := t' } := by
  have nt : ∀ b o, H b = some o → b ∉ frs X.stack ∧ b ∉ ch := fun b o e => ⟨fun z => (by rw [I.stkFree b z] at e; cases e), fun z => (by rw [(hch b z).fr] at e; cases e)⟩
  have nold : ∀ b o, X.s₀.heap.get? b = some o → b ∉ ch := fun b o e z => by rw [(hch b z).new] at e; cases e
  have nfr : ∀ b, b ≠ X.env.locals → b ∉ X.fs → b ∉ frs X.stack := fun b h1 h2 z => (List.mem_cons.mp (I.stkSub b z)).elim h1 h2
  have noL : ∀ b o, X.s₀.heap.get? b = some o → b ≠ X.env.locals := fun b o e => Nat.ne_of_lt (Nat.lt_of_lt_of_le (Heap.lt_size e) I.ok.above)
  have any : ∀ b o, s.heap.get? b = some o → b ∉ ch → ∃ sl, h'.get? b = some { o with slots := sl } := fun b o e hc => by
    by_cases z : b ∈ frs X.stack
    · exact c.slot b o e z hc
    · exact ⟨o.slots, c.keep b o e z hc⟩
  have cellK : ∀ x k, X.env.cells.lookup x = some k → ∀ v, s.heap.IsCell k v → h'.IsCell k v := fun x k e v ⟨o, ho, hd⟩ => by
    obtain ⟨sl, q⟩ := any k o ho fun z => (hch k z).cel x k e rfl
    exact ⟨_, q, hd⟩
  refine ⟨I.ok, I.os, I.bare, ⟨fun b o e n hb hx => ?_, fun b o e n hb hx => ?_, I.base.free, fun b o e hx => ?_, I.base.tups, I.base.frzs, I.base.tbls⟩, ?_, fun x k e => ?_, I.free, I.freeC, fun p hp => ?_, fun b u e => ?_, I.len⟩
  · exact c.keep b o (I.base.keep b o e n hb hx) (nfr b (noL b o e) hb) (nold b o e)
  · obtain ⟨sl, e1⟩ := I.base.slot b o e n hb hx
    obtain ⟨sl', e2⟩ := any b _ e1 (nold b o e)
    exact ⟨sl', e2⟩
  · obtain ⟨o', e1⟩ := I.base.there b o e hx
    exact c.there b o' e1 (nold b o e)
  · obtain ⟨m, ⟨o, es, ep, ho, r⟩, hl⟩ := I.loc
    obtain ⟨sl, q⟩ := any _ o ho fun z => (hch _ z).loc rfl
    refine ⟨m, ⟨_, es, ep, q, r⟩, fun i x v e1 e2 e3 => ?_⟩
    obtain ⟨u, rv, l⟩ := hl i x v e1 e2 e3
    refine ⟨u, rv, ?_⟩
    rcases l with l | ⟨k, d, e, z⟩
    · exact .inl l
    · exact .inr ⟨k, d, e, cellK x d e _ z⟩
  · obtain ⟨v, z⟩ := I.cell x k e
    exact ⟨v, cellK x k e v z⟩
  · obtain ⟨e, n, ne, nf, d⟩ := I.pin p hp
    exact ⟨c.keep p.1 p.2 e (nfr p.1 ne nf) fun z => (hch p.1 z).pin p hp rfl, n, ne, nf, d⟩
  · refine (I.hok b u e).stay (fun d v hc q => ?_) (fun _ q => q) fun _ _ q => q
    rcases hc with z | z
    · subst z; exact c.keep d v q (nt d u e).1 (nt d u e).2
    · exact c.keep d v q (nt d _ z).1 (nt d _ z).2
theorem inv_unpin (I : Inv X pins σ H s) : Inv X [] σ H s := ⟨I.ok, I.os, I.bare, I.base, I.loc, I.cell, I.free, I.freeC, fun p hp => I.pin p (by rw [List.append_nil] at hp; exact List.mem_append_left _ hp), I.hok, I.len⟩
theorem fp_unpin {b : Addr} (f : Fp X pins H b) : Fp X [] H b := ⟨f.fr, f.loc, f.fs, f.new, f.cel, fun p hp => f.pin p (by rw [List.append_nil] at hp; exact List.mem_append_left _ hp)⟩
end
structure XAt (ok : Addr → Prop) (L : Option Addr) (h : Heap) (e : Addr) (cls : Value) : Prop where
  me : ok e
  obj : ∃ oe vs, h.get? e = some oe ∧ oe.cls = cls ∧ oe.data = .fields vs ∧ (vs[1]? = some .none ∨ ∃ T oT ts, vs[1]? = some (.ref T) ∧ ok T ∧ T ≠ e ∧ h.get? T = some oT ∧ oT.data = .fields ts ∧ (ts[3]? = some .none ∨ ∃ l, L = some l ∧ ts[3]? = some (rawInt l)))
structure XOn (ok : Addr → Prop) (n : Value) (h : Heap) (e : Addr) (cls : Value) : Prop where
  me : ok e
  obj : ∃ oe vs T oT ts, h.get? e = some oe ∧ oe.cls = cls ∧ oe.data = .fields vs ∧ vs[1]? = some (.ref T) ∧ ok T ∧ T ≠ e ∧ h.get? T = some oT ∧ oT.data = .fields ts ∧ ts[3]? = some n
theorem XOn.at {ok ok' : Addr → Prop} {L : Option Addr} {h : Heap} {e : Addr} {cls : Value} {n : Value} (x : XOn ok n h e cls) (hok : ∀ b, ok b → ok' b) (hn : n = .none ∨ ∃ l, L = some l ∧ n = rawInt l) : XAt ok' L h e cls := by
  obtain ⟨oe, vs, T, oT, ts, h1, h2, h3, h4, h5, h6, h7, h8, h9⟩ := x.obj
  refine ⟨hok _ x.me, oe, vs, h1, h2, h3, .inr ⟨T, oT, ts, h4, hok _ h5, h6, h7, h8, ?_⟩⟩
  rcases hn with rfl | ⟨l, e1, rfl⟩
  · exact .inl h9
  · exact .inr ⟨l, e1, h9⟩
section
variable {X : Cx} {pins : List (Addr × Obj)} {σ : L2.St} {H : Hp} {s : Shared} {E : Value → Shared → Prop} {M : Model} {e : Addr} {cls : Value}
theorem note_new {oe : Obj} {vs : Array Value} {head : Value} {b : Bool} {h0 : Heap} {Q : Unit → Shared → Prop} (Dc : DefCx X) (I : Inv X pins σ H s) (fe : Fp X pins H e) (he : s.heap.get? e = some oe) (hc : oe.cls = cls) (hd : oe.data = .fields vs) (hz : 1 < vs.size)
    (go : ∀ s', Inv X pins σ H s' → XOn (Fp X pins H) (rawInt X.env.locals) s'.heap e cls → Q () s') :
    wpAny M X.A (do let a ← frameOf X.env; let pl ← entryPlaceOf X.env.locals b; let r ← EntryCells.newEntry head a .none (rawInt X.env.locals) .none pl; setField (.ref e) 1 r) Q E s := by
  have hst := I.stack
  have hfr := I.ok.frames
  rw [Dc.stk] at hst hfr
  have ne : e ∉ (X.env :: X.outer).filterMap (·.frame) := fun z => by
    have z' : e ∈ frs X.stack := by rw [Dc.stk]; exact z
    rcases List.mem_cons.mp (I.stkSub e z') with q | q
    · exact fe.loc q
    · exact fe.fs q
  refine wpAny_bind (wpAny_frameOf_fun hfr hst Dc.frm fun g1 k1 => ?_)
  refine wpAny_bind (wpAny_entryPlaceOf fun pl hpl => ?_)
  unfold EntryCells.newEntry newFields
  refine wpAny_bind (wpAny_newObj_type ?_ (hpl.sizeOk5 _ _ _ _ _))
  generalize hT : ({ cls := .type "traceback", dict := none, data := .fields ([head, .ref X.env.locals, .none, rawInt X.env.locals, .none] ++ (if pl.isEmpty then List.replicate 6 Value.none else pl)).toArray } : Obj) = oT
  have e1 : g1.get? e = some oe := (k1.2.1 e ne).trans he
  have e2 : (g1.push oT).get? e = some oe := Heap.get?_push_of_some _ e1
  refine wpAny_setField e2 hd hz ?_
  have nT : g1.objs.size ≠ e := Nat.ne_of_gt (Heap.lt_size e1)
  have d3 := Obj.data_mapFields hd (·.setIfInBounds 1 (Value.ref g1.objs.size))
  have e3 := Heap.get?_update_self (Obj.mapFields (·.setIfInBounds 1 (Value.ref g1.objs.size))) e2 (Obj.isFreed_of_fields d3)
  have hnf : oT.isFreed = false := by rw [← hT]; rfl
  have t3 := (Heap.get?_update_other (g1.push oT) (Obj.mapFields (·.setIfInBounds 1 (Value.ref g1.objs.size))) (Ne.symm nT)).trans (Heap.get?_push_size g1 hnf)
  have C1 : Chg (frs X.stack) [e] s.heap ((g1.push oT).update e (Obj.mapFields (·.setIfInBounds 1 (Value.ref g1.objs.size)))) := by
    rw [Dc.stk]
    exact ((Chg.of_slots k1).trans (Chg.push oT)).trans (Chg.update (List.mem_singleton.mpr rfl))
  have I1 := chg_inv (t' := s.toks) I C1 fun b hb => by rw [List.mem_singleton.mp hb]; exact fe
  have hsz : s.heap.objs.size ≤ g1.objs.size := by rw [k1.1]; exact Nat.le_refl _
  have fT : Fp X pins H g1.objs.size := inv_fp Dc I (Heap.get?_none_of_le hsz) (I.hok.fresh hsz)
  refine go _ I1 ⟨fe, _, _, g1.objs.size, oT, _, e3, (Obj.cls_mapFields _ _).trans hc, d3, by simp [hz], fT, nT, t3, by rw [← hT], ?_⟩
  rcases hpl with rfl | ⟨_, _, _, _, _, _, _, rfl⟩ <;> rfl
theorem note_ok {Q : Unit → Shared → Prop} (Dc : DefCx X) (I : Inv X pins σ H s) (x : XAt (Fp X pins H) (some X.env.locals) s.heap e cls) (go : ∀ s', Inv X pins σ H s' → XOn (Fp X pins H) (rawInt X.env.locals) s'.heap e cls → Q () s') :
    wpAny M X.A (noteFrame (.ref e) X.env) Q E s := by
  obtain ⟨oe, vs, he, hc, hd, ht⟩ := x.obj
  unfold noteFrame
  simp only [Dc.frm]
  rcases ht with h1 | ⟨T, oT, ts, h1, fT, nT, gT, dT, h3⟩
  · refine wpAny_bind (wpAny_field he hd h1 ?_)
    rw [if_neg (by decide)]
    exact note_new (h0 := s.heap) Dc I x.me he hc hd (Array.getElem?_eq_some_iff.mp h1).1 go
  · refine wpAny_bind (wpAny_field he hd h1 ?_)
    rw [if_pos (show (Value.ref T != Value.none) = true by simp)]
    rcases h3 with h3 | ⟨l, hl, h3⟩
    · refine wpAny_bind (wpAny_field gT dT h3 ?_)
      rw [if_neg (show ¬ ((Value.none == rawInt X.env.locals) = true) by simp [rawInt])]
      refine wpAny_bind (wpAny_setField gT dT (Array.getElem?_eq_some_iff.mp h3).1 ?_)
      have I1 := chg_inv (t' := s.toks) I (Chg.update (ch := [T]) (F := frs X.stack) (h := s.heap) (f := Obj.mapFields (·.setIfInBounds 3 Value.none)) (List.mem_singleton.mpr rfl)) fun b hb => by rw [List.mem_singleton.mp hb]; exact fT
      exact note_new (h0 := s.heap) Dc I1 x.me ((Heap.get?_update_other _ _ nT).trans he) hc hd (Array.getElem?_eq_some_iff.mp h1).1 go
    · cases hl
      refine wpAny_bind (wpAny_field gT dT h3 ?_)
      rw [if_pos (beq_self_eq_true _)]
      exact wpAny_pure (go _ I ⟨x.me, oe, vs, T, oT, ts, he, hc, hd, h1, fT, nT, gT, dT, h3⟩)
theorem flight_ok {n m : Value} {o : Option Addr} {Q : Unit → Shared → Prop} (I : Inv X pins σ H s) (x : XOn (Fp X pins H) n s.heap e cls) (hm : (o.elim Value.none fun f => rawInt f) = m) (go : ∀ s', Inv X pins σ H s' → XOn (Fp X pins H) m s'.heap e cls → Q () s') :
    wpAny M X.A (setFlight (.ref e) o) Q E s := by
  obtain ⟨oe, vs, T, oT, ts, he, hc, hd, h1, fT, nT, gT, dT, h3⟩ := x.obj
  unfold setFlight
  refine wpAny_bind (wpAny_field he hd h1 ?_)
  rw [if_pos (show (Value.ref T != Value.none) = true by simp)]
  have hz := (Array.getElem?_eq_some_iff.mp h3).1
  refine wpAny_setField gT dT hz ?_
  rw [hm]
  have d3 := Obj.data_mapFields dT (·.setIfInBounds 3 m)
  refine go _ (chg_inv (t' := s.toks) I (Chg.update (ch := [T]) (F := frs X.stack) (h := s.heap) (List.mem_singleton.mpr rfl)) fun b hb => by rw [List.mem_singleton.mp hb]; exact fT) ⟨x.me, oe, vs, T, _, _, (Heap.get?_update_other _ _ nT).trans he, hc, hd, h1, fT, nT, Heap.get?_update_self _ gT (Obj.isFreed_of_fields d3), d3, by simp [hz]⟩
end
def XeOk (X : Cx) (W : XP) : Value → Shared → Prop := fun e s => ∃ (ea : Addr) (σ : L2.St) (H G : Hp) (c : Str) (C : Addr), e = .ref ea ∧ Inv X [] σ H s ∧ PySem.W.nsIn X.K mainGlobals c = some (some (.ref C)) ∧ W c σ H G ∧ XAt (Fp X [] H) (some X.env.locals) s.heap ea (.ref C)
abbrev _root_.L2.Cx.xw (X : Cx) (W : XP) : Cx := X.wish (XeOk X W)
def CX1 (P : Program) (w : World) : CXT := fun outer H s E e s' => ∃ (ea C : Addr) (H' : Hp), e = .ref ea ∧ s'.os = s.os ∧ AllBare s'.gens ∧ Un (frs outer) [] H H' s.heap s'.heap ∧ HOk P w H' s'.heap ∧ E (.ref C) none H' ∧
  XAt (fun b => s.heap.get? b = none ∧ H' b = none) none s'.heap ea (.ref C)
theorem cx1_E0 {P : Program} {w : World} {H : Hp} {s : Shared} {e : Value} {s' : Shared} (h : CX1 P w [] H s E0 e s') : False := by
  obtain ⟨_, _, _, _, _, _, _, _, h, _⟩ := h
  exact h
section
variable {X : Cx} {W : XP}
theorem po1 (Dc : DefCx X) : PassesOwn (model X.prog X.w) X.A X.env (XeOk X W) := by
  rintro e s ⟨ea, σ, H, G, c, C, rfl, I, hc, hw, x⟩
  show wpAny _ _ (noteFrame (.ref ea) X.env) _ _ s
  refine note_ok Dc I x fun s1 I1 x1 => ?_
  obtain ⟨oe, vs, T, oT, ts, he, _, hd, h1, _⟩ := id x1.obj
  refine wpAny_bind (wpAny_field he hd h1 ?_)
  rw [if_neg (show ¬ ((Value.ref T == Value.none) = true) by exact Bool.false_ne_true), Dc.frm]
  refine flight_ok I1 x1 rfl fun s2 I2 x2 => ?_
  exact ⟨ea, σ, H, G, c, C, rfl, I2, hc, hw, x2.at (fun _ h => h) (.inr ⟨_, rfl, rfl⟩)⟩
theorem pw1 (Dc : DefCx X) : PassW (CX1 X.prog X.w) (X.xw W) W := by
  rintro pins σ H s e s' I ⟨ea, C, H', rfl, os, bare, un, hok, ⟨c, G', ⟨C', e1, hc⟩, hw⟩, x⟩
  cases e1
  have I := I.unwish
  have I2 := I.call' (ch := []) os un hok bare (fun b z => absurd z (by simp))
  have fp : ∀ b, (s.heap.get? b = none ∧ H' b = none) → Fp X [] H' b := fun b ⟨h1, h2⟩ => fp_unpin (inv_fp Dc I h1 h2)
  obtain ⟨oe, vs, he, h2, hd, ht⟩ := x.obj
  refine ⟨ea, σ, H', G', c, C, rfl, inv_unpin I2, hc, hw, fp _ x.me, oe, vs, he, h2, hd, ?_⟩
  rcases ht with h1 | ⟨T, oT, ts, h1, fT, nT, gT, dT, h3⟩
  · exact .inl h1
  · refine .inr ⟨T, oT, ts, h1, fp _ fT, nT, gT, dT, ?_⟩
    rcases h3 with h3 | ⟨l, hl, _⟩
    · exact .inl h3
    · cases hl
theorem pwB {P : Program} {w : World} : PassW (CX1 P w) X XP0 := by
  rintro pins σ H s e s' I ⟨ea, C, H', rfl, os, bare, un, hok, ⟨c, G', _, hw⟩, x⟩
  exact hw.elim
theorem pss_wish {st : List Stmt} {t : TS} (h : PSs (X.xw W) st t) (hx : ∀ e s, XeOk X W e s → X.xe e s) : PSs X st t := fun pins s σ H D I hw =>
  wpAny_mono (h pins s σ H D (I.wish _) hw) (fun _ _ q => q.unwish) fun e s z => hx e s z
end
section
variable {P : Program} {w : World} {K : PySem.W.Frag} {mg : Str → Option Value} {base : Heap}
theorem fn_R1 {x qual : Str} {st : Stmt} {f : Addr} {fd : FuncData} {N ps : List Str} {k : Nat} {S : Ga → RS} (Fn : Fun K x qual st f fd) (Sc : FnScope N ps (defScope st))
    (B : ∀ (cdv : Value) (A : Around) (outer : List Env) (s : Shared) (H : Hp) (W : XP) (E : XK), Room k (A.deeper (envOfC qual (defScope st) s.heap.objs.size f cdv)) →
      ExDs ((cxOf (CX1 P w) P w K mg base N qual (defScope st) f cdv A outer s H E).xw W) W (defBody st) S) :
    FnOk P w K mg base (CX1 P w) (k + 1) f fd ps (spF K mg ps.length fun ds => callR N S ds) := by
  obtain ⟨oc, od, kV, doc, pm, an, cdv, ct, osl, rfl, lk, hcd⟩ := Fn.ex
  refine fn_of lk hcd Sc (fun vs H Q E h => ?_) fun A outer s H vs Q E hr h => ?_
  · obtain ⟨G, ds, _, l, hl, _⟩ := h
    exact l.length.symm.trans hl
  · obtain ⟨G, ds, g, l, hl, q⟩ := h
    obtain ⟨t, p, hd⟩ := B cdv A outer s H (fun c _ H' G' => Ext H G H' G' ∧ ∀ cls, ClsIs K c cls → E cls none H') E hr
    refine ⟨t, pss_wish p ?_, hd H G _ _ H G (rep_begin g l) _ ?_⟩
    · rintro e s' ⟨ea, σ, H', G', c, C, rfl, I, hc, ⟨_, hw⟩, x⟩
      have Dc : DefCx (cxOf (CX1 P w) P w K mg base N qual (defScope st) f cdv A outer s H E) := ⟨rfl, rfl, rfl⟩
      show wpAny _ _ (leaving _ (.ref ea)) _ _ s'
      unfold leaving
      refine wpAny_bind (note_ok (X := cxOf (CX1 P w) P w K mg base N qual (defScope st) f cdv A outer s H E) Dc I x fun s1 I1 x1 => ?_)
      refine flight_ok (X := cxOf (CX1 P w) P w K mg base N qual (defScope st) f cdv A outer s H E) (o := none) I1 x1 rfl fun s2 I2 x2 => ?_
      have young : ∀ b, Fp (cxOf (CX1 P w) P w K mg base N qual (defScope st) f cdv A outer s H E) [] H' b → s.heap.get? b = none ∧ H' b = none := fun b hb => ⟨hb.new, hb.fr⟩
      exact ⟨ea, C, H', rfl, I2.os, I2.bare, I2.base, I2.hok, hw _ ⟨C, rfl, hc⟩, x2.at young (.inl rfl)⟩
    · unfold callR at q
      dsimp only at q
      cases hS : S (begin_ N ds) with
      | rt d => rw [hS] at q; exact fun v H' G' e dv => q v H' G' e dv
      | nx Γ => rw [hS] at q; exact fun σ H' G' R => q _ H' G' R.ex den_non
      | bk Γ => rw [hS] at q; exact q.elim
      | ct Γ => rw [hS] at q; exact q.elim
      | ex c Γ => rw [hS] at q; exact fun σ H' G' R => ⟨R.ex, fun cls hcls => q cls none H' G' hcls R.ex⟩
      | no => rw [hS] at q; exact q.elim
end
end Wy


namespace Wy
open PySem PySem.Spec PyProof.Rows L2
section
variable {K : PySem.W.Frag} {c y nm q : Str} {C Y N : Addr} {bs bm sub : List Value} {hd : Bool} {sn : List Str} {ab : Bool} {col : Option Bool} {dd : Option Addr} {k0 k1 k2 k3 k5 : Option Value}
end
section
variable {X : Cx} {W : XP} {c : Str} {C : Addr} {bm : List Value} {e : Expr} {es : List Expr} {fl : Ga → R (List D)} {np cpos pos : Pos}
end
end Wy


namespace Wy
open PySem PySem.Spec PyProof.Rows L2
section
variable {X : Cx} {pins : List (Addr × Obj)} {σ : L2.St} {H : Hp} {s : Shared} {E : Value → Shared → Prop} {M : Model}
end
section
variable {X : Cx} {pins pn : List (Addr × Obj)} {σ : L2.St} {H : Hp} {s : Shared}
end
section
variable {X : Cx} {W : XP} {body : List Stmt} {h : ExceptHandler} {pos : Pos} {T : Ga → RS} {U : Str → Ga → RS} {tb : Str → Option Bool}
end
end Wy


namespace Wy
open PySem PySem.Spec PyProof.Rows L2
section
variable {X : Cx} {pins pn : List (Addr × Obj)} {σ : L2.St} {H : Hp} {s : Shared} {A : Around}
end
section
variable {X : Cx} {W : XP} {x : Str} {Ch : Addr} {bmh : List Value} {np hpos : Pos} {b₀ : Stmt} {suite : List Stmt} {U : Ga → RS} {tb : Str → Option Bool}
end
section
variable {X : Cx} {W : XP} {pos p p2 p3 : Pos} {n nT : Str}
end
end Wy


namespace Wy
open PySem PySem.Spec PyProof.Rows L2
mutual
def eqDD : D → D → Bool
  | .non, .non => true
  | .bl a, .bl b => a == b
  | .bl a, .int b => (if a then 1 else 0) == b
  | .int a, .bl b => a == (if b then 1 else 0)
  | .int a, .int b => a == b
  | .str a, .str b => a == b
  | .tup xs, .tup ys => eqDL xs ys
  | .lst xs, .lst ys => eqDL xs ys
  | _, _ => false
def eqDL : List D → List D → Bool
  | [], [] => true
  | x :: xs, y :: ys => eqDD x y && eqDL xs ys
  | _, _ => false
end
mutual
def depD : D → Nat
  | .tup xs => depDL xs + 1
  | .lst xs => depDL xs + 1
  | _ => 0
def depDL : List D → Nat
  | [] => 0
  | x :: xs => max (depD x) (depDL xs)
end
theorem eqDL_at : ∀ (xs ys : List D), eqDL xs ys = ((List.range (min xs.length ys.length)).all (fun j => eqDD (xs.getD j .non) (ys.getD j .non)) && xs.length == ys.length)
  | [], [] => by unfold eqDL; rfl
  | [], y :: ys => by unfold eqDL; simp
  | x :: xs, [] => by unfold eqDL; simp
  | x :: xs, y :: ys => by
    unfold eqDL
    rw [eqDL_at xs ys, List.length_cons, List.length_cons, show min (xs.length + 1) (ys.length + 1) = min xs.length ys.length + 1 by omega, List.range_succ_eq_map, List.all_cons, List.all_map]
    simp only [List.getD_cons_zero, Function.comp_def, List.getD_cons_succ]
    rw [Bool.and_assoc]
    congr 1
    congr 1
    rw [Bool.eq_iff_iff]
    simp
theorem dep_get : ∀ {xs : List D} {j : Nat} {d : D}, xs[j]? = some d → depD d ≤ depDL xs
  | x :: xs, 0, d, h => by
    cases h
    unfold depDL
    exact Nat.le_max_left _ _
  | x :: xs, j + 1, d, h => by
    have := dep_get (xs := xs) (j := j) (by simpa using h)
    unfold depDL
    exact Nat.le_trans this (Nat.le_max_right _ _)
  | [], _, _, h => by simp at h
section
variable {X : Cx} {pins : List (Addr × Obj)} {σ : L2.St} {H G : Hp} {s : Shared}
mutual
theorem den_inj (I : Inv X pins σ H s) (g : Same G H) : (d1 d2 : D) → (v : V) → Den X.K G d1 v → Den X.K G d2 v → d1 = d2
  | .non, d2, v, h1, h2 => by
    cases den_nonE h1
    cases d2 with
    | non => rfl
    | bl b => cases den_blE h2
    | int b => cases den_intE h2
    | str b => cases den_strE h2
    | tup b => obtain ⟨a, vs, e, _⟩ := den_tup.mp h2; cases e
    | lst b => obtain ⟨a, vs, e, _⟩ := den_lst.mp h2; cases e
  | .bl x, d2, v, h1, h2 => by
    cases den_blE h1
    cases d2 with
    | non => cases den_nonE h2
    | bl b => cases den_blE h2; rfl
    | int b => cases den_intE h2
    | str b => cases den_strE h2
    | tup b => obtain ⟨a, vs, e, _⟩ := den_tup.mp h2; cases e
    | lst b => obtain ⟨a, vs, e, _⟩ := den_lst.mp h2; cases e
  | .int x, d2, v, h1, h2 => by
    cases den_intE h1
    cases d2 with
    | non => cases den_nonE h2
    | bl b => cases den_blE h2
    | int b => cases den_intE h2; rfl
    | str b => cases den_strE h2
    | tup b => obtain ⟨a, vs, e, _⟩ := den_tup.mp h2; cases e
    | lst b => obtain ⟨a, vs, e, _⟩ := den_lst.mp h2; cases e
  | .str x, d2, v, h1, h2 => by
    cases den_strE h1
    cases d2 with
    | non => cases den_nonE h2
    | bl b => cases den_blE h2
    | int b => cases den_intE h2
    | str b => cases den_strE h2; rfl
    | tup b => obtain ⟨a, vs, e, _⟩ := den_tup.mp h2; cases e
    | lst b => obtain ⟨a, vs, e, _⟩ := den_lst.mp h2; cases e
  | .tup xs, d2, v, h1, h2 => by
    obtain ⟨a, vs, rfl, s1, l1⟩ := den_tup.mp h1
    cases d2 with
    | non => cases den_nonE h2
    | bl b => cases den_blE h2
    | int b => cases den_intE h2
    | str b => cases den_strE h2
    | tup ys =>
      obtain ⟨a', ws, e, s2, l2⟩ := den_tup.mp h2
      cases e
      have := I.tuple_inj (Same.seqT g s1) (Same.seqT g s2)
      subst this
      rw [denL_inj I g xs ys vs l1 l2]
    | lst ys =>
      obtain ⟨a', ws, e, s2, l2⟩ := den_lst.mp h2
      cases e
      obtain ⟨i1, _, p1, _⟩ := I.tuple (Same.seqT g s1)
      obtain ⟨i2, _, p2, _⟩ := I.list (g.seq s2)
      exact absurd rfl (SeqAt.ne_of_list_tuple (s := s) p2.isList (show s.heap.IsTuple a i1.toArray from p1))
  | .lst xs, d2, v, h1, h2 => by
    obtain ⟨a, vs, rfl, s1, l1⟩ := den_lst.mp h1
    cases d2 with
    | non => cases den_nonE h2
    | bl b => cases den_blE h2
    | int b => cases den_intE h2
    | str b => cases den_strE h2
    | lst ys =>
      obtain ⟨a', ws, e, s2, l2⟩ := den_lst.mp h2
      cases e
      have := I.list_inj (g.seq s1) (g.seq s2)
      subst this
      rw [denL_inj I g xs ys vs l1 l2]
    | tup ys =>
      obtain ⟨a', ws, e, s2, l2⟩ := den_tup.mp h2
      cases e
      obtain ⟨i1, _, p1, _⟩ := I.tuple (Same.seqT g s2)
      obtain ⟨i2, _, p2, _⟩ := I.list (g.seq s1)
      exact absurd rfl (SeqAt.ne_of_list_tuple (s := s) p2.isList (show s.heap.IsTuple a i1.toArray from p1))
theorem denL_inj (I : Inv X pins σ H s) (g : Same G H) : (ds es : List D) → (vs : List V) → DenL X.K G ds vs → DenL X.K G es vs → ds = es
  | [], es, vs, h1, h2 => by
    cases denL_nil.mp h1
    cases es with
    | nil => rfl
    | cons e es => obtain ⟨_, _, e, _⟩ := denL_cons.mp h2; cases e
  | d :: ds, es, vs, h1, h2 => by
    obtain ⟨v, r, rfl, q1, q2⟩ := denL_cons.mp h1
    cases es with
    | nil => cases denL_nil.mp h2
    | cons e es =>
      obtain ⟨_, _, e', q3, q4⟩ := denL_cons.mp h2
      cases e'
      rw [den_inj I g d e v q1 q3, denL_inj I g ds es r q2 q4]
end
mutual
theorem eqDD_self : (d : D) → eqDD d d = true
  | .non => by unfold eqDD; rfl
  | .bl b => by unfold eqDD; simp
  | .int b => by unfold eqDD; simp
  | .str b => by unfold eqDD; simp
  | .tup xs => by unfold eqDD; exact eqDL_self xs
  | .lst xs => by unfold eqDD; exact eqDL_self xs
theorem eqDL_self : (ds : List D) → eqDL ds ds = true
  | [] => by unfold eqDL; rfl
  | d :: ds => by unfold eqDL; rw [eqDD_self d, eqDL_self ds]; rfl
end
theorem den_same (I : Inv X pins σ H s) (g : Same G H) (d1 d2 : D) (v : V) (h1 : Den X.K G d1 v) (h2 : Den X.K G d2 v) : eqDD d1 d2 = true := by
  rw [den_inj I g d1 d2 v h1 h2]
  exact eqDD_self d2
theorem vals_get {xs : List V} {us : List Value} (r : Vals xs us) {j : Nat} (h : j < us.length) : ∃ x, xs[j]? = some x ∧ RelV x us[j] := by
  have hl := r.length
  obtain ⟨u, hu, ru⟩ := r.get (List.getElem?_eq_getElem (show j < xs.length by omega))
  rw [List.getElem?_eq_getElem h] at hu
  cases hu
  exact ⟨_, List.getElem?_eq_getElem (by omega), ru⟩
theorem den_at {ds : List D} {vs : List V} {j : Nat} {x : V} (l : DenL X.K G ds vs) (h : vs[j]? = some x) : ds[j]? = some (ds.getD j .non) ∧ Den X.K G (ds.getD j .non) x := by
  have hj : j < ds.length := by rw [l.length]; exact (List.getElem?_eq_some_iff.mp h).1
  have e : ds[j]? = some (ds.getD j .non) := by rw [List.getD_eq_getElem?_getD, List.getElem?_eq_getElem hj]; rfl
  obtain ⟨v, e1, e2⟩ := l.get e
  rw [h] at e1
  cases e1
  exact ⟨e, e2⟩
theorem eqAt_D (I : Inv X pins σ H s) (g : Same G H) : ∀ (n : Nat) (d1 d2 : D) (v1 v2 : V) (u1 u2 : Value) (A : Around), depD d1 ≤ n → A.units + n < cLine → Den X.K G d1 v1 → Den X.K G d2 v2 → RelV v1 u1 → RelV v2 u2 →
    SeqAt.EqAt A s u1 u2 (eqDD d1 d2) ∧ SeqAt.RcAt A s u1 u2 (eqDD d1 d2) := by
  intro n
  have seqs : ∀ (n : Nat), (∀ (d1 d2 : D) (v1 v2 : V) (u1 u2 : Value) (A : Around), depD d1 ≤ n → A.units + n < cLine → Den X.K G d1 v1 → Den X.K G d2 v2 → RelV v1 u1 → RelV v2 u2 → SeqAt.EqAt A s u1 u2 (eqDD d1 d2)) →
      ∀ (xs ys : List D) (vs ws : List V) (us ts : List Value) (A : Around), depDL xs ≤ n → A.units + (n + 1) < cLine → DenL X.K G xs vs → DenL X.K G ys ws → Vals vs us → Vals ws ts → ∀ j (h1 : j < us.toArray.size) (h2 : j < ts.toArray.size), SeqAt.EqAt A.in1 s us.toArray[j] ts.toArray[j] (eqDD (xs.getD j .non) (ys.getD j .non)) :=
    fun n ih xs ys vs ws us ts A hn hA l1 l2 r1 r2 j h1 h2 => by
      have h1' : j < us.length := by simpa using h1
      have h2' : j < ts.length := by simpa using h2
      obtain ⟨x, e1, q1⟩ := vals_get r1 h1'
      obtain ⟨y, e2, q2⟩ := vals_get r2 h2'
      obtain ⟨e3, q3⟩ := den_at l1 e1
      obtain ⟨e4, q4⟩ := den_at l2 e2
      have := ih _ _ _ _ _ _ A.in1 (Nat.le_trans (dep_get e3) hn) (by show A.units + 1 + n < cLine; omega) q3 q4 q1 q2
      simpa using this
  have main : ∀ (n : Nat), (∀ m, m < n → ∀ (d1 d2 : D) (v1 v2 : V) (u1 u2 : Value) (A : Around), depD d1 ≤ m → A.units + m < cLine → Den X.K G d1 v1 → Den X.K G d2 v2 → RelV v1 u1 → RelV v2 u2 → SeqAt.EqAt A s u1 u2 (eqDD d1 d2)) →
      ∀ (d1 d2 : D) (v1 v2 : V) (u1 u2 : Value) (A : Around), depD d1 ≤ n → A.units + n < cLine → Den X.K G d1 v1 → Den X.K G d2 v2 → RelV v1 u1 → RelV v2 u2 → SeqAt.EqAt A s u1 u2 (eqDD d1 d2) ∧ SeqAt.RcAt A s u1 u2 (eqDD d1 d2) := by
    intro n ih d1 d2 v1 v2 u1 u2 A hn hA h1 h2 r1 r2
    have hu : A.units < cLine := by omega
    cases d1 with
    | non =>
      cases den_nonE h1; obtain rfl : u1 = Value.none := r1
      cases d2 with
      | non => cases den_nonE h2; obtain rfl : u2 = Value.none := r2; unfold eqDD; exact ⟨SeqAt.EqAt.same _, SeqAt.RcAt.none_none⟩
      | bl => rename_i b; cases den_blE h2; obtain rfl : u2 = Value.bool b := r2; unfold eqDD; exact ⟨SeqAt.EqAt.none_bool  b, SeqAt.RcAt.none_bool  b⟩
      | int => rename_i b; cases den_intE h2; obtain ⟨t2, rfl⟩ := r2; unfold eqDD; exact ⟨SeqAt.EqAt.none_int  b t2, SeqAt.RcAt.none_int  b t2⟩
      | str => rename_i b; cases den_strE h2; obtain ⟨t2, rfl⟩ := r2; unfold eqDD; exact ⟨SeqAt.EqAt.none_str  b t2, SeqAt.RcAt.none_str  b t2⟩
      | tup => obtain ⟨l, vs, rfl, sq, _⟩ := den_tup.mp h2; obtain rfl : u2 = Value.ref l := r2; obtain ⟨its, _, p, _⟩ := I.tuple (Same.seqT g sq); have p' : s.heap.IsTuple l its.toArray := p; unfold eqDD; exact ⟨SeqAt.EqAt.none_tuple  p' hu, SeqAt.RcAt.none_tuple  p' hu⟩
      | lst => obtain ⟨l, vs, rfl, sq, _⟩ := den_lst.mp h2; obtain rfl : u2 = Value.ref l := r2; obtain ⟨its, _, p, _⟩ := I.list (g.seq sq); have p' : s.heap.IsList l its.toArray := p.isList; unfold eqDD; exact ⟨SeqAt.EqAt.none_list  p' hu, SeqAt.RcAt.none_list  p' hu⟩
    | bl =>
      rename_i a; cases den_blE h1; obtain rfl : u1 = Value.bool a := r1
      cases d2 with
      | non => cases den_nonE h2; obtain rfl : u2 = Value.none := r2; unfold eqDD; exact ⟨SeqAt.EqAt.bool_none a , SeqAt.RcAt.bool_none a ⟩
      | bl => rename_i b; cases den_blE h2; obtain rfl : u2 = Value.bool b := r2; unfold eqDD; exact ⟨SeqAt.EqAt.bool_bool a b, SeqAt.RcAt.bool_bool a b⟩
      | int => rename_i b; cases den_intE h2; obtain ⟨t2, rfl⟩ := r2; unfold eqDD; exact ⟨SeqAt.EqAt.bool_int a b t2, SeqAt.RcAt.bool_int a b t2⟩
      | str => rename_i b; cases den_strE h2; obtain ⟨t2, rfl⟩ := r2; unfold eqDD; exact ⟨SeqAt.EqAt.bool_str a b t2, SeqAt.RcAt.bool_str a b t2⟩
      | tup => obtain ⟨l, vs, rfl, sq, _⟩ := den_tup.mp h2; obtain rfl : u2 = Value.ref l := r2; obtain ⟨its, _, p, _⟩ := I.tuple (Same.seqT g sq); have p' : s.heap.IsTuple l its.toArray := p; unfold eqDD; exact ⟨SeqAt.EqAt.bool_tuple a p' hu, SeqAt.RcAt.bool_tuple a p' hu⟩
      | lst => obtain ⟨l, vs, rfl, sq, _⟩ := den_lst.mp h2; obtain rfl : u2 = Value.ref l := r2; obtain ⟨its, _, p, _⟩ := I.list (g.seq sq); have p' : s.heap.IsList l its.toArray := p.isList; unfold eqDD; exact ⟨SeqAt.EqAt.bool_list a p' hu, SeqAt.RcAt.bool_list a p' hu⟩
    | int =>
      rename_i a; cases den_intE h1; obtain ⟨t1, rfl⟩ := r1
      cases d2 with
      | non => cases den_nonE h2; obtain rfl : u2 = Value.none := r2; unfold eqDD; exact ⟨SeqAt.EqAt.int_none a t1 , SeqAt.RcAt.int_none a t1 ⟩
      | bl => rename_i b; cases den_blE h2; obtain rfl : u2 = Value.bool b := r2; unfold eqDD; exact ⟨SeqAt.EqAt.int_bool a t1 b, SeqAt.RcAt.int_bool a t1 b⟩
      | int => rename_i b; cases den_intE h2; obtain ⟨t2, rfl⟩ := r2; unfold eqDD; exact ⟨SeqAt.EqAt.int_int a t1 b t2, SeqAt.RcAt.int_int a t1 b t2⟩
      | str => rename_i b; cases den_strE h2; obtain ⟨t2, rfl⟩ := r2; unfold eqDD; exact ⟨SeqAt.EqAt.int_str a t1 b t2, SeqAt.RcAt.int_str a t1 b t2⟩
      | tup => obtain ⟨l, vs, rfl, sq, _⟩ := den_tup.mp h2; obtain rfl : u2 = Value.ref l := r2; obtain ⟨its, _, p, _⟩ := I.tuple (Same.seqT g sq); have p' : s.heap.IsTuple l its.toArray := p; unfold eqDD; exact ⟨SeqAt.EqAt.int_tuple a t1 p' hu, SeqAt.RcAt.int_tuple a t1 p' hu⟩
      | lst => obtain ⟨l, vs, rfl, sq, _⟩ := den_lst.mp h2; obtain rfl : u2 = Value.ref l := r2; obtain ⟨its, _, p, _⟩ := I.list (g.seq sq); have p' : s.heap.IsList l its.toArray := p.isList; unfold eqDD; exact ⟨SeqAt.EqAt.int_list a t1 p' hu, SeqAt.RcAt.int_list a t1 p' hu⟩
    | str =>
      rename_i a; cases den_strE h1; obtain ⟨t1, rfl⟩ := r1
      cases d2 with
      | non => cases den_nonE h2; obtain rfl : u2 = Value.none := r2; unfold eqDD; exact ⟨SeqAt.EqAt.str_none a t1 , SeqAt.RcAt.str_none a t1 ⟩
      | bl => rename_i b; cases den_blE h2; obtain rfl : u2 = Value.bool b := r2; unfold eqDD; exact ⟨SeqAt.EqAt.str_bool a t1 b, SeqAt.RcAt.str_bool a t1 b⟩
      | int => rename_i b; cases den_intE h2; obtain ⟨t2, rfl⟩ := r2; unfold eqDD; exact ⟨SeqAt.EqAt.str_int a t1 b t2, SeqAt.RcAt.str_int a t1 b t2⟩
      | str => rename_i b; cases den_strE h2; obtain ⟨t2, rfl⟩ := r2; unfold eqDD; exact ⟨SeqAt.EqAt.str_str a t1 b t2, SeqAt.RcAt.str_str a t1 b t2⟩
      | tup => obtain ⟨l, vs, rfl, sq, _⟩ := den_tup.mp h2; obtain rfl : u2 = Value.ref l := r2; obtain ⟨its, _, p, _⟩ := I.tuple (Same.seqT g sq); have p' : s.heap.IsTuple l its.toArray := p; unfold eqDD; exact ⟨SeqAt.EqAt.str_tuple a t1 p' hu, SeqAt.RcAt.str_tuple a t1 p' hu⟩
      | lst => obtain ⟨l, vs, rfl, sq, _⟩ := den_lst.mp h2; obtain rfl : u2 = Value.ref l := r2; obtain ⟨its, _, p, _⟩ := I.list (g.seq sq); have p' : s.heap.IsList l its.toArray := p.isList; unfold eqDD; exact ⟨SeqAt.EqAt.str_list a t1 p' hu, SeqAt.RcAt.str_list a t1 p' hu⟩
    | tup xs =>
      obtain ⟨l, vs, rfl, sq, l1⟩ := den_tup.mp h1
      obtain rfl : u1 = Value.ref l := r1
      obtain ⟨its, rv, p, _⟩ := I.tuple (Same.seqT g sq)
      have p' : s.heap.IsTuple l its.toArray := p
      cases d2 with
      | non => cases den_nonE h2; obtain rfl : u2 = Value.none := r2; unfold eqDD; exact ⟨SeqAt.EqAt.tuple_none  p' hu, SeqAt.RcAt.tuple_none  p' hu⟩
      | bl => rename_i b; cases den_blE h2; obtain rfl : u2 = Value.bool b := r2; unfold eqDD; exact ⟨SeqAt.EqAt.tuple_bool b p' hu, SeqAt.RcAt.tuple_bool b p' hu⟩
      | int => rename_i b; cases den_intE h2; obtain ⟨t2, rfl⟩ := r2; unfold eqDD; exact ⟨SeqAt.EqAt.tuple_int b t2 p' hu, SeqAt.RcAt.tuple_int b t2 p' hu⟩
      | str => rename_i b; cases den_strE h2; obtain ⟨t2, rfl⟩ := r2; unfold eqDD; exact ⟨SeqAt.EqAt.tuple_str b t2 p' hu, SeqAt.RcAt.tuple_str b t2 p' hu⟩
      | tup ys =>
        obtain ⟨m, ws, rfl, sq2, l2⟩ := den_tup.mp h2
        obtain rfl : u2 = Value.ref m := r2
        obtain ⟨jts, rv2, p2, _⟩ := I.tuple (Same.seqT g sq2)
        have p2' : s.heap.IsTuple m jts.toArray := p2
        have hd : depDL xs + 1 ≤ n := by unfold depD at hn; exact hn
        obtain ⟨m', rfl⟩ : ∃ m', n = m' + 1 := ⟨n - 1, by omega⟩
        have he := seqs m' (fun d1 d2 v1 v2 u1 u2 A a b c d e f => ih m' (Nat.lt_succ_self _) d1 d2 v1 v2 u1 u2 A a b c d e f) xs ys vs ws its jts A (by omega) hA l1 l2 rv rv2
        have z1 : its.toArray.size = xs.length := by rw [List.size_toArray, ← rv.length, l1.length]
        have z2 : jts.toArray.size = ys.length := by rw [List.size_toArray, ← rv2.length, l2.length]
        have rc := SeqAt.RcAt.tuples p' p2' hu he
        rw [z1, z2, ← eqDL_at] at rc
        have hh : eqDD (.tup xs) (.tup ys) = eqDL xs ys := by
          conv => lhs; unfold eqDD
        refine ⟨?_, by rw [hh]; exact rc⟩
        by_cases q : l = m
        · subst q
          rw [den_same I g _ _ _ h1 h2]
          exact SeqAt.EqAt.same _
        · rw [hh]
          exact SeqAt.EqAt.of_refs q rc
      | lst ys =>
        obtain ⟨m, ws, rfl, sq2, l2⟩ := den_lst.mp h2
        obtain rfl : u2 = Value.ref m := r2
        obtain ⟨jts, rv2, p2, _⟩ := I.list (g.seq sq2)
        have p2' : s.heap.IsList m jts.toArray := p2.isList
        unfold eqDD
        exact ⟨SeqAt.EqAt.tuple_list p' p2' hu, SeqAt.RcAt.tuple_list p' p2' hu⟩
    | lst xs =>
      obtain ⟨l, vs, rfl, sq, l1⟩ := den_lst.mp h1
      obtain rfl : u1 = Value.ref l := r1
      obtain ⟨its, rv, p, _⟩ := I.list (g.seq sq)
      have p' : s.heap.IsList l its.toArray := p.isList
      cases d2 with
      | non => cases den_nonE h2; obtain rfl : u2 = Value.none := r2; unfold eqDD; exact ⟨SeqAt.EqAt.list_none  p' hu, SeqAt.RcAt.list_none  p' hu⟩
      | bl => rename_i b; cases den_blE h2; obtain rfl : u2 = Value.bool b := r2; unfold eqDD; exact ⟨SeqAt.EqAt.list_bool b p' hu, SeqAt.RcAt.list_bool b p' hu⟩
      | int => rename_i b; cases den_intE h2; obtain ⟨t2, rfl⟩ := r2; unfold eqDD; exact ⟨SeqAt.EqAt.list_int b t2 p' hu, SeqAt.RcAt.list_int b t2 p' hu⟩
      | str => rename_i b; cases den_strE h2; obtain ⟨t2, rfl⟩ := r2; unfold eqDD; exact ⟨SeqAt.EqAt.list_str b t2 p' hu, SeqAt.RcAt.list_str b t2 p' hu⟩
      | tup ys =>
        obtain ⟨m, ws, rfl, sq2, l2⟩ := den_tup.mp h2
        obtain rfl : u2 = Value.ref m := r2
        obtain ⟨jts, rv2, p2, _⟩ := I.tuple (Same.seqT g sq2)
        have p2' : s.heap.IsTuple m jts.toArray := p2
        unfold eqDD
        exact ⟨SeqAt.EqAt.list_tuple p' p2' hu, SeqAt.RcAt.list_tuple p' p2' hu⟩
      | lst ys =>
        obtain ⟨m, ws, rfl, sq2, l2⟩ := den_lst.mp h2
        obtain rfl : u2 = Value.ref m := r2
        obtain ⟨jts, rv2, p2, _⟩ := I.list (g.seq sq2)
        have p2' : s.heap.IsList m jts.toArray := p2.isList
        have hd : depDL xs + 1 ≤ n := by unfold depD at hn; exact hn
        obtain ⟨m', rfl⟩ : ∃ m', n = m' + 1 := ⟨n - 1, by omega⟩
        have he := seqs m' (fun d1 d2 v1 v2 u1 u2 A a b c d e f => ih m' (Nat.lt_succ_self _) d1 d2 v1 v2 u1 u2 A a b c d e f) xs ys vs ws its jts A (by omega) hA l1 l2 rv rv2
        have z1 : its.toArray.size = xs.length := by rw [List.size_toArray, ← rv.length, l1.length]
        have z2 : jts.toArray.size = ys.length := by rw [List.size_toArray, ← rv2.length, l2.length]
        have rc : SeqAt.RcAt A s (.ref l) (.ref m) (eqDL xs ys) := by
          by_cases hz : xs.length = ys.length
          · have rc := SeqAt.RcAt.lists p' p2' (by rw [z1, z2]; exact hz) hu he
            rw [eqDL_at, ← hz, Nat.min_self, beq_self_eq_true, Bool.and_true, ← z1]
            exact rc
          · have rc := SeqAt.RcAt.lists_lengths p' p2' (by rw [z1, z2]; simpa using hz) hu
            rw [eqDL_at, beq_eq_false_iff_ne.mpr hz, Bool.and_false]
            exact rc
        have hh : eqDD (.lst xs) (.lst ys) = eqDL xs ys := by
          conv => lhs; unfold eqDD
        refine ⟨?_, by rw [hh]; exact rc⟩
        by_cases q : l = m
        · subst q
          rw [den_same I g _ _ _ h1 h2]
          exact SeqAt.EqAt.same _
        · rw [hh]
          exact SeqAt.EqAt.of_refs q rc
  refine main n ?_
  intro m
  induction m using Nat.strongRecOn with
  | _ m ihm => exact fun _ d1 d2 v1 v2 u1 u2 A a b c d e f => (main m (fun k hk d1 d2 v1 v2 u1 u2 A a b c d e f => ihm k hk (by omega) d1 d2 v1 v2 u1 u2 A a b c d e f) d1 d2 v1 v2 u1 u2 A a b c d e f).1
end
section
variable {X : Cx}
def isS : D → Bool
  | .str _ => true
  | _ => false
def eqD (x y : D) : Option D := if depD x ≤ 100 ∨ isS y = true then some (.bl (eqDD x y)) else none
def neD (x y : D) : Option D := if depD x ≤ 100 then some (.bl (!eqDD x y)) else none
theorem opd_eqD (hu : X.A.units + 150 < cLine) : OpD X (compareOp .Eq) eqD := by
  refine ⟨fun x y H Q => ∃ G d1 d2, Same G H ∧ Den X.K G d1 x ∧ Den X.K G d2 y ∧ (depD d1 ≤ 100 ∨ isS d2 = true) ∧ Q (.bl (eqDD d1 d2)) H, ?_, ?_⟩
  · rintro pins s σ H x y v u Q I rx ry ⟨G, d1, d2, g, h1, h2, hd, q⟩
    have main : depD d1 ≤ 100 → wpAny (model X.prog X.w) X.A (compareOp .Eq v u) (EP X pins σ Q) X.xe s := fun hd => (eqAt_D I g 100 d1 d2 x y v u X.A hd (by omega) h1 h2 rx ry).2 X.prog X.w X.xe _ ⟨.bl _, H, I, rfl, q⟩
    rcases hd with hd | hd
    · exact main hd
    · cases d2 with
      | str b =>
        cases den_strE h2
        obtain ⟨t2, rfl⟩ := ry
        cases d1 with
        | tup xs =>
          obtain ⟨l, vs, rfl, sq, l1⟩ := den_tup.mp h1
          obtain rfl : v = Value.ref l := rx
          obtain ⟨its, rv, p, _⟩ := I.tuple (Same.seqT g sq)
          have p' : s.heap.IsTuple l its.toArray := p
          have e : eqDD (.tup xs) (.str b) = false := by unfold eqDD; rfl
          rw [e] at q
          exact (SeqAt.RcAt.tuple_str b t2 p' (show X.A.units < cLine by omega)) X.prog X.w X.xe _ ⟨.bl _, H, I, rfl, q⟩
        | lst xs =>
          obtain ⟨l, vs, rfl, sq, l1⟩ := den_lst.mp h1
          obtain rfl : v = Value.ref l := rx
          obtain ⟨its, rv, p, _⟩ := I.list (g.seq sq)
          have p' : s.heap.IsList l its.toArray := p.isList
          have e : eqDD (.lst xs) (.str b) = false := by unfold eqDD; rfl
          rw [e] at q
          exact (SeqAt.RcAt.list_str b t2 p' (show X.A.units < cLine by omega)) X.prog X.w X.xe _ ⟨.bl _, H, I, rfl, q⟩
        | non => exact main (by unfold depD; exact Nat.zero_le _)
        | bl _ => exact main (by unfold depD; exact Nat.zero_le _)
        | int _ => exact main (by unfold depD; exact Nat.zero_le _)
        | str _ => exact main (by unfold depD; exact Nat.zero_le _)
      | non => cases hd
      | bl _ => cases hd
      | int _ => cases hd
      | tup _ => cases hd
      | lst _ => cases hd
  · intro H G x y d1 d2 d g h1 h2 e Q q
    unfold eqD at e
    split at e
    · rename_i hd
      cases e
      exact ⟨G, d1, d2, g, h1, h2, hd, q _ H G (.refl g) den_bl⟩
    · cases e
end
section
variable {X : Cx} {pins : List (Addr × Obj)} {σ : L2.St} {H G : Hp} {s : Shared}
theorem neAt_D (I : Inv X pins σ H s) (g : Same G H) (d1 d2 : D) (v1 v2 : V) (u1 u2 : Value) (A : Around) (hn : depD d1 ≤ 100) (hA : A.units + 100 < cLine) (h1 : Den X.K G d1 v1) (h2 : Den X.K G d2 v2) (r1 : RelV v1 u1) (r2 : RelV v2 u2) :
    SeqAt.RcNeAt A s u1 u2 (!eqDD d1 d2) := by
  have hu : A.units < cLine := by omega
  have seqs : ∀ (xs ys : List D) (vs ws : List V) (us ts : List Value), depDL xs ≤ 99 → DenL X.K G xs vs → DenL X.K G ys ws → Vals vs us → Vals ws ts → ∀ j (h1 : j < us.toArray.size) (h2 : j < ts.toArray.size), SeqAt.EqAt A.in1 s us.toArray[j] ts.toArray[j] (eqDD (xs.getD j .non) (ys.getD j .non)) :=
    fun xs ys vs ws us ts hn l1 l2 r1 r2 j h1 h2 => by
      have h1' : j < us.length := by simpa using h1
      have h2' : j < ts.length := by simpa using h2
      obtain ⟨x, e1, q1⟩ := vals_get r1 h1'
      obtain ⟨y, e2, q2⟩ := vals_get r2 h2'
      obtain ⟨e3, q3⟩ := den_at l1 e1
      obtain ⟨e4, q4⟩ := den_at l2 e2
      have := (eqAt_D I g 99 _ _ _ _ _ _ A.in1 (Nat.le_trans (dep_get e3) hn) (by show A.units + 1 + 99 < cLine; omega) q3 q4 q1 q2).1
      simpa using this
  cases d1 with
  | non =>
    cases den_nonE h1; obtain rfl : u1 = Value.none := r1
    cases d2 with
    | non => cases den_nonE h2; obtain rfl : u2 = Value.none := r2; unfold eqDD; exact SeqAt.RcNeAt.none_none  
    | bl => rename_i b; cases den_blE h2; obtain rfl : u2 = Value.bool b := r2; unfold eqDD; exact SeqAt.RcNeAt.none_bool  b
    | int => rename_i b; cases den_intE h2; obtain ⟨t2, rfl⟩ := r2; unfold eqDD; exact SeqAt.RcNeAt.none_int  b t2
    | str => rename_i b; cases den_strE h2; obtain ⟨t2, rfl⟩ := r2; unfold eqDD; exact SeqAt.RcNeAt.none_str  b t2
    | tup => obtain ⟨l, vs, rfl, sq, _⟩ := den_tup.mp h2; obtain rfl : u2 = Value.ref l := r2; obtain ⟨its, _, p, _⟩ := I.tuple (Same.seqT g sq); have p' : s.heap.IsTuple l its.toArray := p; unfold eqDD; exact SeqAt.RcNeAt.none_tuple  p' hu
    | lst => obtain ⟨l, vs, rfl, sq, _⟩ := den_lst.mp h2; obtain rfl : u2 = Value.ref l := r2; obtain ⟨its, _, p, _⟩ := I.list (g.seq sq); have p' : s.heap.IsList l its.toArray := p.isList; unfold eqDD; exact SeqAt.RcNeAt.none_list  p' hu
  | bl =>
    rename_i a; cases den_blE h1; obtain rfl : u1 = Value.bool a := r1
    cases d2 with
    | non => cases den_nonE h2; obtain rfl : u2 = Value.none := r2; unfold eqDD; exact SeqAt.RcNeAt.bool_none a 
    | bl => rename_i b; cases den_blE h2; obtain rfl : u2 = Value.bool b := r2; unfold eqDD; exact SeqAt.RcNeAt.bool_bool a b
    | int => rename_i b; cases den_intE h2; obtain ⟨t2, rfl⟩ := r2; unfold eqDD; exact SeqAt.RcNeAt.bool_int a b t2
    | str => rename_i b; cases den_strE h2; obtain ⟨t2, rfl⟩ := r2; unfold eqDD; exact SeqAt.RcNeAt.bool_str a b t2
    | tup => obtain ⟨l, vs, rfl, sq, _⟩ := den_tup.mp h2; obtain rfl : u2 = Value.ref l := r2; obtain ⟨its, _, p, _⟩ := I.tuple (Same.seqT g sq); have p' : s.heap.IsTuple l its.toArray := p; unfold eqDD; exact SeqAt.RcNeAt.bool_tuple a p' hu
    | lst => obtain ⟨l, vs, rfl, sq, _⟩ := den_lst.mp h2; obtain rfl : u2 = Value.ref l := r2; obtain ⟨its, _, p, _⟩ := I.list (g.seq sq); have p' : s.heap.IsList l its.toArray := p.isList; unfold eqDD; exact SeqAt.RcNeAt.bool_list a p' hu
  | int =>
    rename_i a; cases den_intE h1; obtain ⟨t1, rfl⟩ := r1
    cases d2 with
    | non => cases den_nonE h2; obtain rfl : u2 = Value.none := r2; unfold eqDD; exact SeqAt.RcNeAt.int_none a t1 
    | bl => rename_i b; cases den_blE h2; obtain rfl : u2 = Value.bool b := r2; unfold eqDD; exact SeqAt.RcNeAt.int_bool a t1 b
    | int => rename_i b; cases den_intE h2; obtain ⟨t2, rfl⟩ := r2; unfold eqDD; exact SeqAt.RcNeAt.int_int a t1 b t2
    | str => rename_i b; cases den_strE h2; obtain ⟨t2, rfl⟩ := r2; unfold eqDD; exact SeqAt.RcNeAt.int_str a t1 b t2
    | tup => obtain ⟨l, vs, rfl, sq, _⟩ := den_tup.mp h2; obtain rfl : u2 = Value.ref l := r2; obtain ⟨its, _, p, _⟩ := I.tuple (Same.seqT g sq); have p' : s.heap.IsTuple l its.toArray := p; unfold eqDD; exact SeqAt.RcNeAt.int_tuple a t1 p' hu
    | lst => obtain ⟨l, vs, rfl, sq, _⟩ := den_lst.mp h2; obtain rfl : u2 = Value.ref l := r2; obtain ⟨its, _, p, _⟩ := I.list (g.seq sq); have p' : s.heap.IsList l its.toArray := p.isList; unfold eqDD; exact SeqAt.RcNeAt.int_list a t1 p' hu
  | str =>
    rename_i a; cases den_strE h1; obtain ⟨t1, rfl⟩ := r1
    cases d2 with
    | non => cases den_nonE h2; obtain rfl : u2 = Value.none := r2; unfold eqDD; exact SeqAt.RcNeAt.str_none a t1 
    | bl => rename_i b; cases den_blE h2; obtain rfl : u2 = Value.bool b := r2; unfold eqDD; exact SeqAt.RcNeAt.str_bool a t1 b
    | int => rename_i b; cases den_intE h2; obtain ⟨t2, rfl⟩ := r2; unfold eqDD; exact SeqAt.RcNeAt.str_int a t1 b t2
    | str => rename_i b; cases den_strE h2; obtain ⟨t2, rfl⟩ := r2; unfold eqDD; exact SeqAt.RcNeAt.str_str a t1 b t2
    | tup => obtain ⟨l, vs, rfl, sq, _⟩ := den_tup.mp h2; obtain rfl : u2 = Value.ref l := r2; obtain ⟨its, _, p, _⟩ := I.tuple (Same.seqT g sq); have p' : s.heap.IsTuple l its.toArray := p; unfold eqDD; exact SeqAt.RcNeAt.str_tuple a t1 p' hu
    | lst => obtain ⟨l, vs, rfl, sq, _⟩ := den_lst.mp h2; obtain rfl : u2 = Value.ref l := r2; obtain ⟨its, _, p, _⟩ := I.list (g.seq sq); have p' : s.heap.IsList l its.toArray := p.isList; unfold eqDD; exact SeqAt.RcNeAt.str_list a t1 p' hu
  | tup xs =>
    obtain ⟨l, vs, rfl, sq, l1⟩ := den_tup.mp h1
    obtain rfl : u1 = Value.ref l := r1
    obtain ⟨its, rv, p, _⟩ := I.tuple (Same.seqT g sq)
    have p' : s.heap.IsTuple l its.toArray := p
    cases d2 with
    | non => cases den_nonE h2; obtain rfl : u2 = Value.none := r2; unfold eqDD; exact SeqAt.RcNeAt.tuple_none  p' hu
    | bl => rename_i b; cases den_blE h2; obtain rfl : u2 = Value.bool b := r2; unfold eqDD; exact SeqAt.RcNeAt.tuple_bool b p' hu
    | int => rename_i b; cases den_intE h2; obtain ⟨t2, rfl⟩ := r2; unfold eqDD; exact SeqAt.RcNeAt.tuple_int b t2 p' hu
    | str => rename_i b; cases den_strE h2; obtain ⟨t2, rfl⟩ := r2; unfold eqDD; exact SeqAt.RcNeAt.tuple_str b t2 p' hu
    | tup ys =>
      obtain ⟨m, ws, rfl, sq2, l2⟩ := den_tup.mp h2
      obtain rfl : u2 = Value.ref m := r2
      obtain ⟨jts, rv2, p2, _⟩ := I.tuple (Same.seqT g sq2)
      have p2' : s.heap.IsTuple m jts.toArray := p2
      have hd : depDL xs + 1 ≤ 100 := by unfold depD at hn; exact hn
      have he := seqs xs ys vs ws its jts (by omega) l1 l2 rv rv2
      have z1 : its.toArray.size = xs.length := by rw [List.size_toArray, ← rv.length, l1.length]
      have z2 : jts.toArray.size = ys.length := by rw [List.size_toArray, ← rv2.length, l2.length]
      have hh : eqDD (.tup xs) (.tup ys) = eqDL xs ys := by
        conv => lhs; unfold eqDD
      rw [hh]
      have rc := SeqAt.RcNeAt.tuples p' p2' hu he
      rw [z1, z2, ← eqDL_at] at rc
      exact rc
    | lst ys =>
      obtain ⟨m, ws, rfl, sq2, l2⟩ := den_lst.mp h2
      obtain rfl : u2 = Value.ref m := r2
      obtain ⟨jts, rv2, p2, _⟩ := I.list (g.seq sq2)
      have p2' : s.heap.IsList m jts.toArray := p2.isList
      unfold eqDD
      exact SeqAt.RcNeAt.tuple_list p' p2' hu
  | lst xs =>
    obtain ⟨l, vs, rfl, sq, l1⟩ := den_lst.mp h1
    obtain rfl : u1 = Value.ref l := r1
    obtain ⟨its, rv, p, _⟩ := I.list (g.seq sq)
    have p' : s.heap.IsList l its.toArray := p.isList
    cases d2 with
    | non => cases den_nonE h2; obtain rfl : u2 = Value.none := r2; unfold eqDD; exact SeqAt.RcNeAt.list_none  p' hu
    | bl => rename_i b; cases den_blE h2; obtain rfl : u2 = Value.bool b := r2; unfold eqDD; exact SeqAt.RcNeAt.list_bool b p' hu
    | int => rename_i b; cases den_intE h2; obtain ⟨t2, rfl⟩ := r2; unfold eqDD; exact SeqAt.RcNeAt.list_int b t2 p' hu
    | str => rename_i b; cases den_strE h2; obtain ⟨t2, rfl⟩ := r2; unfold eqDD; exact SeqAt.RcNeAt.list_str b t2 p' hu
    | tup ys =>
      obtain ⟨m, ws, rfl, sq2, l2⟩ := den_tup.mp h2
      obtain rfl : u2 = Value.ref m := r2
      obtain ⟨jts, rv2, p2, _⟩ := I.tuple (Same.seqT g sq2)
      have p2' : s.heap.IsTuple m jts.toArray := p2
      unfold eqDD
      exact SeqAt.RcNeAt.list_tuple p' p2' hu
    | lst ys =>
      obtain ⟨m, ws, rfl, sq2, l2⟩ := den_lst.mp h2
      obtain rfl : u2 = Value.ref m := r2
      obtain ⟨jts, rv2, p2, _⟩ := I.list (g.seq sq2)
      have p2' : s.heap.IsList m jts.toArray := p2.isList
      have hd : depDL xs + 1 ≤ 100 := by unfold depD at hn; exact hn
      have he := seqs xs ys vs ws its jts (by omega) l1 l2 rv rv2
      have z1 : its.toArray.size = xs.length := by rw [List.size_toArray, ← rv.length, l1.length]
      have z2 : jts.toArray.size = ys.length := by rw [List.size_toArray, ← rv2.length, l2.length]
      have hh : eqDD (.lst xs) (.lst ys) = eqDL xs ys := by
        conv => lhs; unfold eqDD
      rw [hh]
      by_cases hz : xs.length = ys.length
      · have rc := SeqAt.RcNeAt.lists p' p2' (by rw [z1, z2]; exact hz) hu he
        rw [eqDL_at, ← hz, Nat.min_self, beq_self_eq_true, Bool.and_true, ← z1]
        exact rc
      · have rc := SeqAt.RcNeAt.lists_lengths p' p2' (by rw [z1, z2]; simpa using hz) hu
        rw [eqDL_at, beq_eq_false_iff_ne.mpr hz, Bool.and_false]
        exact rc
end
section
variable {X : Cx}
theorem opd_neD (hu : X.A.units + 150 < cLine) : OpD X (compareOp .NotEq) neD := ⟨fun x y H Q => ∃ G d1 d2, Same G H ∧ Den X.K G d1 x ∧ Den X.K G d2 y ∧ depD d1 ≤ 100 ∧ Q (.bl (!eqDD d1 d2)) H, by
    rintro pins s σ H x y v u Q I rx ry ⟨G, d1, d2, g, h1, h2, hd, q⟩
    exact neAt_D I g d1 d2 x y v u X.A hd (by omega) h1 h2 rx ry X.prog X.w X.xe _ ⟨.bl _, H, I, rfl, q⟩, fun H G x y d1 d2 d g h1 h2 e Q q => by
    unfold neD at e
    split at e
    · rename_i hd
      cases e
      exact ⟨G, d1, d2, g, h1, h2, hd, q _ H G (.refl g) den_bl⟩
    · cases e⟩
def memD (x y : D) : Option D := match y with
  | .tup ys => if depDL ys ≤ 99 then some (.bl (ys.any fun z => eqDD z x)) else none
  | .lst ys => if depDL ys ≤ 99 then some (.bl (ys.any fun z => eqDD z x)) else none
  | _ => none
theorem rel_abs {v w : V} {u : Value} (a : RelV v u) (b : RelV w u) : v = w := a.inj b
theorem mem_at {pins : List (Addr × Obj)} {σ : L2.St} {H G : Hp} {s : Shared} (I : Inv X pins σ H s) (g : Same G H) {x : D} {v : V} {u : Value} (h1 : Den X.K G x v) (r1 : RelV v u) (hA : X.A.units + 150 < cLine)
    {ys : List D} {vs : List V} {its : List Value} (hd : depDL ys ≤ 99) (l : DenL X.K G ys vs) (r : Vals vs its) : ∃ e : Value → Bool, (∀ z, z ∈ its → SeqAt.EqAt X.A.in1 s z u (e z)) ∧ its.any e = ys.any fun z => eqDD z x := by
  classical
  refine ⟨fun z => decide (∃ d w, Den X.K G d w ∧ RelV w z ∧ eqDD d x = true), ?_, ?_⟩
  · intro z hz
    obtain ⟨j, hj, rfl⟩ := List.getElem_of_mem hz
    obtain ⟨y, e1, q1⟩ := vals_get r hj
    obtain ⟨e3, q3⟩ := den_at l e1
    have := (eqAt_D I g 99 _ x _ _ _ u X.A.in1 (Nat.le_trans (dep_get e3) hd) (by show X.A.units + 1 + 99 < cLine; omega) q3 h1 q1 r1).1
    have e : decide (∃ d w, Den X.K G d w ∧ RelV w its[j] ∧ eqDD d x = true) = eqDD (ys.getD j .non) x := by
      rw [Bool.eq_iff_iff, decide_eq_true_eq]
      constructor
      · rintro ⟨d, w, a, b, c⟩
        rw [rel_abs b q1] at a
        rw [← den_inj I g d _ _ a q3]
        exact c
      · exact fun h => ⟨_, _, q3, q1, h⟩
    show SeqAt.EqAt X.A.in1 s its[j] u (decide _)
    rw [e]
    exact this
  · rw [Bool.eq_iff_iff, List.any_eq_true, List.any_eq_true]
    constructor
    · rintro ⟨z, hz, hq⟩
      obtain ⟨d, w, a, b, c⟩ := of_decide_eq_true hq
      obtain ⟨j, hj, rfl⟩ := List.getElem_of_mem hz
      obtain ⟨y, e1, q1⟩ := vals_get r hj
      obtain ⟨e3, q3⟩ := den_at l e1
      rw [rel_abs b q1] at a
      rw [den_inj I g d _ _ a q3] at c
      exact ⟨_, List.mem_of_getElem? e3, c⟩
    · rintro ⟨d, hm, c⟩
      obtain ⟨j, hj, rfl⟩ := List.getElem_of_mem hm
      obtain ⟨w, e1, q1⟩ := l.get (List.getElem?_eq_getElem hj)
      obtain ⟨z, e2, q2⟩ := r.get e1
      exact ⟨z, List.mem_of_getElem? e2, decide_eq_true ⟨_, _, q1, q2, c⟩⟩
theorem opd_mem (hu : X.A.units + 150 < cLine) : OpD X (compareOp .In) memD := by
  refine ⟨fun x y H Q => ∃ G d1 d2 b, Same G H ∧ Den X.K G d1 x ∧ Den X.K G d2 y ∧ memD d1 d2 = some (.bl b) ∧ Q (.bl b) H, ?_, ?_⟩
  · rintro pins s σ H x y v u Q I rx ry ⟨G, d1, d2, b, g, h1, h2, hm, q⟩
    unfold memD at hm
    split at hm
    · split at hm
      · rename_i hd
        cases hm
        obtain ⟨a, vs, rfl, sq, l⟩ := den_tup.mp h2
        obtain rfl : u = Value.ref a := ry
        obtain ⟨its, rv, p, _⟩ := I.tuple (Same.seqT g sq)
        obtain ⟨e, he, ha⟩ := mem_at I g h1 rx hu hd l rv
        refine SeqAt.in_tupleAt e (show s.heap.IsTuple a its.toArray from p) (fun z hz => he z (by simpa using hz)) ⟨.bl _, H, I, rfl, ?_⟩
        rw [show its.toArray.any e = its.any e by simp, ha]
        exact q
      · cases hm
    · split at hm
      · rename_i hd
        cases hm
        obtain ⟨a, vs, rfl, sq, l⟩ := den_lst.mp h2
        obtain rfl : u = Value.ref a := ry
        obtain ⟨its, rv, p, _⟩ := I.list (g.seq sq)
        obtain ⟨e, he, ha⟩ := mem_at I g h1 rx hu hd l rv
        refine SeqAt.in_listAt e p.isList (fun z hz => he z (by simpa using hz)) ⟨.bl _, H, I, rfl, ?_⟩
        rw [show its.toArray.any e = its.any e by simp, ha]
        exact q
      · cases hm
    · cases hm
  · intro H G x y d1 d2 d g h1 h2 e Q q
    have hb : ∃ b, d = .bl b := by
      unfold memD at e
      split at e
      · split at e
        · cases e; exact ⟨_, rfl⟩
        · cases e
      · split at e
        · cases e; exact ⟨_, rfl⟩
        · cases e
      · cases e
    obtain ⟨b, rfl⟩ := hb
    exact ⟨G, d1, d2, b, g, h1, h2, e, q _ H G (.refl g) den_bl⟩
end
end Wy


namespace Wy
open PySem PySem.Spec PyProof.Rows L2
theorem room_u {k : Nat} {A : Around} (r : Room k A) : A.units + 150 < cLine := by have := r.un; omega
def orD (F F' : D → D → Option D) : D → D → Option D := fun x y => match F x y with
  | some d => some d
  | none => F' x y
section
variable {X : Cx}
theorem OpD.or {g : Value → Value → Sem Value} {F F' : D → D → Option D} (h : OpD X g F) (h' : OpD X g F') : OpD X g (orD F F') := by
  obtain ⟨r, p, q⟩ := h
  obtain ⟨r', p', q'⟩ := h'
  refine ⟨_, p.or p', fun H G x y d1 d2 d g h1 h2 e Q w => ?_⟩
  unfold orD at e
  split at e
  · rename_i d' e'
    cases e
    exact .inl (q H G x y d1 d2 _ g h1 h2 e' Q w)
  · exact .inr (q' H G x y d1 d2 d g h1 h2 e Q w)
def str2 (g : Str → Str → Option D) : D → D → Option D
  | .str x, .str y => g x y
  | _, _ => none
theorem str2_some {g : Str → Str → Option D} {d1 d2 d : D} (h : str2 g d1 d2 = some d) : ∃ i j, d1 = .str i ∧ d2 = .str j ∧ g i j = some d := by
  cases d1 <;> cases d2 <;> first | cases h | exact ⟨_, _, rfl, rfl, h⟩
def addS (x y : Str) : Option D := if x.length + y.length ≤ 1000000 then some (.str (x ++ y)) else none
theorem opd_addS : OpD X (binaryOp .Add) (str2 addS) := ⟨_, op_add_str, fun H G x y d1 d2 d g h1 h2 e Q q => by
  obtain ⟨i, j, rfl, rfl, e'⟩ := str2_some e
  clear e
  unfold addS at e'
  split at e'
  · rename_i hz
    cases e'
    exact ⟨i, j, den_strE h1, den_strE h2, Nat.le_trans hz (by decide), q _ H G (.refl g) den_str⟩
  · cases e'⟩
def addD : D → D → Option D := orD (int2 fun i j => some (.int (i + j))) (orD (str2 addS) catD)
theorem opd_addD : OpD X (binaryOp .Add) addD := opd_add.or (opd_addS.or opd_cat)
def isNonD (x : D) : Bool := match x with
  | .non => true
  | _ => false
theorem isNon_den {K : PySem.W.Frag} {G : Hp} {d : D} {v : V} (h : Den K G d v) : decide (v = .non) = isNonD d := by
  cases d with
  | non => rw [den_nonE h]; rfl
  | bl b => rw [den_blE h]; rfl
  | int i => rw [den_intE h]; rfl
  | str i => rw [den_strE h]; rfl
  | tup xs => obtain ⟨a, vs, rfl, _⟩ := den_tup.mp h; rfl
  | lst xs => obtain ⟨a, vs, rfl, _⟩ := den_lst.mp h; rfl
def isnotN (x y : D) : Option D := match y with
  | .non => some (.bl (!isNonD x))
  | _ => none
theorem opd_notN : OpD X (compareOp .IsNot) isnotN := ⟨_, op_notN, fun H G x y d1 d2 d g h1 h2 e Q q => by
  cases d2 <;> first | (cases e; done) | skip
  cases e
  exact ⟨den_nonE h2, by rw [isNon_den h1]; exact q _ H G (.refl g) den_bl⟩⟩
def isnotA : D → D → Option D := orD isnotD isnotN
theorem opd_isnotA : OpD X (compareOp .IsNot) isnotA := opd_isnot.or opd_notN
def memA : D → D → Option D := orD memD (str2 fun x y => some (.bl (inStr x y)))
theorem opd_inT : OpD X (compareOp .In) (str2 fun x y => some (.bl (inStr x y))) := ⟨_, op_in_str, fun H G x y d1 d2 d g h1 h2 e Q q => by
  obtain ⟨i, j, rfl, rfl, e⟩ := str2_some e
  cases e
  exact ⟨i, j, den_strE h1, den_strE h2, q _ H G (.refl g) den_bl⟩⟩
theorem opd_memA (hu : X.A.units + 150 < cLine) : OpD X (compareOp .In) memA := (opd_mem hu).or opd_inT
end
end Wy


namespace Wy
open PySem PySem.Spec PyProof.Rows L2
section
variable {X : Cx}
end
section
open PySem.SeqAt
open PySem.AutoSeq1 (wpAny_loadPart')
open PySem.MeetsSeq PySem.MeetsSeq2 PySem.MeetsSeq3 PySem.AutoSeq1
theorem list_extend_lst (l : Addr) (items : Array Value) (n : Nat) (b : Addr) (items2 : Array Value) (n2 : Nat) (dd : Option Addr) (sl : Array (Option Value)) (hs0 : ¬(!items.isEmpty && Builtin.List.listTooLong (items.size + items2.size)) = true) (hs1 : items.size ≤ sizeLine) (hs2 : items.size + items2.size ≤ sizeLine + 1) :
    Meets (Builtin.«list.extend» ⟨[.ref l, .ref b], []⟩) (fun _ R s => s.heap.get? l = some { cls := .type "list", dict := none, data := .seq items n, slots := #[] } ∧ s.heap.get? b = some { cls := .type "list", dict := dd, data := .seq items2 n2, slots := sl } ∧ R (.ok (.ret Value.none)) { s with heap := s.heap.update l (Obj.mapSeq fun x => x ++ items2), toks := s.toks }) :=
  .of_wp fun prog w A R s h => by
    obtain ⟨hp, g, d, tk, os⟩ := s; obtain ⟨hl, hb, h⟩ := h; have f1 := idx_int; have f2 := AutoSeq1.sub_tuple_tuple; have f3 := AutoSeq1.sub_list_list; have f4 := AutoSeq1.sub_tuple_list; have f5 := AutoSeq1.sub_list_tuple;
    have hz' : (items ++ items2).size ≤ sizeLine + 1 := by rw [Array.size_append]; exact hs2
    wp_walk using (wpAny_updateSeq hl rfl (hz := hs1) (_hz' := hz')), wpAny_loadPart' hl, wpAny_loadPart' hb; exact ⟨_, rfl, h⟩
end
section
variable {X : Cx}
def rExtL (K : PySem.W.Frag) : V → List V → Hp → VK → Prop := fun x vs H Q => ∃ l b xs zs, x = .ref l ∧ vs = [.ref b] ∧ H l = some (.lst xs) ∧ SqL K H b zs ∧ xs.length + zs.length ≤ sizeLine ∧ Q .non (upd H l (.lst (xs ++ zs)))
theorem mt_extL : MtR X "list.extend" (rExtL X.K) := by
  intro pins s σ H x vs v us Q I rx rv h
  obtain ⟨l, b, xs, zs, rfl, rfl, hH, hB, hz, q⟩ := h
  cases rx
  obtain ⟨u, rfl, ru⟩ := rv.one
  cases ru
  obtain ⟨z, its, n, r, hl, e⟩ := I.lstM hH
  obtain ⟨its2, r2, ⟨⟨c2, d2, dt2, s2⟩, n2, e2, hc2, hdn, hd2⟩, z2⟩ := I.list hB
  have hl2 := r2.length
  cases hc2
  cases hdn
  cases hd2
  have hsz : its.toArray.size + its2.toArray.size ≤ sizeLine := by rw [List.size_toArray, List.size_toArray]; omega
  have hlong : ¬ (!its.toArray.isEmpty && Builtin.List.listTooLong (its.toArray.size + its2.toArray.size)) = true := by
    rw [notLongL hsz, Bool.and_false]
    exact Bool.false_ne_true
  refine call_meets F.slot_list_extend ⟨_, e, rfl⟩ F.entry_list_extend (F.args_list_extend_2 _ _)
    (list_extend_lst l its.toArray n b its2.toArray n2 none s2 hlong (by rw [List.size_toArray]; omega) (by omega)) ⟨e, e2, ?_⟩
  refine ⟨.non, _, I.lset (its' := its ++ its2) hH e (by simp) (r.append r2) ?_, rfl, q⟩
  rw [List.length_append]
  omega
variable {W : XP} {e : Expr} {fs : Ga → R (Bool × List D)} {pos pos' apos cpos : Pos} {x : Str}
def sExt (i : Nat) (fs : Ga → R (Bool × List D)) : Ga → RS := fun Γ => match Γ[i]? with
  | some (.own xs) => .of (fs Γ) Γ fun p => if xs.length + p.2.length < 16000000 then .nx (Γ.set i (.own (xs ++ p.2))) else .no
  | _ => .no
theorem x_ext (i : Nat) (he : SqD X W e fs) (hN : X.N[i]? = some x := by rfl) (hv : Vis X.env.scope x := by first | exact Or.inl rfl | exact Or.inr (Or.inl rfl) | exact Or.inr (Or.inr rfl)) (hd : (x == ("__debug__" : Str)) = false := by decide)
    (hcd : (x == ("__classdict__" : Str)) = false := by decide) (hs : starEach [e] X.env = [(false, eval e X.env)] := by rfl) (hline : (apos.endLine == cpos.line) = true := by rfl)
    (hsw : swapsWith (.Call (.Attribute (.Name x pos') "extend" apos) [e] [] cpos) none pos.line X.env = pure false := by rfl)
    (hbase : attributeBase (.Name x pos') "extend" X.env (eval (.Name x pos') X.env) = eval (.Name x pos') X.env := by rfl)
    (hfew : ((backTo cpos (starEach [e] X.env)).all (fun x => !x.1) && (backToKw cpos (keywordEach [] X.env)).all (fun x => x.1.isSome)
      && decide ([e].length + ([] : List Keyword).length + (if ([] : List Keyword).isEmpty then 0 else 1) < 30)) = true := by rfl) :
    ExD X W (.Expr (.Call (.Attribute (.Name x pos') "extend" apos) [e] [] cpos) pos) (sExt i fs) := by
  obtain ⟨t, p, q⟩ := he
  refine ⟨_, ps_expr (pe_bm PySem.F.plainAttrs_list PySem.F.slot_list_extend PySem.F.type_list_extend (mt_extL.or mt_extT) (pe_var hN hv hd hcd) (pa_cons p pa_nil hs) hbase hfew hline hs rfl) hsw, fun H₀ G₀ Γ σ H G R D w => ?_⟩
  unfold sExt at w
  split at w
  · rename_i xs e1
    obtain ⟨a, vs, s1, s2, s3, s4, s5⟩ := R.ow i xs e1
    refine ⟨_, s1, .inl ⟨rfl, vs, SqL.of s2⟩, ?_⟩
    refine q _ _ _ _ _ _ R _ (wS R w fun d w b us H' G' E1 sq l2 => ?_)
    split at w
    · rename_i hz
      have l1 := s5.up E1.gg
      have hz' : vs.length + us.length ≤ sizeLine := by rw [← l1.length, ← l2.length]; exact Nat.le_of_lt (lt24 hz)
      have fin := w _ _ G' ((R.after E1).mut e1 s1 (l1.append l2))
      rcases sq.or E1.gh with sq | sq
      · exact .inl ⟨a, b, vs, us, rfl, rfl, E1.hh _ _ s2, sq, hz', fin⟩
      · exact .inr ⟨a, b, vs, us, rfl, rfl, E1.hh _ _ s2, sq, hz', fin⟩
    · exact w.elim
  · exact w.elim
end
end Wy

namespace Wy
open PySem PySem.Spec PyProof.Rows L2 HT
theorem adjust_rev (n : Nat) : Builtin.Slice.sliceAdjust none none (-1) (n : Int) = ((n : Int) - 1, -1) := by
  unfold Builtin.Slice.sliceAdjust
  simp
theorem places_rev (n : Nat) : Builtin.Slice.slicePlaces ((n : Int) - 1) (-1) (-1) = n := by
  unfold Builtin.Slice.slicePlaces
  simp
  split <;> omega
theorem pick_rev (xs : Array Value) : ((List.range xs.size).filterMap fun (m : Nat) => xs[(((xs.size : Int) - 1) + (m : Int) * (-1)).toNat]?).toArray = xs.toList.reverse.toArray := by
  congr 1
  have key : ∀ (k : Nat) (hk : k ≤ xs.size), ((List.range k).filterMap fun (m : Nat) => xs[(((xs.size : Int) - 1) + (m : Int) * (-1)).toNat]?) = xs.toList.reverse.take k := by
    intro k
    induction k with
    | zero => intro _; simp
    | succ k ih =>
      intro hk
      rw [List.range_succ, List.filterMap_append, ih (by omega)]
      have e : (((xs.size : Int) - 1) + (k : Int) * (-1)).toNat = xs.size - 1 - k := by omega
      have h1 : xs.toList.reverse[k]? = xs[xs.size - 1 - k]? := by
        rw [List.getElem?_reverse (by simp; omega)]
        simp
      have h2 : xs[xs.size - 1 - k]? = some xs[xs.size - 1 - k] := Array.getElem?_eq_getElem (by omega)
      rw [List.take_add_one, h1, h2]
      congr 1
      rw [List.filterMap_cons_some (b := xs[xs.size - 1 - k]) (by rw [e]; exact h2)]
      rfl
  rw [key xs.size (Nat.le_refl _), List.take_of_length_le (by simp)]
section
variable {prog : Program} {w : World} {A : Around} {E : Value → Shared → Prop} {s : Shared}
theorem sliceApplied_rev {sl : Addr} {t : Tok} {n : Nat} {Q : Int × Int × Nat → Shared → Prop} (hs : s.heap.IsSliceOf sl .none .none (.int (-1) t))
    (h : Q ((n : Int) - 1, -1, n) s) : wpAny (model prog w) A (Builtin.Slice.sliceApplied (.ref sl) (pure (n : Int))) Q E s := by
  obtain ⟨os, hos, hcs, hds⟩ := id hs
  unfold Builtin.Slice.sliceApplied Builtin.Slice.sliceFields
  refine wpAny_bind (wpAny_bind (wpAny_field hos hds (x := .none) rfl (wpAny_bind (wpAny_field hos hds (x := .none) rfl (wpAny_bind (wpAny_field hos hds (x := .int (-1) t) rfl (wpAny_pure ?_)))))))
  refine wpAny_bind (slicePart_int ?_)
  show wpAny _ _ (if ((-1 : Int) == 0) = true then _ else _) _ _ s
  rw [if_neg (by decide)]
  refine wpAny_bind (slicePart_none (wpAny_bind (slicePart_none (wpAny_bind (wpAny_pure ?_)))))
  show wpAny _ _ (match Builtin.Slice.sliceAdjust none none (-1) (n : Int) with | (lo, hi) => pure (lo, (-1 : Int), Builtin.Slice.slicePlaces lo hi (-1))) _ _ s
  rw [adjust_rev n]
  show wpAny _ _ (pure ((n : Int) - 1, (-1 : Int), Builtin.Slice.slicePlaces ((n : Int) - 1) (-1) (-1))) _ _ s
  rw [places_rev]
  exact wpAny_pure h
theorem getItem_tuple_rev {t sl : Addr} {tk : Tok} {items : Array Value} {Q : Value → Shared → Prop} (ht : IsTup s.heap t items) (hs : s.heap.IsSliceOf sl .none .none (.int (-1) tk))
    (h : Q (.ref s.heap.objs.size) { s with heap := s.heap.push { cls := .type "tuple", data := .seq items.toList.reverse.toArray } })
    (hsz : items.size ≤ sizeLine) : wpAny (model prog w) A (getItem (.ref t) (.ref sl)) Q E s := by
  have htake : sizeOk (.seq items.toList.reverse.toArray) := by
    show items.toList.reverse.toArray.size ≤ sizeLine
    rw [List.size_toArray, List.length_reverse, Array.length_toList]
    exact hsz
  obtain ⟨os, hos, hcs, hds⟩ := id hs
  have hTs : s.TypeIs (.ref sl) "slice" := ⟨os, hos, hcs⟩
  unfold getItem
  try with_reducible refine wpAny_holding ?_
  first | refine wpAny_bind (wpAny_pure ?_) | skip
  refine wpAny_bind (wpAny_sequenceKey ht.typeIs (by decide) ?_)
  refine wpAny_bind (wpAny_callSpecial?_slot (name := Str.ofString "__getitem__") ht.typeIs PyProof.Rows.slot_tuple_getitem
    (wpAny_call_entry PyProof.Rows.slot_tuple_getitem ht.typeIs entry_tuple_getitem ?_ (args_tuple_getitem _ _)))
  show wpAny _ _ (Builtin.Tuple.tupleItemsOf (.ref t) >>= _) _ _ s
  refine wpAny_bind (tupleItemsOf_ ht ?_)
  refine wpAny_bind (wpAny_typeOf hTs ?_)
  rw [if_pos (by decide)]
  refine wpAny_bind (sliceApplied_rev hs ?_)
  have hno : ¬ ((((items.size : Int) - 1) == 0 && (-1 : Int) == 1 && items.size == items.size) = true) := by simp
  show wpAny _ _ (if ((((items.size : Int) - 1) == 0 && (-1 : Int) == 1 && items.size == items.size) = true) then _ else _) _ _ s
  rw [if_neg hno, pick_rev]
  first
    | exact wpAny_bind (m := Builtin.Tuple.tupleExact _) (wpAny_newObj_type (wpAny_pure ⟨_, rfl, wpAny_pure h⟩) htake)
    | exact wpAny_bind (m := Builtin.Tuple.tupleExact _) (wpAny_newObj_type (wpAny_bind (wpAny_pure (wpAny_pure ⟨_, rfl, wpAny_pure h⟩))) htake)
    | exact wpAny_bind (wpAny_bind (m := Builtin.Tuple.tupleExact _) (wpAny_newObj_type (wpAny_pure (wpAny_pure ⟨_, rfl, wpAny_pure h⟩)) htake))
    | exact wpAny_bind (wpAny_bind (m := Builtin.Tuple.tupleExact _) (wpAny_newObj_type (wpAny_pure ⟨_, rfl, wpAny_pure h⟩) htake))
end
theorem sub_step {prog : Program} {w : World} {A : Around} {E : Value → Shared → Prop} {s : Shared} {env : Env} {v st : Expr} {lo hi : Option Expr} {p1 p2 : Pos} {T id : String} {Q : Value → Shared → Prop} (look : typeLookup (.type T) "__getitem__" = pure (some (.builtin id)))
    (h : wpAny (model prog w) A (eval v env) (fun o s1 => wpAny (model prog w) A (eval (.Slice lo hi (some st) p1) env) (fun i s2 => s2.TypeIs o T ∧ wpAny (model prog w) A (getItem o i) Q E s2) E s1) E s) :
    wpAny (model prog w) A (eval (.Subscript v (.Slice lo hi (some st) p1) p2) env) Q E s := by
  rw [eval_Subscript]
  refine wpAny_bind (thn h fun o s1 h1 => wpAny_bind (wpAny_holding (thn h1 fun i s2 ⟨ty, h2⟩ => wpAny_bind (wpAny_standAt ?_))))
  have fin : wpAny (model prog w) A (operate [o, i] (getItem o i)) (fun r s3 => wpAny (model prog w) A (letTemporaryGo v o r >>= fun _ => pure r) Q E s3) E s2 := wpAny_operating (thn h2 fun r s3 h3 => wpAny_bind (wpAny_letTemporaryGo (wpAny_pure h3)))
  first
    | (refine wpAny_bind ?_
       rw [getitemInPython_of_ne ty.not_modules]
       refine wpAny_bind (wpAny_specialOf ty look ?_)
       first | exact wpAny_pure (wpAny_bind fin) | exact wpAny_bind (wpAny_pure (wpAny_bind fin)) | exact wpAny_bind fin)
    | (refine wpAny_bind (wpAny_specialOf ty look ?_)
       first | exact wpAny_bind (wpAny_pure (wpAny_bind fin)) | exact wpAny_bind fin)
section
variable {X : Cx} {W : XP} {e : Expr} {f : Ga → R D} {pos p2 p3 p4 : Pos}
theorem denL_rev {K : PySem.W.Frag} {G : Hp} : ∀ {ds : List D} {vs : List V}, DenL K G ds vs → DenL K G ds.reverse vs.reverse
  | [], vs, h => by cases denL_nil.mp h; exact denL_nil.mpr rfl
  | d :: ds, vs, h => by
    obtain ⟨v, r, rfl, h1, h2⟩ := denL_cons.mp h
    rw [List.reverse_cons, List.reverse_cons]
    exact (denL_rev h2).append (.one h1)
def revT : D → Option D
  | .tup ds => some (.tup ds.reverse)
  | _ => none
def eRevT (f : Ga → R D) : Ga → R D := fun Γ => (f Γ).bind fun d => .ofO (revT d)
theorem ev_revT {j : Nat} (he : EvD X W e f) : EvD X W (.Subscript e (.Slice none none (some (.UnaryOp .USub (.Constant (.int 1) j p4) p3)) p2) pos) (eRevT f) := by
  obtain ⟨t, p, q⟩ := he
  refine ⟨fun σ H Q => t σ H fun x H1 => ∃ a vs, x = .ref a ∧ SqT X.K H1 a vs ∧ ∀ p, H1 p = none → Q (.ref p) (upd H1 p (.tup vs.reverse)), ?_, ?_⟩
  · intro pins s σ H Q I h
    refine sub_step slot_tuple_getitem.lookup (thn (p pins s σ H _ I h) fun v s1 ⟨x, H1, I1, r1, a, vs, hx, sq, w⟩ => ?_)
    subst hx
    cases r1
    refine wpAny_Slice ?_
    rw [evalPart_none]
    refine wpAny_pure (wpAny_pure ?_)
    rw [evalPart_some]
    refine thn (pe_un un_neg (pe_int (i := 1) (j := j) (pos := p4)) pins s1 σ H1 (fun z H2 => z = .int (-1) ∧ H2 = H1) I1 ⟨1, rfl, rfl, rfl⟩) fun v2 s2 ⟨x2, H2, I2, r2, hz, hH⟩ => ?_
    subst hz
    subst hH
    obtain ⟨tk, rfl⟩ := r2
    have I4 : Inv X pins σ H2 { s2 with heap := s2.heap.push { cls := .type "slice", data := .fields #[.none, .none, .int (-1) tk] } } := I2.kept (t' := s2.toks) fun b ob q => Heap.get?_push_of_some _ q
    obtain ⟨its, r, ht, hz⟩ := I4.tuple sq
    refine ⟨ht.typeIs, getItem_tuple_rev ht (Heap.IsSliceOf.new _ _ _ _) ?_ (by rw [List.size_toArray, ← r.length]; exact hz)⟩
    refine ⟨.ref _, _, I4.laid (t' := s2.toks) (o := .tup vs.reverse) (fun b ob q => Heap.get?_push_of_some _ q) (Nat.le_refl _) ?_, rfl, w _ (I4.hok.fresh (Nat.le_refl _))⟩
    refine ⟨by rw [List.length_reverse]; exact hz, its.reverse, r.reverse, ?_⟩
    have := IsTup.new (h := s2.heap.push { cls := .type "slice", data := .fields #[.none, .none, .int (-1) tk] }) its.reverse.toArray
    simpa using this
  · intro H₀ G₀ Γ σ H G R Q w
    refine q _ _ _ _ _ _ R _ (wStep w (fun _ h => h) fun d w v H' G' E1 d1 => ?_)
    obtain ⟨d', e2, w⟩ := wOfO w
    cases d with
    | tup ds =>
      cases e2
      obtain ⟨a, vs, rfl, sq, l⟩ := den_tup.mp d1
      refine ⟨a, vs, rfl, Same.seqT E1.gh sq, fun p hp => ?_⟩
      have A := Ext.alloc (o := .tup vs.reverse) E1.gh hp
      exact w _ _ _ (E1.trans A) (den_tup.mpr ⟨p, _, rfl, SqT.of upd_same, (denL_rev l).up A.gg⟩)
    | _ => cases e2
end
end Wy

namespace Wy
open PySem PySem.Spec PyProof.Rows L2 HT
section
variable {X : Cx}
end
section
variable {X : Cx} {W : XP} {o e : Expr} {fo fe : Ga → R D} {fs : Ga → R (Bool × List D)} {apos cpos : Pos}
end
end Wy

namespace Wy
open PySem PySem.Spec PyProof.Rows L2 HT
theorem part_of {v : Value} {o : Option Int} (h : IsPart v o) : ∃ l : Option (Int × Tok), v = partValue l ∧ l.map (·.1) = o := by
  cases h with
  | none => exact ⟨none, rfl, rfl⟩
  | int i t => exact ⟨some (i, t), rfl, rfl⟩
section
variable {X : Cx}
theorem sl_str : SlR X (fun x lo hi H Q => ∃ z, x = .str z ∧ z.length ≤ sizeLine ∧ Q (.str (Txt.slice z lo hi)) H) := by
  rintro pins s σ H x v vl vu lo hi sl Q I rx hs pl pu ⟨z, rfl, hz, q⟩
  obtain ⟨t, rfl⟩ := rx
  obtain ⟨l, rfl, rfl⟩ := part_of pl
  obtain ⟨u, rfl, rfl⟩ := part_of pu
  refine ⟨"str", _, PyProof.Rows.slot_str_getitem.lookup, typeIs_str _ _ _, wpAny_getItem_str_slice (l := l) (u := u) (st := none) hs rfl ?_⟩
  unfold sliceMade
  unfold Txt.slice at q
  by_cases h : ((1 : Int) == 1 && (Builtin.Str.strSliceIndices (l.map (·.1)) (u.map (·.1)) 1 z.length).length == z.length) = true
  · rw [if_pos h] at q
    rw [if_pos (show ((Option.map (fun x => x.fst) (none : Option (Int × Tok))).getD 1 == 1 && (slicePicked z l u none).length == z.length) = true from h)]
    exact ⟨.str z, H, I, ⟨_, rfl⟩, q⟩
  · rw [if_neg h] at q
    rw [if_neg (show ¬ ((Option.map (fun x => x.fst) (none : Option (Int × Tok))).getD 1 == 1 && (slicePicked z l u none).length == z.length) = true from h)]
    refine ⟨Nat.le_trans ?_ hz, .str _, H, I.tok _, ⟨_, rfl⟩, q⟩
    have hle := PyProof.Txt.length_slice_le z (l.map (·.1)) (u.map (·.1))
    unfold Txt.slice at hle
    rw [if_neg h] at hle
    exact hle
variable {W : XP} {e : Expr} {f : Ga → R D} {pos p2 : Pos} {lo hi : Option Expr} {gl gh : Ga → R (Option Int)}
def slA (d : D) (l h : Option Int) : Option D := match d with
  | .tup ds => some (.tup (cut ds l h))
  | .str z => if z.length ≤ 1000000 then some (.str (Txt.slice z l h)) else none
  | _ => none
def eSlA (f : Ga → R D) (gl gh : Ga → R (Option Int)) : Ga → R D := fun Γ => (f Γ).bind fun d => (gl Γ).bind fun l => (gh Γ).bind fun h => .ofO (slA d l h)
theorem ev_slA (he : EvD X W e f) (hl : OvD X W lo gl) (hh : OvD X W hi gh) : EvD X W (.Subscript e (.Slice lo hi none p2) pos) (eSlA f gl gh) := by
  obtain ⟨t, p, q⟩ := he
  obtain ⟨t1, p1, q1⟩ := hl
  obtain ⟨t2, p2, q2⟩ := hh
  refine ⟨_, pe_slice (sl_tupA.or sl_str) p p1 p2, fun H₀ G₀ Γ σ H G R Q w => ?_⟩
  refine q _ _ _ _ _ _ R _ (wStep w (fun _ h => h) fun x w v H1 G1 E1 d1 => ?_)
  refine q1 _ _ _ _ _ _ (R.after E1) _ (wStep w (fun _ h => h.up E1) fun l w H2 G2 E2 => ?_)
  refine q2 _ _ _ _ _ _ ((R.after E1).after E2) _ (wStep w (fun _ h => h.up (E1.trans E2)) fun h w H3 G3 E3 => ?_)
  obtain ⟨d, e', k⟩ := wOfO w
  have d3 := d1.up (E2.gg.trans E3.gg)
  cases x with
  | tup ds =>
    cases e'
    obtain ⟨a, vs, rfl, s, ls⟩ := den_tup.mp d3
    refine .inl ⟨a, vs, rfl, Same.seqT E3.gh s, fun hw => ?_, fun hw p hp => ?_⟩
    · rw [← ls.length] at hw
      exact k _ _ _ (E1.trans (E2.trans E3)) (by rw [cut_whole hw]; exact d3)
    · have A := Ext.alloc (o := .tup (cutV vs l h)) E3.gh hp
      exact k _ _ _ (E1.trans (E2.trans (E3.trans A))) (den_tup.mpr ⟨p, _, rfl, SqT.of upd_same, (cut_den ls l h).up A.gg⟩)
  | str z =>
    unfold slA at e'
    dsimp only at e'
    split at e'
    · rename_i hz
      cases e'
      exact .inr ⟨z, den_strE d3, Nat.le_trans hz (by decide), k _ _ _ (E1.trans (E2.trans E3)) den_str⟩
    · cases e'
  | _ => cases e'
end
end Wy

namespace Wy
open PySem PySem.Spec PyProof.Rows L2 HT
def asIs : List D → Option (List Int)
  | [] => some []
  | .int b :: ds => (asIs ds).bind fun r => some (b :: r)
  | _ => none
theorem asIs_den {K : PySem.W.Frag} {G : Hp} : ∀ {ds : List D} {vs : List V} {bs : List Int}, DenL K G ds vs → asIs ds = some bs → vs = bs.map V.int
  | [], vs, bs, h, e => by cases e; exact denL_nil.mp h
  | d :: ds, vs, bs, h, e => by
    obtain ⟨v, r, rfl, h1, h2⟩ := denL_cons.mp h
    cases d <;> first | cases e | skip
    obtain ⟨r', e1, e2⟩ := Option.bind_eq_some_iff.mp e
    cases e2
    rw [den_intE h1, asIs_den h2 e1]
    rfl
@[simp] theorem asIs_map (ns : List Int) : asIs (ns.map D.int) = some ns := by
  induction ns with
  | nil => rfl
  | cons n ns ih => rw [List.map_cons, asIs, ih]; rfl
theorem toks_of : ∀ {ns : List Int} {us : List Value}, Vals (ns.map V.int) us → ∃ xs : List (Int × Tok), us = xs.map (fun p => Value.int p.1 p.2) ∧ xs.map (·.1) = ns
  | [], us, h => by cases h; exact ⟨[], rfl, rfl⟩
  | n :: ns, us, h => by
    cases h with
    | cons r t =>
      obtain ⟨tk, rfl⟩ := r
      obtain ⟨l, rfl, rfl⟩ := toks_of t
      exact ⟨(n, tk) :: l, rfl, rfl⟩
def mostI : List Int → Option Int
  | [] => none
  | n :: r => some (r.foldl max n)
theorem foldl_max_le (r : List Int) : ∀ n : Int, n ≤ r.foldl max n ∧ (∀ a ∈ r, a ≤ r.foldl max n) ∧ (r.foldl max n = n ∨ r.foldl max n ∈ r) := by
  induction r with
  | nil => intro n; exact ⟨Int.le_refl _, ⟨fun a h => (List.not_mem_nil h).elim, .inl rfl⟩⟩
  | cons b r ih =>
    intro n
    obtain ⟨h1, h2, h3⟩ := ih (max n b)
    rw [List.foldl_cons]
    refine ⟨by omega, fun a ha => ?_, ?_⟩
    · rcases List.mem_cons.mp ha with rfl | ha
      · omega
      · exact h2 a ha
    · rcases h3 with h3 | h3
      · by_cases hb : n ≤ b
        · exact .inr (List.mem_cons.mpr (.inl (by omega)))
        · exact .inl (by omega)
      · exact .inr (List.mem_cons_of_mem _ h3)
theorem mostI_uniq {ns : List Int} {M : Int} (h1 : M ∈ ns) (h2 : ∀ a ∈ ns, a ≤ M) : mostI ns = some M := by
  cases ns with
  | nil => cases h1
  | cons n r =>
    obtain ⟨a, b, c⟩ := foldl_max_le r n
    have l1 : r.foldl max n ≤ M := by
      rcases c with c | c
      · rw [c]; exact h2 _ (List.mem_cons_self ..)
      · exact h2 _ (List.mem_cons_of_mem _ c)
    have l2 : M ≤ r.foldl max n := by
      rcases List.mem_cons.mp h1 with rfl | h
      · exact a
      · exact b _ h
    unfold mostI
    exact congrArg some (Int.le_antisymm l1 l2)
section
variable {X : Cx}
theorem call_max : CallR X (.builtin "max") (fun xs H Q => X.calm = true ∧ ∃ (p : Addr) (ns : List Int) (M : Int), xs = [.ref p] ∧ SqL X.K H p (ns.map V.int) ∧ mostI ns = some M ∧ Q (.int M) H) := by
  rintro pins s σ H xs us Q I rv ⟨hc, p, ns, M, rfl, hs, hM, q⟩
  obtain ⟨u, rfl, ru⟩ := rv.one
  obtain rfl : u = Value.ref p := ru
  obtain ⟨its, vv, pl, hl⟩ := I.list hs
  obtain ⟨ys, rfl, rfl⟩ := toks_of vv
  have hn : 0 < ys.length := by
    cases ys with
    | nil => cases hM
    | cons y ys => simp
  have hL : s.heap.IsList p (intItems ys.toArray) := by
    have := pl.isList
    unfold intItems
    simpa using this
  refine max_intList (I.ok.hd hc) hL (by simpa using hn) fun v h' tk hv kp => ?_
  obtain ⟨k1, k2⟩ := argBest_gt (fun i => numAt ys.toArray i) (ys.toArray.size - 1)
  generalize argBest (fun i j => decide (numAt ys.toArray i > numAt ys.toArray j)) (ys.toArray.size - 1) = b at hv k1 k2
  have hb : b < ys.length := by have : ys.toArray.size = ys.length := by simp
                                omega
  have num : ∀ j (h : j < ys.length), numAt ys.toArray j = ys[j].1 := fun j h => by unfold numAt; simp [h]
  have ev : v = .int ys[b].1 ys[b].2 := by
    unfold intItems at hv
    simp [hb] at hv
    exact hv.symm
  subst ev
  have eM : mostI (ys.map (·.1)) = some ys[b].1 := by
    refine mostI_uniq (List.mem_map.mpr ⟨_, List.getElem_mem hb, rfl⟩) fun a ha => ?_
    obtain ⟨y, hy, rfl⟩ := List.mem_map.mp ha
    obtain ⟨j, hj, rfl⟩ := List.getElem_of_mem hy
    have := k2 j (by have : ys.toArray.size = ys.length := by simp
                     omega)
    rw [num j hj, num b hb] at this
    exact this
  rw [eM] at hM
  cases hM
  exact ⟨.int _, H, I.kept (t' := tk) kp, ⟨_, rfl⟩, q⟩
def maxS : Bool × List D → Option D := fun p => match p with
  | (false, ds) => (asIs ds).bind fun ns => (mostI ns).bind fun m => some (.int m)
  | _ => none
theorem calls_max (hc : X.calm = true) : CallS X (.builtin "max") maxS := ⟨_, call_max, fun H G b ds d a vs g s l e Q q => by
  cases b with
  | true => cases e
  | false =>
    obtain ⟨ns, e1, e2⟩ := Option.bind_eq_some_iff.mp e
    obtain ⟨m, e3, e4⟩ := Option.bind_eq_some_iff.mp e2
    cases e4
    have := asIs_den l e1
    subst this
    exact ⟨hc, a, ns, m, rfl, s, e3, q _ H G (.refl g) den_int⟩⟩
end
end Wy

namespace Wy
open PySem PySem.Spec PyProof.Rows L2 HT
section
variable {K : PySem.W.Frag} {H₀ G₀ H G : Hp} {Γ : Ga} {σ : L2.St}
theorem Rep.freeze (R : Rep K H₀ G₀ Γ σ H G) {i : Nat} {ds : List D} (hi : Γ[i]? = some (.own ds)) : ∃ G', Rep K H₀ G₀ (Γ.set i (.val (.lst ds))) σ H G' := by
  obtain ⟨a, vs, s1, s2, s3, s4, s5⟩ := R.ow i ds hi
  have hl : i < Γ.length := (List.getElem?_eq_some_iff.mp hi).1
  have gg : Same G (upd G a (.lst vs)) := same_upd s4 _
  refine ⟨upd G a (.lst vs), R.ex.take s3 s2 s4, by rw [List.length_set]; exact R.ln, fun j x q => ?_, fun j k x y b q1 q2 m1 m2 q3 q4 => ?_⟩
  · rcases set_at q with ⟨rfl, rfl, _⟩ | ⟨ne, q⟩
    · exact ⟨_, s1, den_lst.mpr ⟨a, vs, rfl, SqL.of upd_same, s5.up gg⟩⟩
    · have old := R.all j x q
      have nb : ∀ b, x.mu = true → σ[j]? = some (some (V.ref b)) → b ≠ a := fun b hm hb z => by
        subst z
        exact ne (R.di i j _ _ b hi q rfl hm s1 hb)
      cases x with
      | un => trivial
      | val d => obtain ⟨v, e1, e2⟩ := old; exact ⟨v, e1, e2.up gg⟩
      | exc c => obtain ⟨v, e1, e2⟩ := old; exact ⟨v, e1, e2.up gg⟩
      | fn c => exact old
      | own zs =>
        obtain ⟨b, us, e1, e2, e3, e4, e5⟩ := old
        exact ⟨b, us, e1, e2, e3, by rw [upd_ne (nb b rfl e1)]; exact e4, e5.up gg⟩
      | par b zs =>
        obtain ⟨e1, us, e2, e3, e4, e5⟩ := old
        exact ⟨e1, us, e2, e3, by rw [upd_ne (nb b rfl e1)]; exact e4, e5.up gg⟩
  · rcases set_at q1 with ⟨rfl, rfl, _⟩ | ⟨n1, q1⟩
    · cases m1
    · rcases set_at q2 with ⟨rfl, rfl, _⟩ | ⟨n2, q2⟩
      · cases m2
      · exact R.di j k x y b q1 q2 m1 m2 q3 q4
end
section
variable {X : Cx} {W : XP} {st : Stmt} {fl : Ga → R (List D)}
theorem x_freeze {i : Nat} (h : ExD X W st (sSetO i fl)) : ExD X W st (sSet i (eO fl)) := by
  obtain ⟨t, p, q⟩ := h
  refine ⟨t, p, fun H₀ G₀ Γ σ H G R D w => q _ _ _ _ _ _ R D ?_⟩
  unfold sSet eO at w
  unfold sSetO
  cases hf : fl Γ with
  | ok ds =>
    rw [hf] at w
    intro σ' H' G' R'
    by_cases hi : i < Γ.length
    · obtain ⟨G2, R2⟩ := R'.freeze (i := i) (ds := ds) (by rw [List.getElem?_set_self hi])
      rw [List.set_set] at R2
      exact w _ _ _ R2
    · rw [List.set_eq_of_length_le (Nat.not_lt.mp hi)] at R'
      refine w σ' H' G' ?_
      rw [List.set_eq_of_length_le (Nat.not_lt.mp hi)]
      exact R'
  | ex c => rw [hf] at w; exact w
  | no => rw [hf] at w; exact w
end
section
variable {X : Cx}
variable {W : XP} {a b : Expr} {fa fb : Ga → R (Bool × List D)} {pos : Pos}
end
end Wy


namespace Wy
open PySem PySem.Spec PyProof.Rows L2
section
variable {α β : Type} {Γ Γ' : Ga} {d x y : D} {xs ys : List D} {f fa fb fc : Ga → R D} {fl : Ga → R (List D)} {fs gs : Ga → R (Bool × List D)} {g ga gb : Ga → R Bool} {T U : Ga → RS} {F F' : D → D → Option D} {n : Nat} {sl : Sl} {c : Str}
@[simp] theorem addD_int {i j : Int} : addD (.int i) (.int j) = some (.int (i + j)) := nr rfl
@[simp] theorem isnotA_bl {b : Bool} : isnotA x (.bl b) = some (.bl (!isB x b)) := nr rfl
@[simp] theorem eqDD_int {i j : Int} : eqDD (.int i) (.int j) = decide (i = j) := by unfold eqDD; rw [Bool.eq_iff_iff]; simp
@[simp] theorem eqDD_str {i j : Str} : eqDD (.str i) (.str j) = decide (i = j) := by unfold eqDD; rw [Bool.eq_iff_iff]; simp
@[simp] theorem eqDD_bl {i j : Bool} : eqDD (.bl i) (.bl j) = decide (i = j) := by unfold eqDD; rw [Bool.eq_iff_iff]; simp
@[simp] theorem eqDD_tup : eqDD (.tup xs) (.tup ys) = eqDL xs ys := by conv => lhs; unfold eqDD
@[simp] theorem eqDD_lst : eqDD (.lst xs) (.lst ys) = eqDL xs ys := by conv => lhs; unfold eqDD
@[simp] theorem eqDL_nil : eqDL [] [] = true := by unfold eqDL; rfl
@[simp] theorem eqDL_cons {a b : D} : eqDL (a :: xs) (b :: ys) = (eqDD a b && eqDL xs ys) := by conv => lhs; unfold eqDL
mutual
theorem eqDD_refl : ∀ d : D, eqDD d d = true
  | .non => by unfold eqDD; rfl
  | .bl b => by simp
  | .int b => by simp
  | .str b => by simp
  | .tup xs => by rw [eqDD_tup]; exact eqDL_refl xs
  | .lst xs => by rw [eqDD_lst]; exact eqDL_refl xs
theorem eqDL_refl : ∀ ds : List D, eqDL ds ds = true
  | [] => eqDL_nil
  | d :: ds => by rw [eqDL_cons, eqDD_refl d, eqDL_refl ds]; rfl
end
@[simp] theorem depD_int {i : Int} : depD (.int i) = 0 := by unfold depD; rfl
@[simp] theorem depD_str {i : Str} : depD (.str i) = 0 := by unfold depD; rfl
@[simp] theorem depD_bl {i : Bool} : depD (.bl i) = 0 := by unfold depD; rfl
theorem eqD_of (h : depD x ≤ 100) : eqD x y = some (.bl (eqDD x y)) := if_pos (.inl h)
theorem neD_of (h : depD x ≤ 100) : neD x y = some (.bl (!eqDD x y)) := if_pos h
@[simp] theorem eqD_int {i : Int} : eqD (.int i) y = some (.bl (eqDD (.int i) y)) := eqD_of (by simp)
@[simp] theorem eqD_str {i : Str} : eqD (.str i) y = some (.bl (eqDD (.str i) y)) := eqD_of (by simp)
@[simp] theorem eqD_bl {i : Bool} : eqD (.bl i) y = some (.bl (eqDD (.bl i) y)) := eqD_of (by simp)
@[simp] theorem neD_int {i : Int} : neD (.int i) y = some (.bl (!eqDD (.int i) y)) := neD_of (by simp)
@[simp] theorem neD_bl {i : Bool} : neD (.bl i) y = some (.bl (!eqDD (.bl i) y)) := neD_of (by simp)
theorem memA_tup (h : depDL ys ≤ 99) : memA x (.tup ys) = some (.bl (ys.any fun z => eqDD z x)) := by
  unfold memA orD memD
  simp only [h, if_true]
theorem memA_lst (h : depDL ys ≤ 99) : memA x (.lst ys) = some (.bl (ys.any fun z => eqDD z x)) := by
  unfold memA orD memD
  simp only [h, if_true]
@[simp] theorem memA_str {a b : Str} : memA (.str a) (.str b) = some (.bl (inStr a b)) := nr rfl
theorem depDL_le : ∀ {ds : List D} {n : Nat}, (∀ d ∈ ds, depD d ≤ n) → depDL ds ≤ n
  | [], n, _ => by unfold depDL; exact Nat.zero_le _
  | d :: ds, n, h => by
    unfold depDL
    exact Nat.max_le.mpr ⟨h d List.mem_cons_self, depDL_le fun x hx => h x (List.mem_cons_of_mem _ hx)⟩
theorem depDL_strs (ss : List Str) : depDL (ss.map D.str) ≤ 99 := depDL_le fun d hd => by
  obtain ⟨s, _, rfl⟩ := List.mem_map.mp hd
  simp
@[simp] theorem eRevT_eq : eRevT f Γ = (f Γ).bind fun d => .ofO (revT d) := nr rfl
@[simp] theorem revT_tup : revT (.tup xs) = some (.tup xs.reverse) := nr rfl
@[simp] theorem eSlA_eq {gl gh : Ga → R (Option Int)} : eSlA f gl gh Γ = (f Γ).bind fun d => (gl Γ).bind fun l => (gh Γ).bind fun h => .ofO (slA d l h) := nr rfl
@[simp] theorem slA_tup {l h : Option Int} : slA (.tup xs) l h = some (.tup (cut xs l h)) := nr rfl
@[simp] theorem sExt_eq : sExt n fs Γ = match Γ[n]? with | some (.own xs) => .of (fs Γ) Γ fun p => if xs.length + p.2.length < 16000000 then .nx (Γ.set n (.own (xs ++ p.2))) else .no | _ => .no := nr rfl
theorem maxS_eq {ns : List Int} {m : Int} (h : mostI ns = some m) : maxS (false, ns.map D.int) = some (.int m) := by
  unfold maxS
  dsimp only
  rw [asIs_map, Option.bind_some, h]
  rfl
section
variable {tb : Str → Option Bool} {V : Str → Ga → RS} {yb : Str → Bool}
end
end
end Wy


namespace Wy
open PySem PySem.Spec PyProof.Rows L2 HT
section
variable {X : Cx}
variable {W : XP} {e : Expr} {fs : Ga → R (Bool × List D)} {pos p2 : Pos}
end
section
variable {X : Cx}
variable {W : XP} {o e : Expr} {fs : Ga → R (Bool × List D)} {fe : Ga → R D} {apos cpos : Pos}
end
end Wy

namespace Wy
open PySem PySem.Spec PyProof.Rows L2 HT
section
variable {X : Cx} {W : XP} {e ix : Expr} {f fi : Ga → R D} {pos pos' p2 apos cpos : Pos} {x : Str}
end
end Wy

namespace Wy
open PySem PySem.Spec PyProof.Rows L2 HT
def frz (i : Nat) (Γ : Ga) : Ga := match Γ[i]? with
  | some (.own xs) => Γ.set i (.val (.lst xs))
  | _ => Γ
def sFrz (i : Nat) (F : Ga → RS) : Ga → RS := fun Γ => F (frz i Γ)
section
variable {X : Cx} {W : XP} {st : Stmt} {F : Ga → RS}
theorem x_frz (i : Nat) (h : ExD X W st F) : ExD X W st (sFrz i F) := by
  obtain ⟨t, p, q⟩ := h
  refine ⟨t, p, fun H₀ G₀ Γ σ H G R D w => ?_⟩
  unfold sFrz frz at w
  split at w
  · rename_i xs e
    obtain ⟨G', R'⟩ := R.freeze e
    exact q _ _ _ _ _ _ R' D w
  · exact q _ _ _ _ _ _ R D w
end
@[simp] theorem frz_own {xs : List D} {Γ : Ga} : frz 0 (.own xs :: Γ) = .val (.lst xs) :: Γ := nr rfl
@[simp] theorem frz_succ {n : Nat} {s : Sl} {Γ : Ga} : frz (n + 1) (s :: Γ) = s :: frz n Γ := by
  unfold frz
  rw [List.getElem?_cons_succ]
  cases h : Γ[n]? with
  | none => rfl
  | some a => cases a <;> rfl
section
variable {α : Type} {Γ : Ga} {d x : D} {xs ys : List D} {f fi : Ga → R D} {fs : Ga → R (Bool × List D)} {n : Nat}
end
end Wy


namespace Lw
open PySem PySem.Spec PyProof.Rows L2 Wy Wl
abbrev N__law_cell : List Str := ["_law_script", "_law_k"]
def B__law_cell : Ga → RS := (sSeq (sIf (tB (e2 ltD (eV 1) (eB lenD (aCons (eV 0) aNil)))) (sRet (e2 ixD (eV 0) (eV 1))) sNext) (sRet (eC (.int 0))))
def M__law_cell : List D → R D := fun ds => callR N__law_cell (B__law_cell) ds
abbrev N__law_mix : List Str := ["_law_cell_here", "_law_prime", "_law_many"]
def B__law_mix : Ga → RS := (sRet (e2 (int2 modI) (e2 (int2 modI) (e2 (int2 mulI) (eV 0) (eC (.int 48271))) (eV 1)) (eV 2)))
def M__law_mix : List D → R D := fun ds => callR N__law_mix (B__law_mix) ds
abbrev N__law_saying : List Str := ["_law_seed", "_law_left", "_law_turn", "_law_one"]
def B__law_saying (M__law_mix : List D → R D) (M__law_saying : List D → R D) : Ga → RS := (sSeq (sSet 2 (eCall M__law_mix (aCons (eV 0) (aCons (eC (.int 9973)) (aCons (eC (.int 11)) aNil))))) (sSeq (sIf (tOrR (tB (e2 eqD (eV 1) (eC (.int 0)))) (tB (e2 ltD (eV 2) (eC (.int 2))))) (sRet (eTup (aCons (eC (.str "name")) (aCons (eIxS (sO (aCons (eC (.str "a")) (aCons (eC (.str "b")) (aCons (eC (.str "zz")) aNil)))) (eCall M__law_mix (aCons (eV 0) (aCons (eC (.int 9967)) (aCons (eC (.int 3)) aNil))))) aNil)))) sNext) (sSeq (sSet 3 (eCall M__law_saying (aCons (e2 addD (e2 (int2 mulI) (eV 0) (eC (.int 3))) (eC (.int 1))) (aCons (e2 (int2 fun i j => some (.int (i - j))) (eV 1) (eC (.int 1))) aNil)))) (sSeq (sIf (tB (e2 ltD (eV 2) (eC (.int 4)))) (sRet (eTup (aCons (eC (.str "not")) (aCons (eV 3) aNil)))) sNext) (sSeq (sIf (tB (e2 ltD (eV 2) (eC (.int 8)))) (sRet (eTup (aCons (eIxS (sO (aCons (eC (.str "and")) (aCons (eC (.str "or")) aNil))) (eCall M__law_mix (aCons (eV 0) (aCons (eC (.int 9949)) (aCons (eC (.int 2)) aNil))))) (aCons (eV 3) (aCons (eCall M__law_saying (aCons (e2 addD (e2 (int2 mulI) (eV 0) (eC (.int 5))) (eC (.int 2))) (aCons (e2 (int2 fun i j => some (.int (i - j))) (eV 1) (eC (.int 1))) aNil))) aNil))))) sNext) (sRet (eTup (aCons (eIxS (sO (aCons (eC (.str "all")) (aCons (eC (.str "some")) aNil))) (eCall M__law_mix (aCons (eV 0) (aCons (eC (.int 9941)) (aCons (eC (.int 2)) aNil))))) (aCons (eCall M__law_mix (aCons (eV 0) (aCons (eC (.int 9931)) (aCons (eC (.int 3)) aNil)))) (aCons (eV 3) aNil))))))))))
def M__law_saying : Nat → List D → R D
  | 0, _ => .no
  | n + 1, ds => callR N__law_saying (B__law_saying M__law_mix (M__law_saying n)) ds
abbrev N__law_yard : List Str := ["_law_script", "_law_k", "_law_own", "_law_count", "_law_found", "_law_world", "_law_names", "_law_at", "_law_name", "_law_ways", "_law_kind", "_law_seed", "_law_some"]
def L__law_yard_2 (M__law_mix : List D → R D) (M__law_cell : List D → R D) : Ga → RS := (sIf (tB (e2 eqD (eCall M__law_mix (aCons (e2 addD (e2 addD (eCall M__law_cell (aCons (eV 0) (aCons (e2 addD (eV 1) (eC (.int 1))) aNil))) (e2 (int2 mulI) (eC (.int 7)) (eV 5))) (eV 7)) (aCons (eC (.int 9929)) (aCons (eC (.int 2)) aNil)))) (eC (.int 0)))) (sApp 6 (eV 8)) sNext)
def L__law_yard_3 (M__law_cell : List D → R D) (M__law_mix : List D → R D) : Ga → RS := (sSeq (sSet 11 (e2 addD (eCall M__law_cell (aCons (eV 0) (aCons (e2 addD (e2 addD (eV 1) (eC (.int 2))) (eV 10)) aNil))) (e2 (int2 mulI) (eC (.int 31)) (eV 5)))) (sSeq (sSet 12 (eO (cpR (iR1 (aCons (eV 3) aNil)) (tOrR (tB (e2 eqD (eCall M__law_mix (aCons (e2 addD (eV 13) (e2 (int2 mulI) (eC (.int 5)) (eV 0))) (aCons (eC (.int 9923)) (aCons (eC (.int 3)) aNil)))) (eC (.int 0)))) (tAndR (tB (e2 eqD (eV 4) (eC (.int 1)))) (tB (e2 eqD (eV 0) (eV 7))))) (eV 0)))) (sApp 9 (eS tupS (sV 12)))))
def L__law_yard_1 (M__law_mix : List D → R D) (M__law_cell : List D → R D) : Ga → RS := (sSeq (sSetO 6 aNil) (sSeq (sFor (iE (eO (aCons (eC (.str "a")) (aCons (eC (.str "b")) (aCons (eC (.str "zz")) aNil))))) (gTwo (gName' 7) (gName' 8)) (L__law_yard_2 M__law_mix M__law_cell)) (sSeq (sSetO 9 aNil) (sSeq (sFor (iR1 (aCons (eC (.int 3)) aNil)) (gName' 10) (L__law_yard_3 M__law_cell M__law_mix)) (sApp 4 (eTup (aCons (eS tupS (sV 6)) (aCons (eS tupS (sV 9)) aNil))))))))
def B__law_yard (M__law_cell : List D → R D) (M__law_mix : List D → R D) : Ga → RS := (sSeq (sSet 3 (e2 addD (eC (.int 1)) (e2 (int2 modI) (eCall M__law_cell (aCons (eV 0) (aCons (eV 1) aNil))) (eC (.int 5))))) (sSeq (sSetO 4 aNil) (sSeq (sFor (iR1 (aCons (eV 3) aNil)) (gName' 5) (L__law_yard_1 M__law_mix M__law_cell)) (sRet (eS tupS (sV 4))))))
def M__law_yard : List D → R D := fun ds => callR N__law_yard (B__law_yard M__law_cell M__law_mix) ds
abbrev N__law_holds : List Str := ["_law_yard_here", "_law_world", "_law_saying_here", "_law_one"]
def L__law_holds_1 (M__law_holds : List D → R D) : Ga → RS := (sIf (tB (e2 neD (eCall M__law_holds (aCons (eV 0) (aCons (eV 3) (aCons (e2 ixD (eV 2) (eC (.int 2))) aNil)))) (e2 eqD (e2 ixD (eV 2) (eC (.int 0))) (eC (.str "all"))))) (sRet (e2 eqD (e2 ixD (eV 2) (eC (.int 0))) (eC (.str "some")))) sNext)
def B__law_holds (M__law_holds : List D → R D) : Ga → RS := (sSeq (sIf (tB (e2 eqD (e2 ixD (eV 2) (eC (.int 0))) (eC (.str "name")))) (sRet (e2 memA (e2 ixD (eV 2) (eC (.int 1))) (e2 ixD (e2 ixD (eV 0) (eV 1)) (eC (.int 0))))) sNext) (sSeq (sIf (tB (e2 eqD (e2 ixD (eV 2) (eC (.int 0))) (eC (.str "not")))) (sRet (eNot (eCall M__law_holds (aCons (eV 0) (aCons (eV 1) (aCons (e2 ixD (eV 2) (eC (.int 1))) aNil)))))) sNext) (sSeq (sIf (tB (e2 eqD (e2 ixD (eV 2) (eC (.int 0))) (eC (.str "and")))) (sRet (eAnd (eCall M__law_holds (aCons (eV 0) (aCons (eV 1) (aCons (e2 ixD (eV 2) (eC (.int 1))) aNil)))) (eCall M__law_holds (aCons (eV 0) (aCons (eV 1) (aCons (e2 ixD (eV 2) (eC (.int 2))) aNil)))))) sNext) (sSeq (sIf (tB (e2 eqD (e2 ixD (eV 2) (eC (.int 0))) (eC (.str "or")))) (sRet (eOr (eCall M__law_holds (aCons (eV 0) (aCons (eV 1) (aCons (e2 ixD (eV 2) (eC (.int 1))) aNil)))) (eCall M__law_holds (aCons (eV 0) (aCons (eV 1) (aCons (e2 ixD (eV 2) (eC (.int 2))) aNil)))))) sNext) (sSeq (sFor (iT (e2 ixD (e2 ixD (e2 ixD (eV 0) (eV 1)) (eC (.int 1))) (e2 ixD (eV 2) (eC (.int 1))))) (gName' 3) (L__law_holds_1 M__law_holds)) (sRet (e2 eqD (e2 ixD (eV 2) (eC (.int 0))) (eC (.str "all")))))))))
def M__law_holds : Nat → List D → R D
  | 0, _ => .no
  | n + 1, ds => callR N__law_holds (B__law_holds (M__law_holds n)) ds
end Lw


namespace Wl
open PySem PySem.Spec PyProof.Rows L2 Wy
inductive Say where
  | nm (x : Str) | neg (a : Say) | two (c : Bool) (a b : Say) | way (c : Bool) (k : Nat) (a : Say)
  deriving DecidableEq
def hd2 (c : Bool) : Str := if c = true then "and" else "or"
def hdw (c : Bool) : Str := if c = true then "all" else "some"
def dS : Say → D
  | .nm x => .tup [.str "name", .str x]
  | .neg a => .tup [.str "not", dS a]
  | .two c a b => .tup [.str (hd2 c), dS a, dS b]
  | .way c k a => .tup [.str (hdw c), .int (k : Int), dS a]
def depS : Say → Nat
  | .nm _ => 0
  | .neg a => depS a + 1
  | .two _ a b => max (depS a) (depS b) + 1
  | .way _ _ a => depS a + 1
def okS : Say → Bool
  | .nm x => decide (x ∈ (["a", "b", "zz"] : List Str))
  | .neg a => okS a
  | .two _ a b => okS a && okS b
  | .way _ k a => decide (k < 3) && okS a
def nam (s : Int) : Str := (["a", "b", "zz"] : List Str).getD (mixI s 9967 3).toNat ""
def lawS : Nat → Int → Say
  | 0, s => .nm (nam s)
  | n + 1, s => if mixI s 9973 11 < 2 then .nm (nam s) else if mixI s 9973 11 < 4 then .neg (lawS n (s * 3 + 1)) else if mixI s 9973 11 < 8 then .two (decide (mixI s 9949 2 = 0)) (lawS n (s * 3 + 1)) (lawS n (s * 5 + 2))
    else .way (decide (mixI s 9941 2 = 0)) (mixI s 9931 3).toNat (lawS n (s * 3 + 1))
theorem mix3 (s p : Int) : (mixI s p 3 = 0 ∨ mixI s p 3 = 1) ∨ mixI s p 3 = 2 := by
  have := mix_lt s p 3 (by decide); omega
theorem mix2 (s p : Int) : mixI s p 2 = 0 ∨ mixI s p 2 = 1 := by
  have := mix_lt s p 2 (by decide); omega
theorem nam_ok (s : Int) : nam s ∈ (["a", "b", "zz"] : List Str) := by
  unfold nam
  rcases mix3 s 9967 with (h | h) | h <;> rw [h] <;> decide
theorem lawS_ok : ∀ (n : Nat) (s : Int), okS (lawS n s) = true ∧ depS (lawS n s) ≤ n
  | 0, s => ⟨decide_eq_true (nam_ok s), Nat.le_refl _⟩
  | n + 1, s => by
    have h1 := lawS_ok n (s * 3 + 1)
    have h2 := lawS_ok n (s * 5 + 2)
    have h3 := mix_lt s 9931 3 (by decide)
    unfold lawS
    split
    · exact ⟨decide_eq_true (nam_ok s), Nat.zero_le _⟩
    · split
      · exact ⟨h1.1, Nat.succ_le_succ h1.2⟩
      · split
        · refine ⟨by simp [okS, h1.1, h2.1], ?_⟩
          simp only [depS]
          omega
        · refine ⟨by simp [okS, h1.1]; omega, ?_⟩
          simp only [depS]
          omega
end Wl
namespace Lw
open PySem PySem.Spec PyProof.Rows L2 Wy Wl
theorem m_mix (c p m : Int) (hp : 0 < p) (hm : 0 < m) : M__law_mix [.int c, .int p, .int m] = .ok (.int (mixI c p m)) := by
  simp [M__law_mix, B__law_mix, begin_, hp, hm, mixI]
theorem m_cell (ns : List Int) (k : Nat) : M__law_cell [dLs ns, .int k] = .ok (.int (cellI ns k)) := by
  by_cases h : k < ns.length
  · have e : atI (ns.map D.int) (k : Int) = some (D.int (cellI ns k)) := atI_nat (by simp [cellI, h, List.getD_eq_getElem?_getD])
    simp [M__law_cell, B__law_cell, begin_, dLs, h, e]
  · have e : cellI ns k = 0 := by simp [cellI, List.getD_eq_getElem?_getD, List.getElem?_eq_none (by omega : ns.length ≤ k)]
    simp [M__law_cell, B__law_cell, begin_, dLs, h, e]
theorem at_nam (s : Int) : atI [D.str "a", D.str "b", D.str "zz"] (mixI s 9967 3) = some (.str (nam s)) := by
  unfold nam
  rcases mix3 s 9967 with (h | h) | h <;> rw [h] <;> rfl
theorem at_hd2 (s p : Int) : atI [D.str "and", D.str "or"] (mixI s p 2) = some (.str (hd2 (decide (mixI s p 2 = 0)))) := by
  rcases mix2 s p with h | h <;> rw [h] <;> rfl
theorem at_hdw (s p : Int) : atI [D.str "all", D.str "some"] (mixI s p 2) = some (.str (hdw (decide (mixI s p 2 = 0)))) := by
  rcases mix2 s p with h | h <;> rw [h] <;> rfl
theorem m_saying : ∀ (n left : Nat) (s : Int), left < n → M__law_saying n [.int s, .int left] = .ok (dS (lawS left s))
  | 0, _, _, h => absurd h (Nat.not_lt_zero _)
  | n + 1, 0, s, _ => by simp [M__law_saying, B__law_saying, begin_, m_mix, at_nam, lawS, dS]
  | n + 1, left + 1, s, h => by
    have ih1 := m_saying n left (s * 3 + 1) (by omega)
    have ih2 := m_saying n left (s * 5 + 2) (by omega)
    have e0 : ¬ ((left : Int) + 1 = 0) := by omega
    have e1 : (left : Int) + 1 - 1 = (left : Int) := by omega
    have hk := mix_lt s 9931 3 (by decide)
    have ek : (((mixI s 9931 3).toNat : Nat) : Int) = mixI s 9931 3 := Int.toNat_of_nonneg hk.1
    by_cases c1 : mixI s 9973 11 < 2
    · simp [M__law_saying, B__law_saying, begin_, m_mix, at_nam, lawS, dS, e0, e1, c1]
    · by_cases c2 : mixI s 9973 11 < 4
      · simp [M__law_saying, B__law_saying, begin_, m_mix, lawS, dS, e0, e1, c1, c2, ih1]
      · by_cases c3 : mixI s 9973 11 < 8
        · simp [M__law_saying, B__law_saying, begin_, m_mix, lawS, dS, e0, e1, c1, c2, c3, ih1, ih2, at_hd2]
        · simp [M__law_saying, B__law_saying, begin_, m_mix, lawS, dS, e0, e1, c1, c2, c3, ih1, at_hdw, ek]
end Lw

namespace Lw
open PySem PySem.Spec PyProof.Rows L2 Wy Wl
def tName (ns : List Int) (k w : Nat) (acc : List D) (d : D) : List D := match d with
  | .tup [.int i, .str x] => if mixI (cellI ns (k + 1) + 7 * (w : Int) + i) 9929 2 = 0 then acc ++ [.str x] else acc
  | _ => acc
theorem turn_name (ns : List Int) (k w : Nat) (own c : Int) (found acc : List D) (x9 x10 x11 x12 a b : Sl) (i : Int) (x : Str) (hl : acc.length < 16000000) :
    L__law_yard_2 M__law_mix M__law_cell [.val (dLs ns), .val (.int k), .val (.int own), .val (.int c), .own found, .val (.int w), .own acc, .val (.int i), .val (.str x), x9, x10, x11, x12] =
      .nx [.val (dLs ns), .val (.int k), .val (.int own), .val (.int c), .own found, .val (.int w), .own (tName ns k w acc (.tup [.int i, .str x])), .val (.int i), .val (.str x), x9, x10, x11, x12] := by
  have e1 : M__law_cell [dLs ns, .int ((k : Int) + 1)] = .ok (.int (cellI ns (k + 1))) := m_cell ns (k + 1)
  by_cases h : mixI (cellI ns (k + 1) + 7 * (w : Int) + i) 9929 2 = 0
  · simp [L__law_yard_2, e1, m_mix, h, hl, tName]
  · simp [L__law_yard_2, e1, m_mix, h, hl, tName]
theorem names_fold (ns : List Int) (k w : Nat) : (enumL [.str "a", .str "b", .str "zz"]).foldl (tName ns k w) [] = (yNames ns k w).map D.str := by
  show tName ns k w (tName ns k w (tName ns k w [] (.tup [.int ((0 : Nat) : Int), .str "a"])) (.tup [.int ((1 : Nat) : Int), .str "b"])) (.tup [.int ((2 : Nat) : Int), .str "zz"]) = _
  unfold yNames
  simp only [tName]
  by_cases c1 : mixI (cellI ns (k + 1) + 7 * (w : Int) + ((0 : Nat) : Int)) 9929 2 = 0 <;> by_cases c2 : mixI (cellI ns (k + 1) + 7 * (w : Int) + ((1 : Nat) : Int)) 9929 2 = 0 <;> by_cases c3 : mixI (cellI ns (k + 1) + 7 * (w : Int) + ((2 : Nat) : Int)) 9929 2 = 0 <;> simp only [c1, c2, c3, if_true, if_false, List.filter, decide_true, decide_false, List.map, List.nil_append, List.cons_append]
theorem turn_kind (ns : List Int) (k w kind : Nat) (own : Int) (found nms acc : List D) (x7 x8 x11 x12 : Sl) (hl : acc.length < 16000000) :
    ∃ y11 y12, L__law_yard_3 M__law_cell M__law_mix [.val (dLs ns), .val (.int k), .val (.int own), .val (.int (yCount ns k)), .own found, .val (.int w), .own nms, x7, x8, .own acc, .val (.int kind), x11, x12] =
      .nx [.val (dLs ns), .val (.int k), .val (.int own), .val (.int (yCount ns k)), .own found, .val (.int w), .own nms, x7, x8, .own (acc ++ [dRow (yRow ns k own w kind)]), .val (.int kind), y11, y12] := by
  have hc := yCount_le ns k
  have e1 : M__law_cell [dLs ns, .int ((k : Int) + 2 + (kind : Int))] = .ok (.int (cellI ns (k + 2 + kind))) := m_cell ns (k + 2 + kind)
  have eR : rng1 [.int (yCount ns k : Int)] = some ((List.range (yCount ns k)).map fun (j : Nat) => D.int (j : Int)) := rng1_nat (by omega)
  refine ⟨.val (.int (cellI ns (k + 2 + kind) + 31 * (w : Int))), .val (.lst ((yRow ns k own w kind).map fun (n : Nat) => D.int (n : Int))), ?_⟩
  have hcomp : ∀ Γ : Ga, Γ = [.val (dLs ns), .val (.int k), .val (.int own), .val (.int (yCount ns k)), .own found, .val (.int w), .own nms, x7, x8, .own acc, .val (.int kind), .val (.int (cellI ns (k + 2 + kind) + 31 * (w : Int))), x12] → 
      compR (tOrR (Wy.tB (e2 eqD (eCall M__law_mix (aCons (e2 addD (eV 13) (e2 (int2 mulI) (eC (.int 5)) (eV 0))) (aCons (eC (.int 9923)) (aCons (eC (.int 3)) aNil)))) (eC (.int 0)))) (tAndR (Wy.tB (e2 eqD (eV 4) (eC (.int 1)))) (Wy.tB (e2 eqD (eV 0) (eV 7))))) (eV 0) Γ ((List.range (yCount ns k)).map fun (j : Nat) => D.int (j : Int)) = .ok ((yRow ns k own w kind).map fun (n : Nat) => D.int (n : Int)) := fun Γ hΓ => by
    subst hΓ
    rw [compR_filter (p := fun d => match d with | .int j => decide (mixI (cellI ns (k + 2 + kind) + 31 * (w : Int) + 5 * j) 9923 3 = 0) || (decide (own = 1) && decide (j = (w : Int))) | _ => false) (h := id)]
    · rw [List.map_id, List.filter_map]
      have e : List.filter ((fun d : D => match d with | .int j => decide (mixI (cellI ns (k + 2 + kind) + 31 * (w : Int) + 5 * j) 9923 3 = 0) || (decide (own = 1) && decide (j = (w : Int))) | _ => false) ∘ fun (j : Nat) => D.int (j : Int)) (List.range (yCount ns k)) = yRow ns k own w kind := by
        unfold yRow
        apply List.filter_congr
        intro x _
        have : decide ((x : Int) = (w : Int)) = decide (x = w) := by rw [Bool.eq_iff_iff]; simp; omega
        simp only [Function.comp, this]
      rw [e]
    · intro d hd
      obtain ⟨j, _, rfl⟩ := List.mem_map.mp hd
      by_cases h1 : mixI (cellI ns (k + 2 + kind) + 31 * (w : Int) + 5 * (j : Int)) 9923 3 = 0
      · simp [m_mix, h1]
      · by_cases h2 : own = 1
        · simp [m_mix, h1, h2]
        · simp [m_mix, h1, h2]
    · intro d hd _
      obtain ⟨j, _, rfl⟩ := List.mem_map.mp hd
      simp
  have hl2 : yCount ns k < 16000000 := by omega
  simp [L__law_yard_3, e1, eR, hcomp _ rfl, hl, dRow, hl2]
theorem rows_fold (ns : List Int) (k w : Nat) (own : Int) : ((List.range 3).map fun (j : Nat) => D.int (j : Int)).foldl (fun acc d => match d with | .int i => acc ++ [dRow (yRow ns k own w i.toNat)] | _ => acc) [] = ((List.range 3).map (yRow ns k own w)).map dRow := by
  show [] ++ [dRow (yRow ns k own w 0)] ++ [dRow (yRow ns k own w 1)] ++ [dRow (yRow ns k own w 2)] = _
  rfl
theorem turn_world (ns : List Int) (k w : Nat) (own : Int) (found : List D) (x6 x7 x8 x9 x10 x11 x12 : Sl) (hl : found.length < 16000000) :
    ∃ y6 y7 y8 y9 y10 y11 y12, L__law_yard_1 M__law_mix M__law_cell [.val (dLs ns), .val (.int k), .val (.int own), .val (.int (yCount ns k)), .own found, .val (.int w), x6, x7, x8, x9, x10, x11, x12] =
      .nx [.val (dLs ns), .val (.int k), .val (.int own), .val (.int (yCount ns k)), .own (found ++ [dWd (lawWd ns k own w)]), .val (.int w), y6, y7, y8, y9, y10, y11, y12] := by
  obtain ⟨Γ1, h1, ha, a, b', rfl⟩ := turns_ix (g := gTwo (gName' 7) (gName' 8)) (T := L__law_yard_2 M__law_mix M__law_cell) (fun i acc Γ => acc.length ≤ i ∧ ∃ a b, Γ = [.val (dLs ns), .val (.int k), .val (.int own), .val (.int (yCount ns k)), .own found, .val (.int w), .own acc, a, b, x9, x10, x11, x12]) (tName ns k w)
    (enumL [.str "a", .str "b", .str "zz"]) 0 [] [.val (dLs ns), .val (.int k), .val (.int own), .val (.int (yCount ns k)), .own found, .val (.int w), .own [], x7, x8, x9, x10, x11, x12] (by
      rintro i acc d Γ hd ⟨hi, a, b, rfl⟩
      have hd' := hd
      have hi3 : i < 3 := (List.getElem?_eq_some_iff.mp hd).1
      have hm : ∃ (j : Nat) (x : Str), d = .tup [.int (j : Int), .str x] := by
        match i, hi3, hd with
        | 0, _, hd => cases hd; exact ⟨0, "a", rfl⟩
        | 1, _, hd => cases hd; exact ⟨1, "b", rfl⟩
        | 2, _, hd => cases hd; exact ⟨2, "zz", rfl⟩
      obtain ⟨j, x, rfl⟩ := hm
      refine ⟨_, _, rfl, .inl (turn_name ns k w own (yCount ns k) found acc x9 x10 x11 x12 a b j x (by omega)), ?_, _, _, rfl⟩
      simp only [tName]
      split <;> simp <;> omega) ⟨by simp, _, _, rfl⟩
  rw [names_fold] at h1
  obtain ⟨Γ2, h2, hb, c', d', e', rfl⟩ := turns_ix (g := gName' 10) (T := L__law_yard_3 M__law_cell M__law_mix) (fun i acc Γ => acc.length ≤ i ∧ ∃ c d e, Γ = [.val (dLs ns), .val (.int k), .val (.int own), .val (.int (yCount ns k)), .own found, .val (.int w), .own ((yNames ns k w).map D.str), a, b', .own acc, c, d, e]) (fun acc d => match d with | .int i => acc ++ [dRow (yRow ns k own w i.toNat)] | _ => acc)
    ((List.range 3).map fun (j : Nat) => D.int (j : Int)) 0 [] [.val (dLs ns), .val (.int k), .val (.int own), .val (.int (yCount ns k)), .own found, .val (.int w), .own ((yNames ns k w).map D.str), a, b', .own [], x10, x11, x12] (by
      rintro i acc d Γ hd ⟨hi, c, d', e, rfl⟩
      have hi3 : i < 3 := by simpa using (List.getElem?_eq_some_iff.mp hd).1
      rw [List.getElem?_map, List.getElem?_range hi3] at hd
      cases hd
      obtain ⟨y11, y12, hq⟩ := turn_kind ns k w i own found ((yNames ns k w).map D.str) acc a b' d' e (by omega)
      exact ⟨_, _, rfl, .inl hq, by simp; omega, _, _, _, rfl⟩) ⟨by simp, _, _, _, rfl⟩
  rw [rows_fold] at h2
  have eR3 : rng1 [.int 3] = some ((List.range 3).map fun (j : Nat) => D.int (j : Int)) := rng1_nat (k := 3) (by decide)
  exact ⟨.own ((yNames ns k w).map D.str), a, b', .own (((List.range 3).map (yRow ns k own w)).map dRow), c', d', e', by simp only [L__law_yard_1]; simp [h1, h2, eR3, hl, dWd, lawWd, dNames, dWays]⟩
theorem m_yard (ns : List Int) (k : Nat) (own : Int) : M__law_yard [dLs ns, .int k, .int own] = .ok (dYd (lawYd ns k own)) := by
  have hc := yCount_le ns k
  have e0 : (1 : Int) + cellI ns k % 5 = (yCount ns k : Int) := by
    have h1 := Int.emod_nonneg (cellI ns k) (show (5 : Int) ≠ 0 by decide)
    unfold yCount
    omega
  have eR : rng1 [.int (yCount ns k : Int)] = some ((List.range (yCount ns k)).map fun (j : Nat) => D.int (j : Int)) := rng1_nat (by omega)
  obtain ⟨Γ1, h1, ha, y6, y7, y8, y9, y10, y11, y12, y13, rfl⟩ := turns_ix (g := gName' 5) (T := L__law_yard_1 M__law_mix M__law_cell) (fun i acc Γ => acc.length ≤ i ∧ ∃ a b c d e f g h, Γ = [.val (dLs ns), .val (.int k), .val (.int own), .val (.int (yCount ns k)), .own acc, a, b, c, d, e, f, g, h])
    (fun acc d => match d with | .int i => acc ++ [dWd (lawWd ns k own i.toNat)] | _ => acc)
    ((List.range (yCount ns k)).map fun (j : Nat) => D.int (j : Int)) 0 [] [.val (dLs ns), .val (.int k), .val (.int own), .val (.int (yCount ns k)), .own [], .un, .un, .un, .un, .un, .un, .un, .un] (by
      rintro i acc d Γ hd ⟨hi, a, b, c, d', e, f, g, h, rfl⟩
      have hi3 : i < yCount ns k := by simpa using (List.getElem?_eq_some_iff.mp hd).1
      rw [List.getElem?_map, List.getElem?_range hi3] at hd
      cases hd
      obtain ⟨y6, y7, y8, y9, y10, y11, y12, hq⟩ := turn_world ns k i own acc b c d' e f g h (by omega)
      exact ⟨_, _, rfl, .inl hq, by simp; omega, _, _, _, _, _, _, _, _, rfl⟩) ⟨by simp, _, _, _, _, _, _, _, _, rfl⟩
  have ef : ((List.range (yCount ns k)).map fun (j : Nat) => D.int (j : Int)).foldl (fun acc d => match d with | .int i => acc ++ [dWd (lawWd ns k own i.toNat)] | _ => acc) [] = (lawYd ns k own).map dWd := by
    rw [List.foldl_map]
    have := foldl_app (fun (j : Nat) => dWd (lawWd ns k own j)) (List.range (yCount ns k)) []
    simp only [Int.toNat_natCast]
    rw [this]
    simp [lawYd]
  rw [ef] at h1
  simp [M__law_yard, B__law_yard, begin_, m_cell, e0, eR, h1, dYd]
end Lw


namespace Wl
open PySem PySem.Spec PyProof.Rows L2 Wy
def wdAt (Y : List Wd) (w : Nat) : Wd := Y.getD w ([], [])
def rowAt (Y : List Wd) (w k : Nat) : List Nat := (wdAt Y w).2.getD k []
def sat (Y : List Wd) : Say → Nat → Bool
  | .nm x, w => decide (x ∈ (wdAt Y w).1)
  | .neg a, w => !sat Y a w
  | .two c a b, w => if c = true then sat Y a w && sat Y b w else sat Y a w || sat Y b w
  | .way c k a, w => if c = true then (rowAt Y w k).all (sat Y a) else (rowAt Y w k).any (sat Y a)
structure YOk (Y : List Wd) : Prop where
  three : ∀ w ∈ Y, w.2.length = 3
  there : ∀ w ∈ Y, ∀ r ∈ w.2, ∀ v ∈ r, v < Y.length
  rise : ∀ w ∈ Y, ∀ r ∈ w.2, r.Pairwise (· < ·)
  names : ∀ w ∈ Y, w.1.Sublist ["a", "b", "zz"]
  pos : 1 ≤ Y.length
theorem wdAt_mem {Y : List Wd} {w : Nat} (h : w < Y.length) : wdAt Y w ∈ Y := by
  unfold wdAt
  rw [List.getD_eq_getElem?_getD, List.getElem?_eq_getElem h]
  exact List.getElem_mem h
theorem wdAt_get {Y : List Wd} {w : Nat} (h : w < Y.length) : Y[w]? = some (wdAt Y w) := by
  unfold wdAt
  rw [List.getD_eq_getElem?_getD, List.getElem?_eq_getElem h]
  rfl
theorem rowAt_there {Y : List Wd} (hY : YOk Y) {w k : Nat} (h : w < Y.length) : ∀ v ∈ rowAt Y w k, v < Y.length := by
  intro v hv
  unfold rowAt at hv
  rw [List.getD_eq_getElem?_getD] at hv
  cases e : (wdAt Y w).2[k]? with
  | none => rw [e] at hv; cases hv
  | some r =>
    rw [e] at hv
    exact hY.there _ (wdAt_mem h) r (List.mem_of_getElem? e) v hv
theorem ways_at {Y : List Wd} (hY : YOk Y) {w k : Nat} (h : w < Y.length) (hk : k < 3) : ixD (dWays (wdAt Y w).2) (.int (k : Int)) = some (dRow (rowAt Y w k)) := by
  have hl := hY.three _ (wdAt_mem h)
  rw [show dWays (wdAt Y w).2 = .tup ((wdAt Y w).2.map dRow) from rfl, ixD_tup]
  refine atI_nat ?_
  unfold rowAt
  rw [List.getElem?_map, List.getD_eq_getElem?_getD, List.getElem?_eq_getElem (by omega : k < (wdAt Y w).2.length)]
  rfl
@[simp] theorem w_name_all : (Str.ofString "name" = Str.ofString "all") = False := eq_false (by decide)
@[simp] theorem w_name_some : (Str.ofString "name" = Str.ofString "some") = False := eq_false (by decide)
@[simp] theorem w_not_name : (Str.ofString "not" = Str.ofString "name") = False := eq_false (by decide)
@[simp] theorem w_not_all : (Str.ofString "not" = Str.ofString "all") = False := eq_false (by decide)
@[simp] theorem w_not_some : (Str.ofString "not" = Str.ofString "some") = False := eq_false (by decide)
@[simp] theorem w_and_name : (Str.ofString "and" = Str.ofString "name") = False := eq_false (by decide)
@[simp] theorem w_and_not : (Str.ofString "and" = Str.ofString "not") = False := eq_false (by decide)
@[simp] theorem w_and_or : (Str.ofString "and" = Str.ofString "or") = False := eq_false (by decide)
@[simp] theorem w_and_all : (Str.ofString "and" = Str.ofString "all") = False := eq_false (by decide)
@[simp] theorem w_and_some : (Str.ofString "and" = Str.ofString "some") = False := eq_false (by decide)
@[simp] theorem w_or_name : (Str.ofString "or" = Str.ofString "name") = False := eq_false (by decide)
@[simp] theorem w_or_not : (Str.ofString "or" = Str.ofString "not") = False := eq_false (by decide)
@[simp] theorem w_or_and : (Str.ofString "or" = Str.ofString "and") = False := eq_false (by decide)
@[simp] theorem w_or_all : (Str.ofString "or" = Str.ofString "all") = False := eq_false (by decide)
@[simp] theorem w_or_some : (Str.ofString "or" = Str.ofString "some") = False := eq_false (by decide)
@[simp] theorem w_all_name : (Str.ofString "all" = Str.ofString "name") = False := eq_false (by decide)
@[simp] theorem w_all_not : (Str.ofString "all" = Str.ofString "not") = False := eq_false (by decide)
@[simp] theorem w_all_and : (Str.ofString "all" = Str.ofString "and") = False := eq_false (by decide)
@[simp] theorem w_all_or : (Str.ofString "all" = Str.ofString "or") = False := eq_false (by decide)
@[simp] theorem w_all_some : (Str.ofString "all" = Str.ofString "some") = False := eq_false (by decide)
@[simp] theorem w_some_name : (Str.ofString "some" = Str.ofString "name") = False := eq_false (by decide)
@[simp] theorem w_some_not : (Str.ofString "some" = Str.ofString "not") = False := eq_false (by decide)
@[simp] theorem w_some_and : (Str.ofString "some" = Str.ofString "and") = False := eq_false (by decide)
@[simp] theorem w_some_or : (Str.ofString "some" = Str.ofString "or") = False := eq_false (by decide)
@[simp] theorem w_some_all : (Str.ofString "some" = Str.ofString "all") = False := eq_false (by decide)
theorem mem_names (x : Str) (nms : List Str) : memA (.str x) (dNames nms) = some (.bl (decide (x ∈ nms))) := by
  unfold dNames
  rw [memA_tup (depDL_strs nms)]
  congr 2
  rw [Bool.eq_iff_iff]
  rw [List.any_eq_true, decide_eq_true_iff]
  constructor
  · rintro ⟨d, hd, h⟩
    obtain ⟨z, hz, rfl⟩ := List.mem_map.mp hd
    rw [eqDD_str, decide_eq_true_iff] at h
    rw [← h]
    exact hz
  · intro h
    exact ⟨_, List.mem_map.mpr ⟨x, h, rfl⟩, by simp⟩
section
variable {x : Str} {a b : Say} {c : Bool} {k : Nat}
@[simp] theorem nm_0 : ixD (dS (.nm x)) (.int 0) = some (.str "name") := by rw [dS, ixD_tup, atI_zero]
@[simp] theorem nm_1 : ixD (dS (.nm x)) (.int 1) = some (.str x) := by rw [dS, ixD_tup, atI_one]
@[simp] theorem neg_0 : ixD (dS (.neg a)) (.int 0) = some (.str "not") := by rw [dS, ixD_tup, atI_zero]
@[simp] theorem neg_1 : ixD (dS (.neg a)) (.int 1) = some (dS a) := by rw [dS, ixD_tup, atI_one]
@[simp] theorem two_0 : ixD (dS (.two c a b)) (.int 0) = some (.str (hd2 c)) := by rw [dS, ixD_tup, atI_zero]
@[simp] theorem two_1 : ixD (dS (.two c a b)) (.int 1) = some (dS a) := by rw [dS, ixD_tup, atI_one]
@[simp] theorem two_2 : ixD (dS (.two c a b)) (.int 2) = some (dS b) := by rw [dS, ixD_tup, atI_two]
@[simp] theorem way_0 : ixD (dS (.way c k a)) (.int 0) = some (.str (hdw c)) := by rw [dS, ixD_tup, atI_zero]
@[simp] theorem way_1 : ixD (dS (.way c k a)) (.int 1) = some (.int (k : Int)) := by rw [dS, ixD_tup, atI_one]
@[simp] theorem way_2 : ixD (dS (.way c k a)) (.int 2) = some (dS a) := by rw [dS, ixD_tup, atI_two]
end
end Wl
namespace Lw
open PySem PySem.Spec PyProof.Rows L2 Wy Wl
theorem holds_turns {n : Nat} {Y : List Wd} {s : Say} {c : Bool} {k : Nat} {wv : D} (IH : ∀ v, v < Y.length → M__law_holds n [dYd Y, .int (v : Int), dS s] = .ok (.bl (sat Y s v))) : ∀ (r : List Nat) (x : Sl), (∀ v ∈ r, v < Y.length) →
    ∃ y, sTurns (gName' 3) (L__law_holds_1 (M__law_holds n)) (r.map fun (v : Nat) => D.int (v : Int)) [.val (dYd Y), .val wv, .val (dS (.way c k s)), x] =
      if (r.all fun v => sat Y s v == c) = true then .nx [.val (dYd Y), .val wv, .val (dS (.way c k s)), y] else .rt (.bl !c)
  | [], x, _ => ⟨x, rfl⟩
  | v :: r, x, h => by
    have hv := IH v (h v List.mem_cons_self)
    obtain ⟨y, hy⟩ := holds_turns (c := c) (k := k) (wv := wv) IH r (.val (.int (v : Int))) (fun u hu => h u (List.mem_cons_of_mem _ hu))
    refine ⟨y, ?_⟩
    have hL : L__law_holds_1 (M__law_holds n) [.val (dYd Y), .val wv, .val (dS (.way c k s)), .val (.int (v : Int))] = if (sat Y s v == c) = true then .nx [.val (dYd Y), .val wv, .val (dS (.way c k s)), .val (.int (v : Int))] else .rt (.bl !c) := by
      cases hs : sat Y s v <;> cases c <;> simp [L__law_holds_1, hv, hs, hdw]
    rw [List.map_cons]
    unfold sTurns
    rw [gName_eq]
    dsimp only [List.set]
    rw [hL, List.all_cons]
    by_cases hs : (sat Y s v == c) = true
    · rw [if_pos hs, hs]
      exact hy
    · rw [if_neg hs, (Bool.not_eq_true _).mp hs]
      rfl
theorem m_holds {Y : List Wd} (hY : YOk Y) : ∀ (n : Nat) (s : Say) (w : Nat), depS s < n → okS s = true → w < Y.length → M__law_holds n [dYd Y, .int (w : Int), dS s] = .ok (.bl (sat Y s w))
  | 0, _, _, h, _, _ => absurd h (Nat.not_lt_zero _)
  | n + 1, .nm x, w, _, _, hw => by
    simp [M__law_holds, B__law_holds, begin_, yd_at (wdAt_get hw), mem_names, sat]
  | n + 1, .neg a, w, h, ho, hw => by
    have ih := m_holds hY n a w (Nat.lt_of_succ_lt_succ h) ho hw
    simp [M__law_holds, B__law_holds, begin_, ih, sat]
  | n + 1, .two c a b, w, h, ho, hw => by
    simp only [depS, okS, Bool.and_eq_true] at h ho
    have ih1 := m_holds hY n a w (by omega) ho.1 hw
    have ih2 := m_holds hY n b w (by omega) ho.2 hw
    cases c <;> cases h1 : sat Y a w <;> simp [M__law_holds, B__law_holds, begin_, ih1, ih2, sat, hd2, h1]
  | n + 1, .way c k a, w, h, ho, hw => by
    simp only [depS, okS, Bool.and_eq_true, decide_eq_true_iff] at h ho
    obtain ⟨y, hy⟩ := holds_turns (c := c) (k := k) (wv := .int (w : Int)) (fun v hv => m_holds hY n a v (by omega) ho.2 hv) (rowAt Y w k) .un (rowAt_there hY hw)
    have e1 := ways_at hY hw ho.1
    have key : ((rowAt Y w k).all fun v => sat Y a v == c) = true ↔ sat Y (.way c k a) w = c := by
      cases c
      · simp [sat]
      · simp [sat]
    by_cases hh : ((rowAt Y w k).all fun v => sat Y a v == c) = true
    · rw [if_pos hh] at hy
      have e2 := key.mp hh
      cases c <;> simp [M__law_holds, B__law_holds, begin_, yd_at (wdAt_get hw), e1, hy, e2, hdw] <;> simp [hdw] at hy
    · rw [if_neg hh] at hy
      have e2 : sat Y (.way c k a) w = !c := by
        cases hq : sat Y (.way c k a) w <;> cases c <;> simp_all
      cases c <;> simp [M__law_holds, B__law_holds, begin_, yd_at (wdAt_get hw), e1, hy, e2, hdw]
end Lw

namespace Wl
open PySem PySem.Spec PyProof.Rows L2 Wy
theorem lawYd_len (ns : List Int) (k : Nat) (own : Int) : (lawYd ns k own).length = yCount ns k := by simp [lawYd]
theorem lawYd_ok (ns : List Int) (k : Nat) (own : Int) : YOk (lawYd ns k own) where
  three := fun w hw => by
    obtain ⟨j, _, rfl⟩ := List.mem_map.mp hw
    simp [lawWd]
  there := fun w hw r hr v hv => by
    obtain ⟨j, _, rfl⟩ := List.mem_map.mp hw
    obtain ⟨q, _, rfl⟩ := List.mem_map.mp hr
    rw [lawYd_len]
    exact List.mem_range.mp (List.mem_filter.mp hv).1
  rise := fun w hw r hr => by
    obtain ⟨j, _, rfl⟩ := List.mem_map.mp hw
    obtain ⟨q, _, rfl⟩ := List.mem_map.mp hr
    exact List.Pairwise.filter _ List.pairwise_lt_range
  names := fun w hw => by
    obtain ⟨j, _, rfl⟩ := List.mem_map.mp hw
    exact List.Sublist.map (·.2) (List.filter_sublist (l := ([(0, "a"), (1, "b"), (2, "zz")] : List (Nat × Str))))
  pos := by rw [lawYd_len]; exact (yCount_le ns k).1
theorem turns_keep {g : D → Ga → Option Ga} {T : Ga → RS} (P : Ga → Prop) (ds : List D) (Γ : Ga) (h : ∀ d Γ, d ∈ ds → P Γ → ∃ Γ1 Γ', g d Γ = some Γ1 ∧ (T Γ1 = .nx Γ' ∨ T Γ1 = .ct Γ') ∧ P Γ') (h0 : P Γ) : ∃ Γ', sTurns g T ds Γ = .nx Γ' ∧ P Γ' :=
  turns_st (fun (_ : Unit) Γ => P Γ) (fun _ _ => ()) ds () Γ (fun _ d Γ hd hp => h d Γ hd hp) h0
theorem cut_int {ns : List Int} {l h : Option Int} {d : D} (hd : d ∈ cut (ns.map D.int) l h) : ∃ c : Int, d = .int c := by
  unfold cut at hd
  have := List.mem_of_mem_drop (List.mem_of_mem_take hd)
  obtain ⟨c, _, rfl⟩ := List.mem_map.mp this
  exact ⟨c, rfl⟩
end Wl


namespace Wl
open PySem PySem.Spec PyProof.Rows L2 Wy
mutual
def pl : Say → Say
  | .nm x => .nm x
  | .neg a => dn a
  | .two c a b => .two c (pl a) (pl b)
  | .way c k a => .way c k (pl a)
def dn : Say → Say
  | .nm x => .neg (.nm x)
  | .neg a => pl a
  | .two c a b => .two (!c) (dn a) (dn b)
  | .way c k a => .way (!c) k (dn a)
end
def isPl : Say → Bool
  | .nm _ => true
  | .neg (.nm _) => true
  | .neg _ => false
  | .two _ a b => isPl a && isPl b
  | .way _ _ a => isPl a
def deepS : Say → Nat
  | .nm _ => 0
  | .neg a => deepS a
  | .two _ a b => max (deepS a) (deepS b)
  | .way _ _ a => deepS a + 1
mutual
theorem pl_isPl : ∀ s, isPl (pl s) = true
  | .nm x => by simp [pl, isPl]
  | .neg a => by rw [pl]; exact dn_isPl a
  | .two c a b => by rw [pl, isPl, pl_isPl a, pl_isPl b]; rfl
  | .way c k a => by rw [pl, isPl]; exact pl_isPl a
theorem dn_isPl : ∀ s, isPl (dn s) = true
  | .nm x => by simp [dn, isPl]
  | .neg a => by rw [dn]; exact pl_isPl a
  | .two c a b => by rw [dn, isPl, dn_isPl a, dn_isPl b]; rfl
  | .way c k a => by rw [dn, isPl]; exact dn_isPl a
end
theorem isPl_pl : ∀ s, isPl s = true → pl s = s
  | .nm x, _ => by rw [pl]
  | .neg (.nm x), _ => by rw [pl, dn]
  | .neg (.neg _), h => by simp [isPl] at h
  | .neg (.two _ _ _), h => by simp [isPl] at h
  | .neg (.way _ _ _), h => by simp [isPl] at h
  | .two c a b, h => by
    rw [isPl, Bool.and_eq_true] at h
    rw [pl, isPl_pl a h.1, isPl_pl b h.2]
  | .way c k a, h => by
    rw [isPl] at h
    rw [pl, isPl_pl a h]
mutual
theorem pl_deep : ∀ s, deepS (pl s) = deepS s
  | .nm x => by rw [pl]
  | .neg a => by rw [pl, deepS]; exact dn_deep a
  | .two c a b => by rw [pl, deepS, deepS, pl_deep a, pl_deep b]
  | .way c k a => by rw [pl, deepS, deepS, pl_deep a]
theorem dn_deep : ∀ s, deepS (dn s) = deepS s
  | .nm x => by simp [dn, deepS]
  | .neg a => by rw [dn, deepS]; exact pl_deep a
  | .two c a b => by rw [dn, deepS, deepS, dn_deep a, dn_deep b]
  | .way c k a => by rw [dn, deepS, deepS, dn_deep a]
end
mutual
theorem pl_ok : ∀ s, okS (pl s) = okS s
  | .nm x => by rw [pl]
  | .neg a => by rw [pl, okS]; exact dn_ok a
  | .two c a b => by rw [pl, okS, okS, pl_ok a, pl_ok b]
  | .way c k a => by rw [pl, okS, okS, pl_ok a]
theorem dn_ok : ∀ s, okS (dn s) = okS s
  | .nm x => by simp [dn, okS]
  | .neg a => by rw [dn, okS]; exact pl_ok a
  | .two c a b => by rw [dn, okS, okS, dn_ok a, dn_ok b]
  | .way c k a => by rw [dn, okS, okS, dn_ok a]
end
mutual
theorem pl_dep : ∀ s, depS (pl s) ≤ depS s
  | .nm x => by rw [pl]; exact Nat.le_refl _
  | .neg a => by rw [pl, depS]; exact dn_dep a
  | .two c a b => by have h1 := pl_dep a; have h2 := pl_dep b; rw [pl, depS, depS]; omega
  | .way c k a => by have h1 := pl_dep a; rw [pl, depS, depS]; omega
theorem dn_dep : ∀ s, depS (dn s) ≤ depS s + 1
  | .nm x => by simp [dn, depS]
  | .neg a => by have h1 := pl_dep a; rw [dn, depS]; omega
  | .two c a b => by have h1 := dn_dep a; have h2 := dn_dep b; rw [dn, depS, depS]; omega
  | .way c k a => by have h1 := dn_dep a; rw [dn, depS, depS]; omega
end
mutual
theorem pl_sat (Y : List Wd) : ∀ s w, sat Y (pl s) w = sat Y s w
  | .nm x, w => by rw [pl]
  | .neg a, w => by rw [pl, sat]; exact dn_sat Y a w
  | .two c a b, w => by rw [pl, sat, sat, pl_sat Y a, pl_sat Y b]
  | .way c k a, w => by rw [pl, sat, sat, show sat Y (pl a) = sat Y a from funext (pl_sat Y a)]
theorem dn_sat (Y : List Wd) : ∀ s w, sat Y (dn s) w = !sat Y s w
  | .nm x, w => by rw [dn, sat.eq_2]
  | .neg a, w => by rw [dn, sat, pl_sat Y a, Bool.not_not]
  | .two c a b, w => by rw [dn, sat, sat, dn_sat Y a, dn_sat Y b]; cases c <;> simp
  | .way c k a, w => by
    rw [dn, sat, sat, show sat Y (dn a) = fun v => !sat Y a v from funext (dn_sat Y a)]
    cases c
    · simp only [Bool.not_false, if_true, Bool.false_eq_true, if_false]
      rw [List.not_any_eq_all_not]
    · simp only [Bool.not_true, if_true, Bool.false_eq_true, if_false]
      rw [List.not_all_eq_any_not]
end
mutual
theorem dn_dn : ∀ s, dn (dn s) = pl s
  | .nm x => by simp [dn, pl]
  | .neg a => by rw [dn, pl]; exact dn_pl a
  | .two c a b => by rw [dn, dn, pl, dn_dn a, dn_dn b, Bool.not_not]
  | .way c k a => by rw [dn, dn, pl, dn_dn a, Bool.not_not]
theorem dn_pl : ∀ s, dn (pl s) = dn s
  | .nm x => by rw [pl]
  | .neg a => by rw [pl, dn]; exact dn_dn a
  | .two c a b => by rw [pl, dn, dn, dn_pl a, dn_pl b]
  | .way c k a => by rw [pl, dn, dn, dn_pl a]
end
theorem dS_dep : ∀ s, depD (dS s) ≤ depS s + 1
  | .nm x => by simp [dS, depD, depDL, depS]
  | .neg a => by have h := dS_dep a; simp [dS, depD, depDL, depS]; omega
  | .two c a b => by have h := dS_dep a; have h2 := dS_dep b; simp [dS, depD, depDL, depS]; omega
  | .way c k a => by have h := dS_dep a; simp [dS, depD, depDL, depS]; omega
theorem neD_self {s t : Say} (h : depS s ≤ 90) (e : s = t) : neD (dS s) (dS t) = some (.bl false) := by
  subst e
  rw [neD_of (by have := dS_dep s; omega), eqDD_refl]
  rfl
end Wl


namespace Wl
open PySem PySem.Spec PyProof.Rows L2 Wy
theorem str_ext {a b : Str} (h : a.cps.toList = b.cps.toList) : a = b := by
  cases a with
  | mk x =>
    cases b with
    | mk y =>
      congr 1
      exact Array.toList_inj.mp h
theorem cps_app (a b : Str) : (a ++ b).cps.toList = a.cps.toList ++ b.cps.toList := by
  show (a.cps ++ b.cps).toList = _
  simp
def gl : List (List Nat) → List Nat
  | [] => []
  | [x] => x
  | x :: y :: r => x ++ 32 :: gl (y :: r)
abbrev blank : Str := " "
theorem blank_cps : blank.cps.toList = [32] := by decide
theorem join_gl : ∀ ws : List Str, (Txt.join blank ws).cps.toList = gl (ws.map fun w => w.cps.toList) := by
  intro ws
  rw [show Txt.join blank ws = blank.join ws from StrLaws.glued_eq_join _ _]
  induction ws with
  | nil => rfl
  | cons w ws ih =>
    cases ws with
    | nil => rw [join_one]; rfl
    | cons v r =>
      rw [join_cons_cons, cps_app, cps_app, ih, blank_cps]
      simp [gl]
def kt (k : Nat) : Str := Str.ofString (toString (k : Int))
def words : Say → List Str
  | .nm x => [x]
  | .neg a => "not" :: words a
  | .two c a b => hd2 c :: (words a ++ words b)
  | .way c k a => hdw c :: kt k :: words a
def txt : Say → Str
  | .nm x => x
  | .neg a => "not " ++ txt a
  | .two c a b => hd2 c ++ " " ++ txt a ++ " " ++ txt b
  | .way c k a => hdw c ++ " " ++ kt k ++ " " ++ txt a
theorem words_ne : ∀ s, words s ≠ []
  | .nm x => by simp [words]
  | .neg a => by simp [words]
  | .two c a b => by simp [words]
  | .way c k a => by simp [words]
theorem gl_cons {x : List Nat} {r : List (List Nat)} (h : r ≠ []) : gl (x :: r) = x ++ 32 :: gl r := by
  cases r with
  | nil => exact absurd rfl h
  | cons y r => rfl
theorem gl_app : ∀ {xs ys : List (List Nat)}, xs ≠ [] → ys ≠ [] → gl (xs ++ ys) = gl xs ++ 32 :: gl ys
  | [], _, h, _ => absurd rfl h
  | [x], ys, _, h => by rw [List.singleton_append, gl_cons h]; rfl
  | x :: y :: r, ys, _, h => by
    rw [List.cons_append, gl_cons (by simp), gl_app (xs := y :: r) (List.cons_ne_nil _ _) h]
    simp [gl]
theorem txt_gl : ∀ s, (txt s).cps.toList = gl ((words s).map fun w => w.cps.toList)
  | .nm x => by simp [txt, words, gl]
  | .neg a => by
    have h : ((words a).map fun w => w.cps.toList) ≠ [] := by simpa using words_ne a
    rw [txt, words, cps_app, txt_gl a, List.map_cons, gl_cons h]
    rw [show ("not " : Str).cps.toList = ("not" : Str).cps.toList ++ [32] by decide]
    simp
  | .two c a b => by
    have h1 : ((words a).map fun w => w.cps.toList) ≠ [] := by simpa using words_ne a
    have h2 : ((words b).map fun w => w.cps.toList) ≠ [] := by simpa using words_ne b
    rw [txt, words, cps_app, cps_app, cps_app, cps_app, txt_gl a, txt_gl b, List.map_cons, List.map_append, gl_cons (by simp [h1]), gl_app h1 h2]
    rw [show (Str.ofString " ").cps.toList = [32] from blank_cps]
    simp
  | .way c k a => by
    have h1 : ((words a).map fun w => w.cps.toList) ≠ [] := by simpa using words_ne a
    rw [txt, words, cps_app, cps_app, cps_app, cps_app, txt_gl a, List.map_cons, List.map_cons, gl_cons (by simp), gl_cons h1]
    rw [show (Str.ofString " ").cps.toList = [32] from blank_cps]
    simp
theorem join_words (s : Say) : Txt.join blank (words s) = txt s := str_ext (by rw [join_gl, txt_gl])
theorem kt_lt {k : Nat} (h : k < 3) : kt k = (["0", "1", "2"] : List Str).getD k "" := by
  match k, h with
  | 0, _ => decide
  | 1, _ => decide
  | 2, _ => decide
theorem txt_len : ∀ s, okS s = true → (txt s).length + 8 ≤ 16 * 2 ^ depS s
  | .nm x, h => by
    rw [okS, decide_eq_true_iff] at h
    simp only [List.mem_cons, List.not_mem_nil, or_false] at h
    rcases h with rfl | rfl | rfl <;> decide
  | .neg a, h => by
    rw [okS] at h
    have ih := txt_len a h
    rw [txt, Str.length_append, depS, Nat.pow_succ, show ("not " : Str).length = 4 by decide]
    omega
  | .two c a b, h => by
    rw [okS, Bool.and_eq_true] at h
    have h1 := txt_len a h.1
    have h2 := txt_len b h.2
    have p1 : 2 ^ depS a ≤ 2 ^ max (depS a) (depS b) := Nat.pow_le_pow_right (by decide) (Nat.le_max_left _ _)
    have p2 : 2 ^ depS b ≤ 2 ^ max (depS a) (depS b) := Nat.pow_le_pow_right (by decide) (Nat.le_max_right _ _)
    have hc : (hd2 c).length ≤ 3 := by cases c <;> decide
    rw [txt, Str.length_append, Str.length_append, Str.length_append, Str.length_append, depS, Nat.pow_succ, show (Str.ofString " ").length = 1 by decide]
    omega
  | .way c k a, h => by
    rw [okS, Bool.and_eq_true, decide_eq_true_iff] at h
    have h1 := txt_len a h.2
    have hc : (hdw c).length ≤ 4 := by cases c <;> decide
    have hk : (kt k).length = 1 := by
      rw [kt_lt h.1]
      match k, h.1 with
      | 0, _ => decide
      | 1, _ => decide
      | 2, _ => decide
    rw [txt, Str.length_append, Str.length_append, Str.length_append, Str.length_append, depS, Nat.pow_succ, show (Str.ofString " ").length = 1 by decide, hk]
    omega
end Wl


namespace Wl
open PySem PySem.Spec PyProof.Rows L2 Wy
def kept : List Str := ["not", "and", "or", "all", "some"]
def isNm (x : Str) : Bool := decide (1 ≤ x.length) && decide (x.length ≤ 4) && x.cps.toList.all (fun c => decide (97 ≤ c) && decide (c ≤ 122)) && decide (x ∉ kept)
def okG : Say → Bool
  | .nm x => isNm x
  | .neg a => okG a
  | .two _ a b => okG a && okG b
  | .way _ k a => decide (k < 3) && okG a
theorem okS_okG : ∀ s, okS s = true → okG s = true
  | .nm x, h => by
    rw [okS, decide_eq_true_iff] at h
    simp only [List.mem_cons, List.not_mem_nil, or_false] at h
    rcases h with rfl | rfl | rfl <;> decide
  | .neg a, h => okS_okG a h
  | .two _ a b, h => by
    rw [okS, Bool.and_eq_true] at h
    rw [okG, okS_okG a h.1, okS_okG b h.2]
    rfl
  | .way _ k a, h => by
    rw [okS, Bool.and_eq_true] at h
    rw [okG, h.1, okS_okG a h.2]
    rfl
end Wl


namespace Wl
open PySem PySem.Spec PyProof.Rows L2 Wy
def asc (x : Str) : Prop := ∀ c ∈ x.cps.toList, c < 128
def W (ws : List Str) : Nat := (ws.map (·.length)).sum + ws.length
theorem gl_len : ∀ {l : List (List Nat)}, l ≠ [] → (gl l).length + 1 = (l.map List.length).sum + l.length
  | [], h => absurd rfl h
  | [x], _ => by simp [gl]
  | x :: y :: r, _ => by
    have ih := gl_len (l := y :: r) (List.cons_ne_nil _ _)
    simp only [gl, List.length_append, List.length_cons, List.map_cons, List.sum_cons] at ih ⊢
    omega
theorem W_gl (ws : List Str) : ((ws.map fun w => w.cps.toList).map List.length).sum + (ws.map fun w => w.cps.toList).length = W ws := by
  unfold W
  rw [List.map_map, List.length_map]
  rfl
theorem join_len {ws : List Str} (h : ws ≠ []) : (Txt.join blank ws).length + 1 = W ws := by
  rw [← W_gl, ← gl_len (by simpa using h), ← join_gl]
  rfl
theorem len_W (ws : List Str) : ws.length ≤ W ws := by unfold W; omega
end Wl


namespace L06
open PySem PySem.Spec PyProof.Rows L2 Wy Wl Lw
abbrev N__law_whole : List Str := ["_law_found"]
def B__law_whole : Ga → RS := (sRet (eAnd (eIsi gInt (eV 0)) (eNot (eIsi gBool (eV 0)))))
def M__law_whole : List D → R D := fun ds => callR N__law_whole (B__law_whole) ds
abbrev N__law_is_plain : List Str := ["_law_saying_here"]
def B__law_is_plain (M__law_is_plain : List D → R D) : Ga → RS := (sSeq (sIf (tB (e2 eqD (e2 ixD (eV 0) (eC (.int 0))) (eC (.str "name")))) (sRet (eC (.bl true))) sNext) (sSeq (sIf (tB (e2 eqD (e2 ixD (eV 0) (eC (.int 0))) (eC (.str "not")))) (sRet (e2 eqD (e2 ixD (e2 ixD (eV 0) (eC (.int 1))) (eC (.int 0))) (eC (.str "name")))) sNext) (sSeq (sIf (tB (e2 memA (e2 ixD (eV 0) (eC (.int 0))) (eO (aCons (eC (.str "all")) (aCons (eC (.str "some")) aNil))))) (sRet (eCall M__law_is_plain (aCons (e2 ixD (eV 0) (eC (.int 2))) aNil))) sNext) (sRet (eAnd (eCall M__law_is_plain (aCons (e2 ixD (eV 0) (eC (.int 1))) aNil)) (eCall M__law_is_plain (aCons (e2 ixD (eV 0) (eC (.int 2))) aNil)))))))
def M__law_is_plain : Nat → List D → R D
  | 0, _ => .no
  | n + 1, ds => callR N__law_is_plain (B__law_is_plain (M__law_is_plain n)) ds
abbrev N__law_deep : List Str := ["_law_saying_here"]
def B__law_deep (M__law_deep : List D → R D) : Ga → RS := (sSeq (sIf (tB (e2 eqD (e2 ixD (eV 0) (eC (.int 0))) (eC (.str "name")))) (sRet (eC (.int 0))) sNext) (sSeq (sIf (tB (e2 memA (e2 ixD (eV 0) (eC (.int 0))) (eO (aCons (eC (.str "all")) (aCons (eC (.str "some")) aNil))))) (sRet (e2 addD (eC (.int 1)) (eCall M__law_deep (aCons (e2 ixD (eV 0) (eC (.int 2))) aNil)))) sNext) (sRet (eS maxS (sO (cpR (iT (eSlA (eV 0) (oI (eC (.int 1))) oN)) cTrue (eCall M__law_deep (aCons (eV 0) aNil))))))))
def M__law_deep : Nat → List D → R D
  | 0, _ => .no
  | n + 1, ds => callR N__law_deep (B__law_deep (M__law_deep n)) ds
abbrev N_law : List Str := ["_law_script", "_law_yard_here", "_law_cell_here", "_law_saying_here", "_law_one", "_law_other", "_law_world", "_law_due"]
def L_law_2 (M__law_holds : List D → R D) : Ga → RS := (sSeq (sSet 7 (eCall M__law_holds (aCons (eV 1) (aCons (eV 6) (aCons (eV 3) aNil))))) (sIf (tOrR (tB (e2 neD (eCall M__law_holds (aCons (eV 1) (aCons (eV 6) (aCons (eV 4) aNil)))) (eV 7))) (tB (e2 eqD (eCall M__law_holds (aCons (eV 1) (aCons (eV 6) (aCons (eV 5) aNil)))) (eV 7)))) (sRet (eC (.bl false))) sNext))
def L_law_1 (M__law_saying : List D → R D) (M_plain : List D → R D) (M_denied : List D → R D) (M_is_saying : List D → R D) (M__law_is_plain : List D → R D) (M__law_whole : List D → R D) (M_deep : List D → R D) (M__law_deep : List D → R D) (M__law_holds : List D → R D) : Ga → RS := (sSeq (sSet 3 (eCall M__law_saying (aCons (eV 2) (aCons (eC (.int 4)) aNil)))) (sSeq (sSet 4 (eCall M_plain (aCons (eV 3) aNil))) (sSeq (sSet 5 (eCall M_denied (aCons (eV 3) aNil))) (sSeq (sIf (tOrR (tB (e2 isnotA (eCall M_is_saying (aCons (eV 4) aNil)) (eC (.bl true)))) (tB (e2 isnotA (eCall M_is_saying (aCons (eV 5) aNil)) (eC (.bl true))))) (sRet (eC (.bl false))) sNext) (sSeq (sIf (tOrR (tNotR (tTru (eCall M__law_is_plain (aCons (eV 4) aNil)))) (tNotR (tTru (eCall M__law_is_plain (aCons (eV 5) aNil))))) (sRet (eC (.bl false))) sNext) (sSeq (sIf (tOrR (tB (e2 neD (eCall M_plain (aCons (eV 4) aNil)) (eV 4))) (tOrR (tB (e2 neD (eCall M_denied (aCons (eV 5) aNil)) (eV 4))) (tB (e2 neD (eCall M_plain (aCons (eTup (aCons (eC (.str "not")) (aCons (eV 3) aNil))) aNil)) (eV 5))))) (sRet (eC (.bl false))) sNext) (sSeq (sIf (tOrR (tNotR (tTru (eCall M__law_whole (aCons (eCall M_deep (aCons (eV 3) aNil)) aNil)))) (tB (e2 neD (eCall M_deep (aCons (eV 3) aNil)) (eCall M__law_deep (aCons (eV 3) aNil))))) (sRet (eC (.bl false))) sNext) (sSeq (sIf (tOrR (tB (e2 neD (eCall M_deep (aCons (eV 4) aNil)) (eCall M_deep (aCons (eV 3) aNil)))) (tB (e2 neD (eCall M_deep (aCons (eV 5) aNil)) (eCall M_deep (aCons (eV 3) aNil))))) (sRet (eC (.bl false))) sNext) (sFor (iR1 (aCons (eB lenD (aCons (eV 1) aNil)) aNil)) (gName' 6) (L_law_2 M__law_holds))))))))))
def B_law (M__law_yard : List D → R D) (M__law_cell : List D → R D) (M__law_saying : List D → R D) (M_plain : List D → R D) (M_denied : List D → R D) (M_is_saying : List D → R D) (M__law_is_plain : List D → R D) (M_deep : List D → R D) (M__law_deep : List D → R D) (M__law_whole : List D → R D) (M__law_holds : List D → R D) : Ga → RS := (sSeq (sSet 1 (eCall M__law_yard (aCons (eV 0) (aCons (eC (.int 0)) (aCons (e2 (int2 modI) (eCall M__law_cell (aCons (eV 0) (aCons (eC (.int 8)) aNil))) (eC (.int 2))) aNil))))) (sSeq (sFor (iL (eO (oSl (sV 0) (oI (eC (.int 9))) (oI (eC (.int 15)))))) (gName' 2) (L_law_1 M__law_saying M_plain M_denied M_is_saying M__law_is_plain M__law_whole M_deep M__law_deep M__law_holds)) (sRet (eC (.bl true)))))
end L06


namespace L06
open PySem PySem.Spec PyProof.Rows L2 Wy Wl Lw
structure Spec (Mp Md Mi Me : List D → R D) : Prop where
  plain : ∀ s, okS s = true → depS s ≤ 5 → Mp [dS s] = .ok (dS (pl s))
  denied : ∀ s, okS s = true → depS s ≤ 5 → Md [dS s] = .ok (dS (dn s))
  saying : ∀ s, okS s = true → depS s ≤ 5 → Mi [dS s] = .ok (.bl true)
  deep : ∀ s, okS s = true → depS s ≤ 5 → Me [dS s] = .ok (.int (deepS s : Int))
theorem m_whole (i : Int) : M__law_whole [.int i] = .ok (.bl true) := by
  simp [M__law_whole, B__law_whole, begin_, gInt, gBool]
theorem mem_aw (c : Bool) : memA (.str (hdw c)) (.lst [.str "all", .str "some"]) = some (.bl true) := by
  rw [memA_lst (by simp [depDL])]
  cases c <;> simp [hdw]
theorem mem_a2 (c : Bool) : memA (.str (hd2 c)) (.lst [.str "all", .str "some"]) = some (.bl false) := by
  rw [memA_lst (by simp [depDL])]
  cases c <;> simp [hd2]
theorem mem_an : memA (.str "not") (.lst [.str "all", .str "some"]) = some (.bl false) := by
  rw [memA_lst (by simp [depDL])]
  simp
@[simp] theorem hd2_name (c : Bool) : (hd2 c = Str.ofString "name") = False := by cases c <;> simp [hd2]
@[simp] theorem hd2_not (c : Bool) : (hd2 c = Str.ofString "not") = False := by cases c <;> simp [hd2]
@[simp] theorem hdw_name (c : Bool) : (hdw c = Str.ofString "name") = False := by cases c <;> simp [hdw]
@[simp] theorem hdw_not (c : Bool) : (hdw c = Str.ofString "not") = False := by cases c <;> simp [hdw]
theorem m_isPl : ∀ (n : Nat) (s : Say), depS s < n → M__law_is_plain n [dS s] = .ok (.bl (isPl s))
  | 0, _, h => absurd h (Nat.not_lt_zero _)
  | n + 1, .nm x, _ => by simp [M__law_is_plain, B__law_is_plain, begin_, isPl]
  | n + 1, .neg (.nm x), h => by simp [M__law_is_plain, B__law_is_plain, begin_, isPl]
  | n + 1, .neg (.neg x), h => by simp [M__law_is_plain, B__law_is_plain, begin_, isPl]
  | n + 1, .neg (.two _ _ _), h => by simp [M__law_is_plain, B__law_is_plain, begin_, isPl]
  | n + 1, .neg (.way _ _ _), h => by simp [M__law_is_plain, B__law_is_plain, begin_, isPl]
  | n + 1, .two c a b, h => by
    simp only [depS] at h
    have h1 := m_isPl n a (by omega)
    have h2 := m_isPl n b (by omega)
    cases hp : isPl a <;> simp [M__law_is_plain, B__law_is_plain, begin_, isPl, h1, h2, mem_a2, hp]
  | n + 1, .way c k a, h => by
    simp only [depS] at h
    have h1 := m_isPl n a (by omega)
    simp [M__law_is_plain, B__law_is_plain, begin_, isPl, h1, mem_aw]
theorem m_deep : ∀ (n : Nat) (s : Say), depS s < n → M__law_deep n [dS s] = .ok (.int (deepS s : Int))
  | 0, _, h => absurd h (Nat.not_lt_zero _)
  | n + 1, .nm x, _ => by simp [M__law_deep, B__law_deep, begin_, deepS]
  | n + 1, .neg a, h => by
    simp only [depS] at h
    have h1 := m_deep n a (by omega)
    have e1 : slA (dS (.neg a)) (some 1) none = some (.tup [dS a]) := by rw [dS, slA_tup]; rfl
    have e2 : maxS (false, [.int (deepS a : Int)]) = some (.int (deepS a : Int)) := maxS_eq (ns := [(deepS a : Int)]) rfl
    simp [M__law_deep, B__law_deep, begin_, deepS, mem_an, e1, compR, h1, e2]
  | n + 1, .two c a b, h => by
    simp only [depS] at h
    have h1 := m_deep n a (by omega)
    have h2 := m_deep n b (by omega)
    have e1 : slA (dS (.two c a b)) (some 1) none = some (.tup [dS a, dS b]) := by rw [dS, slA_tup]; rfl
    have e2 : maxS (false, [.int (deepS a : Int), .int (deepS b : Int)]) = some (.int ((max (deepS a) (deepS b) : Nat) : Int)) := maxS_eq (ns := [(deepS a : Int), (deepS b : Int)]) (by simp [mostI]; omega)
    simp [M__law_deep, B__law_deep, begin_, deepS, mem_a2, e1, compR, h1, h2, e2]
  | n + 1, .way c k a, h => by
    simp only [depS] at h
    have h1 := m_deep n a (by omega)
    simp [M__law_deep, B__law_deep, begin_, deepS, mem_aw, h1]
    omega
section
variable {Mp Md Mi Me : List D → R D} (S : Spec Mp Md Mi Me)
include S
theorem turn (ns : List Int) (own c : Int) (x3 x4 x5 x6 x7 : Sl) : ∃ y3 y4 y5 y6 y7, L_law_1 (M__law_saying 6) Mp Md Mi (M__law_is_plain 6) M__law_whole Me (M__law_deep 6) (M__law_holds 6) [.val (dLs ns), .val (dYd (lawYd ns 0 own)), .val (.int c), x3, x4, x5, x6, x7] =
    .nx [.val (dLs ns), .val (dYd (lawYd ns 0 own)), .val (.int c), y3, y4, y5, y6, y7] := by
  have hY := lawYd_ok ns 0 own
  have hl : (lawYd ns 0 own).length ≤ 5 := by rw [lawYd_len]; exact (yCount_le ns 0).2
  generalize lawYd ns 0 own = Y at *
  obtain ⟨ho, hd⟩ := lawS_ok 4 c
  have eSy : M__law_saying 6 [.int c, .int 4] = .ok (dS (lawS 4 c)) := m_saying 6 4 c (by decide)
  generalize lawS 4 c = s at *
  have eR : rng1 [.int (Y.length : Int)] = some ((List.range Y.length).map fun (j : Nat) => D.int (j : Int)) := rng1_nat (by omega)
  have dp := pl_dep s
  have dd := dn_dep s
  have okp : okS (pl s) = true := by rw [pl_ok]; exact ho
  have okd : okS (dn s) = true := by rw [dn_ok]; exact ho
  have a1 := S.plain s ho (by omega)
  have a2 := S.denied s ho (by omega)
  have a3 := S.saying (pl s) okp (by omega)
  have a4 := S.saying (dn s) okd (by omega)
  have a5 := m_isPl 6 (pl s) (by omega)
  have a6 := m_isPl 6 (dn s) (by omega)
  rw [pl_isPl] at a5
  rw [dn_isPl] at a6
  have a7 := S.plain (pl s) okp (by omega)
  have a8 := S.denied (dn s) okd (by omega)
  have a9 : Mp [.tup [.str "not", dS s]] = .ok (dS (dn s)) := by
    have := S.plain (.neg s) ho (by simp only [depS]; omega)
    rw [pl] at this
    exact this
  rw [isPl_pl _ (pl_isPl s)] at a7
  rw [dn_dn] at a8
  have n1 : neD (dS (pl s)) (dS (pl s)) = some (.bl false) := neD_self (by omega) rfl
  have n2 : neD (dS (dn s)) (dS (dn s)) = some (.bl false) := neD_self (by omega) rfl
  have b1 := S.deep s ho (by omega)
  have b2 := S.deep (pl s) okp (by omega)
  have b3 := S.deep (dn s) okd (by omega)
  rw [pl_deep] at b2
  rw [dn_deep] at b3
  have b4 := m_deep 6 s (by omega)
  obtain ⟨Γ', h1, y6, y7, rfl⟩ : ∃ Γ', sTurns (gName' 6) (L_law_2 (M__law_holds 6)) ((List.range Y.length).map fun (j : Nat) => D.int (j : Int)) [.val (dLs ns), .val (dYd Y), .val (.int c), .val (dS s), .val (dS (pl s)), .val (dS (dn s)), x6, x7] = .nx Γ' ∧
      ∃ y6 y7, Γ' = [.val (dLs ns), .val (dYd Y), .val (.int c), .val (dS s), .val (dS (pl s)), .val (dS (dn s)), y6, y7] := by
    refine turns_keep _ _ _ ?_ ⟨x6, x7, rfl⟩
    rintro d Γ hm ⟨y6, y7, rfl⟩
    obtain ⟨w, hw, rfl⟩ := List.mem_map.mp hm
    have hw := List.mem_range.mp hw
    have f1 := m_holds hY 6 s w (by omega) ho hw
    have f2 := m_holds hY 6 (pl s) w (by omega) okp hw
    have f3 := m_holds hY 6 (dn s) w (by omega) okd hw
    rw [pl_sat] at f2
    rw [dn_sat] at f3
    exact ⟨_, [.val (dLs ns), .val (dYd Y), .val (.int c), .val (dS s), .val (dS (pl s)), .val (dS (dn s)), .val (.int (w : Int)), .val (.bl (sat Y s w))], rfl, .inl (by simp [L_law_2, f1, f2, f3]), _, _, rfl⟩
  refine ⟨.val (dS s), .val (dS (pl s)), .val (dS (dn s)), y6, y7, ?_⟩
  simp [L_law_1, eSy, a1, a2, a3, a4, a5, a6, a7, a8, a9, n1, n2, b1, b2, b3, b4, m_whole, eR, h1]
theorem law_ok (ns : List Int) (hn : ns.length ≤ 63) : callR N_law (B_law M__law_yard M__law_cell (M__law_saying 6) Mp Md Mi (M__law_is_plain 6) Me (M__law_deep 6) M__law_whole (M__law_holds 6)) [.lst (ns.map D.int)] = .ok (.bl true) := by
  have e1 : M__law_cell [dLs ns, .int 8] = .ok (.int (cellI ns 8)) := m_cell ns 8
  have e2 : M__law_yard [dLs ns, .int 0, .int (cellI ns 8 % 2)] = .ok (dYd (lawYd ns 0 (cellI ns 8 % 2))) := m_yard ns 0 _
  obtain ⟨Γ', h1, y2, y3, y4, y5, y6, y7, rfl⟩ := turns_keep (g := gName' 2) (T := L_law_1 (M__law_saying 6) Mp Md Mi (M__law_is_plain 6) M__law_whole Me (M__law_deep 6) (M__law_holds 6))
    (fun Γ => ∃ y2 y3 y4 y5 y6 y7, Γ = [.val (dLs ns), .val (dYd (lawYd ns 0 (cellI ns 8 % 2))), y2, y3, y4, y5, y6, y7]) (cut (ns.map D.int) (some 9) (some 15)) [.val (dLs ns), .val (dYd (lawYd ns 0 (cellI ns 8 % 2))), .un, .un, .un, .un, .un, .un] (by
      rintro d Γ hd ⟨y2, y3, y4, y5, y6, y7, rfl⟩
      obtain ⟨c, rfl⟩ := cut_int hd
      obtain ⟨z3, z4, z5, z6, z7, hz⟩ := turn S ns (cellI ns 8 % 2) c y3 y4 y5 y6 y7
      exact ⟨_, _, rfl, .inl hz, _, _, _, _, _, _, rfl⟩) ⟨_, _, _, _, _, _, rfl⟩
  rw [show D.lst (ns.map D.int) = dLs ns from rfl]
  have e3 : oSl (sV 0) (oI (eC (.int 9))) (oI (eC (.int 15))) [.val (dLs ns), .val (dYd (lawYd ns 0 (cellI ns 8 % 2))), .un, .un, .un, .un, .un, .un] = .ok (cut (ns.map D.int) (some 9) (some 15)) := by
    simp [dLs]
  simp [B_law, begin_, e1, e2, -oSl_eq, e3, h1]
end
end L06


namespace Wy
open PySem PySem.Spec PyProof.Rows L2
def deadS : Sl → Sl
  | .own _ => .un
  | .par _ _ => .un
  | x => x
def dead (Γ : Ga) : Ga := Γ.map deadS
section
variable {K : PySem.W.Frag} {H₀ G₀ H G H' G' : Hp} {Γ : Ga} {σ : L2.St}
theorem dead_set {i : Nat} {x : Sl} {ys : List D} (h : Γ[i]? = some x) (hm : x.mu = true) : dead (Γ.set i (x.put ys)) = dead Γ := by
  unfold dead
  rw [List.map_set]
  have e : deadS (x.put ys) = .un := by cases x <;> first | rfl | cases hm
  have e2 : deadS x = .un := by cases x <;> first | rfl | cases hm
  rw [e, ← e2]
  apply List.ext_getElem?
  intro j
  rw [List.getElem?_set]
  split
  · rename_i q
    subst q
    split
    · rw [List.getElem?_map, h]; rfl
    · rename_i q; rw [List.getElem?_map, List.getElem?_eq_none (by simpa using q)]; rfl
  · rfl
end
def exM (K : PySem.W.Frag) (W : XP) (H₀ G₀ : Hp) (Γ : Ga) (σ : L2.St) : Str → Prop := fun c => ∀ H' G', Rep K H₀ G₀ (dead Γ) σ H' G' → W c σ H' G'
def TellsM (K : PySem.W.Frag) (W : XP) (t : TE) (f : Ga → R (D × Ga)) : Prop :=
  ∀ (H₀ G₀ : Hp) (Γ : Ga) (σ : L2.St) (H G : Hp), Rep K H₀ G₀ Γ σ H G → ∀ Q : VK, (f Γ).want (exM K W H₀ G₀ Γ σ) (fun p => ∀ v H' G', Rep K H₀ G₀ p.2 σ H' G' → Same G G' → Den K G' p.1 v → Q v H') → t σ H Q
def EvM (X : Cx) (W : XP) (e : Expr) (f : Ga → R (D × Ga)) : Prop := ∃ t, PE X e t ∧ (∀ Γ p, f Γ = .ok p → dead p.2 = dead Γ) ∧ TellsM X.K W t f
theorem wStepE {α β : Type} {x : R α} {f : α → R β} {E E' : Str → Prop} {P : β → Prop} {P' : α → Prop} (w : (x.bind f).want E P) (he : ∀ c, E c → E' c) (h : ∀ a, x = .ok a → (f a).want E P → P' a) : x.want E' P' := by
  cases x with
  | ok a => exact h a rfl w
  | ex c => exact he c w
  | no => exact w
section
variable {X : Cx} {W : XP} {e : Expr} {es : List Expr} {f : Ga → R D} {fm : Ga → R (D × Ga)} {fl : Ga → R (List D)} {fa : Ga → R (List D × Ga)} {pos pos' apos cpos p : Pos} {x : Str}
def mPop (i : Nat) : Ga → R (D × Ga) := fun Γ => match Γ[i]? with
  | some x => match x.cont with
    | some xs => match xs.getLast? with
      | some d => .ok (d, Γ.set i (x.put xs.dropLast))
      | none => .no
    | none => .no
  | none => .no
theorem em_pop (i : Nat) (hN : X.N[i]? = some x := by rfl) (hv : Vis X.env.scope x := by first | exact Or.inl rfl | exact Or.inr (Or.inl rfl) | exact Or.inr (Or.inr rfl)) (hd : (x == ("__debug__" : Str)) = false := by decide)
    (hcd : (x == ("__classdict__" : Str)) = false := by decide) (hline : (apos.endLine == cpos.line) = true := by rfl)
    (hbase : attributeBase (.Name x pos') "pop" X.env (eval (.Name x pos') X.env) = eval (.Name x pos') X.env := by rfl) :
    EvM X W (.Call (.Attribute (.Name x pos') "pop" apos) [] [] cpos) (mPop i) := by
  refine ⟨_, pe_bm0 PySem.F.plainAttrs_list PySem.F.slot_list_pop PySem.F.type_list_pop mt_pop (pe_var hN hv hd hcd) hbase hline, fun Γ p e' => ?_, fun H₀ G₀ Γ σ H G R Q w => ?_⟩
  · unfold mPop at e'
    split at e'
    · rename_i y hy
      split at e'
      · rename_i xs hx
        split at e'
        · cases e'
          exact dead_set hy (Sl.mu_of hx)
        · cases e'
      · cases e'
    · cases e'
  · unfold mPop at w
    split at w
    · rename_i y hy
      split at w
      · rename_i zs hz
        split at w
        · rename_i d hlast
          obtain ⟨a, vs, s1, s2, s3, s4, s5⟩ := R.mo hy hz
          obtain ⟨xs, rfl⟩ := List.getLast?_eq_some_iff.mp hlast
          rw [List.dropLast_concat] at w
          have hl := s5.length
          rw [List.length_append, List.length_singleton] at hl
          obtain ⟨v, hv1, hv2⟩ := s5.get (i := xs.length) (d := d) (by simp)
          have dl := s5.dropLast
          rw [List.dropLast_concat] at dl
          refine ⟨_, s1, .inl ⟨rfl, vs, SqL.of s2⟩, a, vs, v, rfl, rfl, s2, by rw [← hl]; exact hv1, ?_⟩
          exact w _ _ G (R.mutG hy hz s1 dl) (Same.refl _) hv2
        · exact w.elim
      · exact w.elim
    · exact w.elim
def insA {α : Type} (p : Nat) (x : α) (l : List α) : List α := l.take p ++ x :: l.drop p
theorem insA_length {α : Type} {p : Nat} {x : α} {l : List α} : (insA p x l).length = l.length + 1 := by
  unfold insA
  simp only [List.length_append, List.length_cons, List.length_take, List.length_drop]
  omega
end
def RS.ofM (x : R (D × Ga)) (Γ : Ga) (k : D × Ga → RS) : RS := match x with
  | .ok p => k p
  | .ex c => .ex c (dead Γ)
  | .no => .no
@[simp] theorem RS.ofM_ok (p : D × Ga) (Γ : Ga) (k : D × Ga → RS) : RS.ofM (.ok p) Γ k = k p := nr rfl
theorem wSM {K : PySem.W.Frag} {W : XP} {H₀ G₀ : Hp} {x : R (D × Ga)} {Γ : Ga} {k : D × Ga → RS} {D' : Ends} {σ : L2.St} {P : D × Ga → Prop} (w : Lifts K W H₀ G₀ (RS.ofM x Γ k) D')
    (h : ∀ a, Lifts K W H₀ G₀ (k a) D' → P a) : x.want (exM K W H₀ G₀ Γ σ) P := by
  cases x with
  | ok a => exact h a w
  | ex c => exact fun H' G' R => w σ H' G' R
  | no => exact w.elim
section
variable {X : Cx} {W : XP} {e c : Expr} {fm : Ga → R (D × Ga)} {pos pos' apos cpos : Pos} {x : Str}
def sRetM (fm : Ga → R (D × Ga)) : Ga → RS := fun Γ => .ofM (fm Γ) Γ fun p => .rt p.1
theorem x_retM (h : EvM X W e fm) : ExD X W (.Return (some e) pos) (sRetM fm) := by
  obtain ⟨t, p, _, q⟩ := h
  refine ⟨_, ps_ret p, fun H₀ G₀ Γ σ H G R D w => ?_⟩
  exact q _ _ _ _ _ _ R _ (wSM w fun d w v H' G' R1 g1 d1 => w v H' G' R1.ex d1)
end
section
variable {X : Cx} {W : XP} {st : Stmt} {rest sa sb : List Stmt} {T U : Ga → RM} {S : Ga → RS} {e c : Expr} {fm : Ga → R (D × Ga)} {g : Ga → R Bool} {pos : Pos}
end
def SlL (K : PySem.W.Frag) (H₀ H G : Hp) (Γ : Ga) (σ : L2.St) : Prop := Γ.length = σ.length ∧ ∀ (i : Nat) x, Γ[i]? = some x → SlOk K H₀ H G x σ[i]?
section
variable {K : PySem.W.Frag} {H₀ H G : Hp}
theorem SlL.append {Γ Γ' : Ga} {σ σ' : L2.St} (a : SlL K H₀ H G Γ σ) (b : SlL K H₀ H G Γ' σ') : SlL K H₀ H G (Γ ++ Γ') (σ ++ σ') := by
  refine ⟨by rw [List.length_append, List.length_append, a.1, b.1], fun i x h => ?_⟩
  by_cases hi : i < Γ.length
  · rw [List.getElem?_append_left hi] at h
    rw [List.getElem?_append_left (by rw [← a.1]; exact hi)]
    exact a.2 i x h
  · rw [List.getElem?_append_right (Nat.not_lt.mp hi)] at h
    rw [List.getElem?_append_right (by rw [← a.1]; exact Nat.not_lt.mp hi), ← a.1]
    exact b.2 _ x h
theorem SlL.vals {ds : List D} {us : List V} (l : DenL K G ds us) : SlL K H₀ H G (ds.map Sl.val) (us.map some) := by
  refine ⟨by rw [List.length_map, List.length_map, l.length], fun i x h => ?_⟩
  rw [List.getElem?_map] at h
  obtain ⟨d, e1, e2⟩ := Option.map_eq_some_iff.mp h
  subst e2
  obtain ⟨v, e3, e4⟩ := l.get e1
  exact ⟨v, by rw [List.getElem?_map, e3]; rfl, e4⟩
theorem SlL.uns (n : Nat) : SlL K H₀ H G (List.replicate n .un) (List.replicate n none) := by
  refine ⟨by rw [List.length_replicate, List.length_replicate], fun i x h => ?_⟩
  obtain ⟨_, e⟩ := List.getElem?_eq_some_iff.mp h
  rw [List.getElem_replicate] at e
  subst e
  trivial
theorem SlL.one {x : Sl} {o : Option V} (h : SlOk K H₀ H G x (some o)) : SlL K H₀ H G [x] [o] := by
  refine ⟨rfl, fun i y e => ?_⟩
  cases i with
  | zero => cases e; exact h
  | succ i => cases e
end
def beginX (N : List Str) (p : Nat) (x : Sl) (ds : List D) : Ga := (ds.take p).map Sl.val ++ x :: ((ds.drop p).map Sl.val ++ List.replicate (N.length - (ds.length + 1)) Sl.un)
theorem beginX_mu {N : List Str} {p : Nat} {x y : Sl} {ds : List D} {i : Nat} (h : (beginX N p x ds)[i]? = some y) (hm : y.mu = true) : i = (ds.take p).length := by
  have nv : ∀ l : List D, ∀ z ∈ l.map Sl.val, z.mu = false := fun l z hz => by
    obtain ⟨d, _, rfl⟩ := List.mem_map.mp hz
    rfl
  unfold beginX at h
  by_cases hi : i < (ds.take p).length
  · rw [List.getElem?_append_left (by simpa using hi)] at h
    have := nv _ y (List.mem_of_getElem? h)
    rw [hm] at this; cases this
  · rw [List.getElem?_append_right (by simpa using hi)] at h
    rw [List.length_map] at h
    cases hk : i - (ds.take p).length with
    | zero => omega
    | succ k =>
      rw [hk, List.getElem?_cons_succ] at h
      rcases List.mem_append.mp (List.mem_of_getElem? h) with z | z
      · have := nv _ y z
        rw [hm] at this; cases this
      · rw [List.eq_of_mem_replicate z] at hm; cases hm
theorem rep_beginX {K : PySem.W.Frag} {H₀ H G : Hp} {N : List Str} {p : Nat} {x : Sl} {ds : List D} {us : List V} {v : V} (ex : Ext H₀ G H G) (l : DenL K G ds us) (h : SlOk K H₀ H G x (some (some v))) : Rep K H₀ G (beginX N p x ds) (L2.start N (insA p v us)) H G := by
  have e : L2.start N (insA p v us) = (us.take p).map some ++ (some v :: ((us.drop p).map some ++ List.replicate (N.length - (us.length + 1)) none)) := by
    unfold L2.start
    rw [insA_length]
    unfold insA
    simp
  rw [e, ← l.length]
  have s := (SlL.vals (H₀ := H₀) (H := H) (l.take p)).append ((SlL.one h).append ((SlL.vals (H₀ := H₀) (H := H) (l.drop p)).append (SlL.uns (H₀ := H₀) (H := H) (K := K) (G := G) (N.length - (ds.length + 1)))))
  exact ⟨ex, s.1, s.2, fun i j y z a h1 h2 m1 m2 _ _ => (beginX_mu h1 m1).trans (beginX_mu h2 m2).symm⟩
noncomputable def par0 {α : Type} (g : Addr → R α) : R α := open Classical in if ∀ a, g a = g 0 then g 0 else .no
theorem par0_eq {α : Type} {g : Addr → R α} {r : R α} (h : ∀ a, g a = r) : par0 g = r := by
  unfold par0
  rw [if_pos fun a => (h a).trans (h 0).symm]
  exact h 0
theorem par0_want {α : Type} {g : Addr → R α} {E : Str → Prop} {P : α → Prop} (w : (par0 g).want E P) (a : Addr) : (g a).want E P := by
  unfold par0 at w
  split at w
  · rename_i h; rw [h a]; exact w
  · exact w.elim
section
variable {P : Program} {w : World} {K : PySem.W.Frag} {mg : Str → Option Value} {base : Heap}
def spN (K : PySem.W.Frag) (n p : Nat) (fa : Addr) (F : List D → R D) : Sp := fun vs H Q E => ∃ (G : Hp) (ds : List D) (us : List V), vs = insA p (.ref fa) us ∧ Same G H ∧ DenL K G ds us ∧ ds.length + 1 = n ∧
  (F ds).want (fun c => ∀ cls dx H' G', ClsIs K c cls → Ext H G H' G' → E cls dx H') (fun d => ∀ v H' G', Ext H G H' G' → Den K G' d v → Q v H')
def callN (N : List Str) (p : Nat) (S : Ga → RS) (fa : Addr) (ds : List D) : R D := match S (beginX N p (.fn fa) ds) with
  | .rt d => .ok d
  | .nx _ => .ok .non
  | .ex c _ => .ex c
  | _ => .no
theorem fn_N1 {x qual : Str} {st : Stmt} {f fa : Addr} {fd : FuncData} {N ps : List Str} {k p : Nat} {S : Ga → RS} (Fn : Fun K x qual st f fd) (Sc : FnScope N ps (defScope st))
    (B : ∀ (cdv : Value) (A : Around) (outer : List Env) (s : Shared) (H : Hp) (W : XP) (E : XK), Room k (A.deeper (envOfC qual (defScope st) s.heap.objs.size f cdv)) →
      ExDs ((cxOf (CX1 P w) P w K mg base N qual (defScope st) f cdv A outer s H E).xw W) W (defBody st) S) :
    FnOk P w K mg base (CX1 P w) (k + 1) f fd ps (spN K ps.length p fa fun ds => callN N p S fa ds) := by
  obtain ⟨oc, od, kV, doc, pm, an, cdv, ct, osl, rfl, lk, hcd⟩ := Fn.ex
  refine fn_of lk hcd Sc (fun vs H Q E h => ?_) fun A outer s H vs Q E hr h => ?_
  · obtain ⟨G, ds, us, rfl, _, l, hl, _⟩ := h
    rw [insA_length, ← l.length]; exact hl
  · obtain ⟨G, ds, us, rfl, g, l, hl, q⟩ := h
    obtain ⟨t, pt, hd⟩ := B cdv A outer s H (fun c _ H' G' => Ext H G H' G' ∧ ∀ cls, ClsIs K c cls → E cls none H') E hr
    refine ⟨t, pss_wish pt ?_, hd H G _ _ H G (rep_beginX (x := .fn fa) (.refl g) l rfl) _ ?_⟩
    · rintro e s' ⟨ea, σ, H', G', c, C, rfl, I, hc, ⟨_, hw⟩, x⟩
      have Dc : DefCx (cxOf (CX1 P w) P w K mg base N qual (defScope st) f cdv A outer s H E) := ⟨rfl, rfl, rfl⟩
      show wpAny _ _ (leaving _ (.ref ea)) _ _ s'
      unfold leaving
      refine wpAny_bind (note_ok (X := cxOf (CX1 P w) P w K mg base N qual (defScope st) f cdv A outer s H E) Dc I x fun s1 I1 x1 => ?_)
      refine flight_ok (X := cxOf (CX1 P w) P w K mg base N qual (defScope st) f cdv A outer s H E) (o := none) I1 x1 rfl fun s2 I2 x2 => ?_
      have young : ∀ b, Fp (cxOf (CX1 P w) P w K mg base N qual (defScope st) f cdv A outer s H E) [] H' b → s.heap.get? b = none ∧ H' b = none := fun b hb => ⟨hb.new, hb.fr⟩
      exact ⟨ea, C, H', rfl, I2.os, I2.bare, I2.base, I2.hok, hw _ ⟨C, rfl, hc⟩, x2.at young (.inl rfl)⟩
    · unfold callN at q
      dsimp only at q
      cases hS : S (beginX N p (.fn fa) ds) with
      | rt d => rw [hS] at q; exact fun v H' G' e dv => q v H' G' e dv
      | nx Γ => rw [hS] at q; exact fun σ H' G' R => q _ H' G' R.ex den_non
      | bk Γ => rw [hS] at q; exact q.elim
      | ct Γ => rw [hS] at q; exact q.elim
      | ex c Γ => rw [hS] at q; exact fun σ H' G' R => ⟨R.ex, fun cls hcls => q cls none H' G' hcls R.ex⟩
      | no => rw [hS] at q; exact q.elim
end
theorem spN_par0 {K : PySem.W.Frag} {n p : Nat} {fa : Addr} {F : Addr → List D → R D} {vs : List V} {H : Hp} {Q : VK} {E : XK} (h : spN K n p fa (fun ds => par0 fun a => F a ds) vs H Q E) : spN K n p fa (F fa) vs H Q E := by
  obtain ⟨G, ds, us, e, g, l, hl, q⟩ := h
  exact ⟨G, ds, us, e, g, l, hl, par0_want q fa⟩
section
variable {X : Cx} {W : XP} {e : Expr} {es : List Expr} {f : Ga → R D} {fl : Ga → R (List D)} {pos p pn : Pos} {x y : Str}
def eCallV (i : Nat) (fa : Addr) (F : List D → R D) (fl : Ga → R (List D)) : Ga → R D := fun Γ => match Γ[i]? with
  | some (.fn b) => if b = fa then (fl Γ).bind F else .no
  | _ => .no
theorem ev_callV {CX : CXT} {k i : Nat} {fa : Addr} {fd : FuncData} {ps : List Str} {F : List D → R D} (Fn : FnOk X.prog X.w X.K X.mg X.base CX k fa fd ps (spF X.K X.mg ps.length F)) (hx : PassW CX X W) (hr : Room k X.A) (hat : PySem.W.FnAt fa X.base)
    (hb : Binds X.K fd ps []) (ha : AvD X W (e :: es) fl) (hn : (e :: es).length = ps.length) (hN : X.N[i]? = some x := by rfl) (hv : Vis X.env.scope x := by first | exact Or.inl rfl | exact Or.inr (Or.inl rfl) | exact Or.inr (Or.inr rfl))
    (hdb : (x == ("__debug__" : Str)) = false := by decide) (hcd : (x == ("__classdict__" : Str)) = false := by decide)
    (he : starEach (e :: es) X.env = (false, eval e X.env) :: starEach es X.env := by rfl) (hpl : (backTo pos (starEach es X.env)).any (·.1) = false := by rfl) :
    EvD X W (.Call (.Name x p) (e :: es) [] pos) (eCallV i fa F fl) := by
  obtain ⟨t, pt, hl, q⟩ := ha
  refine ⟨fun σ H Q => σ[i]? = some (some (.ref fa)) ∧ t σ H fun vs H1 => spF X.K X.mg ps.length F vs H1 Q (xkOf X.K W σ), fun pins s σ H Q I ⟨hs, h⟩ => ?_, fun H₀ G₀ Γ σ H G R Q w => ?_⟩
  · have at_ : ∀ {s' : Shared} {σ' : L2.St} {H' : Hp}, Inv X pins σ' H' s' → PySem.W.FnAt fa s'.heap := fun I' => by
      obtain ⟨oc, od, fd', sl, z⟩ := hat
      exact ⟨oc, od, fd', sl, I'.bk _ _ z⟩
    refine wpAny_Call_Name_kw (thn (pe_var hN hv hdb hcd pins s σ H (fun v H' => v = .ref fa ∧ H' = H) I ⟨_, hs, rfl, rfl⟩) fun u s0 ⟨v, H0, I0, rv, e1, e2⟩ => ?_)
    subst e1 e2
    obtain rfl : u = Value.ref fa := rv
    refine PySem.W.callWith_F (at_ I0) (thn (pt pos pins s0 σ _ _ I0 h) fun us s1 ⟨vs, H1, I1, r, q⟩ => ⟨at_ I1, ?_⟩) he hpl
    have hl : us.length = ps.length := by rw [← r.length]; exact Fn.len _ _ _ _ q
    have bb := hb s1 us I1.kIn (by rw [List.append_nil]; exact hl)
    rw [List.append_nil] at bb
    refine wpAny_call (codeAny_mono (Fn.run X.A X.stack s1 H1 ⟨us, []⟩ us vs Q _ hr I1.env0 bb r q) fun r s' hq => ?_)
    cases r with
    | error e => exact hx pins σ H1 s1 e s' I1 hq
    | ok fl =>
      cases fl with
      | ret u => exact I1.after hq
      | next => exact False.elim hq
      | brk => exact False.elim hq
      | cont => exact False.elim hq
  · unfold eCallV at w
    split at w
    · rename_i b hb'
      split at w
      · rename_i e1
        subst e1
        refine ⟨R.fr i _ hb', q _ _ _ _ _ _ R _ (wImp (wLen (hl Γ) (wStep w (fun _ h => h) fun ds w => w)) (fun _ h => h) fun ds ⟨hd, w⟩ vs H1 G1 E1 d1 => ?_)⟩
        exact ⟨G1, ds, E1.gh, d1, hd.trans hn, wImp w (fun c h cls dx H' G' hc E2 => ⟨c, G', hc, h H' G' (E1.trans E2)⟩) fun d w v H' G' E2 d2 => w v H' G' (E1.trans E2) d2⟩
      · exact w.elim
    · exact w.elim
def AvN (X : Cx) (W : XP) (es : List Expr) (p : Nat) (fa : Addr) (f : Ga → R (List D)) : Prop := ∃ t, PA X es t ∧ (∀ Γ ds, f Γ = .ok ds → ds.length + 1 = es.length) ∧
  ∀ (H₀ G₀ : Hp) (Γ : Ga) (σ : L2.St) (H G : Hp), Rep X.K H₀ G₀ Γ σ H G → ∀ (Q : List V → Hp → Prop),
    (f Γ).want (exAt W σ H G) (fun ds => ∀ vs H' G', Ext H G H' G' → DenL X.K G' ds vs → Q (insA p (.ref fa) vs) H') → t σ H Q
theorem an_here {fa : Addr} (hr : AvD X W es fl) (hg : Gl X y) (hm : X.mg y = some (.ref fa)) (hdb : (y == ("__debug__" : Str)) = false := by decide) (hs : starEach (.Name y pn :: es) X.env = (false, eval (.Name y pn) X.env) :: starEach es X.env := by rfl) :
    AvN X W (.Name y pn :: es) 0 fa fl := by
  obtain ⟨t, pt, hl, q⟩ := hr
  refine ⟨_, pa_cons (pe_glob (v := .ref fa) hg hm rfl hdb) pt hs, fun Γ ds e' => by rw [hl _ _ e']; rfl, fun H₀ G₀ Γ σ H G R Q w => ?_⟩
  exact q _ _ _ _ _ _ R _ (wImp w (fun _ h => h) fun ds w vs H' G' E1 d1 => w vs H' G' E1 d1)
theorem an_cons {p : Nat} {fa : Addr} (he : EvD X W e f) (hr : AvN X W es p fa fl) (hs : starEach (e :: es) X.env = (false, eval e X.env) :: starEach es X.env := by rfl) : AvN X W (e :: es) (p + 1) fa (aCons f fl) := by
  obtain ⟨t, pt, q⟩ := he
  obtain ⟨ts, ps, hl, qs⟩ := hr
  refine ⟨_, pa_cons pt ps hs, fun Γ ds e' => ?_, fun H₀ G₀ Γ σ H G R Q w => ?_⟩
  · obtain ⟨d, _, e'⟩ := bind_ok' e'
    obtain ⟨r, e2, e'⟩ := bind_ok' e'
    cases e'
    simp [← hl _ _ e2]
  · refine q _ _ _ _ _ _ R _ (wStep w (fun _ h => h) fun d w v H1 G1 E1 d1 => ?_)
    refine qs _ _ _ _ _ _ (R.after E1) _ (wStep w (fun _ h => h.up E1) fun ds w vs H2 G2 E2 d2 => ?_)
    exact w _ H2 G2 (E1.trans E2) (denL_cons.mpr ⟨v, vs, rfl, d1.up E2.gg, d2⟩)
theorem ev_callN {CX : CXT} {k q : Nat} {fa ha : Addr} {fd : FuncData} {ps : List Str} {F : List D → R D} (Fn : FnOk X.prog X.w X.K X.mg X.base CX k fa fd ps (spN X.K ps.length q ha F)) (hx : PassW CX X W) (hr : Room k X.A) (hg : Gl X x)
    (hm : X.mg x = some (.ref fa)) (hk : PySem.W.keepIn X.K (.ref fa) = true) (hb : Binds X.K fd ps []) (ag : AvN X W (e :: es) q ha fl) (hn : (e :: es).length = ps.length := by rfl) (hdb : (x == ("__debug__" : Str)) = false := by decide)
    (he : starEach (e :: es) X.env = (false, eval e X.env) :: starEach es X.env := by rfl) (hpl : (backTo pos (starEach es X.env)).any (·.1) = false := by rfl) :
    EvD X W (.Call (.Name x p) (e :: es) [] pos) (eCall F fl) := by
  obtain ⟨t, pt, hl, q⟩ := ag
  refine ⟨_, pe_callX Fn hr hg hm hk hb hx pt hdb he hpl, fun H₀ G₀ Γ σ H G R Q w => ?_⟩
  refine q _ _ _ _ _ _ R _ (wStepE w (fun _ h => h) fun ds ed w vs H1 G1 E1 d1 => ?_)
  exact ⟨G1, ds, vs, rfl, E1.gh, d1, (hl _ _ ed).trans hn, wImp w (fun c h cls dx H' G' hc E2 => ⟨c, G', hc, h H' G' (E1.trans E2)⟩) fun d w v H' G' E2 d2 => w v H' G' (E1.trans E2) d2⟩
end
end Wy


namespace Wy
open PySem PySem.Spec PyProof.Rows L2
theorem boot_reversed : bootBuiltins "reversed" = some (.type "reversed") := by rfl
def Itv (K : PySem.W.Frag) (a : Addr) (n : Nat) : It :=
  ⟨fun i H => i < n ∧ ∃ xs, SqL K H a xs ∧ xs.length = n, fun i H x H' => H' = H ∧ ∀ xs, SqL K H a xs → xs[n - 1 - i]? = some x, fun i _ => n ≤ i⟩
theorem turn_rev {P : Program} {w : World} {K : PySem.W.Frag} {tg : Expr} (a it : Addr) (n : Nat) : Turn P w K tg (Itv K a n) [it] it (fun i h => i ≤ n ∧ h.IsRevIter it a ((n : Int) - 1 - (i : Int))) where
  mem := by simp
  obj := fun i h st b hb => by
    have e : b = it := by simpa using hb
    subst e
    obtain ⟨_, o, e, c, d⟩ := st
    exact ⟨o, e, fun v z => by rw [d] at z; cases z⟩
  keep := fun i h h' st k => ⟨st.1, st.2.at fun o e => k it (by simp) o e⟩
  item := by
    intro X hP hw hK hc i pins s σ H E I hf st hg
    subst hP hw hK
    obtain ⟨hi, xs, hq, hn⟩ := hg
    obtain ⟨its, rv, p, hz⟩ := I.list hq
    have hx : xs[n - 1 - i]? = some (xs[n - 1 - i]'(by omega)) := List.getElem?_eq_getElem (by omega)
    obtain ⟨u, hu, ru⟩ := rv.get hx
    obtain ⟨f0, f1, f2, f3, f4, f5⟩ := hf it (by simp)
    have e1 : (n : Int) - 1 - (i : Int) = ((n - 1 - i : Nat) : Int) := by omega
    have hit := st.2
    rw [e1] at hit
    refine wpAny_pyNext_rev_item hit p.isList (x := u) (by simpa using hu) fun h' st' sb => ?_
    have e2 : ((n - 1 - i : Nat) : Int) - 1 = (n : Int) - 1 - ((i + 1 : Nat) : Int) := by omega
    rw [e2] at st'
    have I1 : Inv X pins σ H { s with heap := h' } := I.turned (t' := s.toks) (fun b o hb e => (sb.2 b hb).trans e) f0 f1 f3 f4 f5
    obtain ⟨o, e, c, d⟩ := id st'
    exact ⟨u, rfl, go_of (s := { s with heap := h' }) e c d (by decide) ⟨_, H, I1, ru, ⟨rfl, fun ys hy => by rw [I.list_inj hy hq]; exact hx⟩, ⟨hi, st'⟩, fun b hb => (hf b hb).1⟩⟩
  done := by
    intro X hP hw hK hc i pins s σ H E I hf st hg
    subst hP hw hK
    obtain ⟨f0, f1, f2, f3, f4, f5⟩ := hf it (by simp)
    have hi : i = n := Nat.le_antisymm st.1 hg
    have e1 : (n : Int) - 1 - (i : Int) = -1 := by omega
    have hit := st.2
    rw [e1] at hit
    exact wpAny_pyNext_rev_end (I.ok.hd hc) hit fun h' eb => ⟨rfl, I.turned (t' := s.toks) (fun b o hb e => eb b o hb e) f0 f1 f3 f4 f5⟩
  self := fun _ _ _ _ _ st h => wpAny_pyIter_revIter st.2 h
section
variable {X : Cx} {W : XP} {tg e : Expr} {fs : Ga → R (Bool × List D)} {f : Ga → R D} {fl : Ga → R (List D)} {pos p : Pos}
def iRevT (K : PySem.W.Frag) (tl : TA) : TI := fun σ H R => tl σ H fun vs H1 => ∃ a xs, vs = [.ref a] ∧ SqL K H1 a xs ∧ R (Itv K a xs.length) H1
theorem pi_rev {tl : TA} (hg : Gl X "reversed") (hm : X.mg "reversed" = none) (hl : PA X [e] tl) (hse : starEach [e] X.env = [(false, eval e X.env)] := by rfl) : PI X tg (.Call (.Name "reversed" p) [e] [] pos) (iRevT X.K tl) := by
  intro pins s σ H R I h
  refine wpAny_Call_Name_kw (ld_blt I hg hm boot_reversed ?_)
  refine PyProof.Rows.callWith_type1 (thn (hl pos pins s σ H _ I h) fun us s1 ⟨vs, H1, I1, r, a, xs, e1, hq, q⟩ => ?_) hse rfl
  subst e1
  obtain ⟨u, rfl, ru⟩ := r.one
  obtain rfl : u = Value.ref a := ru
  obtain ⟨its, rv, p, hz⟩ := I1.list hq
  refine call_reversed_list p.isList ?_
  have hn : its.toArray.size = xs.length := by rw [List.size_toArray]; exact rv.length.symm
  rw [hn]
  refine wpAny_pyIter_revIter (l := a) (i := (xs.length : Int) - 1) ⟨_, Heap.get?_push_size _ rfl, rfl, rfl⟩ ?_
  refine ⟨s1.heap.objs.size, [s1.heap.objs.size], _, _, H1, rfl, I1.kept (t' := s1.toks) (fun b o e => Heap.get?_push_of_some _ e), turn_rev a _ xs.length, ⟨Nat.zero_le _, _, Heap.get?_push_size _ rfl, rfl, ?_⟩, fun b hb => ?_, q⟩
  · show Data.fields _ = _
    simp
  · have e : b = s1.heap.objs.size := by simpa using hb
    subst e
    exact I1.fpOk (Nat.le_refl _) (I1.hok.fresh (Nat.le_refl _))
def iRev (f : Ga → R D) : Ga → R (List D) := fun Γ => (f Γ).bind fun d => (R.ofO (asL d)).bind fun ds => .ok ds.reverse
theorem it_rev (hg : Gl X "reversed") (hm : X.mg "reversed" = none) (he : EvD X W e f) (hse : starEach [e] X.env = [(false, eval e X.env)] := by rfl) : ItD X W tg (.Call (.Name "reversed" p) [e] [] pos) (iRev f) := by
  obtain ⟨t, pt, q⟩ := he
  refine ⟨_, pi_rev hg hm (pa_cons pt pa_nil hse) hse, fun H₀ G₀ Γ σ H G R Q w => ?_⟩
  refine q _ _ _ _ _ _ R _ (wStep w (fun _ h => h) fun d w v H' G' E1 d1 => ?_)
  obtain ⟨ds, e2, k⟩ := wOfOb w
  cases asL_eq e2
  obtain ⟨a, vs, rfl, s, l⟩ := den_lst.mp d1
  have hl := l.length
  refine ⟨a, vs, rfl, E1.gh.seq s, k _ H' G' E1 fun i H2 G2 g2 h2 => ⟨fun d hd => ?_, fun hi => ?_⟩⟩
  · have hi : i < ds.length := by
      have := (List.getElem?_eq_some_iff.mp hd).1
      rwa [List.length_reverse] at this
    rw [List.getElem?_reverse hi] at hd
    obtain ⟨v, hv, dv⟩ := l.get hd
    refine ⟨⟨by rw [← hl]; exact hi, vs, (g2.trans h2).seq s, rfl⟩, fun x H3 ⟨z, y⟩ => ?_⟩
    subst z
    have q := y vs ((g2.trans h2).seq s)
    rw [← hl] at q
    rw [hv] at q
    cases q
    exact ⟨G2, .refl h2, dv.up g2⟩
  · rw [List.length_reverse] at hi
    show vs.length ≤ i
    rw [← hl]; exact hi
end
end Wy


namespace Wy
open PySem PySem.Spec PyProof.Rows L2
def compM (f : Ga → R (D × Ga)) : List D → List D → Ga → R (List D × Ga)
  | [], acc, Γ => .ok (acc, Γ)
  | d :: ds, acc, Γ => (f (.val d :: .own acc :: Γ)).calm.bind fun p => match p.2 with
    | _ :: .own acc' :: Γ1 => if acc'.length < 16000000 then compM f ds (acc' ++ [p.1]) Γ1 else .no
    | _ => .no
section
variable {K : PySem.W.Frag} {H₀ G₀ H G : Hp} {Γ : Ga} {σ : L2.St}
theorem Rep.tail {x : Sl} {o : Option V} (R : Rep K H₀ G₀ (x :: Γ) (o :: σ) H G) : Rep K H₀ G₀ Γ σ H G :=
  ⟨R.ex, by have := R.ln; simpa using this, fun i y h => R.all (i + 1) y (by simpa using h), fun i j y z a h1 h2 m1 m2 s1 s2 => by
    have := R.di (i + 1) (j + 1) y z a (by simpa using h1) (by simpa using h2) m1 m2 (by simpa using s1) (by simpa using s2)
    omega⟩
end
section
variable {X : Cx} {pins : List (Addr × Obj)} {σ : L2.St} {H H₀ G₀ G : Hp} {Γ : Ga} {s : Shared} {scope : Scope} {cl : List (Str × Addr)} {x : Str} {px pos : Pos} {fp : List Addr} {elt iter : Expr} {f : Ga → R (D × Ga)}
theorem comp_coreM {J : It} {it : Addr} {tn : Nat → Heap → Prop} {ds outs : List D} {Γe : Ga} {E : Value → Shared → Prop} (B : BlkOk X scope cl x) (hcalm : X.calm = true) (I : Inv X pins σ H s) (R : Rep X.K H₀ G₀ Γ σ H G)
    (T : Turn X.prog X.w X.K (.Name x px) J fp it tn) (st : tn 0 s.heap) (hf : ∀ b ∈ fp, FpOk X pins H b) (Y : Yields X.K J G ds)
    (hE : ∀ C, EvM (blk X scope cl C x s H fp) XP0 elt f) (hc : compM f ds [] Γ = .ok (outs, Γe)) (hlen : ds.length < 16000000)
    {RR : Value → Addr → Result → Shared → Prop}
    (hRR : ∀ Dd C s' H' G' o sl m, s'.os = s.os → AllBare s'.gens → Un (frs X.stack) fp H H' s.heap s'.heap → HOk X.prog X.w H' s'.heap → s.heap.objs.size ≤ C → H' C = none → s'.heap.Ns C m →
      Same G G' → Rep X.K H₀ G₀ (sl :: .own outs :: Γe) (o :: some (V.ref Dd) :: σ) H' G' → RR (.ref Dd) C (.ok .next) s') :
    wpAny (model X.prog X.w) X.A (newList []) (fun acc s₃ => wpAny (model X.prog X.w) X.A (newFunctionEnv scope X.env.globals cl [] X.env.qual none .none (some X.env)) (fun cenv s₄ =>
      codeAny (model X.prog X.w) X.A (.compStart (.ListComp elt [⟨.Name x px, iter, [], 0⟩] scope pos) 0 (.ref it) acc { cenv with scope := relabel scope X.env }) (RR acc cenv.locals) s₄) E s₃) E s := by
  have hfp : ∀ b ∈ fp, b < s.heap.objs.size := fun b hb => by
    obtain ⟨o, e, _⟩ := T.obj 0 _ st b hb
    exact Heap.lt_size e
  refine wpAny_newObj_type (wpAny_newFunctionEnv B.cells (by intro y hy; simp at hy) (fun h₁ hns₁ hsb₁ => ?_) B.kind)
  dsimp only at hns₁ hsb₁ ⊢
  generalize hH2 : s.heap.push { cls := .type "list", dict := none, data := .seq ([] : List Value).toArray } = H2 at hns₁ hsb₁ ⊢
  have hC : H2.objs.size = s.heap.objs.size + 1 := by rw [← hH2, Heap.size_push]
  have hDC : s.heap.objs.size ≠ H2.objs.size := by rw [hC]; exact Nat.ne_of_lt (Nat.lt_succ_self _)
  have hCle : s.heap.objs.size ≤ H2.objs.size := by rw [hC]; exact Nat.le_succ _
  have old : ∀ b o, s.heap.get? b = some o → h₁.get? b = some o := fun b o e => hsb₁.extBut b o (by rw [hC]; exact Nat.ne_of_lt (Nat.lt_succ_of_lt (Heap.lt_size e))) (Heap.get?_push_of_some _ (hH2 ▸ Heap.get?_push_of_some _ e))
  have hacc : h₁.get? s.heap.objs.size = some { cls := .type "list", data := .seq #[] 0 } := hsb₁.extBut _ _ hDC (Heap.get?_push_of_some _ (hH2 ▸ Heap.get?_push_size _ rfl))
  have I0 := blk_inv (tk := s.toks + ([] : List (Str × Value)).length) B I hf hfp hCle (Nat.le_refl _) hDC hns₁ hacc old
  have hp : H s.heap.objs.size = none := I.fresh
  have E0 : Ext H G (upd H s.heap.objs.size (.lst [])) G := .own R.gh hp _
  have R0 : Rep X.K H₀ G₀ (.un :: .own [] :: Γ) (none :: some (V.ref s.heap.objs.size) :: σ) (upd H s.heap.objs.size (.lst [])) G := by
    have r1 := ((R.after E0).consUn (some (V.ref s.heap.objs.size)))
    have r2 := r1.setO 0 (xs := []) (a := s.heap.objs.size) (vs := []) upd_same (R.ex.hh.free hp) (R.gh.free hp) (denL_nil.mpr rfl) (fun j ys hj hy hm hs => ?_)
    · exact r2.consUn none
    · cases j with
      | zero => exact hj rfl
      | succ j =>
        obtain ⟨zs, hz⟩ := Sl.cont_of hm
        obtain ⟨a, us, s1, s2, _⟩ := R.mo (i := j) (x := ys) (by simpa using hy) hz
        have hs' : σ[j]? = some (some (V.ref s.heap.objs.size)) := by simpa using hs
        rw [hs'] at s1
        cases s1
        rw [hp] at s2
        cases s2
  generalize hX : blk X scope cl H2.objs.size x s H fp = X' at I0
  have eK : X'.K = X.K := by rw [← hX]; rfl
  have eP : X'.prog = X.prog := by rw [← hX]; rfl
  have eW : X'.w = X.w := by rw [← hX]; rfl
  have eA : X'.A = X.A := by rw [← hX]; rfl
  have eE : X'.env = compEnvC scope cl H2.objs.size X.env := by rw [← hX]; rfl
  have eX : X'.xe = fun _ _ => False := by rw [← hX]; rfl
  have eN : X'.N = blkN x X.N := by rw [← hX]; rfl
  have eF : X'.fs = frs X.stack := by rw [← hX]; rfl
  have eCa : X'.calm = true := by rw [← hX]; exact hcalm
  have hE' : EvM X' XP0 elt f := hX ▸ hE _
  have fpok : ∀ {H' : Hp}, (∀ b ∈ fp, H' b = none) → ∀ b ∈ fp, FpOk X' [] H' b := fun hn b hb => by
    refine ⟨hn b hb, ?_, ?_, .inl (by rw [← hX]; exact hb), ?_, fun p hp => by rw [← hX] at hp; exact nomatch hp⟩
    · rw [← hX]; exact Nat.ne_of_lt (Nat.lt_of_lt_of_le (hfp b hb) hCle)
    · rw [eF]
      intro z
      rcases List.mem_cons.mp (I.stkSub b z) with e | e
      · exact (hf b hb).2.1 e
      · exact (hf b hb).2.2.1 e
    · rw [eE]; exact fun y c' h => (hf b hb).2.2.2.2.1 y c' (B.cl1 y c' h)
  obtain ⟨te, pe, _, qe⟩ := hE'
  have pg : PG X' (.Name x px) (gName 0) := pg_name (by rw [eN]; exact B.nd) (by rw [eN]; rfl) (by rw [eE]; exact .inl (lookup_relabel_local B.var)) (by rw [eE]; exact .inr (lookup_relabel_local B.var))
  have loop : ∀ s₃ : Shared, s₃ = { s with heap := h₁, toks := s.toks + ([] : List (Str × Value)).length } →
      codeAny (model X.prog X.w) X.A (.compLoop (.ListComp elt [⟨.Name x px, iter, [], 0⟩] scope pos) 0 (.ref it) (.ref s.heap.objs.size) (compEnvC scope cl H2.objs.size X.env)) (RR (.ref s.heap.objs.size) H2.objs.size) s₃ := by
    rintro s₃ rfl
    refine compLoop_own (fun n s' => ∃ (k : Nat) (sl : Sl) (o : Option V) (H' G' : Hp) (dn : List D) (Γ' : Ga), Inv X' [] (o :: some (V.ref s.heap.objs.size) :: σ) H' s' ∧ tn k s'.heap ∧ (∀ b ∈ fp, H' b = none) ∧
      Rep X.K H₀ G₀ (sl :: .own dn :: Γ') (o :: some (V.ref s.heap.objs.size) :: σ) H' G' ∧ Same G G' ∧ compM f (ds.drop k) dn Γ' = .ok (outs, Γe) ∧ k ≤ ds.length ∧ n + k = ds.length) ?_ ds.length
      ⟨0, .un, none, _, G, [], Γ, I0, T.keep _ _ _ st (fun b hb o e => old b o e), fun b hb => by
        rw [upd_ne (Nat.ne_of_lt (hfp b hb))]; exact (hf b hb).1, R0, Same.refl _, hc, Nat.zero_le _, rfl⟩
    rintro n s' ⟨k, sl, o, H', G', dn, Γ', I', st', fr', R', g', hc', hkl, hn⟩
    have Yk := Y k H' G' g' R'.gh
    by_cases hk : k < ds.length
    · obtain ⟨d, hd, hdr⟩ := drop_at hk
      obtain ⟨go, yl⟩ := Yk.1 d hd
      rw [hdr] at hc'
      have it1 := T.item X' eP eW eK eCa k [] s' _ H' (fun _ _ => False) I' (fpok fr') st' go
      rw [eA] at it1
      refine wpAny_mono it1 (fun r s1 ⟨u, hr, h4⟩ => ?_) fun _ _ z => z
      subst hr
      refine wpAny_mono h4 (fun _ s5 ⟨xv, H5, I5, r5, y5, st5, fr5⟩ => ?_) fun _ _ z => z
      obtain ⟨G5, E5, d5⟩ := yl xv H5 y5
      have I5' := I5.pinned (fpok fr5) (T.obj _ _ st5)
      have R5 := R'.after E5
      have asg := pg _ s5 _ H5 xv u (fun σ' H' => σ' = some xv :: some (V.ref s.heap.objs.size) :: σ ∧ H' = H5) I5' r5 ⟨rfl, rfl⟩
      rw [eP, eW, eA, eE, eX] at asg
      refine wpAny_mono asg (fun _ s6 ⟨σ6, H6, I6, q6, q6'⟩ => ?_) fun _ _ z => z
      subst q6 q6'
      have R6 : Rep X.K H₀ G₀ (.val d :: .own dn :: Γ') (some xv :: some (V.ref s.heap.objs.size) :: σ) H6 G5 := R5.setV 0 d5
      unfold compM at hc'
      obtain ⟨p, ey, hc'⟩ := bind_ok' hc'
      have ey := calm_ok ey
      refine wpAny_tests_nil ?_
      rw [if_pos rfl]
      have R6' : Rep X'.K H₀ G₀ (.val d :: .own dn :: Γ') (some xv :: some (V.ref s.heap.objs.size) :: σ) H6 G5 := by rw [eK]; exact R6
      have ev := pe _ s6 _ H6 (fun v H8 => ∃ G8, Rep X'.K H₀ G₀ p.2 (some xv :: some (V.ref s.heap.objs.size) :: σ) H8 G8 ∧ Same G5 G8 ∧ Den X'.K G8 p.1 v) I6 (qe _ _ _ _ _ _ R6' _ (by rw [ey]; exact fun v H8 G8 R8 g8 d8 => ⟨G8, R8, g8, d8⟩))
      rw [eP, eW, eA, eE, eX] at ev
      refine wpAny_mono ev (fun yv s8 ⟨v8, H8, I8, r8, G8, R8, g8, d8⟩ => ?_) fun _ _ z => z
      rw [eK] at d8 R8
      obtain ⟨y, Γ2⟩ := p
      dsimp only at R8 d8 hc'
      split at hc'
      · rename_i sl2 acc' Γ3 _ _
        split at hc'
        · rename_i hz
          obtain ⟨a, vs, q1, q2, q3, q4, q5⟩ := R8.ow 1 acc' rfl
          cases q1
          have ap := mt_append (X := X') _ s8 _ H8 (.ref s.heap.objs.size) [v8] _ _ (fun v H9 => v = .non ∧ H9 = upd H8 s.heap.objs.size (.lst (vs ++ [v8]))) I8 rfl (.cons r8 .nil) ⟨_, vs, v8, rfl, rfl, q2, by rw [← q5.length]; exact lt24 hz, rfl, rfl⟩
          rw [eP, eW, eA, eX] at ap
          refine wpAny_mono ap (fun _ s9 ⟨_, H9, I9, _, _, q9⟩ => ?_) fun _ _ z => z
          subst q9
          have R9 := R8.mut (i := 1) rfl rfl (q5.append (.one d8))
          refine ⟨n - 1, by omega, k + 1, _, _, _, G8, acc' ++ [y], Γ3, I9.unpinned, T.keep _ _ _ st5 fun b hb o e => (I9.pin (b, o) (List.mem_append_right _ (List.mem_append_right _ (mem_pinsAt hb e)))).1, fun b hb => ?_, R9, g'.trans (E5.gg.trans g8), hc', by omega, by omega⟩
          obtain ⟨o, e, _⟩ := T.obj _ _ st5 b hb
          exact (I9.pin (b, o) (List.mem_append_right _ (List.mem_append_right _ (mem_pinsAt hb e)))).2.1
        · cases hc'
      · cases hc'
    · have z : ds.drop k = [] := List.drop_eq_nil_of_le (by omega)
      rw [z] at hc'
      cases hc'
      have dn1 := T.done X' eP eW eK eCa k [] s' _ H' (fun _ _ => False) I' (fpok fr') st' (Yk.2 (by omega))
      rw [eA] at dn1
      refine wpAny_mono dn1 (fun r s1 ⟨hr, I1⟩ => ?_) fun _ _ z => z
      subst hr
      obtain ⟨m, hm, _⟩ := I1.loc
      have base := I1.base
      rw [eF] at base
      refine hRR s.heap.objs.size H2.objs.size s1 H' G' o sl m ?_ I1.bare ?_ ?_ hCle ?_ ?_ g' R'
      · have := I1.os; rw [← hX] at this; exact this
      · rw [← hX] at base; exact base
      · have := I1.hok; rw [eP, eW] at this; exact this
      · have := I1.free; rw [eE] at this; exact this
      · rw [eE] at hm; exact hm
  exact codeAny_compStart_list (loop _ rfl) (T.self _ 0 _ _ _ (T.keep _ _ _ st fun b hb o e => old b o e) (loop _ rfl))
end
section
variable {X : Cx} {scope : Scope} {cl : List (Str × Addr)} {x y : Str} {px py pos spos : Pos} {elt iter : Expr} {f : Ga → R (D × Ga)} {fl : Ga → R (List D)}
def sSetCM (i : Nat) (fl : Ga → R (List D)) (f : Ga → R (D × Ga)) : Ga → RS := fun Γ => .of (fl Γ) Γ fun ds => if ds.length < 16000000 then (match compM f ds [] Γ with
  | .ok p => .nx (p.2.set i (.own p.1))
  | _ => .no) else .no
theorem x_setCompM {W : XP} (i : Nat) (B : BlkOk X scope cl x) (hcalm : X.calm = true) (hi : ItD X W (.Name x px) iter fl) (hE : ∀ C s H fp, EvM (blk X scope cl C x s H fp) XP0 elt f)
    (hN : X.N.Nodup) (hy : X.N[i]? = some y := by rfl) (hx : Loc X.env.scope y := by first | exact Or.inl rfl | exact Or.inr rfl)
    (hsw : swapsWith (.ListComp elt [⟨.Name x px, iter, [], 0⟩] scope pos) (some (.Name y py)) spos.line X.env = pure true := by rfl)
    (hf' : X.fn y = true ∨ X.env.scope.names.lookup y = some .local := by first | exact .inl rfl | exact .inr rfl | assumption)
    (hs : ∀ x, foldedSetIterable iter X.env x = pure x := by intro _; rfl) : ExD X W (.Assign [.Name y py] (.ListComp elt [⟨.Name x px, iter, [], 0⟩] scope pos) spos) (sSetCM i fl f) := by
  obtain ⟨wi, pI, qI⟩ := hi
  refine ⟨fun DD σ H => ∃ (H₀ G₀ : Hp) (Γ : Ga) (G : Hp), Rep X.K H₀ G₀ Γ σ H G ∧ (fl Γ).want (exAt W σ H G) fun ds => ∃ outs Γe, ds.length < 16000000 ∧ compM f ds [] Γ = .ok (outs, Γe) ∧ ∀ σ' H' G', Rep X.K H₀ G₀ (Γe.set i (.own outs)) σ' H' G' → DD.nx σ' H', ?_, ?_⟩
  · rintro pins s σ H D I ⟨H₀, G₀, Γ, G, R, w⟩
    rw [exec_Assign_Name_used _ _ _ _ hsw]
    refine wpAny_bind (wpAny_standAt (wpAny_bind ?_))
    show wpAny _ X.A (do let _ ← comprehension (.ListComp elt [⟨.Name x px, iter, [], 0⟩] scope pos) scope X.env _ (newList []) false (eval iter X.env) (some (assign (.Name y py) X.env))) _ _ s
    refine wpAny_bind (wpAny_mono (wpAny_comprehension_free (use := some (assign (.Name y py) X.env)) (Q := fun _ s' => SP X pins D .next s') rfl hs B.clos B.kind B.names ?_) (fun _ s' hq => wpAny_pure (wpAny_pure hq)) fun _ _ e => e)
    have h1 := pI pins s σ H (fun J H' => ∃ G' ds outs Γe, Ext H G H' G' ∧ Yields X.K J G' ds ∧ ds.length < 16000000 ∧ compM f ds [] Γ = .ok (outs, Γe) ∧ ∀ σ' H' G', Rep X.K H₀ G₀ (Γe.set i (.own outs)) σ' H' G' → D.nx σ' H') I
      (qI _ _ _ _ _ _ R _ (wImp w (fun _ h => h) fun ds ⟨outs, Γe, hl, e2, k⟩ J H' G' E1 y => ⟨G', ds, outs, Γe, E1, y, hl, e2, k⟩))
    refine thn h1 fun xv s1 h1 => thn h1 fun itv s2 ⟨it, fp, tn, J, H2, e, I2, T, st, hf, G2, ds, outs, Γe, E2, y2, hl, e2, k⟩ => ?_
    subst e
    refine comp_coreM (RR := fun acc C => compPost (model X.prog X.w) X.A X.xe (some (assign (.Name y py) X.env)) (fun _ s' => SP X pins D .next s') acc C) B hcalm I2 (R.after E2) T st hf y2 (fun C => hE _ _ _ _) e2 hl ?_
    intro Dd C s' H' G' o sl m os bare un hok hC hCn hns g' R'
    have I3 := after_block I2 hf os bare un hok
    show wpAny _ X.A (assign (.Name y py) X.env (.ref Dd)) _ _ _
    refine wpAny_assign_Name (store_ok2 (v := .ref Dd) I3 hN hy hx rfl (fun s4 I4 ⟨a, hsa, ha⟩ => ?_) hf')
    have nC : C ≠ a := fun z => by
      subst z
      rcases ha with z | z
      · exact absurd (Nat.lt_of_lt_of_le I2.lt (by rw [← z]; exact hC)) (Nat.lt_irrefl _)
      · obtain ⟨v, q⟩ := I2.cell y _ z
        exact absurd (Nat.lt_of_lt_of_le q.lt hC) (Nat.lt_irrefl _)
    refine ⟨m, hns.sameBut hsa nC, fun h'' hsb => ?_⟩
    refine ⟨_, H', turned_C I2 I4 hC hCn hsb, k _ H' G' ?_⟩
    obtain ⟨a', vs, q1, q2, q3, q4, q5⟩ := R'.ow 1 outs rfl
    cases q1
    refine R'.tail.tail.setO i q2 q3 q4 q5 fun j z hj hz hm hs => ?_
    have := R'.di 1 (j + 2) _ _ Dd rfl (by simpa using hz) rfl hm rfl (by simpa using hs)
    omega
  · intro H₀ G₀ Γ σ H G R D w
    refine ⟨H₀, G₀, Γ, G, R, wS R w fun ds w => ?_⟩
    split at w
    · rename_i hl
      cases hcm : compM f ds [] Γ with
      | ok p => rw [hcm] at w; exact ⟨p.1, p.2, hl, rfl, w⟩
      | ex c => rw [hcm] at w; exact w.elim
      | no => rw [hcm] at w; exact w.elim
    · exact w.elim
end
end Wy


namespace PySem.SeqAt
open PySem PySem.AutoSeq1 PySem.MeetsSeq PySem.MeetsSeq2 PySem.MeetsSeq3
end PySem.SeqAt
namespace Wy
open PySem PySem.Spec PyProof.Rows L2
section
variable {X : Cx}
variable {W : XP} {o e : Expr} {fs : Ga → R (Bool × List D)} {fe : Ga → R D} {apos cpos : Pos}
end
end Wy


namespace Pg
open PySem PySem.Spec PyProof.Rows L2 Wy Wl Lw
def c_WORDS : D := .tup [.str "not", .str "and", .str "or", .str "all", .str "some"]
def c_LETTERS : D := .str "abcdefghijklmnopqrstuvwxyz"
abbrev N_is_whole : List Str := ["thing"]
noncomputable def B_is_whole : Ga → RS := (sRet (eAnd (eIsi gInt (eV 0)) (eNot (eIsi gBool (eV 0)))))
noncomputable def M_is_whole : List D → R D := fun ds => callR N_is_whole (B_is_whole) ds
abbrev N_is_below : List Str := ["thing", "bound"]
noncomputable def B_is_below (M_is_whole : List D → R D) : Ga → RS := (sRet (eAnd (eCall M_is_whole (aCons (eV 0) aNil)) (e3 (int2 fun i j => some (.bl (decide (i ≤ j)))) ltD (eC (.int 0)) (eV 0) (eV 1))))
noncomputable def M_is_below : List D → R D := fun ds => callR N_is_below (B_is_below M_is_whole) ds
abbrev N_is_kind : List Str := ["thing"]
noncomputable def B_is_kind (M_is_below : List D → R D) : Ga → RS := (sRet (eCall M_is_below (aCons (eV 0) (aCons (eC (.int 3)) aNil))))
noncomputable def M_is_kind : List D → R D := fun ds => callR N_is_kind (B_is_kind M_is_below) ds
abbrev N_is_name : List Str := ["thing"]
noncomputable def B_is_name : Ga → RS := (sSeq (sIf (tOrR (tNotR (tTru (eIsi gStr (eV 0)))) (tB (e2 memA (eV 0) (eC c_WORDS)))) (sRet (eC (.bl false))) sNext) (sRet (eAnd (e3 (int2 fun i j => some (.bl (decide (i ≤ j)))) (int2 fun i j => some (.bl (decide (i ≤ j)))) (eC (.int 1)) (eB lenD (aCons (eV 0) aNil)) (eC (.int 4))) (eS allS (sO (cpR (iS (eV 0)) cTrue (e2 memA (eV 0) (eC c_LETTERS))))))))
noncomputable def M_is_name : List D → R D := fun ds => callR N_is_name (B_is_name) ds
abbrev N_is_formed : List Str := ["thing", "head"]
noncomputable def B_is_formed (M_is_name : List D → R D) (M_is_kind : List D → R D) : Ga → RS := (sSeq (sIf (tOrR (tNotR (tTru (eIsi gTuple (eV 0)))) (tB (e2 eqD (eB lenD (aCons (eV 0) aNil)) (eC (.int 0))))) (sRet (eC (.bl false))) sNext) (sSeq (sSet 1 (e2 ixD (eV 0) (eC (.int 0)))) (sSeq (sIf (tB (e2 eqD (eV 1) (eC (.str "name")))) (sRet (eAnd (e2 eqD (eB lenD (aCons (eV 0) aNil)) (eC (.int 2))) (eCall M_is_name (aCons (e2 ixD (eV 0) (eC (.int 1))) aNil)))) sNext) (sSeq (sIf (tB (e2 eqD (eV 1) (eC (.str "not")))) (sRet (e2 eqD (eB lenD (aCons (eV 0) aNil)) (eC (.int 2)))) sNext) (sSeq (sIf (tOrR (tB (e2 eqD (eV 1) (eC (.str "and")))) (tB (e2 eqD (eV 1) (eC (.str "or"))))) (sRet (e2 eqD (eB lenD (aCons (eV 0) aNil)) (eC (.int 3)))) sNext) (sSeq (sIf (tOrR (tB (e2 eqD (eV 1) (eC (.str "all")))) (tB (e2 eqD (eV 1) (eC (.str "some"))))) (sRet (eAnd (e2 eqD (eB lenD (aCons (eV 0) aNil)) (eC (.int 3))) (eCall M_is_kind (aCons (e2 ixD (eV 0) (eC (.int 1))) aNil)))) sNext) (sRet (eC (.bl false)))))))))
noncomputable def M_is_formed : List D → R D := fun ds => callR N_is_formed (B_is_formed M_is_name M_is_kind) ds
abbrev N_parts : List Str := ["saying", "head"]
noncomputable def B_parts : Ga → RS := (sSeq (sSet 1 (e2 ixD (eV 0) (eC (.int 0)))) (sSeq (sIf (tB (e2 eqD (eV 1) (eC (.str "name")))) (sRet (eTup aNil)) sNext) (sSeq (sIf (tOrR (tB (e2 eqD (eV 1) (eC (.str "all")))) (tB (e2 eqD (eV 1) (eC (.str "some"))))) (sRet (eSlA (eV 0) (oI (eC (.int 2))) oN)) sNext) (sRet (eSlA (eV 0) (oI (eC (.int 1))) oN)))))
noncomputable def M_parts : List D → R D := fun ds => callR N_parts (B_parts) ds
abbrev N_is_saying : List Str := ["thing", "waiting", "part"]
def L_is_saying_1 (M_is_formed : List D → R D) (M_parts : List D → R D) : Ga → RS := (sSeq (sPop 1 2) (sSeq (sIf (tNotR (tTru (eCall M_is_formed (aCons (eV 2) aNil)))) (sRet (eC (.bl false))) sNext) (sExt 1 (sE (eCall M_parts (aCons (eV 2) aNil))))))
noncomputable def B_is_saying (M_is_formed : List D → R D) (M_parts : List D → R D) : Ga → RS := (sSeq (sSetO 1 (aCons (eV 0) aNil)) (sSeq (sWhile (tB (e2 (int2 fun i j => some (.bl (decide (j < i)))) (eS lenS (sV 1)) (eC (.int 0)))) (L_is_saying_1 M_is_formed M_parts)) (sRet (eC (.bl true)))))
noncomputable def M_is_saying : List D → R D := fun ds => callR N_is_saying (B_is_saying M_is_formed M_parts) ds
abbrev N_walked : List Str := ["saying", "found", "waiting", "part"]
def L_walked_1 (M_parts : List D → R D) : Ga → RS := (sSeq (sPop 2 3) (sSeq (sApp 1 (eV 3)) (sExt 2 (sE (eRevT (eCall M_parts (aCons (eV 3) aNil)))))))
noncomputable def B_walked (M_parts : List D → R D) : Ga → RS := (sSeq (sSetO 1 aNil) (sSeq (sSetO 2 (aCons (eV 0) aNil)) (sSeq (sWhile (tB (e2 (int2 fun i j => some (.bl (decide (j < i)))) (eS lenS (sV 2)) (eC (.int 0)))) (L_walked_1 M_parts)) (sRetO 1))))
noncomputable def M_walked : List D → R D := fun ds => callR N_walked (B_walked M_parts) ds
end Pg


namespace Wl
open PySem PySem.Spec PyProof.Rows L2 Wy
def sizeS : Say → Nat
  | .nm _ => 1
  | .neg a => sizeS a + 1
  | .two _ a b => sizeS a + sizeS b + 1
  | .way _ _ a => sizeS a + 1
def partsS : Say → List Say
  | .nm _ => []
  | .neg a => [a]
  | .two _ a b => [a, b]
  | .way _ _ a => [a]
theorem size_parts (s : Say) : sizeS s = ((partsS s).map sizeS).sum + 1 := by
  cases s <;> simp [sizeS, partsS]
theorem size_pos (s : Say) : 1 ≤ sizeS s := by rw [size_parts]; omega
theorem okG_parts {s : Say} (h : okG s = true) : ∀ p ∈ partsS s, okG p = true := by
  cases s with
  | nm x => intro p hp; cases hp
  | neg a => intro p hp; rw [partsS, List.mem_singleton] at hp; subst hp; exact h
  | two c a b =>
    rw [okG, Bool.and_eq_true] at h
    intro p hp
    simp only [partsS, List.mem_cons, List.not_mem_nil, or_false] at hp
    rcases hp with rfl | rfl
    · exact h.1
    · exact h.2
  | way c k a =>
    rw [okG, Bool.and_eq_true] at h
    intro p hp
    rw [partsS, List.mem_singleton] at hp
    subst hp
    exact h.2
theorem size_words : ∀ s, sizeS s ≤ (words s).length
  | .nm _ => by simp [sizeS, words]
  | .neg a => by have := size_words a; simp [sizeS, words]; omega
  | .two _ a b => by have := size_words a; have := size_words b; simp [sizeS, words]; omega
  | .way _ _ a => by have := size_words a; simp [sizeS, words]; omega
theorem words_W (s : Say) : W (words s) = (txt s).length + 1 := by
  rw [← join_words]
  exact (join_len (words_ne s)).symm
theorem size_txt (s : Say) : sizeS s ≤ (txt s).length + 1 := by
  have h1 := size_words s
  have h2 := len_W (words s)
  rw [words_W] at h2
  omega
end Wl
namespace Pg
open PySem PySem.Spec PyProof.Rows L2 Wy Wl Lw
theorem in_letters : ∀ c, c < 128 → inStr ⟨#[c]⟩ "abcdefghijklmnopqrstuvwxyz" = (decide (97 ≤ c) && decide (c ≤ 122)) := by
  decide +kernel
theorem mem_words (x : Str) : memA (.str x) c_WORDS = some (.bl (decide (x ∈ kept))) := by
  unfold c_WORDS
  rw [memA_tup (by simp [depDL])]
  refine congrArg (fun b => some (D.bl b)) ?_
  rw [Bool.eq_iff_iff, decide_eq_true_iff]
  simp only [List.any_cons, List.any_nil, Bool.or_false, eqDD_str, Bool.or_eq_true, decide_eq_true_iff, kept, List.mem_cons, List.not_mem_nil, or_false]
  constructor
  · rintro (h | h | h | h | h)
    · exact .inl h.symm
    · exact .inr (.inl h.symm)
    · exact .inr (.inr (.inl h.symm))
    · exact .inr (.inr (.inr (.inl h.symm)))
    · exact .inr (.inr (.inr (.inr h.symm)))
  · rintro (h | h | h | h | h)
    · exact .inl h.symm
    · exact .inr (.inl h.symm)
    · exact .inr (.inr (.inl h.symm))
    · exact .inr (.inr (.inr (.inl h.symm)))
    · exact .inr (.inr (.inr (.inr h.symm)))
theorem m_name (x : Str) (ha : asc x) (hl : x.length ≤ 3000) : M_is_name [.str x] = .ok (.bl (isNm x)) := by
  have hlx : lenD [.str x] = some (.int (x.length : Int)) := by
    unfold lenD
    dsimp only
    rw [if_pos (by omega)]
  have e1 : eS allS (sO (cpR (iS (eV 0)) cTrue (e2 memA (eV 0) (eC c_LETTERS)))) [.val (.str x)] = .ok (.bl (x.cps.toList.all fun c => decide (97 ≤ c) && decide (c ≤ 122))) := by
    rw [all_cp (ds := Wy.signs x) (p := fun d => match d with | .str s => inStr s "abcdefghijklmnopqrstuvwxyz" | _ => false)]
    · refine congrArg (fun b => R.ok (D.bl b)) ?_
      unfold Wy.signs
      rw [List.all_map]
      rw [Bool.eq_iff_iff, List.all_eq_true, List.all_eq_true]
      constructor
      · intro h c hc
        have := h c hc
        simp only [Function.comp] at this
        rw [in_letters c (ha c hc)] at this
        exact this
      · intro h c hc
        simp only [Function.comp]
        rw [in_letters c (ha c hc)]
        exact h c hc
    · have : asSigns (.str x) = some (Wy.signs x) := by
        unfold asSigns
        dsimp only
        rw [if_pos]
        rw [Array.all_eq_true']
        intro c hc
        exact decide_eq_true (ha c (by simpa using hc))
      simp [this]
    · unfold Wy.signs
      rw [List.length_map, Array.length_toList]
      have : x.cps.size = x.length := rfl
      omega
    · intro d hd
      unfold Wy.signs at hd
      obtain ⟨c, _, rfl⟩ := List.mem_map.mp hd
      simp [c_LETTERS]
  have g1 : gStr "str" = true := rfl
  by_cases hk : x ∈ kept
  · have : isNm x = false := by unfold isNm; simp [hk]
    simp [M_is_name, B_is_name, begin_, mem_words, hk, this, g1]
  · have hi : isNm x = (decide (1 ≤ x.length) && decide (x.length ≤ 4) && x.cps.toList.all (fun c => decide (97 ≤ c) && decide (c ≤ 122))) := by unfold isNm; simp [hk]
    rw [hi]
    by_cases h1 : 1 ≤ x.length
    · have h1' : (1 : Int) ≤ (x.length : Int) := by omega
      by_cases h4 : x.length ≤ 4
      · have h4' : (x.length : Int) ≤ 4 := by omega
        simp [-eS_eq, M_is_name, B_is_name, begin_, mem_words, hk, g1, hlx, h1, h4, h1', h4', e1]
      · have h4' : ¬ (x.length : Int) ≤ 4 := by omega
        simp [-eS_eq, M_is_name, B_is_name, begin_, mem_words, hk, g1, hlx, h1, h4, h1', h4', e1]
    · have h1' : ¬ (1 : Int) ≤ (x.length : Int) := by omega
      simp [-eS_eq, M_is_name, B_is_name, begin_, mem_words, hk, g1, hlx, h1, h1', e1]
end Pg

namespace Pg
open PySem PySem.Spec PyProof.Rows L2 Wy Wl Lw
theorem isNm_asc {x : Str} (h : isNm x = true) : asc x := fun c hc => by
  unfold isNm at h
  simp only [Bool.and_eq_true] at h
  have := List.all_eq_true.mp h.1.2 c hc
  simp only [Bool.and_eq_true, decide_eq_true_iff] at this
  omega
theorem isNm_len {x : Str} (h : isNm x = true) : x.length ≤ 4 := by
  unfold isNm at h
  simp only [Bool.and_eq_true, decide_eq_true_iff] at h
  exact h.1.1.2
@[simp] theorem ty_dS (s : Say) : tyN (dS s) = "tuple" := by cases s <;> rfl
theorem len_nm (x : Str) : lenD [dS (.nm x)] = some (.int 2) := by simp [dS]
theorem len_neg (a : Say) : lenD [dS (.neg a)] = some (.int 2) := by simp [dS]
theorem len_two (c : Bool) (a b : Say) : lenD [dS (.two c a b)] = some (.int 3) := by simp [dS]
theorem len_way (c : Bool) (k : Nat) (a : Say) : lenD [dS (.way c k a)] = some (.int 3) := by simp [dS]
theorem m_kind {k : Nat} (h : k < 3) : M_is_kind [.int (k : Int)] = .ok (.bl true) := by
  have h0 : (0 : Int) ≤ (k : Int) := by omega
  have h3 : (k : Int) < 3 := by omega
  simp [M_is_kind, B_is_kind, M_is_below, B_is_below, M_is_whole, B_is_whole, begin_, gInt, gBool, h0, h3]
theorem m_formed {s : Say} (h : okG s = true) : M_is_formed [dS s] = .ok (.bl true) := by
  have g1 : gTuple "tuple" = true := rfl
  cases s with
  | nm x =>
    have e := m_name x (isNm_asc h) (Nat.le_trans (isNm_len h) (by decide))
    rw [show isNm x = true from h] at e
    simp [M_is_formed, B_is_formed, begin_, g1, len_nm, e]
  | neg a => simp [M_is_formed, B_is_formed, begin_, g1, len_neg]
  | two c a b => cases c <;> simp [M_is_formed, B_is_formed, begin_, g1, len_two, hd2]
  | way c k a =>
    rw [okG, Bool.and_eq_true, decide_eq_true_iff] at h
    cases c <;> simp [M_is_formed, B_is_formed, begin_, g1, len_way, hdw, m_kind h.1]
theorem m_parts (s : Say) : M_parts [dS s] = .ok (.tup ((partsS s).map dS)) := by
  cases s with
  | nm x => simp [M_parts, B_parts, begin_, partsS]
  | neg a =>
    have e : slA (dS (.neg a)) (some 1) none = some (.tup [dS a]) := by rw [dS, slA_tup]; rfl
    simp [M_parts, B_parts, begin_, partsS, e]
  | two c a b =>
    have e : slA (dS (.two c a b)) (some 1) none = some (.tup [dS a, dS b]) := by rw [dS, slA_tup]; rfl
    cases c <;> simp [M_parts, B_parts, begin_, partsS, e, hd2]
  | way c k a =>
    have e : slA (dS (.way c k a)) (some 2) none = some (.tup [dS a]) := by rw [dS, slA_tup]; rfl
    cases c <;> simp [M_parts, B_parts, begin_, partsS, e, hdw]
def sumS (L : List Say) : Nat := (L.map sizeS).sum
theorem sumS_app (a b : List Say) : sumS (a ++ b) = sumS a + sumS b := by unfold sumS; rw [List.map_append, List.sum_append]
theorem len_sumS (L : List Say) : L.length ≤ sumS L := by
  induction L with
  | nil => exact Nat.zero_le _
  | cons s L ih => have := size_pos s; unfold sumS at *; simp only [List.map_cons, List.sum_cons, List.length_cons]; omega
theorem snoc {L : List Say} (h : L ≠ []) : ∃ L' s, L = L' ++ [s] := ⟨L.dropLast, L.getLast h, (List.dropLast_concat_getLast h).symm⟩
theorem m_saying {s0 : Say} (h0 : okG s0 = true) (hs : sizeS s0 ≤ 100000) : M_is_saying [dS s0] = .ok (.bl true) := by
  have key : ∃ x2, sWhile (tB (e2 (int2 fun i j => some (.bl (decide (j < i)))) (eS lenS (sV 1)) (eC (.int 0)))) (L_is_saying_1 M_is_formed M_parts) [.val (dS s0), .own [dS s0], .un] = .nx [.val (dS s0), .own [], x2] := by
    refine while_inv (fun m Γ => ∃ L x2, Γ = [.val (dS s0), .own (L.map dS), x2] ∧ (∀ s ∈ L, okG s = true) ∧ sumS L = m ∧ m ≤ 100000) (fun r => ∃ x2, r = .nx [.val (dS s0), .own [], x2]) (m := sizeS s0) ⟨[s0], .un, rfl, fun s hs => by rw [List.mem_singleton.mp hs]; exact h0, by simp [sumS], hs⟩ (Nat.lt_of_le_of_lt hs (by decide)) ?_
    rintro m Γ ⟨L, x2, rfl, hok, hm, hle⟩
    by_cases hL : L = []
    · subst hL
      exact .inl ⟨by simp, x2, rfl⟩
    · obtain ⟨L', s, rfl⟩ := snoc hL
      have hs' := hok s (by simp)
      have hsum : sumS L' + sizeS s = m := by rw [sumS_app] at hm; simpa [sumS] using hm
      have hsz : sumS (L' ++ partsS s) + 1 = m := by rw [sumS_app, ← hsum, size_parts s]; unfold sumS; omega
      have hlen : L'.length + (partsS s).length < 16000000 := by have := len_sumS (L' ++ partsS s); rw [List.length_append] at this; omega
      have hpos : (0 : Int) < (L'.length : Int) + 1 := by omega
      refine .inr ⟨by simp [hpos], .inl ⟨[.val (dS s0), .own ((L' ++ partsS s).map dS), .val (dS s)], m - 1, .inl ?_, by omega, L' ++ partsS s, _, rfl, fun p hp => ?_, by omega, by omega⟩⟩
      · simp [L_is_saying_1, m_formed hs', m_parts, hlen]
      · rcases List.mem_append.mp hp with h | h
        · exact hok p (List.mem_append_left _ h)
        · exact okG_parts hs' p h
  obtain ⟨x2, key⟩ := key
  simp [M_is_saying, B_is_saying, begin_, key]
def subs : Say → List Say
  | .nm x => [.nm x]
  | .neg a => .neg a :: subs a
  | .two c a b => .two c a b :: (subs a ++ subs b)
  | .way c k a => .way c k a :: subs a
theorem subs_parts (s : Say) : subs s = s :: (partsS s).flatMap subs := by cases s <;> simp [subs, partsS]
theorem subs_len : ∀ s, (subs s).length = sizeS s
  | .nm _ => by simp [subs, sizeS]
  | .neg a => by have := subs_len a; simp [subs, sizeS]; omega
  | .two _ a b => by have := subs_len a; have := subs_len b; simp [subs, sizeS]; omega
  | .way _ _ a => by have := subs_len a; simp [subs, sizeS]; omega
theorem m_walked (s0 : Say) (hsz : sizeS s0 ≤ 100000) : M_walked [dS s0] = .ok (.lst ((subs s0).map dS)) := by
  have key : ∃ x3, sWhile (tB (e2 (int2 fun i j => some (.bl (decide (j < i)))) (eS lenS (sV 2)) (eC (.int 0)))) (L_walked_1 M_parts) [.val (dS s0), .own [], .own [dS s0], .un] = .nx [.val (dS s0), .own ((subs s0).map dS), .own [], x3] := by
    refine while_inv (fun m Γ => ∃ (acc L : List Say) (x3 : Sl), Γ = [.val (dS s0), .own (acc.map dS), .own (L.map dS), x3] ∧ sumS L = m ∧ m ≤ 100000 ∧ acc ++ L.reverse.flatMap subs = subs s0)
      (fun r => ∃ x3, r = .nx [.val (dS s0), .own ((subs s0).map dS), .own [], x3]) (m := sizeS s0) ⟨[], [s0], .un, rfl, by simp [sumS], hsz, by simp⟩ (Nat.lt_of_le_of_lt hsz (by decide)) ?_
    rintro m Γ ⟨acc, L, x3, rfl, hm, hle, hacc⟩
    by_cases hL : L = []
    · subst hL
      refine .inl ⟨by simp, x3, ?_⟩
      simp only [List.reverse_nil, List.flatMap_nil, List.append_nil] at hacc
      rw [hacc]
      rfl
    · obtain ⟨L', s, rfl⟩ := snoc hL
      have hsum : sumS L' + sizeS s = m := by rw [sumS_app] at hm; simpa [sumS] using hm
      have hrev : sumS (partsS s).reverse = sumS (partsS s) := by unfold sumS; rw [List.map_reverse, List.sum_reverse]
      have hsz2 : sumS (L' ++ (partsS s).reverse) + 1 = m := by rw [sumS_app, hrev, ← hsum, size_parts s]; unfold sumS; omega
      have hlen : L'.length + (partsS s).length < 16000000 := by have := len_sumS (L' ++ (partsS s).reverse); rw [List.length_append, List.length_reverse] at this; omega
      have hacc2 : (acc ++ [s]) ++ (L' ++ (partsS s).reverse).reverse.flatMap subs = subs s0 := by
        rw [← hacc]
        simp only [List.reverse_append, List.reverse_cons, List.reverse_nil, List.nil_append, List.reverse_reverse, List.flatMap_append, List.singleton_append, List.flatMap_cons]
        rw [subs_parts s]
        simp [List.append_assoc]
      have hal : acc.length < 16000000 := by
        have := congrArg List.length hacc2
        rw [subs_len] at this
        simp only [List.length_append] at this
        omega
      have hpos : (0 : Int) < (L'.length : Int) + 1 := by omega
      refine .inr ⟨by simp [hpos], .inl ⟨[.val (dS s0), .own ((acc ++ [s]).map dS), .own ((L' ++ (partsS s).reverse).map dS), .val (dS s)], m - 1, .inl ?_, by omega, acc ++ [s], L' ++ (partsS s).reverse, _, rfl, by omega, by omega, hacc2⟩⟩
      simp [L_walked_1, m_parts, hlen, hal]
  obtain ⟨x3, key⟩ := key
  simp [M_walked, B_walked, begin_, key]
end Pg


namespace Wy
open PySem PySem.Spec PyProof.Rows L2
structure GlobD (w : World) (K : PySem.W.Frag) (mg : Str → Option Value) (x : Str) (kvs : List (Str × Str)) : Prop where
  ex : ∃ (p : Addr) (o : Obj) (es : Array DictEntry) (ep : Nat), mg x = some (.ref p) ∧ K.lookup p = some o ∧ o.ExactDict ∧ o.data = .dict es ep ∧ (∀ e ∈ es, ∃ k, Value.isStrOf k e.key = true ∧ e.hash = hashStr w k) ∧
    ∀ k y, kvs.lookup k = some y → ∃ t, findBy Value.isStrOf es k = some (.str y t)
def DRow (w : World) (k y : Str) (e : DictEntry) : Prop := ∃ t u, e = ⟨hashStr w k, .str k t, .str y u⟩
theorem find_rows {w : World} : ∀ {kvs : List (Str × Str)} {es : List DictEntry}, Paired (fun kv e => DRow w kv.1 kv.2 e) kvs es → ∀ k y, kvs.lookup k = some y → ∃ t, findBy Value.isStrOf es.toArray k = some (.str y t)
  | _, _, .nil, k, y, h => by cases h
  | (k0, y0) :: kvs, e :: es, .cons r t, k, y, h => by
    obtain ⟨t1, u1, rfl⟩ := r
    unfold findBy
    rw [List.find?_toArray, List.find?_cons]
    rw [List.lookup_cons] at h
    by_cases q : k = k0
    · subst q
      simp only [beq_self_eq_true] at h
      cases h
      refine ⟨u1, ?_⟩
      have : Value.isStrOf k (Value.str k t1) = true := by unfold Value.isStrOf; simp
      simp [this]
    · have q' : (k == k0) = false := beq_eq_false_iff_ne.mpr q
      rw [q'] at h
      obtain ⟨t2, h2⟩ := find_rows t k y h
      refine ⟨t2, ?_⟩
      have : Value.isStrOf k (Value.str k0 t1) = false := by unfold Value.isStrOf; simpa using fun z => q z.symm
      simp only [this]
      unfold findBy at h2
      rw [List.find?_toArray] at h2
      exact h2
theorem rows_hash {w : World} : ∀ {kvs : List (Str × Str)} {es : List DictEntry}, Paired (fun kv e => DRow w kv.1 kv.2 e) kvs es → ∀ e ∈ es, ∃ k, Value.isStrOf k e.key = true ∧ e.hash = hashStr w k
  | _, _, .nil, e, h => nomatch h
  | _, _, .cons (a := kv) r t, e, h => by
    rcases List.mem_cons.mp h with rfl | h
    · obtain ⟨t1, u1, rfl⟩ := r
      exact ⟨kv.1, by unfold Value.isStrOf; simp, rfl⟩
    · exact rows_hash t e h
theorem globD {w : World} {K : PySem.W.Frag} {h : Heap} {mg : Str → Option Value} (X : K.In h) (G : h.Ns mainGlobals mg) {x : Str} {p : Addr} {es : List DictEntry} {ep : Nat} {kvs : List (Str × Str)}
    (a : PySem.W.nsIn K mainGlobals x = some (some (.ref p))) (l : K.lookup p = some ⟨.type "dict", none, .dict es.toArray ep, #[]⟩) (r : Paired (fun kv e => DRow w kv.1 kv.2 e) kvs es) : GlobD w K mg x kvs :=
  ⟨p, _, es.toArray, ep, PySem.W.mg_of X G a, l, ⟨rfl, rfl, rfl⟩, rfl, fun e he => rows_hash r e (by simpa using he), find_rows r⟩
section
variable {X : Cx} {W : XP} {e : Expr} {fe : Ga → R D} {x : Str} {kvs : List (Str × Str)} {pn pos : Pos}
def dgetS (kvs : List (Str × Str)) : D → Option D
  | .str k => (kvs.lookup k).map D.str
  | _ => none
def eDget (kvs : List (Str × Str)) (fe : Ga → R D) : Ga → R D := fun Γ => (fe Γ).bind fun d => .ofO (dgetS kvs d)
theorem ev_dget (h : GlobD X.w X.K X.mg x kvs) (hg : Gl X x) (he : EvD X W e fe) (hdb : (x == ("__debug__" : Str)) = false := by decide) (hs : PlainIx e := by intro _ _; rfl) : EvD X W (.Subscript (.Name x pn) e pos) (eDget kvs fe) := by
  obtain ⟨p, o, es, ep, h1, h2, h3, h4, h5, h6⟩ := h.ex
  obtain ⟨t, pt, q⟩ := he
  have ix : IxR X (fun a y H Q => a = .ref p ∧ ∃ k z, y = .str k ∧ kvs.lookup k = some z ∧ Q (.str z) H) := by
    rintro value slice pins s σ H a y v u Q I rx ry ⟨rfl, k, z, rfl, hk, w⟩ hs
    obtain rfl : v = Value.ref p := rx
    obtain ⟨t, rfl⟩ := ry
    obtain ⟨t2, hf⟩ := h6 k z hk
    have m : s.heap.MapOf (strKind X.prog X.w) p (fun k => findBy Value.isStrOf es k) := ⟨o, es, ep, I.kIn p o h2, h3, h4, h5, fun _ => rfl⟩
    exact subscriptTail_builtinR (x := .str z t2) m.typeIs slot_dict_getitem.lookup
      (wpAny_getItem_of (Q := fun r s' => r = .str z t2 ∧ EP X pins σ Q r s') (knd := strKind X.prog X.w) (k := k) (by show Value.isStrOf k (.str k t) = true; unfold Value.isStrOf; simp) m hf ⟨rfl, .str z, H, I.tok _, ⟨_, rfl⟩, w⟩) hs
  refine ⟨_, pe_ix ix (pe_glob (v := .ref p) hg h1 rfl hdb) pt hs, fun H₀ G₀ Γ σ H G R Q w => ?_⟩
  refine q _ _ _ _ _ _ R _ (wStep w (fun _ h => h) fun d w v H1 G1 E1 d1 => ?_)
  obtain ⟨d', e2, w⟩ := wOfO w
  unfold dgetS at e2
  split at e2
  · rename_i k
    obtain ⟨z, e3, e4⟩ := Option.map_eq_some_iff.mp e2
    cases e4
    exact ⟨rfl, k, z, den_strE d1, e3, w _ H1 G1 E1 den_str⟩
  · cases e2
end
end Wy


namespace Wy
open PySem PySem.Spec PyProof.Rows L2
theorem args_maxD (a v : Value) : argsOk "max" ⟨[a], [(Str.ofString "default", v)]⟩ := by unfold argsOk; kernel_rfl
def kwD (d : Value) : List (Str × Value) := [(Str.ofString "default", d)]
section
variable {prog : Program} {w : World} {A : Around} {R : Result → Shared → Prop} {I : Addr} {fp wr : List Addr} {n : Nat} {P : Nat → Value → Prop} {St : Nat → Heap → Prop}
theorem nameMax : (toString "max" ++ toString ".loop" : String) = "max.loop" := by decide
theorem maxD_on (Wk : Walks prog w A.in1 I fp wr n P St) (bt : Nat → Nat → Bool) (hcmp : CmpOf prog w A.in1 .Gt P bt) (S : Addr) (hSf : S ∉ fp) (dv : Value) (k : Nat) : ∀ (j : Nat) (s : Shared) (vb : Value) (c : Nat), n - (j + 1) = k → j + 1 ≤ n → St (j + 1) s.heap → P (argBest bt j) vb →
    s.heap.get? S = some { cls := .type "list", dict := none, data := .seq #[vb, vb] c, slots := #[] } → (∀ v h' tk, P (argBest bt (n - 1)) v → (∀ b o, b ∉ wr → b ≠ S → s.heap.get? b = some o → h'.get? b = some o) → R (.ok (.ret v)) { s with heap := h', toks := tk }) →
    codeAny (model prog w) A (.builtin "max.loop" ⟨[.ref I, .none, .ref S], kwD dv⟩) R s := by
  have hSw : S ∉ wr := fun h => hSf (Wk.sub _ h)
  induction k with
  | zero =>
    intro j s vb c hk hj hst hPb hS hR
    have hin : j + 1 = n := by omega
    refine codeAny_builtin F.entry_max_loop ?_; rw [Around.under_plainId F.plain_max_loop _]
    show wpAny _ A.in1 (seqItems? (.ref S) >>= _) _ _ s; refine wpAny_bind (wpAny_seqItems hS rfl ?_)
    show wpAny _ A.in1 (tryCatch (pyNext (.ref I)) _ >>= _) _ _ s; refine wpAny_bind (wpAny_tryCatch (Wk.done s _ _ (hin ▸ hst) fun h' tk hk' => ?_))
    have hS' := hk' S _ hSw hS
    show wpAny _ A.in1 (updateSeq S (fun _ => #[]) >>= _) _ _ _; refine wpAny_bind ?_; refine wpAny_updateSeq hS' rfl (wpAny_bind (wpAny_letGo (wpAny_pure ?_)))
    exact hR vb _ tk (by rw [← hin]; exact hPb) fun b o hbw hbS e => (Heap.get?_update_other _ _ (Ne.symm hbS)).trans (hk' b o hbw e)
  | succ k ih =>
    intro j s vb c hk hj hst hPb hS hR
    have hlt : j + 1 < n := by omega
    refine codeAny_builtin F.entry_max_loop ?_; rw [Around.under_plainId F.plain_max_loop _]
    show wpAny _ A.in1 (seqItems? (.ref S) >>= _) _ _ s; refine wpAny_bind (wpAny_seqItems hS rfl ?_)
    show wpAny _ A.in1 (tryCatch (pyNext (.ref I)) _ >>= _) _ _ s; refine wpAny_bind (wpAny_tryCatch (Wk.item (j + 1) s _ _ hlt hst fun v h' tk hP hst' hk' => ?_))
    have hS' := hk' S _ hSw hS
    show wpAny _ A.in1 (tryCatch (holding [v, v] (richCompare .Gt v vb >>= _)) _ >>= _) _ _ _; refine wpAny_bind (wpAny_tryCatch (wpAny_holding (wpAny_bind (hcmp (j + 1) (argBest bt j) v vb _ _ _ hP hPb ?_))))
    refine wpAny_bind (wpAny_holding (wpAny_truthy_bool ?_)); refine wpAny_bind (wpAny_letGo (wpAny_pure ?_))
    cases hb : bt (j + 1) (argBest bt j) with
    | true =>
      simp only [if_true]
      refine wpAny_bind ?_; refine wpAny_updateSeq hS' rfl (wpAny_bind (wpAny_letGo ?_)); rw [nameMax]
      have nb : ∀ b, b ∈ fp → S ≠ b := fun b hbf h => hSf (by rw [h]; exact hbf)
      refine wpAny_pure ⟨plainId_quiet F.plain_max_loop _, ih (j + 1) _ v _ (by omega) hlt (Wk.frame _ _ _ hst' fun b hbf o e => (Heap.get?_update_other _ _ (nb b hbf)).trans e) (by simp only [argBest, hb, if_true]; exact hP) (Heap.get?_update_self _ hS' rfl) ?_⟩
      exact fun v' h'' tk'' hP' hk'' => hR v' h'' tk'' hP' fun b o hbw hbS e => hk'' b o hbw hbS ((Heap.get?_update_other _ _ (Ne.symm hbS)).trans (hk' b o hbw e))
    | false =>
      simp only [Bool.false_eq_true, if_false]
      refine wpAny_bind (wpAny_letGo ?_); rw [nameMax]
      exact wpAny_pure ⟨plainId_quiet F.plain_max_loop _, ih (j + 1) _ vb c (by omega) hlt hst' (by simp only [argBest, hb, Bool.false_eq_true, if_false]; exact hPb) hS' fun v' h'' tk'' hP' hk'' => hR v' h'' tk'' hP' fun b o hbw hbS e => hk'' b o hbw hbS (hk' b o hbw e)⟩
theorem maxD_first (Wk : Walks prog w A.in1 I fp wr n P St) (bt : Nat → Nat → Bool) (hcmp : CmpOf prog w A.in1 .Gt P bt) (S : Addr) (hSf : S ∉ fp) (dv : Value) {s : Shared} {c : Nat} (hst : St 0 s.heap)
    (hS : s.heap.get? S = some { cls := .type "list", dict := none, data := .seq #[] c, slots := #[] }) (h0 : n = 0 → ∀ h' tk, (∀ b o, b ∉ wr → b ≠ S → s.heap.get? b = some o → h'.get? b = some o) → R (.ok (.ret dv)) { s with heap := h', toks := tk })
    (hR : 0 < n → ∀ v h' tk, P (argBest bt (n - 1)) v → (∀ b o, b ∉ wr → b ≠ S → s.heap.get? b = some o → h'.get? b = some o) → R (.ok (.ret v)) { s with heap := h', toks := tk }) :
    codeAny (model prog w) A (.builtin "max.loop" ⟨[.ref I, .none, .ref S], kwD dv⟩) R s := by
  have hSw : S ∉ wr := fun h => hSf (Wk.sub _ h)
  refine codeAny_builtin F.entry_max_loop ?_; rw [Around.under_plainId F.plain_max_loop _]
  show wpAny _ A.in1 (seqItems? (.ref S) >>= _) _ _ s; refine wpAny_bind (wpAny_seqItems hS rfl ?_)
  show wpAny _ A.in1 (tryCatch (pyNext (.ref I)) _ >>= _) _ _ s
  by_cases hn : 0 < n
  · refine wpAny_bind (wpAny_tryCatch (Wk.item 0 s _ _ hn hst fun v h' tk hP hst' hk' => ?_))
    have hS' := hk' S _ hSw hS
    show wpAny _ A.in1 (updateSeq S (fun _ => #[v, v]) >>= _) _ _ _; refine wpAny_bind ?_; refine wpAny_updateSeq hS' rfl ?_; rw [nameMax]
    have nb : ∀ b, b ∈ fp → S ≠ b := fun b hbf h => hSf (by rw [h]; exact hbf)
    refine wpAny_pure ⟨plainId_quiet F.plain_max_loop _, maxD_on Wk bt hcmp S hSf dv _ 0 _ v _ rfl hn (Wk.frame _ _ _ hst' fun b hbf o e => (Heap.get?_update_other _ _ (nb b hbf)).trans e) hP (Heap.get?_update_self _ hS' rfl) ?_⟩
    exact fun v' h'' tk'' hP' hk'' => hR hn v' h'' tk'' hP' fun b o hbw hbS e => hk'' b o hbw hbS ((Heap.get?_update_other _ _ (Ne.symm hbS)).trans (hk' b o hbw e))
  · have hz : n = 0 := by omega
    subst hz
    refine wpAny_bind (wpAny_tryCatch (Wk.done s _ _ hst fun h' tk hk' => ?_))
    show wpAny _ A.in1 (rule _ >>= _) _ _ _
    refine wpAny_bind (wpAny_rule ?_)
    exact wpAny_pure (h0 rfl h' tk fun b o hbw hbS e => hk' b o hbw e)
end
section
variable {prog : Program} {w : World} {A : Around} {E : Value → Shared → Prop} {s : Shared}
theorem call_maxD {x dv : Value} {Q : Value → Shared → Prop}
    (h : wpAny (model prog w) A.in1 (pyIter x) (fun it s2 => ∃ I fp wr n P St bt, it = .ref I ∧ Walks prog w A.in1 I fp wr n P St ∧ St 0 s2.heap ∧ (∀ b ∈ fp, b < s2.heap.objs.size) ∧ CmpOf prog w A.in1 .Gt P bt ∧
      (n = 0 → ∀ h' tk, (∀ b o, b ∉ wr → s2.heap.get? b = some o → h'.get? b = some o) → Q dv { s2 with heap := h', toks := tk }) ∧
      (0 < n → ∀ v h' tk, P (argBest bt (n - 1)) v → (∀ b o, b ∉ wr → s2.heap.get? b = some o → h'.get? b = some o) → Q v { s2 with heap := h', toks := tk })) E s) :
    wpAny (model prog w) A (call (.builtin "max") [x] (kwD dv)) Q E s := by
  refine kmb_tree F.kind_max F.plain_max F.entry_max (args_maxD _ _) ?_
  show wpAny _ A.in1 (Builtin.Builtins.bindParams "max" ["key", "default"] 0 ⟨[], kwD dv⟩ >>= _) _ _ s
  refine wpAny_bind (wpAny_of_eq (a := [none, some dv]) (by rfl) ?_)
  refine wpAny_bind (wpAny_pure ?_)
  refine wpAny_bind (thn h fun it s2 h2 => ?_)
  obtain ⟨I, fp, wr, n, P, St, bt, rfl, Wk, hst, hfp, hcmp, q0, hQ⟩ := h2
  refine wpAny_bind (wpAny_newObj_type ?_)
  have hSf : s2.heap.objs.size ∉ fp := fun hm => Nat.lt_irrefl _ (hfp _ hm)
  rw [nameMax]
  have up : ∀ {h' : Heap}, (∀ b o, b ∉ wr → b ≠ s2.heap.objs.size → (s2.heap.push { cls := .type "list", dict := none, data := .seq ([] : List Value).toArray }).get? b = some o → h'.get? b = some o) → ∀ b o, b ∉ wr → s2.heap.get? b = some o → h'.get? b = some o :=
    fun hk b o hbw e => hk b o hbw (Nat.ne_of_lt (Heap.lt_size e)) (Heap.get?_push_of_some _ e)
  refine wpAny_pure ⟨plainId_quiet F.plain_max_loop _, maxD_first Wk bt hcmp s2.heap.objs.size hSf dv (Wk.frame _ _ _ hst fun b _ o e => Heap.get?_push_of_some _ e) (Heap.get?_push_size _ rfl) ?_ ?_⟩
  · exact fun hn h' tk hk => q0 hn h' tk (up hk)
  · exact fun hn v h' tk hP hk => hQ hn v h' tk hP (up hk)
end
section
variable {X : Cx} {W : XP} {e e2 : Expr} {fs : Ga → R (Bool × List D)} {fd : Ga → R D} {p pos kpos : Pos}
def maxD : Bool × List D → D → Option D
  | (false, ds), .int d => (asIs ds).bind fun ns => some (.int ((mostI ns).getD d))
  | _, _ => none
def eMaxd (fs : Ga → R (Bool × List D)) (fd : Ga → R D) : Ga → R D := fun Γ => (fs Γ).bind fun q => (fd Γ).bind fun y => .ofO (maxD q y)
theorem run_maxD {pins : List (Addr × Obj)} {s : Shared} {σ : L2.St} {H : Hp} {a : Addr} {ns : List Int} {dI : Int} {t : Tok} {Q : VK} (I : Inv X pins σ H s) (hc : X.calm = true) (hs : SqL X.K H a (ns.map V.int)) (q : Q (.int ((mostI ns).getD dI)) H) :
    wpAny (model X.prog X.w) X.A (call (.builtin "max") [.ref a] (kwD (.int dI t))) (EP X pins σ Q) X.xe s := by
  obtain ⟨its, vv, pl, hl⟩ := I.list hs
  obtain ⟨ys, rfl, rfl⟩ := toks_of vv
  have hL : s.heap.IsList a (intItems ys.toArray) := by
    have := pl.isList
    unfold intItems
    simpa using this
  have hsz : (intItems ys.toArray).size = ys.length := by unfold intItems; simp
  refine call_maxD (iter_intList hL fun s2 e st hfp hlI => ?_)
  subst e
  refine ⟨_, _, _, _, _, _, _, rfl, Walks.list (A := X.A.in1) (I.ok.hd hc) _ a hlI (intItems ys.toArray), st, hfp, CmpOf.ints_gt (numAt ys.toArray) (fun _ _ => intItems_at), fun hn h' tk hk => ?_, fun hn v h' tk hP hk => ?_⟩
  · have hy : ys = [] := List.eq_nil_of_length_eq_zero (by rw [← hsz]; exact hn)
    subst hy
    exact ⟨.int dI, H, I.kept (t' := tk) (old_kept hk), ⟨_, rfl⟩, q⟩
  · have hn' : 0 < ys.length := by rw [← hsz]; exact hn
    rw [hsz] at hP
    obtain ⟨k1, k2⟩ := argBest_gt (fun i => numAt ys.toArray i) (ys.length - 1)
    generalize argBest (fun i j => decide (numAt ys.toArray i > numAt ys.toArray j)) (ys.length - 1) = b at hP k1 k2
    have hb : b < ys.length := by omega
    have num : ∀ j (h : j < ys.length), numAt ys.toArray j = ys[j].1 := fun j h => by unfold numAt; simp [h]
    have ev : v = .int ys[b].1 ys[b].2 := by
      unfold intItems at hP
      simp [hb] at hP
      exact hP.symm
    subst ev
    have eM : mostI (ys.map (·.1)) = some ys[b].1 := by
      refine mostI_uniq (List.mem_map.mpr ⟨_, List.getElem_mem hb, rfl⟩) fun z hz => ?_
      obtain ⟨y, hy, rfl⟩ := List.mem_map.mp hz
      obtain ⟨j, hj, rfl⟩ := List.getElem_of_mem hy
      have := k2 j (by omega)
      rw [num j hj, num b hb] at this
      exact this
    rw [eM] at q
    exact ⟨.int _, H, I.kept (t' := tk) (old_kept hk), ⟨_, rfl⟩, q⟩
theorem ev_maxd (hg : Gl X "max") (hm : X.mg "max" = none) (ha : SqD X W e fs) (hd : EvD X W e2 fd) (hc : X.calm = true := by rfl) (hse : starEach [e] X.env = [(false, eval e X.env)] := by rfl) : EvD X W (.Call (.Name "max" p) [e] [⟨some "default", e2, kpos⟩] pos) (eMaxd fs fd) := by
  obtain ⟨ta, pa, qa⟩ := ha
  obtain ⟨td, pd, qd⟩ := hd
  refine ⟨fun σ H Q => ta σ H fun x H1 => td σ H1 fun y H2 => ∃ a ns dI, x = .ref a ∧ y = .int dI ∧ SqL X.K H2 a (ns.map V.int) ∧ Q (.int ((mostI ns).getD dI)) H2, fun pins s σ H Q I h => ?_, fun H₀ G₀ Γ σ H G R Q w => ?_⟩
  · refine wpAny_Call_Name_kw (ld_blt I hg hm boot_max ?_)
    refine callWith_kw ?_ (by rw [hse]; rfl) (by rw [hse]; rfl) rfl rfl
    refine thn (pa_cons pa pa_nil hse pos pins s σ H (fun xs H1 => match xs with
      | [x] => td σ H1 fun y H2 => ∃ a ns dI, x = .ref a ∧ y = .int dI ∧ SqL X.K H2 a (ns.map V.int) ∧ Q (.int ((mostI ns).getD dI)) H2
      | _ => False) I h) fun us s1 ⟨xs, H1, I1, r1, h1⟩ => ?_
    match xs, r1, h1 with
    | [x], r1, h1 =>
      refine thn (pk_cons (nm := some "default") (kpos := kpos) pd pk_nil pos pins s1 σ H1 (fun ys H2 => match ys with
        | [y] => ∃ a ns dI, x = .ref a ∧ y = .int dI ∧ SqL X.K H2 a (ns.map V.int) ∧ Q (.int ((mostI ns).getD dI)) H2
        | _ => False) I1 h1) fun ws s2 ⟨ys, H2, I2, r2, h2⟩ => ?_
      match ys, r2, h2 with
      | [y], r2, ⟨a, ns, dI, e1, e3, hs, q⟩ =>
        subst e1 e3
        obtain ⟨u, rfl, ru⟩ := r1.one
        obtain rfl : u = Value.ref a := ru
        obtain ⟨z, rfl, rz⟩ := r2.one
        obtain ⟨t, rfl⟩ := rz
        exact run_maxD I2 hc hs q
  · refine qa _ _ _ _ _ _ R _ (wStep w (fun _ h => h) fun ⟨b, ds⟩ w a vs H1 G1 E1 s1 l1 => ?_)
    refine qd _ _ _ _ _ _ (R.after E1) _ (wStep w (fun _ h => h.up E1) fun y w u H2 G2 E2 d2 => ?_)
    obtain ⟨d, e', k⟩ := wOfO w
    cases b with
    | true => cases y <;> cases e'
    | false =>
      cases y with
      | int i =>
        obtain ⟨ns, e1, e2⟩ := Option.bind_eq_some_iff.mp (show ((asIs ds).bind fun ns => some (D.int ((mostI ns).getD i))) = some d from e')
        cases e2
        have := asIs_den l1 e1
        subst this
        exact ⟨a, ns, _, rfl, den_intE d2, E2.hh.seq s1, k _ H2 G2 (E1.trans E2) den_int⟩
      | _ => cases e'
end
end Wy


namespace Pg
open PySem PySem.Spec PyProof.Rows L2 Wy Wl Lw
def d_TURNED : List (Str × Str) := [("and", "or"), ("or", "and"), ("all", "some"), ("some", "all")]
abbrev N_gathered : List Str := ["saying", "tell", "ready", "part", "told"]
def L_gathered_1 (a_tell : Addr) (M_parts : List D → R D) (M_tell : List D → R D) : Ga → RS := (sSeq (sSetCM 4 (iT (eCall M_parts (aCons (eV 3) aNil))) (mPop 4)) (sFrz 4 (sApp 2 (eCallV 1 a_tell M_tell (aCons (eV 3) (aCons (eV 4) aNil))))))
noncomputable def B_gathered (a_tell : Addr) (M_tell : List D → R D) (M_walked : List D → R D) (M_parts : List D → R D) : Ga → RS := (sSeq (sSetO 2 aNil) (sSeq (sFor (iRev (eCall M_walked (aCons (eV 0) aNil))) (gName' 3) (L_gathered_1 a_tell M_parts M_tell)) (sRetM (mPop 2))))
abbrev N_plain_pair : List Str := ["saying", "pairs", "head", "turned", "one", "other", "kind"]
noncomputable def B_plain_pair : Ga → RS := (sSeq (sSet 2 (e2 ixD (eV 0) (eC (.int 0)))) (sSeq (sIf (tB (e2 eqD (eV 2) (eC (.str "name")))) (sRet (eTup (aCons (eV 0) (aCons (eTup (aCons (eC (.str "not")) (aCons (eV 0) aNil))) aNil)))) sNext) (sSeq (sIf (tB (e2 eqD (eV 2) (eC (.str "not")))) (sRet (eTup (aCons (e2 ixD (e2 ixD (eV 1) (eC (.int 0))) (eC (.int 1))) (aCons (e2 ixD (e2 ixD (eV 1) (eC (.int 0))) (eC (.int 0))) aNil)))) sNext) (sSeq (sSet 3 (eDget d_TURNED (eV 2))) (sSeq (sIf (tOrR (tB (e2 eqD (eV 2) (eC (.str "and")))) (tB (e2 eqD (eV 2) (eC (.str "or"))))) (sSeq (sSet 4 (e2 ixD (eV 1) (eC (.int 0)))) (sSeq (sSet 5 (e2 ixD (eV 1) (eC (.int 1)))) (sRet (eTup (aCons (eTup (aCons (eV 2) (aCons (e2 ixD (eV 4) (eC (.int 0))) (aCons (e2 ixD (eV 5) (eC (.int 0))) aNil)))) (aCons (eTup (aCons (eV 3) (aCons (e2 ixD (eV 4) (eC (.int 1))) (aCons (e2 ixD (eV 5) (eC (.int 1))) aNil)))) aNil)))))) sNext) (sSeq (sSet 6 (e2 ixD (eV 0) (eC (.int 1)))) (sRet (eTup (aCons (eTup (aCons (eV 2) (aCons (eV 6) (aCons (e2 ixD (e2 ixD (eV 1) (eC (.int 0))) (eC (.int 0))) aNil)))) (aCons (eTup (aCons (eV 3) (aCons (eV 6) (aCons (e2 ixD (e2 ixD (eV 1) (eC (.int 0))) (eC (.int 1))) aNil)))) aNil))))))))))
noncomputable def M_plain_pair : List D → R D := fun ds => callR N_plain_pair (B_plain_pair) ds
noncomputable def M_gathered_plain_pair : List D → R D := fun ds => par0 fun a => callN N_gathered 1 (B_gathered a M_plain_pair M_walked M_parts) a ds
abbrev N_plain : List Str := ["saying"]
noncomputable def B_plain (M_gathered_plain_pair : List D → R D) : Ga → RS := (sRet (e2 ixD (eCall M_gathered_plain_pair (aCons (eV 0) aNil)) (eC (.int 0))))
noncomputable def M_plain : List D → R D := fun ds => callR N_plain (B_plain M_gathered_plain_pair) ds
abbrev N_denied : List Str := ["saying"]
noncomputable def B_denied (M_gathered_plain_pair : List D → R D) : Ga → RS := (sRet (e2 ixD (eCall M_gathered_plain_pair (aCons (eV 0) aNil)) (eC (.int 1))))
noncomputable def M_denied : List D → R D := fun ds => callR N_denied (B_denied M_gathered_plain_pair) ds
abbrev N_depth_over : List Str := ["saying", "depths", "deepest"]
noncomputable def B_depth_over : Ga → RS := (sSeq (sSet 2 (eMaxd (sV 1) (eC (.int 0)))) (sSeq (sIf (tOrR (tB (e2 eqD (e2 ixD (eV 0) (eC (.int 0))) (eC (.str "all")))) (tB (e2 eqD (e2 ixD (eV 0) (eC (.int 0))) (eC (.str "some"))))) (sRet (e2 addD (eV 2) (eC (.int 1)))) sNext) (sRet (eV 2))))
noncomputable def M_depth_over : List D → R D := fun ds => callR N_depth_over (B_depth_over) ds
noncomputable def M_gathered_depth_over : List D → R D := fun ds => par0 fun a => callN N_gathered 1 (B_gathered a M_depth_over M_walked M_parts) a ds
abbrev N_deep : List Str := ["saying"]
noncomputable def B_deep (M_gathered_depth_over : List D → R D) : Ga → RS := (sRet (eCall M_gathered_depth_over (aCons (eV 0) aNil)))
noncomputable def M_deep : List D → R D := fun ds => callR N_deep (B_deep M_gathered_depth_over) ds
end Pg


namespace Pg
open PySem PySem.Spec PyProof.Rows L2 Wy Wl Lw
def Runs (g : D → Ga → Option Ga) (T : Ga → RS) : List D → Ga → Ga → Prop
  | [], Γ, Γ' => Γ = Γ'
  | d :: ds, Γ, Γ' => ∃ Γ1 Γ2, g d Γ = some Γ1 ∧ T Γ1 = .nx Γ2 ∧ Runs g T ds Γ2 Γ'
theorem Runs.append {g : D → Ga → Option Ga} {T : Ga → RS} : ∀ {a b : List D} {Γ Γ1 Γ2 : Ga}, Runs g T a Γ Γ1 → Runs g T b Γ1 Γ2 → Runs g T (a ++ b) Γ Γ2
  | [], _, _, _, _, h, h' => by cases h; exact h'
  | d :: a, b, _, _, _, ⟨x, y, e1, e2, h⟩, h' => ⟨x, y, e1, e2, Runs.append h h'⟩
theorem Runs.turns {g : D → Ga → Option Ga} {T : Ga → RS} : ∀ {a : List D} {Γ Γ1 : Ga}, Runs g T a Γ Γ1 → sTurns g T a Γ = .nx Γ1
  | [], _, _, h => by cases h; rfl
  | d :: a, _, _, ⟨x, y, e1, e2, h⟩ => by
    unfold sTurns
    rw [e1]
    simp only [e2]
    exact Runs.turns h
structure Told (T : List D → R D) (val : Say → D) : Prop where
  at_ : ∀ s, T [dS s, .lst ((partsS s).map val)] = .ok (val s)
section
variable {T : List D → R D} {val : Say → D} {a : Addr} {d0 : D}
theorem turn_of (h : Told T val) (s : Say) (st : List D) (x3 x4 : Sl) (hl : st.length < 15000000) : L_gathered_1 a M_parts T [.val d0, .fn a, .own (st ++ ((partsS s).map val).reverse), .val (dS s), x4] = .nx [.val d0, .fn a, .own (st ++ [val s]), .val (dS s), .val (.lst ((partsS s).map val))] := by
  have e := h.at_ s
  have hl' : st.length < 16000000 := by omega
  cases s with
  | nm x =>
    simp only [partsS, List.map_nil, List.reverse_nil, List.append_nil] at e ⊢
    simp [L_gathered_1, m_parts, partsS, sSetCM, compM, asT, eCallV, sFrz, e, hl']
  | neg b =>
    simp only [partsS, List.map_cons, List.map_nil, List.reverse_cons, List.reverse_nil, List.nil_append] at e ⊢
    simp [L_gathered_1, m_parts, partsS, sSetCM, compM, asT, eCallV, sFrz, mPop, Sl.cont, Sl.put, e, hl']
  | two c b b' =>
    simp only [partsS, List.map_cons, List.map_nil, List.reverse_cons, List.reverse_nil, List.nil_append] at e ⊢
    simp [L_gathered_1, m_parts, partsS, sSetCM, compM, asT, eCallV, sFrz, mPop, Sl.cont, Sl.put, e, hl']
  | way c k b =>
    simp only [partsS, List.map_cons, List.map_nil, List.reverse_cons, List.reverse_nil, List.nil_append] at e ⊢
    simp [L_gathered_1, m_parts, partsS, sSetCM, compM, asT, eCallV, sFrz, mPop, Sl.cont, Sl.put, e, hl']
theorem one_turn (h : Told T val) (s : Say) (st : List D) (x3 x4 : Sl) (hl : st.length < 15000000) : ∃ y3 y4, Runs (gName' 3) (L_gathered_1 a M_parts T) [dS s] [.val d0, .fn a, .own (st ++ ((partsS s).map val).reverse), x3, x4] [.val d0, .fn a, .own (st ++ [val s]), y3, y4] :=
  ⟨_, _, _, _, rfl, turn_of h s st x3 x4 hl, rfl⟩
theorem runs_of (h : Told T val) : ∀ (s : Say) (st : List D) (x3 x4 : Sl), st.length + sizeS s < 15000000 → ∃ y3 y4, Runs (gName' 3) (L_gathered_1 a M_parts T) ((subs s).reverse.map dS) [.val d0, .fn a, .own st, x3, x4] [.val d0, .fn a, .own (st ++ [val s]), y3, y4]
  | .nm x, st, x3, x4, hl => by
    have := one_turn (a := a) (d0 := d0) h (.nm x) st x3 x4 (by omega)
    simpa [subs, partsS] using this
  | .neg b, st, x3, x4, hl => by
    have hb := size_pos b
    rw [sizeS] at hl
    obtain ⟨y3, y4, r1⟩ := runs_of h b st x3 x4 (by omega)
    obtain ⟨z3, z4, r2⟩ := one_turn (a := a) (d0 := d0) h (.neg b) st y3 y4 (by omega)
    refine ⟨z3, z4, ?_⟩
    rw [subs, List.reverse_cons, List.map_append]
    exact r1.append r2
  | .two c b b', st, x3, x4, hl => by
    have hb := size_pos b
    have hb' := size_pos b'
    rw [sizeS] at hl
    obtain ⟨y3, y4, r1⟩ := runs_of h b' st x3 x4 (by omega)
    obtain ⟨w3, w4, r2⟩ := runs_of h b (st ++ [val b']) y3 y4 (by rw [List.length_append, List.length_singleton]; omega)
    obtain ⟨z3, z4, r3⟩ := one_turn (a := a) (d0 := d0) h (.two c b b') st w3 w4 (by omega)
    refine ⟨z3, z4, ?_⟩
    rw [subs, List.reverse_cons, List.reverse_append, List.map_append, List.map_append]
    refine (r1.append r2).append ?_
    have e : st ++ [val b'] ++ [val b] = st ++ ((partsS (.two c b b')).map val).reverse := by simp [partsS]
    rw [e]
    exact r3
  | .way c k b, st, x3, x4, hl => by
    have hb := size_pos b
    rw [sizeS] at hl
    obtain ⟨y3, y4, r1⟩ := runs_of h b st x3 x4 (by omega)
    obtain ⟨z3, z4, r2⟩ := one_turn (a := a) (d0 := d0) h (.way c k b) st y3 y4 (by omega)
    refine ⟨z3, z4, ?_⟩
    rw [subs, List.reverse_cons, List.map_append]
    exact r1.append r2
end
theorem m_gathered {T : List D → R D} {val : Say → D} (h : Told T val) (s : Say) (hs : sizeS s ≤ 100000) : (par0 fun a => callN N_gathered 1 (B_gathered a T M_walked M_parts) a [dS s]) = .ok (val s) := by
  refine par0_eq fun a => ?_
  obtain ⟨y3, y4, r⟩ := runs_of (a := a) (d0 := dS s) h s [] .un .un (by simp; omega)
  have e := r.turns
  rw [List.nil_append] at e
  have ei : ∀ Γ : Ga, eV 0 Γ = .ok (dS s) → iRev (eCall M_walked (aCons (eV 0) aNil)) Γ = .ok ((subs s).reverse.map dS) := fun Γ h0 => by
    simp [iRev, h0, m_walked s hs, asL]
  have e0 := ei [.val (dS s), .fn a, .own [], .un, .un] (by simp)
  have er : sRetM (mPop 2) [.val (dS s), .fn a, .own [val s], y3, y4] = .rt (val s) := by simp [sRetM, mPop, Sl.cont, Sl.put]
  simp [-List.map_reverse, callN, beginX, B_gathered, e0, e, er]
def vPair (s : Say) : D := .tup [dS (pl s), dS (dn s)]
theorem turned2 (c : Bool) : dgetS d_TURNED (.str (hd2 c)) = some (.str (hd2 (!c))) := by cases c <;> rfl
theorem turnedw (c : Bool) : dgetS d_TURNED (.str (hdw c)) = some (.str (hdw (!c))) := by cases c <;> rfl
theorem told_pair : Told M_plain_pair vPair where
  at_ := fun s => by
    cases s with
    | nm x =>
      rw [show vPair (.nm x) = .tup [dS (.nm x), .tup [.str "not", dS (.nm x)]] from rfl]
      simp [M_plain_pair, B_plain_pair, begin_, partsS]
    | neg a =>
      rw [show vPair (.neg a) = .tup [dS (dn a), dS (pl a)] from rfl]
      simp [M_plain_pair, B_plain_pair, begin_, partsS, vPair, atI_zero, atI_one]
    | two c a b =>
      have e := turned2 c
      rw [show vPair (.two c a b) = .tup [.tup [.str (hd2 c), dS (pl a), dS (pl b)], .tup [.str (hd2 (!c)), dS (dn a), dS (dn b)]] from rfl]
      have h1 : ¬ (hd2 c = Str.ofString "name") := by cases c <;> decide
      have h2 : ¬ (hd2 c = Str.ofString "not") := by cases c <;> decide
      have h3 : (decide (hd2 c = Str.ofString "and") || decide (hd2 c = Str.ofString "or")) = true := by cases c <;> decide
      cases c <;> simp [M_plain_pair, B_plain_pair, begin_, partsS, vPair, eDget, e, hd2, atI_zero, atI_one] at e ⊢ <;> simp [e, atI_zero, atI_one]
    | way c k a =>
      have e := turnedw c
      rw [show vPair (.way c k a) = .tup [.tup [.str (hdw c), .int (k : Int), dS (pl a)], .tup [.str (hdw (!c)), .int (k : Int), dS (dn a)]] from rfl]
      cases c <;> simp [M_plain_pair, B_plain_pair, begin_, partsS, vPair, eDget, e, hdw, atI_zero, atI_one] at e ⊢ <;> simp [e, atI_zero, atI_one]
theorem m_plain (s : Say) (hs : sizeS s ≤ 100000) : M_plain [dS s] = .ok (dS (pl s)) := by
  have e : M_gathered_plain_pair [dS s] = .ok (vPair s) := m_gathered told_pair s hs
  simp [M_plain, B_plain, begin_, e, vPair, atI_zero]
theorem m_denied (s : Say) (hs : sizeS s ≤ 100000) : M_denied [dS s] = .ok (dS (dn s)) := by
  have e : M_gathered_plain_pair [dS s] = .ok (vPair s) := m_gathered told_pair s hs
  simp [M_denied, B_denied, begin_, e, vPair, atI_one]
def vDeep (s : Say) : D := .int (deepS s : Int)
theorem told_deep : Told M_depth_over vDeep where
  at_ := fun s => by
    cases s with
    | nm x => simp [M_depth_over, B_depth_over, begin_, partsS, vDeep, deepS, eMaxd, maxD, asIs, mostI]
    | neg a => simp [M_depth_over, B_depth_over, begin_, partsS, vDeep, deepS, eMaxd, maxD, asIs, mostI]
    | two c a b =>
      have e : max (deepS a : Int) (deepS b : Int) = ((max (deepS a) (deepS b) : Nat) : Int) := by omega
      cases c <;> simp [M_depth_over, B_depth_over, begin_, partsS, vDeep, deepS, eMaxd, maxD, asIs, mostI, hd2, e]
    | way c k a => cases c <;> simp [M_depth_over, B_depth_over, begin_, partsS, vDeep, deepS, eMaxd, maxD, asIs, mostI, hdw]
theorem m_deep (s : Say) (hs : sizeS s ≤ 100000) : M_deep [dS s] = .ok (.int (deepS s : Int)) := by
  have e : M_gathered_depth_over [dS s] = .ok (vDeep s) := m_gathered told_deep s hs
  simp [M_deep, B_deep, begin_, e, vDeep]
end Pg

namespace K06
open PySem PySem.Spec PyProof.Rows L2 Wy Wl Lw Pg L06
def top (i : Nat) : Stmt := PySem.Challenge.pw_worldyard_k06_whole_plain_forms.main.body.getD i (.Pass ⟨0, 0, 0, 0⟩)
abbrev s__law_cell : Stmt := top 21
abbrev ps__law_cell : List Str := ["_law_script", "_law_k"]
theorem sc__law_cell : FnScope N__law_cell ps__law_cell (defScope s__law_cell) := ⟨rfl, rfl, rfl, by decide +kernel, rfl, by decide +kernel, by decide +kernel⟩
theorem ok__law_cell {P : Program} {w : World} {K : PySem.W.Frag} {mg : Str → Option Value} {base : Heap} {k : Nat} {a : Addr} {fd : FuncData} (Df : Def K mg "_law_cell" s__law_cell ps__law_cell a fd)
    (m_len : mg "len" = none)
    : FnOk P w K mg base (CX1 P w) (k + 1) a fd ps__law_cell (spF K mg ps__law_cell.length fun ds => callR N__law_cell (B__law_cell) ds) :=
  fn_R1 Df.fn sc__law_cell fun cdv A outer s H W E hr => (xs_cons (x_if (tv_cmp opd_lt (ev_var 1) (ev_callB calld_len rfl m_len PySem.boot_len (av_cons (ev_var 0) av_nil))) (xs_one (x_ret (ev_ix (ev_var 0) (ev_var 1)))) xs_nil) (xs_one (x_ret ev_int)))
abbrev s__law_mix : Stmt := top 22
abbrev ps__law_mix : List Str := ["_law_cell_here", "_law_prime", "_law_many"]
theorem sc__law_mix : FnScope N__law_mix ps__law_mix (defScope s__law_mix) := ⟨rfl, rfl, rfl, by decide +kernel, rfl, by decide +kernel, by decide +kernel⟩
theorem ok__law_mix {P : Program} {w : World} {K : PySem.W.Frag} {mg : Str → Option Value} {base : Heap} {k : Nat} {a : Addr} {fd : FuncData} (Df : Def K mg "_law_mix" s__law_mix ps__law_mix a fd)
    : FnOk P w K mg base (CX1 P w) (k + 1) a fd ps__law_mix (spF K mg ps__law_mix.length fun ds => callR N__law_mix (B__law_mix) ds) :=
  fn_R1 Df.fn sc__law_mix fun cdv A outer s H W E hr => (xs_one (x_ret (ev_op opd_mod (ev_op opd_mod (ev_op opd_mul (ev_var 0) ev_int) (ev_var 1)) (ev_var 2))))
abbrev s__law_yard : Stmt := top 25
abbrev ps__law_yard : List Str := ["_law_script", "_law_k", "_law_own"]
theorem sc__law_yard : FnScope N__law_yard ps__law_yard (defScope s__law_yard) := ⟨rfl, rfl, rfl, by decide +kernel, rfl, by decide +kernel, by decide +kernel⟩
theorem ok__law_yard {P : Program} {w : World} {K : PySem.W.Frag} {mg : Str → Option Value} {base : Heap} {k : Nat} {a : Addr} {fd : FuncData} (Df : Def K mg "_law_yard" s__law_yard ps__law_yard a fd)
    {M__law_cell : List D → R D} {a__law_cell : Addr} {fd__law_cell : FuncData} (D__law_cell : Def K mg "_law_cell" s__law_cell ps__law_cell a__law_cell fd__law_cell) (F__law_cell : FnOk P w K mg base (CX1 P w) k a__law_cell fd__law_cell ps__law_cell (spF K mg ps__law_cell.length M__law_cell))
    {M__law_mix : List D → R D} {a__law_mix : Addr} {fd__law_mix : FuncData} (D__law_mix : Def K mg "_law_mix" s__law_mix ps__law_mix a__law_mix fd__law_mix) (F__law_mix : FnOk P w K mg base (CX1 P w) k a__law_mix fd__law_mix ps__law_mix (spF K mg ps__law_mix.length M__law_mix))
    (m_range : mg "range" = none)
    (m_enumerate : mg "enumerate" = none)
    (m_tuple : mg "tuple" = none)
    : FnOk P w K mg base (CX1 P w) (k + 1) a fd ps__law_yard (spF K mg ps__law_yard.length fun ds => callR N__law_yard (B__law_yard M__law_cell M__law_mix) ds) :=
  fn_R1 Df.fn sc__law_yard fun cdv A outer s H W E hr => (xs_cons (x_set 3 (ev_op opd_addD ev_int (ev_op opd_mod (ev_call F__law_cell (pw1 ⟨rfl, rfl, rfl⟩) hr rfl D__law_cell.mg D__law_cell.fn.kp D__law_cell.bd (av_cons (ev_var 0) (av_cons (ev_var 1) av_nil))) ev_int)) sc__law_yard.nd) (xs_cons (x_setO 4 (ow_lst av_nil) sc__law_yard.nd) (xs_cons (x_for rfl (it_range1 rfl m_range (av_cons (ev_var 3) av_nil)) (tg_name 5 sc__law_yard.nd) (xs_cons (x_setO 6 (ow_lst av_nil) sc__law_yard.nd) (xs_cons (x_for rfl (it_enum rfl m_enumerate (ev_ow (ow_lst (av_cons ev_str (av_cons ev_str (av_cons ev_str av_nil)))))) (tg_two rfl (tg_name 7 sc__law_yard.nd) (tg_name 8 sc__law_yard.nd)) (xs_one (x_if (tv_cmp (opd_eqD (room_u hr)) (ev_call F__law_mix (pw1 ⟨rfl, rfl, rfl⟩) hr rfl D__law_mix.mg D__law_mix.fn.kp D__law_mix.bd (av_cons (ev_op opd_addD (ev_op opd_addD (ev_call F__law_cell (pw1 ⟨rfl, rfl, rfl⟩) hr rfl D__law_cell.mg D__law_cell.fn.kp D__law_cell.bd (av_cons (ev_var 0) (av_cons (ev_op opd_addD (ev_var 1) ev_int) av_nil))) (ev_op opd_mul ev_int (ev_var 5))) (ev_var 7)) (av_cons ev_int (av_cons ev_int av_nil)))) ev_int) (xs_one (x_app 6 (ev_var 8))) xs_nil)) (hp := po1 ⟨rfl, rfl, rfl⟩)) (xs_cons (x_setO 9 (ow_lst av_nil) sc__law_yard.nd) (xs_cons (x_for rfl (it_range1 rfl m_range (av_cons ev_int av_nil)) (tg_name 10 sc__law_yard.nd) (xs_cons (x_set 11 (ev_op opd_addD (ev_call F__law_cell (pw1 ⟨rfl, rfl, rfl⟩) hr rfl D__law_cell.mg D__law_cell.fn.kp D__law_cell.bd (av_cons (ev_var 0) (av_cons (ev_op opd_addD (ev_op opd_addD (ev_var 1) ev_int) (ev_var 10)) av_nil))) (ev_op opd_mul ev_int (ev_var 5))) sc__law_yard.nd) (xs_cons (x_freeze (x_setComp 12 (blk_mk (defScope s__law_yard) N__law_yard ["_law_own", "_law_seed", "_law_world"] rfl rfl rfl rfl (List.forall_mem_cons.mpr ⟨rfl, (List.forall_mem_cons.mpr ⟨rfl, (List.forall_mem_cons.mpr ⟨rfl, (List.forall_mem_nil _)⟩)⟩)⟩) (by decide +kernel)) rfl (it_range1 rfl m_range (av_cons (ev_var 3) av_nil)) (fun _ _ _ _ => (ts_one (WvD.tv (wv_or (tv_cmp (opd_eqD (room_u hr)) (ev_call F__law_mix pwB hr rfl D__law_mix.mg D__law_mix.fn.kp D__law_mix.bd (av_cons (ev_op opd_addD (ev_var 13) (ev_op opd_mul ev_int (ev_var 0))) (av_cons ev_int (av_cons ev_int av_nil)))) ev_int) (wv_or1 (WvD.tv (wv_and (tv_cmp (opd_eqD (room_u hr)) (ev_var 4) ev_int) (wv_and1 (tv_cmp (opd_eqD (room_u hr)) (ev_var 0) (ev_var 7)))))))))) (fun _ _ _ _ => (ev_var 0)) sc__law_yard.nd)) (xs_one (x_app 9 (ev_callTS calls_tuple rfl m_tuple boot_tuple (sq_var 12)))))) (hp := po1 ⟨rfl, rfl, rfl⟩)) (xs_one (x_app 4 (ev_tup (av_cons (ev_callTS calls_tuple rfl m_tuple boot_tuple (sq_var 6)) (av_cons (ev_callTS calls_tuple rfl m_tuple boot_tuple (sq_var 9)) av_nil))))))))) (hp := po1 ⟨rfl, rfl, rfl⟩)) (xs_one (x_ret (ev_callTS calls_tuple rfl m_tuple boot_tuple (sq_var 4)))))))
abbrev s__law_saying : Stmt := top 24
abbrev ps__law_saying : List Str := ["_law_seed", "_law_left"]
theorem sc__law_saying : FnScope N__law_saying ps__law_saying (defScope s__law_saying) := ⟨rfl, rfl, rfl, by decide +kernel, rfl, by decide +kernel, by decide +kernel⟩
theorem ok__law_saying {P : Program} {w : World} {K : PySem.W.Frag} {mg : Str → Option Value} {base : Heap} {k : Nat} {a : Addr} {fd : FuncData} (Df : Def K mg "_law_saying" s__law_saying ps__law_saying a fd)
    {M__law_mix : List D → R D} {a__law_mix : Addr} {fd__law_mix : FuncData} (D__law_mix : Def K mg "_law_mix" s__law_mix ps__law_mix a__law_mix fd__law_mix) (F__law_mix : FnOk P w K mg base (CX1 P w) k a__law_mix fd__law_mix ps__law_mix (spF K mg ps__law_mix.length M__law_mix))
    {M__law_saying : List D → R D} (F__law_saying : FnOk P w K mg base (CX1 P w) k a fd ps__law_saying (spF K mg ps__law_saying.length M__law_saying))
    : FnOk P w K mg base (CX1 P w) (k + 1) a fd ps__law_saying (spF K mg ps__law_saying.length fun ds => callR N__law_saying (B__law_saying M__law_mix M__law_saying) ds) :=
  fn_R1 Df.fn sc__law_saying fun cdv A outer s H W E hr => (xs_cons (x_set 2 (ev_call F__law_mix (pw1 ⟨rfl, rfl, rfl⟩) hr rfl D__law_mix.mg D__law_mix.fn.kp D__law_mix.bd (av_cons (ev_var 0) (av_cons ev_int (av_cons ev_int av_nil)))) sc__law_saying.nd) (xs_cons (x_if (WvD.tv (wv_or (tv_cmp (opd_eqD (room_u hr)) (ev_var 1) ev_int) (wv_or1 (tv_cmp opd_lt (ev_var 2) ev_int)))) (xs_one (x_ret (ev_tup (av_cons ev_str (av_cons (ev_ixS (sq_ow (ow_lst (av_cons ev_str (av_cons ev_str (av_cons ev_str av_nil))))) (ev_call F__law_mix (pw1 ⟨rfl, rfl, rfl⟩) hr rfl D__law_mix.mg D__law_mix.fn.kp D__law_mix.bd (av_cons (ev_var 0) (av_cons ev_int (av_cons ev_int av_nil))))) av_nil))))) xs_nil) (xs_cons (x_set 3 (ev_call F__law_saying (pw1 ⟨rfl, rfl, rfl⟩) hr rfl Df.mg Df.fn.kp Df.bd (av_cons (ev_op opd_addD (ev_op opd_mul (ev_var 0) ev_int) ev_int) (av_cons (ev_op opd_sub (ev_var 1) ev_int) av_nil))) sc__law_saying.nd) (xs_cons (x_if (tv_cmp opd_lt (ev_var 2) ev_int) (xs_one (x_ret (ev_tup (av_cons ev_str (av_cons (ev_var 3) av_nil))))) xs_nil) (xs_cons (x_if (tv_cmp opd_lt (ev_var 2) ev_int) (xs_one (x_ret (ev_tup (av_cons (ev_ixS (sq_ow (ow_lst (av_cons ev_str (av_cons ev_str av_nil)))) (ev_call F__law_mix (pw1 ⟨rfl, rfl, rfl⟩) hr rfl D__law_mix.mg D__law_mix.fn.kp D__law_mix.bd (av_cons (ev_var 0) (av_cons ev_int (av_cons ev_int av_nil))))) (av_cons (ev_var 3) (av_cons (ev_call F__law_saying (pw1 ⟨rfl, rfl, rfl⟩) hr rfl Df.mg Df.fn.kp Df.bd (av_cons (ev_op opd_addD (ev_op opd_mul (ev_var 0) ev_int) ev_int) (av_cons (ev_op opd_sub (ev_var 1) ev_int) av_nil))) av_nil)))))) xs_nil) (xs_one (x_ret (ev_tup (av_cons (ev_ixS (sq_ow (ow_lst (av_cons ev_str (av_cons ev_str av_nil)))) (ev_call F__law_mix (pw1 ⟨rfl, rfl, rfl⟩) hr rfl D__law_mix.mg D__law_mix.fn.kp D__law_mix.bd (av_cons (ev_var 0) (av_cons ev_int (av_cons ev_int av_nil))))) (av_cons (ev_call F__law_mix (pw1 ⟨rfl, rfl, rfl⟩) hr rfl D__law_mix.mg D__law_mix.fn.kp D__law_mix.bd (av_cons (ev_var 0) (av_cons ev_int (av_cons ev_int av_nil)))) (av_cons (ev_var 3) av_nil)))))))))))
abbrev s_parts : Stmt := top 8
abbrev ps_parts : List Str := ["saying"]
theorem sc_parts : FnScope N_parts ps_parts (defScope s_parts) := ⟨rfl, rfl, rfl, by decide +kernel, rfl, by decide +kernel, by decide +kernel⟩
theorem ok_parts {P : Program} {w : World} {K : PySem.W.Frag} {mg : Str → Option Value} {base : Heap} {k : Nat} {a : Addr} {fd : FuncData} (Df : Def K mg "parts" s_parts ps_parts a fd)
    : FnOk P w K mg base (CX1 P w) (k + 1) a fd ps_parts (spF K mg ps_parts.length fun ds => callR N_parts (B_parts) ds) :=
  fn_R1 Df.fn sc_parts fun cdv A outer s H W E hr => (xs_cons (x_set 1 (ev_ix (ev_var 0) ev_int) sc_parts.nd) (xs_cons (x_if (tv_cmp (opd_eqD (room_u hr)) (ev_var 1) ev_str) (xs_one (x_ret (ev_tup av_nil))) xs_nil) (xs_cons (x_if (WvD.tv (wv_or (tv_cmp (opd_eqD (room_u hr)) (ev_var 1) ev_str) (wv_or1 (tv_cmp (opd_eqD (room_u hr)) (ev_var 1) ev_str)))) (xs_one (x_ret (ev_slA (ev_var 0) (ov_some ev_int) ov_none))) xs_nil) (xs_one (x_ret (ev_slA (ev_var 0) (ov_some ev_int) ov_none))))))
abbrev s_walked : Stmt := top 11
abbrev ps_walked : List Str := ["saying"]
theorem sc_walked : FnScope N_walked ps_walked (defScope s_walked) := ⟨rfl, rfl, rfl, by decide +kernel, rfl, by decide +kernel, by decide +kernel⟩
theorem ok_walked {P : Program} {w : World} {K : PySem.W.Frag} {mg : Str → Option Value} {base : Heap} {k : Nat} {a : Addr} {fd : FuncData} (Df : Def K mg "walked" s_walked ps_walked a fd)
    {M_parts : List D → R D} {a_parts : Addr} {fd_parts : FuncData} (D_parts : Def K mg "parts" s_parts ps_parts a_parts fd_parts) (F_parts : FnOk P w K mg base (CX1 P w) k a_parts fd_parts ps_parts (spF K mg ps_parts.length M_parts))
    (m_len : mg "len" = none)
    : FnOk P w K mg base (CX1 P w) (k + 1) a fd ps_walked (spF K mg ps_walked.length fun ds => callR N_walked (B_walked M_parts) ds) :=
  fn_R1 Df.fn sc_walked fun cdv A outer s H W E hr => (xs_cons (x_setO 1 (ow_lst av_nil) sc_walked.nd) (xs_cons (x_setO 2 (ow_lst (av_cons (ev_var 0) av_nil)) sc_walked.nd) (xs_cons (x_while (tv_cmp opd_gt (ev_callBS calls_len rfl m_len PySem.boot_len (sq_var 2)) ev_int) (xs_cons (x_pop 2 3 sc_walked.nd) (xs_cons (x_app 1 (ev_var 3)) (xs_one (x_ext 2 (sq_ev (ev_revT (ev_call F_parts (pw1 ⟨rfl, rfl, rfl⟩) hr rfl D_parts.mg D_parts.fn.kp D_parts.bd (av_cons (ev_var 3) av_nil)))))))) (hp := po1 ⟨rfl, rfl, rfl⟩)) (xs_one (x_retO 1)))))
abbrev s_gathered : Stmt := top 12
abbrev ps_gathered : List Str := ["saying", "tell"]
theorem sc_gathered : FnScope N_gathered ps_gathered (defScope s_gathered) := ⟨rfl, rfl, rfl, by decide +kernel, rfl, by decide +kernel, by decide +kernel⟩
theorem ok_gathered {P : Program} {w : World} {K : PySem.W.Frag} {mg : Str → Option Value} {base : Heap} {k : Nat} {a : Addr} {fd : FuncData} (Df : Def K mg "gathered" s_gathered ps_gathered a fd)
    {M_walked : List D → R D} {a_walked : Addr} {fd_walked : FuncData} (D_walked : Def K mg "walked" s_walked ps_walked a_walked fd_walked) (F_walked : FnOk P w K mg base (CX1 P w) k a_walked fd_walked ps_walked (spF K mg ps_walked.length M_walked))
    {M_parts : List D → R D} {a_parts : Addr} {fd_parts : FuncData} (D_parts : Def K mg "parts" s_parts ps_parts a_parts fd_parts) (F_parts : FnOk P w K mg base (CX1 P w) k a_parts fd_parts ps_parts (spF K mg ps_parts.length M_parts))
    {M_tell : List D → R D} {a_tell : Addr} {fd_tell : FuncData} {ps_tell : List Str} (F_tell : FnOk P w K mg base (CX1 P w) k a_tell fd_tell ps_tell (spF K mg ps_tell.length M_tell)) (hat_tell : PySem.W.FnAt a_tell base) (bd_tell : Binds K fd_tell ps_tell []) (hn_tell : 2 = ps_tell.length)
    (m_reversed : mg "reversed" = none)
    : FnOk P w K mg base (CX1 P w) (k + 1) a fd ps_gathered (spN K ps_gathered.length 1 a_tell fun ds => callN N_gathered 1 (B_gathered a_tell M_tell M_walked M_parts) a_tell ds) :=
  fn_N1 Df.fn sc_gathered fun cdv A outer s H W E hr => (xs_cons (x_setO 2 (ow_lst av_nil) sc_gathered.nd) (xs_cons (x_for rfl (it_rev rfl m_reversed (ev_call F_walked (pw1 ⟨rfl, rfl, rfl⟩) hr rfl D_walked.mg D_walked.fn.kp D_walked.bd (av_cons (ev_var 0) av_nil))) (tg_name 3 sc_gathered.nd) (xs_cons (x_setCompM 4 (blk_mk (defScope s_gathered) N_gathered ["ready"] rfl rfl rfl rfl (List.forall_mem_cons.mpr ⟨rfl, (List.forall_mem_nil _)⟩) (by decide +kernel)) rfl (it_tup (ev_call F_parts (pw1 ⟨rfl, rfl, rfl⟩) hr rfl D_parts.mg D_parts.fn.kp D_parts.bd (av_cons (ev_var 3) av_nil))) (fun _ _ _ _ => (em_pop 4)) sc_gathered.nd) (xs_one (x_frz 4 (x_app 2 (ev_callV F_tell (pw1 ⟨rfl, rfl, rfl⟩) hr hat_tell bd_tell (av_cons (ev_var 3) (av_cons (ev_var 4) av_nil)) hn_tell))))) (hp := po1 ⟨rfl, rfl, rfl⟩)) (xs_one (x_retM (em_pop 2)))))
abbrev s_plain_pair : Stmt := top 15
abbrev ps_plain_pair : List Str := ["saying", "pairs"]
theorem sc_plain_pair : FnScope N_plain_pair ps_plain_pair (defScope s_plain_pair) := ⟨rfl, rfl, rfl, by decide +kernel, rfl, by decide +kernel, by decide +kernel⟩
theorem ok_plain_pair {P : Program} {w : World} {K : PySem.W.Frag} {mg : Str → Option Value} {base : Heap} {k : Nat} {a : Addr} {fd : FuncData} (Df : Def K mg "plain_pair" s_plain_pair ps_plain_pair a fd)
    (g_TURNED : GlobD w K mg "TURNED" d_TURNED)
    : FnOk P w K mg base (CX1 P w) (k + 1) a fd ps_plain_pair (spF K mg ps_plain_pair.length fun ds => callR N_plain_pair (B_plain_pair) ds) :=
  fn_R1 Df.fn sc_plain_pair fun cdv A outer s H W E hr => (xs_cons (x_set 2 (ev_ix (ev_var 0) ev_int) sc_plain_pair.nd) (xs_cons (x_if (tv_cmp (opd_eqD (room_u hr)) (ev_var 2) ev_str) (xs_one (x_ret (ev_tup (av_cons (ev_var 0) (av_cons (ev_tup (av_cons ev_str (av_cons (ev_var 0) av_nil))) av_nil))))) xs_nil) (xs_cons (x_if (tv_cmp (opd_eqD (room_u hr)) (ev_var 2) ev_str) (xs_one (x_ret (ev_tup (av_cons (ev_ix (ev_ix (ev_var 1) ev_int) ev_int) (av_cons (ev_ix (ev_ix (ev_var 1) ev_int) ev_int) av_nil))))) xs_nil) (xs_cons (x_set 3 (ev_dget g_TURNED rfl (ev_var 2)) sc_plain_pair.nd) (xs_cons (x_if (WvD.tv (wv_or (tv_cmp (opd_eqD (room_u hr)) (ev_var 2) ev_str) (wv_or1 (tv_cmp (opd_eqD (room_u hr)) (ev_var 2) ev_str)))) (xs_cons (x_set 4 (ev_ix (ev_var 1) ev_int) sc_plain_pair.nd) (xs_cons (x_set 5 (ev_ix (ev_var 1) ev_int) sc_plain_pair.nd) (xs_one (x_ret (ev_tup (av_cons (ev_tup (av_cons (ev_var 2) (av_cons (ev_ix (ev_var 4) ev_int) (av_cons (ev_ix (ev_var 5) ev_int) av_nil)))) (av_cons (ev_tup (av_cons (ev_var 3) (av_cons (ev_ix (ev_var 4) ev_int) (av_cons (ev_ix (ev_var 5) ev_int) av_nil)))) av_nil))))))) xs_nil) (xs_cons (x_set 6 (ev_ix (ev_var 0) ev_int) sc_plain_pair.nd) (xs_one (x_ret (ev_tup (av_cons (ev_tup (av_cons (ev_var 2) (av_cons (ev_var 6) (av_cons (ev_ix (ev_ix (ev_var 1) ev_int) ev_int) av_nil)))) (av_cons (ev_tup (av_cons (ev_var 3) (av_cons (ev_var 6) (av_cons (ev_ix (ev_ix (ev_var 1) ev_int) ev_int) av_nil)))) av_nil)))))))))))
abbrev s_plain : Stmt := top 16
abbrev ps_plain : List Str := ["saying"]
theorem sc_plain : FnScope N_plain ps_plain (defScope s_plain) := ⟨rfl, rfl, rfl, by decide +kernel, rfl, by decide +kernel, by decide +kernel⟩
theorem ok_plain {P : Program} {w : World} {K : PySem.W.Frag} {mg : Str → Option Value} {base : Heap} {k : Nat} {a : Addr} {fd : FuncData} (Df : Def K mg "plain" s_plain ps_plain a fd)
    {M_gathered_plain_pair : List D → R D} {a_gathered : Addr} {fd_gathered : FuncData} (D_gathered : Def K mg "gathered" s_gathered ps_gathered a_gathered fd_gathered) {a_plain_pair : Addr} {fd_plain_pair : FuncData} (D_plain_pair : Def K mg "plain_pair" s_plain_pair ps_plain_pair a_plain_pair fd_plain_pair) (F_gathered_plain_pair : FnOk P w K mg base (CX1 P w) k a_gathered fd_gathered ps_gathered (spN K ps_gathered.length 1 a_plain_pair M_gathered_plain_pair))
    : FnOk P w K mg base (CX1 P w) (k + 1) a fd ps_plain (spF K mg ps_plain.length fun ds => callR N_plain (B_plain M_gathered_plain_pair) ds) :=
  fn_R1 Df.fn sc_plain fun cdv A outer s H W E hr => (xs_one (x_ret (ev_ix (ev_callN F_gathered_plain_pair (pw1 ⟨rfl, rfl, rfl⟩) hr rfl D_gathered.mg D_gathered.fn.kp D_gathered.bd (an_cons (ev_var 0) (an_here av_nil rfl D_plain_pair.mg))) ev_int)))
abbrev s_denied : Stmt := top 17
abbrev ps_denied : List Str := ["saying"]
theorem sc_denied : FnScope N_denied ps_denied (defScope s_denied) := ⟨rfl, rfl, rfl, by decide +kernel, rfl, by decide +kernel, by decide +kernel⟩
theorem ok_denied {P : Program} {w : World} {K : PySem.W.Frag} {mg : Str → Option Value} {base : Heap} {k : Nat} {a : Addr} {fd : FuncData} (Df : Def K mg "denied" s_denied ps_denied a fd)
    {M_gathered_plain_pair : List D → R D} {a_gathered : Addr} {fd_gathered : FuncData} (D_gathered : Def K mg "gathered" s_gathered ps_gathered a_gathered fd_gathered) {a_plain_pair : Addr} {fd_plain_pair : FuncData} (D_plain_pair : Def K mg "plain_pair" s_plain_pair ps_plain_pair a_plain_pair fd_plain_pair) (F_gathered_plain_pair : FnOk P w K mg base (CX1 P w) k a_gathered fd_gathered ps_gathered (spN K ps_gathered.length 1 a_plain_pair M_gathered_plain_pair))
    : FnOk P w K mg base (CX1 P w) (k + 1) a fd ps_denied (spF K mg ps_denied.length fun ds => callR N_denied (B_denied M_gathered_plain_pair) ds) :=
  fn_R1 Df.fn sc_denied fun cdv A outer s H W E hr => (xs_one (x_ret (ev_ix (ev_callN F_gathered_plain_pair (pw1 ⟨rfl, rfl, rfl⟩) hr rfl D_gathered.mg D_gathered.fn.kp D_gathered.bd (an_cons (ev_var 0) (an_here av_nil rfl D_plain_pair.mg))) ev_int)))
abbrev s__law_holds : Stmt := top 26
abbrev ps__law_holds : List Str := ["_law_yard_here", "_law_world", "_law_saying_here"]
theorem sc__law_holds : FnScope N__law_holds ps__law_holds (defScope s__law_holds) := ⟨rfl, rfl, rfl, by decide +kernel, rfl, by decide +kernel, by decide +kernel⟩
theorem ok__law_holds {P : Program} {w : World} {K : PySem.W.Frag} {mg : Str → Option Value} {base : Heap} {k : Nat} {a : Addr} {fd : FuncData} (Df : Def K mg "_law_holds" s__law_holds ps__law_holds a fd)
    {M__law_holds : List D → R D} (F__law_holds : FnOk P w K mg base (CX1 P w) k a fd ps__law_holds (spF K mg ps__law_holds.length M__law_holds))
    : FnOk P w K mg base (CX1 P w) (k + 1) a fd ps__law_holds (spF K mg ps__law_holds.length fun ds => callR N__law_holds (B__law_holds M__law_holds) ds) :=
  fn_R1 Df.fn sc__law_holds fun cdv A outer s H W E hr => (xs_cons (x_if (tv_cmp (opd_eqD (room_u hr)) (ev_ix (ev_var 2) ev_int) ev_str) (xs_one (x_ret (ev_cmp (opd_memA (room_u hr)) (ev_ix (ev_var 2) ev_int) (ev_ix (ev_ix (ev_var 0) (ev_var 1)) ev_int)))) xs_nil) (xs_cons (x_if (tv_cmp (opd_eqD (room_u hr)) (ev_ix (ev_var 2) ev_int) ev_str) (xs_one (x_ret (ev_not (ev_call F__law_holds (pw1 ⟨rfl, rfl, rfl⟩) hr rfl Df.mg Df.fn.kp Df.bd (av_cons (ev_var 0) (av_cons (ev_var 1) (av_cons (ev_ix (ev_var 2) ev_int) av_nil))))))) xs_nil) (xs_cons (x_if (tv_cmp (opd_eqD (room_u hr)) (ev_ix (ev_var 2) ev_int) ev_str) (xs_one (x_ret (ev_and (ev_call F__law_holds (pw1 ⟨rfl, rfl, rfl⟩) hr rfl Df.mg Df.fn.kp Df.bd (av_cons (ev_var 0) (av_cons (ev_var 1) (av_cons (ev_ix (ev_var 2) ev_int) av_nil)))) (ev_one (ev_call F__law_holds (pw1 ⟨rfl, rfl, rfl⟩) hr rfl Df.mg Df.fn.kp Df.bd (av_cons (ev_var 0) (av_cons (ev_var 1) (av_cons (ev_ix (ev_var 2) ev_int) av_nil)))))))) xs_nil) (xs_cons (x_if (tv_cmp (opd_eqD (room_u hr)) (ev_ix (ev_var 2) ev_int) ev_str) (xs_one (x_ret (ev_or (ev_call F__law_holds (pw1 ⟨rfl, rfl, rfl⟩) hr rfl Df.mg Df.fn.kp Df.bd (av_cons (ev_var 0) (av_cons (ev_var 1) (av_cons (ev_ix (ev_var 2) ev_int) av_nil)))) (ev_one (ev_call F__law_holds (pw1 ⟨rfl, rfl, rfl⟩) hr rfl Df.mg Df.fn.kp Df.bd (av_cons (ev_var 0) (av_cons (ev_var 1) (av_cons (ev_ix (ev_var 2) ev_int) av_nil)))))))) xs_nil) (xs_cons (x_for rfl (it_tup (ev_ix (ev_ix (ev_ix (ev_var 0) (ev_var 1)) ev_int) (ev_ix (ev_var 2) ev_int))) (tg_name 3 sc__law_holds.nd) (xs_one (x_if (tv_cmp (opd_neD (room_u hr)) (ev_call F__law_holds (pw1 ⟨rfl, rfl, rfl⟩) hr rfl Df.mg Df.fn.kp Df.bd (av_cons (ev_var 0) (av_cons (ev_var 3) (av_cons (ev_ix (ev_var 2) ev_int) av_nil)))) (ev_cmp (opd_eqD (room_u hr)) (ev_ix (ev_var 2) ev_int) ev_str)) (xs_one (x_ret (ev_cmp (opd_eqD (room_u hr)) (ev_ix (ev_var 2) ev_int) ev_str))) xs_nil)) (hp := po1 ⟨rfl, rfl, rfl⟩)) (xs_one (x_ret (ev_cmp (opd_eqD (room_u hr)) (ev_ix (ev_var 2) ev_int) ev_str))))))))
abbrev s_is_name : Stmt := top 6
abbrev ps_is_name : List Str := ["thing"]
theorem sc_is_name : FnScope N_is_name ps_is_name (defScope s_is_name) := ⟨rfl, rfl, rfl, by decide +kernel, rfl, by decide +kernel, by decide +kernel⟩
theorem ok_is_name {P : Program} {w : World} {K : PySem.W.Frag} {mg : Str → Option Value} {base : Heap} {k : Nat} {a : Addr} {fd : FuncData} (Df : Def K mg "is_name" s_is_name ps_is_name a fd)
    (m_isinstance : mg "isinstance" = none)
    (m_str : mg "str" = none)
    (m_all : mg "all" = none)
    (m_len : mg "len" = none)
    (g_WORDS : GlobC K mg "WORDS" c_WORDS)
    (g_LETTERS : GlobC K mg "LETTERS" c_LETTERS)
    : FnOk P w K mg base (CX1 P w) (k + 1) a fd ps_is_name (spF K mg ps_is_name.length fun ds => callR N_is_name (B_is_name) ds) :=
  fn_R1 Df.fn sc_is_name fun cdv A outer s H W E hr => (xs_cons (x_if (WvD.tv (wv_or (tv_not (tv_val (ev_isi (g := gStr) rfl m_isinstance rfl m_str boot_str (ev_var 0) (kit_str _) boot_isinstance))) (wv_or1 (tv_cmp (opd_memA (room_u hr)) (ev_var 0) (ev_globC g_WORDS rfl))))) (xs_one (x_ret ev_bl)) xs_nil) (xs_one (x_ret (ev_and (ev_chain opd_le opd_le ev_int (ev_callB calld_len rfl m_len PySem.boot_len (av_cons (ev_var 0) av_nil)) ev_int) (ev_one (ev_callBS (calls_all rfl) rfl m_all boot_all (sq_ow (ow_comp (blk_mk (defScope s_is_name) N_is_name [] rfl rfl rfl rfl (List.forall_mem_nil _) (by decide +kernel)) rfl (it_str (ev_var 0)) (fun _ _ _ _ => ts_nil) (fun _ _ _ _ => (ev_cmp (opd_memA (room_u hr)) (ev_var 0) (ev_globC g_LETTERS rfl)))))))))))
abbrev s_is_whole : Stmt := top 3
abbrev ps_is_whole : List Str := ["thing"]
theorem sc_is_whole : FnScope N_is_whole ps_is_whole (defScope s_is_whole) := ⟨rfl, rfl, rfl, by decide +kernel, rfl, by decide +kernel, by decide +kernel⟩
theorem ok_is_whole {P : Program} {w : World} {K : PySem.W.Frag} {mg : Str → Option Value} {base : Heap} {k : Nat} {a : Addr} {fd : FuncData} (Df : Def K mg "is_whole" s_is_whole ps_is_whole a fd)
    (m_isinstance : mg "isinstance" = none)
    (m_bool : mg "bool" = none)
    (m_int : mg "int" = none)
    : FnOk P w K mg base (CX1 P w) (k + 1) a fd ps_is_whole (spF K mg ps_is_whole.length fun ds => callR N_is_whole (B_is_whole) ds) :=
  fn_R1 Df.fn sc_is_whole fun cdv A outer s H W E hr => (xs_one (x_ret (ev_and (ev_isi (g := gInt) rfl m_isinstance rfl m_int boot_int (ev_var 0) (kit_int _) boot_isinstance) (ev_one (ev_not (ev_isi (g := gBool) rfl m_isinstance rfl m_bool boot_bool (ev_var 0) (kit_bool _) boot_isinstance))))))
abbrev s_is_below : Stmt := top 4
abbrev ps_is_below : List Str := ["thing", "bound"]
theorem sc_is_below : FnScope N_is_below ps_is_below (defScope s_is_below) := ⟨rfl, rfl, rfl, by decide +kernel, rfl, by decide +kernel, by decide +kernel⟩
theorem ok_is_below {P : Program} {w : World} {K : PySem.W.Frag} {mg : Str → Option Value} {base : Heap} {k : Nat} {a : Addr} {fd : FuncData} (Df : Def K mg "is_below" s_is_below ps_is_below a fd)
    {M_is_whole : List D → R D} {a_is_whole : Addr} {fd_is_whole : FuncData} (D_is_whole : Def K mg "is_whole" s_is_whole ps_is_whole a_is_whole fd_is_whole) (F_is_whole : FnOk P w K mg base (CX1 P w) k a_is_whole fd_is_whole ps_is_whole (spF K mg ps_is_whole.length M_is_whole))
    : FnOk P w K mg base (CX1 P w) (k + 1) a fd ps_is_below (spF K mg ps_is_below.length fun ds => callR N_is_below (B_is_below M_is_whole) ds) :=
  fn_R1 Df.fn sc_is_below fun cdv A outer s H W E hr => (xs_one (x_ret (ev_and (ev_call F_is_whole (pw1 ⟨rfl, rfl, rfl⟩) hr rfl D_is_whole.mg D_is_whole.fn.kp D_is_whole.bd (av_cons (ev_var 0) av_nil)) (ev_one (ev_chain opd_le opd_lt ev_int (ev_var 0) (ev_var 1))))))
abbrev s_is_kind : Stmt := top 5
abbrev ps_is_kind : List Str := ["thing"]
theorem sc_is_kind : FnScope N_is_kind ps_is_kind (defScope s_is_kind) := ⟨rfl, rfl, rfl, by decide +kernel, rfl, by decide +kernel, by decide +kernel⟩
theorem ok_is_kind {P : Program} {w : World} {K : PySem.W.Frag} {mg : Str → Option Value} {base : Heap} {k : Nat} {a : Addr} {fd : FuncData} (Df : Def K mg "is_kind" s_is_kind ps_is_kind a fd)
    {M_is_below : List D → R D} {a_is_below : Addr} {fd_is_below : FuncData} (D_is_below : Def K mg "is_below" s_is_below ps_is_below a_is_below fd_is_below) (F_is_below : FnOk P w K mg base (CX1 P w) k a_is_below fd_is_below ps_is_below (spF K mg ps_is_below.length M_is_below))
    : FnOk P w K mg base (CX1 P w) (k + 1) a fd ps_is_kind (spF K mg ps_is_kind.length fun ds => callR N_is_kind (B_is_kind M_is_below) ds) :=
  fn_R1 Df.fn sc_is_kind fun cdv A outer s H W E hr => (xs_one (x_ret (ev_call F_is_below (pw1 ⟨rfl, rfl, rfl⟩) hr rfl D_is_below.mg D_is_below.fn.kp D_is_below.bd (av_cons (ev_var 0) (av_cons ev_int av_nil)))))
abbrev s_is_formed : Stmt := top 7
abbrev ps_is_formed : List Str := ["thing"]
theorem sc_is_formed : FnScope N_is_formed ps_is_formed (defScope s_is_formed) := ⟨rfl, rfl, rfl, by decide +kernel, rfl, by decide +kernel, by decide +kernel⟩
theorem ok_is_formed {P : Program} {w : World} {K : PySem.W.Frag} {mg : Str → Option Value} {base : Heap} {k : Nat} {a : Addr} {fd : FuncData} (Df : Def K mg "is_formed" s_is_formed ps_is_formed a fd)
    {M_is_name : List D → R D} {a_is_name : Addr} {fd_is_name : FuncData} (D_is_name : Def K mg "is_name" s_is_name ps_is_name a_is_name fd_is_name) (F_is_name : FnOk P w K mg base (CX1 P w) k a_is_name fd_is_name ps_is_name (spF K mg ps_is_name.length M_is_name))
    {M_is_kind : List D → R D} {a_is_kind : Addr} {fd_is_kind : FuncData} (D_is_kind : Def K mg "is_kind" s_is_kind ps_is_kind a_is_kind fd_is_kind) (F_is_kind : FnOk P w K mg base (CX1 P w) k a_is_kind fd_is_kind ps_is_kind (spF K mg ps_is_kind.length M_is_kind))
    (m_len : mg "len" = none)
    (m_isinstance : mg "isinstance" = none)
    (m_tuple : mg "tuple" = none)
    : FnOk P w K mg base (CX1 P w) (k + 1) a fd ps_is_formed (spF K mg ps_is_formed.length fun ds => callR N_is_formed (B_is_formed M_is_name M_is_kind) ds) :=
  fn_R1 Df.fn sc_is_formed fun cdv A outer s H W E hr => (xs_cons (x_if (WvD.tv (wv_or (tv_not (tv_val (ev_isi (g := gTuple) rfl m_isinstance rfl m_tuple boot_tuple (ev_var 0) (kit_tuple _) boot_isinstance))) (wv_or1 (tv_cmp (opd_eqD (room_u hr)) (ev_callB calld_len rfl m_len PySem.boot_len (av_cons (ev_var 0) av_nil)) ev_int)))) (xs_one (x_ret ev_bl)) xs_nil) (xs_cons (x_set 1 (ev_ix (ev_var 0) ev_int) sc_is_formed.nd) (xs_cons (x_if (tv_cmp (opd_eqD (room_u hr)) (ev_var 1) ev_str) (xs_one (x_ret (ev_and (ev_cmp (opd_eqD (room_u hr)) (ev_callB calld_len rfl m_len PySem.boot_len (av_cons (ev_var 0) av_nil)) ev_int) (ev_one (ev_call F_is_name (pw1 ⟨rfl, rfl, rfl⟩) hr rfl D_is_name.mg D_is_name.fn.kp D_is_name.bd (av_cons (ev_ix (ev_var 0) ev_int) av_nil)))))) xs_nil) (xs_cons (x_if (tv_cmp (opd_eqD (room_u hr)) (ev_var 1) ev_str) (xs_one (x_ret (ev_cmp (opd_eqD (room_u hr)) (ev_callB calld_len rfl m_len PySem.boot_len (av_cons (ev_var 0) av_nil)) ev_int))) xs_nil) (xs_cons (x_if (WvD.tv (wv_or (tv_cmp (opd_eqD (room_u hr)) (ev_var 1) ev_str) (wv_or1 (tv_cmp (opd_eqD (room_u hr)) (ev_var 1) ev_str)))) (xs_one (x_ret (ev_cmp (opd_eqD (room_u hr)) (ev_callB calld_len rfl m_len PySem.boot_len (av_cons (ev_var 0) av_nil)) ev_int))) xs_nil) (xs_cons (x_if (WvD.tv (wv_or (tv_cmp (opd_eqD (room_u hr)) (ev_var 1) ev_str) (wv_or1 (tv_cmp (opd_eqD (room_u hr)) (ev_var 1) ev_str)))) (xs_one (x_ret (ev_and (ev_cmp (opd_eqD (room_u hr)) (ev_callB calld_len rfl m_len PySem.boot_len (av_cons (ev_var 0) av_nil)) ev_int) (ev_one (ev_call F_is_kind (pw1 ⟨rfl, rfl, rfl⟩) hr rfl D_is_kind.mg D_is_kind.fn.kp D_is_kind.bd (av_cons (ev_ix (ev_var 0) ev_int) av_nil)))))) xs_nil) (xs_one (x_ret ev_bl))))))))
abbrev s_is_saying : Stmt := top 9
abbrev ps_is_saying : List Str := ["thing"]
theorem sc_is_saying : FnScope N_is_saying ps_is_saying (defScope s_is_saying) := ⟨rfl, rfl, rfl, by decide +kernel, rfl, by decide +kernel, by decide +kernel⟩
theorem ok_is_saying {P : Program} {w : World} {K : PySem.W.Frag} {mg : Str → Option Value} {base : Heap} {k : Nat} {a : Addr} {fd : FuncData} (Df : Def K mg "is_saying" s_is_saying ps_is_saying a fd)
    {M_is_formed : List D → R D} {a_is_formed : Addr} {fd_is_formed : FuncData} (D_is_formed : Def K mg "is_formed" s_is_formed ps_is_formed a_is_formed fd_is_formed) (F_is_formed : FnOk P w K mg base (CX1 P w) k a_is_formed fd_is_formed ps_is_formed (spF K mg ps_is_formed.length M_is_formed))
    {M_parts : List D → R D} {a_parts : Addr} {fd_parts : FuncData} (D_parts : Def K mg "parts" s_parts ps_parts a_parts fd_parts) (F_parts : FnOk P w K mg base (CX1 P w) k a_parts fd_parts ps_parts (spF K mg ps_parts.length M_parts))
    (m_len : mg "len" = none)
    : FnOk P w K mg base (CX1 P w) (k + 1) a fd ps_is_saying (spF K mg ps_is_saying.length fun ds => callR N_is_saying (B_is_saying M_is_formed M_parts) ds) :=
  fn_R1 Df.fn sc_is_saying fun cdv A outer s H W E hr => (xs_cons (x_setO 1 (ow_lst (av_cons (ev_var 0) av_nil)) sc_is_saying.nd) (xs_cons (x_while (tv_cmp opd_gt (ev_callBS calls_len rfl m_len PySem.boot_len (sq_var 1)) ev_int) (xs_cons (x_pop 1 2 sc_is_saying.nd) (xs_cons (x_if (tv_not (tv_val (ev_call F_is_formed (pw1 ⟨rfl, rfl, rfl⟩) hr rfl D_is_formed.mg D_is_formed.fn.kp D_is_formed.bd (av_cons (ev_var 2) av_nil)))) (xs_one (x_ret ev_bl)) xs_nil) (xs_one (x_ext 1 (sq_ev (ev_call F_parts (pw1 ⟨rfl, rfl, rfl⟩) hr rfl D_parts.mg D_parts.fn.kp D_parts.bd (av_cons (ev_var 2) av_nil))))))) (hp := po1 ⟨rfl, rfl, rfl⟩)) (xs_one (x_ret ev_bl))))
abbrev s__law_is_plain : Stmt := top 27
abbrev ps__law_is_plain : List Str := ["_law_saying_here"]
theorem sc__law_is_plain : FnScope N__law_is_plain ps__law_is_plain (defScope s__law_is_plain) := ⟨rfl, rfl, rfl, by decide +kernel, rfl, by decide +kernel, by decide +kernel⟩
theorem ok__law_is_plain {P : Program} {w : World} {K : PySem.W.Frag} {mg : Str → Option Value} {base : Heap} {k : Nat} {a : Addr} {fd : FuncData} (Df : Def K mg "_law_is_plain" s__law_is_plain ps__law_is_plain a fd)
    {M__law_is_plain : List D → R D} (F__law_is_plain : FnOk P w K mg base (CX1 P w) k a fd ps__law_is_plain (spF K mg ps__law_is_plain.length M__law_is_plain))
    : FnOk P w K mg base (CX1 P w) (k + 1) a fd ps__law_is_plain (spF K mg ps__law_is_plain.length fun ds => callR N__law_is_plain (B__law_is_plain M__law_is_plain) ds) :=
  fn_R1 Df.fn sc__law_is_plain fun cdv A outer s H W E hr => (xs_cons (x_if (tv_cmp (opd_eqD (room_u hr)) (ev_ix (ev_var 0) ev_int) ev_str) (xs_one (x_ret ev_bl)) xs_nil) (xs_cons (x_if (tv_cmp (opd_eqD (room_u hr)) (ev_ix (ev_var 0) ev_int) ev_str) (xs_one (x_ret (ev_cmp (opd_eqD (room_u hr)) (ev_ix (ev_ix (ev_var 0) ev_int) ev_int) ev_str))) xs_nil) (xs_cons (x_if (tv_cmp (opd_memA (room_u hr)) (ev_ix (ev_var 0) ev_int) (ev_ow (ow_lst (av_cons ev_str (av_cons ev_str av_nil))))) (xs_one (x_ret (ev_call F__law_is_plain (pw1 ⟨rfl, rfl, rfl⟩) hr rfl Df.mg Df.fn.kp Df.bd (av_cons (ev_ix (ev_var 0) ev_int) av_nil)))) xs_nil) (xs_one (x_ret (ev_and (ev_call F__law_is_plain (pw1 ⟨rfl, rfl, rfl⟩) hr rfl Df.mg Df.fn.kp Df.bd (av_cons (ev_ix (ev_var 0) ev_int) av_nil)) (ev_one (ev_call F__law_is_plain (pw1 ⟨rfl, rfl, rfl⟩) hr rfl Df.mg Df.fn.kp Df.bd (av_cons (ev_ix (ev_var 0) ev_int) av_nil)))))))))
abbrev s__law_whole : Stmt := top 23
abbrev ps__law_whole : List Str := ["_law_found"]
theorem sc__law_whole : FnScope N__law_whole ps__law_whole (defScope s__law_whole) := ⟨rfl, rfl, rfl, by decide +kernel, rfl, by decide +kernel, by decide +kernel⟩
theorem ok__law_whole {P : Program} {w : World} {K : PySem.W.Frag} {mg : Str → Option Value} {base : Heap} {k : Nat} {a : Addr} {fd : FuncData} (Df : Def K mg "_law_whole" s__law_whole ps__law_whole a fd)
    (m_isinstance : mg "isinstance" = none)
    (m_bool : mg "bool" = none)
    (m_int : mg "int" = none)
    : FnOk P w K mg base (CX1 P w) (k + 1) a fd ps__law_whole (spF K mg ps__law_whole.length fun ds => callR N__law_whole (B__law_whole) ds) :=
  fn_R1 Df.fn sc__law_whole fun cdv A outer s H W E hr => (xs_one (x_ret (ev_and (ev_isi (g := gInt) rfl m_isinstance rfl m_int boot_int (ev_var 0) (kit_int _) boot_isinstance) (ev_one (ev_not (ev_isi (g := gBool) rfl m_isinstance rfl m_bool boot_bool (ev_var 0) (kit_bool _) boot_isinstance))))))
abbrev s_depth_over : Stmt := top 18
abbrev ps_depth_over : List Str := ["saying", "depths"]
theorem sc_depth_over : FnScope N_depth_over ps_depth_over (defScope s_depth_over) := ⟨rfl, rfl, rfl, by decide +kernel, rfl, by decide +kernel, by decide +kernel⟩
theorem ok_depth_over {P : Program} {w : World} {K : PySem.W.Frag} {mg : Str → Option Value} {base : Heap} {k : Nat} {a : Addr} {fd : FuncData} (Df : Def K mg "depth_over" s_depth_over ps_depth_over a fd)
    (m_max : mg "max" = none)
    : FnOk P w K mg base (CX1 P w) (k + 1) a fd ps_depth_over (spF K mg ps_depth_over.length fun ds => callR N_depth_over (B_depth_over) ds) :=
  fn_R1 Df.fn sc_depth_over fun cdv A outer s H W E hr => (xs_cons (x_set 2 (ev_maxd rfl m_max (sq_var 1) ev_int) sc_depth_over.nd) (xs_cons (x_if (WvD.tv (wv_or (tv_cmp (opd_eqD (room_u hr)) (ev_ix (ev_var 0) ev_int) ev_str) (wv_or1 (tv_cmp (opd_eqD (room_u hr)) (ev_ix (ev_var 0) ev_int) ev_str)))) (xs_one (x_ret (ev_op opd_addD (ev_var 2) ev_int))) xs_nil) (xs_one (x_ret (ev_var 2)))))
abbrev s_deep : Stmt := top 19
abbrev ps_deep : List Str := ["saying"]
theorem sc_deep : FnScope N_deep ps_deep (defScope s_deep) := ⟨rfl, rfl, rfl, by decide +kernel, rfl, by decide +kernel, by decide +kernel⟩
theorem ok_deep {P : Program} {w : World} {K : PySem.W.Frag} {mg : Str → Option Value} {base : Heap} {k : Nat} {a : Addr} {fd : FuncData} (Df : Def K mg "deep" s_deep ps_deep a fd)
    {M_gathered_depth_over : List D → R D} {a_gathered : Addr} {fd_gathered : FuncData} (D_gathered : Def K mg "gathered" s_gathered ps_gathered a_gathered fd_gathered) {a_depth_over : Addr} {fd_depth_over : FuncData} (D_depth_over : Def K mg "depth_over" s_depth_over ps_depth_over a_depth_over fd_depth_over) (F_gathered_depth_over : FnOk P w K mg base (CX1 P w) k a_gathered fd_gathered ps_gathered (spN K ps_gathered.length 1 a_depth_over M_gathered_depth_over))
    : FnOk P w K mg base (CX1 P w) (k + 1) a fd ps_deep (spF K mg ps_deep.length fun ds => callR N_deep (B_deep M_gathered_depth_over) ds) :=
  fn_R1 Df.fn sc_deep fun cdv A outer s H W E hr => (xs_one (x_ret (ev_callN F_gathered_depth_over (pw1 ⟨rfl, rfl, rfl⟩) hr rfl D_gathered.mg D_gathered.fn.kp D_gathered.bd (an_cons (ev_var 0) (an_here av_nil rfl D_depth_over.mg)))))
abbrev s__law_deep : Stmt := top 28
abbrev ps__law_deep : List Str := ["_law_saying_here"]
theorem sc__law_deep : FnScope N__law_deep ps__law_deep (defScope s__law_deep) := ⟨rfl, rfl, rfl, by decide +kernel, rfl, by decide +kernel, by decide +kernel⟩
theorem ok__law_deep {P : Program} {w : World} {K : PySem.W.Frag} {mg : Str → Option Value} {base : Heap} {k : Nat} {a : Addr} {fd : FuncData} (Df : Def K mg "_law_deep" s__law_deep ps__law_deep a fd)
    {M__law_deep : List D → R D} (F__law_deep : FnOk P w K mg base (CX1 P w) k a fd ps__law_deep (spF K mg ps__law_deep.length M__law_deep))
    (m_max : mg "max" = none)
    : FnOk P w K mg base (CX1 P w) (k + 1) a fd ps__law_deep (spF K mg ps__law_deep.length fun ds => callR N__law_deep (B__law_deep M__law_deep) ds) :=
  fn_R1 Df.fn sc__law_deep fun cdv A outer s H W E hr => (xs_cons (x_if (tv_cmp (opd_eqD (room_u hr)) (ev_ix (ev_var 0) ev_int) ev_str) (xs_one (x_ret ev_int)) xs_nil) (xs_cons (x_if (tv_cmp (opd_memA (room_u hr)) (ev_ix (ev_var 0) ev_int) (ev_ow (ow_lst (av_cons ev_str (av_cons ev_str av_nil))))) (xs_one (x_ret (ev_op opd_addD ev_int (ev_call F__law_deep (pw1 ⟨rfl, rfl, rfl⟩) hr rfl Df.mg Df.fn.kp Df.bd (av_cons (ev_ix (ev_var 0) ev_int) av_nil))))) xs_nil) (xs_one (x_ret (ev_callBS (calls_max rfl) rfl m_max boot_max (sq_ow (ow_comp (blk_mk (defScope s__law_deep) N__law_deep [] rfl rfl rfl rfl (List.forall_mem_nil _) (by decide +kernel)) rfl (it_tup (ev_slA (ev_var 0) (ov_some ev_int) ov_none)) (fun _ _ _ _ => ts_nil) (fun _ _ _ _ => (ev_call F__law_deep pwB hr rfl Df.mg Df.fn.kp Df.bd (av_cons (ev_var 0) av_nil))))))))))
noncomputable def M_law : List D → R D := fun ds => callR N_law (B_law M__law_yard M__law_cell (M__law_saying 6) M_plain M_denied M_is_saying (M__law_is_plain 6) M_deep (M__law_deep 6) M__law_whole (M__law_holds 6)) ds
abbrev s_law : Stmt := top 29
abbrev ps_law : List Str := ["_law_script"]
theorem sc_law : FnScope N_law ps_law (defScope s_law) := ⟨rfl, rfl, rfl, by decide +kernel, rfl, by decide +kernel, by decide +kernel⟩
theorem ok_law {P : Program} {w : World} {K : PySem.W.Frag} {mg : Str → Option Value} {base : Heap} {k : Nat} {a : Addr} {fd : FuncData} (Df : Def K mg "law" s_law ps_law a fd)
    {M__law_yard : List D → R D} {a__law_yard : Addr} {fd__law_yard : FuncData} (D__law_yard : Def K mg "_law_yard" s__law_yard ps__law_yard a__law_yard fd__law_yard) (F__law_yard : FnOk P w K mg base (CX1 P w) k a__law_yard fd__law_yard ps__law_yard (spF K mg ps__law_yard.length M__law_yard))
    {M__law_cell : List D → R D} {a__law_cell : Addr} {fd__law_cell : FuncData} (D__law_cell : Def K mg "_law_cell" s__law_cell ps__law_cell a__law_cell fd__law_cell) (F__law_cell : FnOk P w K mg base (CX1 P w) k a__law_cell fd__law_cell ps__law_cell (spF K mg ps__law_cell.length M__law_cell))
    {M__law_saying : List D → R D} {a__law_saying : Addr} {fd__law_saying : FuncData} (D__law_saying : Def K mg "_law_saying" s__law_saying ps__law_saying a__law_saying fd__law_saying) (F__law_saying : FnOk P w K mg base (CX1 P w) k a__law_saying fd__law_saying ps__law_saying (spF K mg ps__law_saying.length M__law_saying))
    {M_plain : List D → R D} {a_plain : Addr} {fd_plain : FuncData} (D_plain : Def K mg "plain" s_plain ps_plain a_plain fd_plain) (F_plain : FnOk P w K mg base (CX1 P w) k a_plain fd_plain ps_plain (spF K mg ps_plain.length M_plain))
    {M_denied : List D → R D} {a_denied : Addr} {fd_denied : FuncData} (D_denied : Def K mg "denied" s_denied ps_denied a_denied fd_denied) (F_denied : FnOk P w K mg base (CX1 P w) k a_denied fd_denied ps_denied (spF K mg ps_denied.length M_denied))
    {M_is_saying : List D → R D} {a_is_saying : Addr} {fd_is_saying : FuncData} (D_is_saying : Def K mg "is_saying" s_is_saying ps_is_saying a_is_saying fd_is_saying) (F_is_saying : FnOk P w K mg base (CX1 P w) k a_is_saying fd_is_saying ps_is_saying (spF K mg ps_is_saying.length M_is_saying))
    {M__law_is_plain : List D → R D} {a__law_is_plain : Addr} {fd__law_is_plain : FuncData} (D__law_is_plain : Def K mg "_law_is_plain" s__law_is_plain ps__law_is_plain a__law_is_plain fd__law_is_plain) (F__law_is_plain : FnOk P w K mg base (CX1 P w) k a__law_is_plain fd__law_is_plain ps__law_is_plain (spF K mg ps__law_is_plain.length M__law_is_plain))
    {M_deep : List D → R D} {a_deep : Addr} {fd_deep : FuncData} (D_deep : Def K mg "deep" s_deep ps_deep a_deep fd_deep) (F_deep : FnOk P w K mg base (CX1 P w) k a_deep fd_deep ps_deep (spF K mg ps_deep.length M_deep))
    {M__law_deep : List D → R D} {a__law_deep : Addr} {fd__law_deep : FuncData} (D__law_deep : Def K mg "_law_deep" s__law_deep ps__law_deep a__law_deep fd__law_deep) (F__law_deep : FnOk P w K mg base (CX1 P w) k a__law_deep fd__law_deep ps__law_deep (spF K mg ps__law_deep.length M__law_deep))
    {M__law_whole : List D → R D} {a__law_whole : Addr} {fd__law_whole : FuncData} (D__law_whole : Def K mg "_law_whole" s__law_whole ps__law_whole a__law_whole fd__law_whole) (F__law_whole : FnOk P w K mg base (CX1 P w) k a__law_whole fd__law_whole ps__law_whole (spF K mg ps__law_whole.length M__law_whole))
    {M__law_holds : List D → R D} {a__law_holds : Addr} {fd__law_holds : FuncData} (D__law_holds : Def K mg "_law_holds" s__law_holds ps__law_holds a__law_holds fd__law_holds) (F__law_holds : FnOk P w K mg base (CX1 P w) k a__law_holds fd__law_holds ps__law_holds (spF K mg ps__law_holds.length M__law_holds))
    (m_range : mg "range" = none)
    (m_len : mg "len" = none)
    : FnOk P w K mg base (CX1 P w) (k + 1) a fd ps_law (spF K mg ps_law.length fun ds => callR N_law (B_law M__law_yard M__law_cell M__law_saying M_plain M_denied M_is_saying M__law_is_plain M_deep M__law_deep M__law_whole M__law_holds) ds) :=
  fn_R1 Df.fn sc_law fun cdv A outer s H W E hr => (xs_cons (x_set 1 (ev_call F__law_yard (pw1 ⟨rfl, rfl, rfl⟩) hr rfl D__law_yard.mg D__law_yard.fn.kp D__law_yard.bd (av_cons (ev_var 0) (av_cons ev_int (av_cons (ev_op opd_mod (ev_call F__law_cell (pw1 ⟨rfl, rfl, rfl⟩) hr rfl D__law_cell.mg D__law_cell.fn.kp D__law_cell.bd (av_cons (ev_var 0) (av_cons ev_int av_nil))) ev_int) av_nil)))) sc_law.nd) (xs_cons (x_for rfl (it_list (ev_ow (ow_slL (sq_var 0) (ov_some ev_int) (ov_some ev_int)))) (tg_name 2 sc_law.nd) (xs_cons (x_set 3 (ev_call F__law_saying (pw1 ⟨rfl, rfl, rfl⟩) hr rfl D__law_saying.mg D__law_saying.fn.kp D__law_saying.bd (av_cons (ev_var 2) (av_cons ev_int av_nil))) sc_law.nd) (xs_cons (x_set 4 (ev_call F_plain (pw1 ⟨rfl, rfl, rfl⟩) hr rfl D_plain.mg D_plain.fn.kp D_plain.bd (av_cons (ev_var 3) av_nil)) sc_law.nd) (xs_cons (x_set 5 (ev_call F_denied (pw1 ⟨rfl, rfl, rfl⟩) hr rfl D_denied.mg D_denied.fn.kp D_denied.bd (av_cons (ev_var 3) av_nil)) sc_law.nd) (xs_cons (x_if (WvD.tv (wv_or (tv_cmp opd_isnotA (ev_call F_is_saying (pw1 ⟨rfl, rfl, rfl⟩) hr rfl D_is_saying.mg D_is_saying.fn.kp D_is_saying.bd (av_cons (ev_var 4) av_nil)) ev_bl) (wv_or1 (tv_cmp opd_isnotA (ev_call F_is_saying (pw1 ⟨rfl, rfl, rfl⟩) hr rfl D_is_saying.mg D_is_saying.fn.kp D_is_saying.bd (av_cons (ev_var 5) av_nil)) ev_bl)))) (xs_one (x_ret ev_bl)) xs_nil) (xs_cons (x_if (WvD.tv (wv_or (tv_not (tv_val (ev_call F__law_is_plain (pw1 ⟨rfl, rfl, rfl⟩) hr rfl D__law_is_plain.mg D__law_is_plain.fn.kp D__law_is_plain.bd (av_cons (ev_var 4) av_nil)))) (wv_or1 (tv_not (tv_val (ev_call F__law_is_plain (pw1 ⟨rfl, rfl, rfl⟩) hr rfl D__law_is_plain.mg D__law_is_plain.fn.kp D__law_is_plain.bd (av_cons (ev_var 5) av_nil))))))) (xs_one (x_ret ev_bl)) xs_nil) (xs_cons (x_if (WvD.tv (wv_or (tv_cmp (opd_neD (room_u hr)) (ev_call F_plain (pw1 ⟨rfl, rfl, rfl⟩) hr rfl D_plain.mg D_plain.fn.kp D_plain.bd (av_cons (ev_var 4) av_nil)) (ev_var 4)) (wv_or (tv_cmp (opd_neD (room_u hr)) (ev_call F_denied (pw1 ⟨rfl, rfl, rfl⟩) hr rfl D_denied.mg D_denied.fn.kp D_denied.bd (av_cons (ev_var 5) av_nil)) (ev_var 4)) (wv_or1 (tv_cmp (opd_neD (room_u hr)) (ev_call F_plain (pw1 ⟨rfl, rfl, rfl⟩) hr rfl D_plain.mg D_plain.fn.kp D_plain.bd (av_cons (ev_tup (av_cons ev_str (av_cons (ev_var 3) av_nil))) av_nil)) (ev_var 5)))))) (xs_one (x_ret ev_bl)) xs_nil) (xs_cons (x_if (WvD.tv (wv_or (tv_not (tv_val (ev_call F__law_whole (pw1 ⟨rfl, rfl, rfl⟩) hr rfl D__law_whole.mg D__law_whole.fn.kp D__law_whole.bd (av_cons (ev_call F_deep (pw1 ⟨rfl, rfl, rfl⟩) hr rfl D_deep.mg D_deep.fn.kp D_deep.bd (av_cons (ev_var 3) av_nil)) av_nil)))) (wv_or1 (tv_cmp (opd_neD (room_u hr)) (ev_call F_deep (pw1 ⟨rfl, rfl, rfl⟩) hr rfl D_deep.mg D_deep.fn.kp D_deep.bd (av_cons (ev_var 3) av_nil)) (ev_call F__law_deep (pw1 ⟨rfl, rfl, rfl⟩) hr rfl D__law_deep.mg D__law_deep.fn.kp D__law_deep.bd (av_cons (ev_var 3) av_nil)))))) (xs_one (x_ret ev_bl)) xs_nil) (xs_cons (x_if (WvD.tv (wv_or (tv_cmp (opd_neD (room_u hr)) (ev_call F_deep (pw1 ⟨rfl, rfl, rfl⟩) hr rfl D_deep.mg D_deep.fn.kp D_deep.bd (av_cons (ev_var 4) av_nil)) (ev_call F_deep (pw1 ⟨rfl, rfl, rfl⟩) hr rfl D_deep.mg D_deep.fn.kp D_deep.bd (av_cons (ev_var 3) av_nil))) (wv_or1 (tv_cmp (opd_neD (room_u hr)) (ev_call F_deep (pw1 ⟨rfl, rfl, rfl⟩) hr rfl D_deep.mg D_deep.fn.kp D_deep.bd (av_cons (ev_var 5) av_nil)) (ev_call F_deep (pw1 ⟨rfl, rfl, rfl⟩) hr rfl D_deep.mg D_deep.fn.kp D_deep.bd (av_cons (ev_var 3) av_nil)))))) (xs_one (x_ret ev_bl)) xs_nil) (xs_one (x_for rfl (it_range1 rfl m_range (av_cons (ev_callB calld_len rfl m_len PySem.boot_len (av_cons (ev_var 1) av_nil)) av_nil)) (tg_name 6 sc_law.nd) (xs_cons (x_set 7 (ev_call F__law_holds (pw1 ⟨rfl, rfl, rfl⟩) hr rfl D__law_holds.mg D__law_holds.fn.kp D__law_holds.bd (av_cons (ev_var 1) (av_cons (ev_var 6) (av_cons (ev_var 3) av_nil)))) sc_law.nd) (xs_one (x_if (WvD.tv (wv_or (tv_cmp (opd_neD (room_u hr)) (ev_call F__law_holds (pw1 ⟨rfl, rfl, rfl⟩) hr rfl D__law_holds.mg D__law_holds.fn.kp D__law_holds.bd (av_cons (ev_var 1) (av_cons (ev_var 6) (av_cons (ev_var 4) av_nil)))) (ev_var 7)) (wv_or1 (tv_cmp (opd_eqD (room_u hr)) (ev_call F__law_holds (pw1 ⟨rfl, rfl, rfl⟩) hr rfl D__law_holds.mg D__law_holds.fn.kp D__law_holds.bd (av_cons (ev_var 1) (av_cons (ev_var 6) (av_cons (ev_var 5) av_nil)))) (ev_var 7))))) (xs_one (x_ret ev_bl)) xs_nil))) (hp := po1 ⟨rfl, rfl, rfl⟩))))))))))) (hp := po1 ⟨rfl, rfl, rfl⟩)) (xs_one (x_ret ev_bl))))
theorem all_mk {l : PySem.W.OpenLaw} {w : World} {K : PySem.W.Frag} {h : Heap} {mg : Str → Option Value} {fa f__law_cell f__law_mix f__law_yard f__law_saying f_parts f_walked f_gathered f_plain_pair f_plain f_denied f__law_holds f_is_name f_is_whole f_is_below f_is_kind f_is_formed f_is_saying f__law_is_plain f__law_whole f_depth_over f_deep f__law_deep f_law p_TURNED p_WORDS  : Addr} (X : K.In h) (G : h.Ns mainGlobals mg) (hfa : mg "law" = some (.ref fa))
    {od__law_cell an__law_cell : Option Addr} {sl__law_cell : Array (Option Value)} {oc__law_cell kV__law_cell dc__law_cell pm__law_cell cd__law_cell ct__law_cell : Value}
    {od__law_mix an__law_mix : Option Addr} {sl__law_mix : Array (Option Value)} {oc__law_mix kV__law_mix dc__law_mix pm__law_mix cd__law_mix ct__law_mix : Value}
    {od__law_yard an__law_yard : Option Addr} {sl__law_yard : Array (Option Value)} {oc__law_yard kV__law_yard dc__law_yard pm__law_yard cd__law_yard ct__law_yard : Value}
    {od__law_saying an__law_saying : Option Addr} {sl__law_saying : Array (Option Value)} {oc__law_saying kV__law_saying dc__law_saying pm__law_saying cd__law_saying ct__law_saying : Value}
    {od_parts an_parts : Option Addr} {sl_parts : Array (Option Value)} {oc_parts kV_parts dc_parts pm_parts cd_parts ct_parts : Value}
    {od_walked an_walked : Option Addr} {sl_walked : Array (Option Value)} {oc_walked kV_walked dc_walked pm_walked cd_walked ct_walked : Value}
    {od_gathered an_gathered : Option Addr} {sl_gathered : Array (Option Value)} {oc_gathered kV_gathered dc_gathered pm_gathered cd_gathered ct_gathered : Value}
    {od_plain_pair an_plain_pair : Option Addr} {sl_plain_pair : Array (Option Value)} {oc_plain_pair kV_plain_pair dc_plain_pair pm_plain_pair cd_plain_pair ct_plain_pair : Value}
    {od_plain an_plain : Option Addr} {sl_plain : Array (Option Value)} {oc_plain kV_plain dc_plain pm_plain cd_plain ct_plain : Value}
    {od_denied an_denied : Option Addr} {sl_denied : Array (Option Value)} {oc_denied kV_denied dc_denied pm_denied cd_denied ct_denied : Value}
    {od__law_holds an__law_holds : Option Addr} {sl__law_holds : Array (Option Value)} {oc__law_holds kV__law_holds dc__law_holds pm__law_holds cd__law_holds ct__law_holds : Value}
    {od_is_name an_is_name : Option Addr} {sl_is_name : Array (Option Value)} {oc_is_name kV_is_name dc_is_name pm_is_name cd_is_name ct_is_name : Value}
    {od_is_whole an_is_whole : Option Addr} {sl_is_whole : Array (Option Value)} {oc_is_whole kV_is_whole dc_is_whole pm_is_whole cd_is_whole ct_is_whole : Value}
    {od_is_below an_is_below : Option Addr} {sl_is_below : Array (Option Value)} {oc_is_below kV_is_below dc_is_below pm_is_below cd_is_below ct_is_below : Value}
    {od_is_kind an_is_kind : Option Addr} {sl_is_kind : Array (Option Value)} {oc_is_kind kV_is_kind dc_is_kind pm_is_kind cd_is_kind ct_is_kind : Value}
    {od_is_formed an_is_formed : Option Addr} {sl_is_formed : Array (Option Value)} {oc_is_formed kV_is_formed dc_is_formed pm_is_formed cd_is_formed ct_is_formed : Value}
    {od_is_saying an_is_saying : Option Addr} {sl_is_saying : Array (Option Value)} {oc_is_saying kV_is_saying dc_is_saying pm_is_saying cd_is_saying ct_is_saying : Value}
    {od__law_is_plain an__law_is_plain : Option Addr} {sl__law_is_plain : Array (Option Value)} {oc__law_is_plain kV__law_is_plain dc__law_is_plain pm__law_is_plain cd__law_is_plain ct__law_is_plain : Value}
    {od__law_whole an__law_whole : Option Addr} {sl__law_whole : Array (Option Value)} {oc__law_whole kV__law_whole dc__law_whole pm__law_whole cd__law_whole ct__law_whole : Value}
    {od_depth_over an_depth_over : Option Addr} {sl_depth_over : Array (Option Value)} {oc_depth_over kV_depth_over dc_depth_over pm_depth_over cd_depth_over ct_depth_over : Value}
    {od_deep an_deep : Option Addr} {sl_deep : Array (Option Value)} {oc_deep kV_deep dc_deep pm_deep cd_deep ct_deep : Value}
    {od__law_deep an__law_deep : Option Addr} {sl__law_deep : Array (Option Value)} {oc__law_deep kV__law_deep dc__law_deep pm__law_deep cd__law_deep ct__law_deep : Value}
    {od_law an_law : Option Addr} {sl_law : Array (Option Value)} {oc_law kV_law dc_law pm_law cd_law ct_law : Value}
    {t1_TURNED u1_TURNED t2_TURNED u2_TURNED t3_TURNED u3_TURNED t4_TURNED u4_TURNED : Tok} {nc_TURNED : Nat}
    {t1_WORDS t2_WORDS t3_WORDS t4_WORDS t5_WORDS : Tok} {oc_WORDS : Option Addr} {nc_WORDS : Nat} {sc_WORDS : Array (Option Value)}
    {tc_LETTERS : Tok}
    (a__law_cell : PySem.W.nsIn K mainGlobals "_law_cell" = some (some (.ref f__law_cell))) (l__law_cell : K.lookup f__law_cell = some ⟨oc__law_cell, od__law_cell, .func (PySem.W.fnOf "_law_cell" "_law_cell" (defArgs s__law_cell) (defBody s__law_cell) (defScope s__law_cell) .none kV__law_cell dc__law_cell pm__law_cell an__law_cell cd__law_cell ct__law_cell), sl__law_cell⟩) (c__law_cell : PySem.W.codeIn K cd__law_cell "_law_cell" = true) (k__law_cell : PySem.W.keepIn K (.ref f__law_cell) = true)
    (a__law_mix : PySem.W.nsIn K mainGlobals "_law_mix" = some (some (.ref f__law_mix))) (l__law_mix : K.lookup f__law_mix = some ⟨oc__law_mix, od__law_mix, .func (PySem.W.fnOf "_law_mix" "_law_mix" (defArgs s__law_mix) (defBody s__law_mix) (defScope s__law_mix) .none kV__law_mix dc__law_mix pm__law_mix an__law_mix cd__law_mix ct__law_mix), sl__law_mix⟩) (c__law_mix : PySem.W.codeIn K cd__law_mix "_law_mix" = true) (k__law_mix : PySem.W.keepIn K (.ref f__law_mix) = true)
    (a__law_yard : PySem.W.nsIn K mainGlobals "_law_yard" = some (some (.ref f__law_yard))) (l__law_yard : K.lookup f__law_yard = some ⟨oc__law_yard, od__law_yard, .func (PySem.W.fnOf "_law_yard" "_law_yard" (defArgs s__law_yard) (defBody s__law_yard) (defScope s__law_yard) .none kV__law_yard dc__law_yard pm__law_yard an__law_yard cd__law_yard ct__law_yard), sl__law_yard⟩) (c__law_yard : PySem.W.codeIn K cd__law_yard "_law_yard" = true) (k__law_yard : PySem.W.keepIn K (.ref f__law_yard) = true)
    (a__law_saying : PySem.W.nsIn K mainGlobals "_law_saying" = some (some (.ref f__law_saying))) (l__law_saying : K.lookup f__law_saying = some ⟨oc__law_saying, od__law_saying, .func (PySem.W.fnOf "_law_saying" "_law_saying" (defArgs s__law_saying) (defBody s__law_saying) (defScope s__law_saying) .none kV__law_saying dc__law_saying pm__law_saying an__law_saying cd__law_saying ct__law_saying), sl__law_saying⟩) (c__law_saying : PySem.W.codeIn K cd__law_saying "_law_saying" = true) (k__law_saying : PySem.W.keepIn K (.ref f__law_saying) = true)
    (a_parts : PySem.W.nsIn K mainGlobals "parts" = some (some (.ref f_parts))) (l_parts : K.lookup f_parts = some ⟨oc_parts, od_parts, .func (PySem.W.fnOf "parts" "parts" (defArgs s_parts) (defBody s_parts) (defScope s_parts) .none kV_parts dc_parts pm_parts an_parts cd_parts ct_parts), sl_parts⟩) (c_parts : PySem.W.codeIn K cd_parts "parts" = true) (k_parts : PySem.W.keepIn K (.ref f_parts) = true)
    (a_walked : PySem.W.nsIn K mainGlobals "walked" = some (some (.ref f_walked))) (l_walked : K.lookup f_walked = some ⟨oc_walked, od_walked, .func (PySem.W.fnOf "walked" "walked" (defArgs s_walked) (defBody s_walked) (defScope s_walked) .none kV_walked dc_walked pm_walked an_walked cd_walked ct_walked), sl_walked⟩) (c_walked : PySem.W.codeIn K cd_walked "walked" = true) (k_walked : PySem.W.keepIn K (.ref f_walked) = true)
    (a_gathered : PySem.W.nsIn K mainGlobals "gathered" = some (some (.ref f_gathered))) (l_gathered : K.lookup f_gathered = some ⟨oc_gathered, od_gathered, .func (PySem.W.fnOf "gathered" "gathered" (defArgs s_gathered) (defBody s_gathered) (defScope s_gathered) .none kV_gathered dc_gathered pm_gathered an_gathered cd_gathered ct_gathered), sl_gathered⟩) (c_gathered : PySem.W.codeIn K cd_gathered "gathered" = true) (k_gathered : PySem.W.keepIn K (.ref f_gathered) = true)
    (a_plain_pair : PySem.W.nsIn K mainGlobals "plain_pair" = some (some (.ref f_plain_pair))) (l_plain_pair : K.lookup f_plain_pair = some ⟨oc_plain_pair, od_plain_pair, .func (PySem.W.fnOf "plain_pair" "plain_pair" (defArgs s_plain_pair) (defBody s_plain_pair) (defScope s_plain_pair) .none kV_plain_pair dc_plain_pair pm_plain_pair an_plain_pair cd_plain_pair ct_plain_pair), sl_plain_pair⟩) (c_plain_pair : PySem.W.codeIn K cd_plain_pair "plain_pair" = true) (k_plain_pair : PySem.W.keepIn K (.ref f_plain_pair) = true)
    (a_plain : PySem.W.nsIn K mainGlobals "plain" = some (some (.ref f_plain))) (l_plain : K.lookup f_plain = some ⟨oc_plain, od_plain, .func (PySem.W.fnOf "plain" "plain" (defArgs s_plain) (defBody s_plain) (defScope s_plain) .none kV_plain dc_plain pm_plain an_plain cd_plain ct_plain), sl_plain⟩) (c_plain : PySem.W.codeIn K cd_plain "plain" = true) (k_plain : PySem.W.keepIn K (.ref f_plain) = true)
    (a_denied : PySem.W.nsIn K mainGlobals "denied" = some (some (.ref f_denied))) (l_denied : K.lookup f_denied = some ⟨oc_denied, od_denied, .func (PySem.W.fnOf "denied" "denied" (defArgs s_denied) (defBody s_denied) (defScope s_denied) .none kV_denied dc_denied pm_denied an_denied cd_denied ct_denied), sl_denied⟩) (c_denied : PySem.W.codeIn K cd_denied "denied" = true) (k_denied : PySem.W.keepIn K (.ref f_denied) = true)
    (a__law_holds : PySem.W.nsIn K mainGlobals "_law_holds" = some (some (.ref f__law_holds))) (l__law_holds : K.lookup f__law_holds = some ⟨oc__law_holds, od__law_holds, .func (PySem.W.fnOf "_law_holds" "_law_holds" (defArgs s__law_holds) (defBody s__law_holds) (defScope s__law_holds) .none kV__law_holds dc__law_holds pm__law_holds an__law_holds cd__law_holds ct__law_holds), sl__law_holds⟩) (c__law_holds : PySem.W.codeIn K cd__law_holds "_law_holds" = true) (k__law_holds : PySem.W.keepIn K (.ref f__law_holds) = true)
    (a_is_name : PySem.W.nsIn K mainGlobals "is_name" = some (some (.ref f_is_name))) (l_is_name : K.lookup f_is_name = some ⟨oc_is_name, od_is_name, .func (PySem.W.fnOf "is_name" "is_name" (defArgs s_is_name) (defBody s_is_name) (defScope s_is_name) .none kV_is_name dc_is_name pm_is_name an_is_name cd_is_name ct_is_name), sl_is_name⟩) (c_is_name : PySem.W.codeIn K cd_is_name "is_name" = true) (k_is_name : PySem.W.keepIn K (.ref f_is_name) = true)
    (a_is_whole : PySem.W.nsIn K mainGlobals "is_whole" = some (some (.ref f_is_whole))) (l_is_whole : K.lookup f_is_whole = some ⟨oc_is_whole, od_is_whole, .func (PySem.W.fnOf "is_whole" "is_whole" (defArgs s_is_whole) (defBody s_is_whole) (defScope s_is_whole) .none kV_is_whole dc_is_whole pm_is_whole an_is_whole cd_is_whole ct_is_whole), sl_is_whole⟩) (c_is_whole : PySem.W.codeIn K cd_is_whole "is_whole" = true) (k_is_whole : PySem.W.keepIn K (.ref f_is_whole) = true)
    (a_is_below : PySem.W.nsIn K mainGlobals "is_below" = some (some (.ref f_is_below))) (l_is_below : K.lookup f_is_below = some ⟨oc_is_below, od_is_below, .func (PySem.W.fnOf "is_below" "is_below" (defArgs s_is_below) (defBody s_is_below) (defScope s_is_below) .none kV_is_below dc_is_below pm_is_below an_is_below cd_is_below ct_is_below), sl_is_below⟩) (c_is_below : PySem.W.codeIn K cd_is_below "is_below" = true) (k_is_below : PySem.W.keepIn K (.ref f_is_below) = true)
    (a_is_kind : PySem.W.nsIn K mainGlobals "is_kind" = some (some (.ref f_is_kind))) (l_is_kind : K.lookup f_is_kind = some ⟨oc_is_kind, od_is_kind, .func (PySem.W.fnOf "is_kind" "is_kind" (defArgs s_is_kind) (defBody s_is_kind) (defScope s_is_kind) .none kV_is_kind dc_is_kind pm_is_kind an_is_kind cd_is_kind ct_is_kind), sl_is_kind⟩) (c_is_kind : PySem.W.codeIn K cd_is_kind "is_kind" = true) (k_is_kind : PySem.W.keepIn K (.ref f_is_kind) = true)
    (a_is_formed : PySem.W.nsIn K mainGlobals "is_formed" = some (some (.ref f_is_formed))) (l_is_formed : K.lookup f_is_formed = some ⟨oc_is_formed, od_is_formed, .func (PySem.W.fnOf "is_formed" "is_formed" (defArgs s_is_formed) (defBody s_is_formed) (defScope s_is_formed) .none kV_is_formed dc_is_formed pm_is_formed an_is_formed cd_is_formed ct_is_formed), sl_is_formed⟩) (c_is_formed : PySem.W.codeIn K cd_is_formed "is_formed" = true) (k_is_formed : PySem.W.keepIn K (.ref f_is_formed) = true)
    (a_is_saying : PySem.W.nsIn K mainGlobals "is_saying" = some (some (.ref f_is_saying))) (l_is_saying : K.lookup f_is_saying = some ⟨oc_is_saying, od_is_saying, .func (PySem.W.fnOf "is_saying" "is_saying" (defArgs s_is_saying) (defBody s_is_saying) (defScope s_is_saying) .none kV_is_saying dc_is_saying pm_is_saying an_is_saying cd_is_saying ct_is_saying), sl_is_saying⟩) (c_is_saying : PySem.W.codeIn K cd_is_saying "is_saying" = true) (k_is_saying : PySem.W.keepIn K (.ref f_is_saying) = true)
    (a__law_is_plain : PySem.W.nsIn K mainGlobals "_law_is_plain" = some (some (.ref f__law_is_plain))) (l__law_is_plain : K.lookup f__law_is_plain = some ⟨oc__law_is_plain, od__law_is_plain, .func (PySem.W.fnOf "_law_is_plain" "_law_is_plain" (defArgs s__law_is_plain) (defBody s__law_is_plain) (defScope s__law_is_plain) .none kV__law_is_plain dc__law_is_plain pm__law_is_plain an__law_is_plain cd__law_is_plain ct__law_is_plain), sl__law_is_plain⟩) (c__law_is_plain : PySem.W.codeIn K cd__law_is_plain "_law_is_plain" = true) (k__law_is_plain : PySem.W.keepIn K (.ref f__law_is_plain) = true)
    (a__law_whole : PySem.W.nsIn K mainGlobals "_law_whole" = some (some (.ref f__law_whole))) (l__law_whole : K.lookup f__law_whole = some ⟨oc__law_whole, od__law_whole, .func (PySem.W.fnOf "_law_whole" "_law_whole" (defArgs s__law_whole) (defBody s__law_whole) (defScope s__law_whole) .none kV__law_whole dc__law_whole pm__law_whole an__law_whole cd__law_whole ct__law_whole), sl__law_whole⟩) (c__law_whole : PySem.W.codeIn K cd__law_whole "_law_whole" = true) (k__law_whole : PySem.W.keepIn K (.ref f__law_whole) = true)
    (a_depth_over : PySem.W.nsIn K mainGlobals "depth_over" = some (some (.ref f_depth_over))) (l_depth_over : K.lookup f_depth_over = some ⟨oc_depth_over, od_depth_over, .func (PySem.W.fnOf "depth_over" "depth_over" (defArgs s_depth_over) (defBody s_depth_over) (defScope s_depth_over) .none kV_depth_over dc_depth_over pm_depth_over an_depth_over cd_depth_over ct_depth_over), sl_depth_over⟩) (c_depth_over : PySem.W.codeIn K cd_depth_over "depth_over" = true) (k_depth_over : PySem.W.keepIn K (.ref f_depth_over) = true)
    (a_deep : PySem.W.nsIn K mainGlobals "deep" = some (some (.ref f_deep))) (l_deep : K.lookup f_deep = some ⟨oc_deep, od_deep, .func (PySem.W.fnOf "deep" "deep" (defArgs s_deep) (defBody s_deep) (defScope s_deep) .none kV_deep dc_deep pm_deep an_deep cd_deep ct_deep), sl_deep⟩) (c_deep : PySem.W.codeIn K cd_deep "deep" = true) (k_deep : PySem.W.keepIn K (.ref f_deep) = true)
    (a__law_deep : PySem.W.nsIn K mainGlobals "_law_deep" = some (some (.ref f__law_deep))) (l__law_deep : K.lookup f__law_deep = some ⟨oc__law_deep, od__law_deep, .func (PySem.W.fnOf "_law_deep" "_law_deep" (defArgs s__law_deep) (defBody s__law_deep) (defScope s__law_deep) .none kV__law_deep dc__law_deep pm__law_deep an__law_deep cd__law_deep ct__law_deep), sl__law_deep⟩) (c__law_deep : PySem.W.codeIn K cd__law_deep "_law_deep" = true) (k__law_deep : PySem.W.keepIn K (.ref f__law_deep) = true)
    (a_law : PySem.W.nsIn K mainGlobals "law" = some (some (.ref f_law))) (l_law : K.lookup f_law = some ⟨oc_law, od_law, .func (PySem.W.fnOf "law" "law" (defArgs s_law) (defBody s_law) (defScope s_law) .none kV_law dc_law pm_law an_law cd_law ct_law), sl_law⟩) (c_law : PySem.W.codeIn K cd_law "law" = true) (k_law : PySem.W.keepIn K (.ref f_law) = true)
    (a_TURNED : PySem.W.nsIn K mainGlobals "TURNED" = some (some (.ref p_TURNED))) (l_TURNED : K.lookup p_TURNED = some ⟨.type "dict", none, .dict #[⟨hashStr w "and", .str "and" t1_TURNED, .str "or" u1_TURNED⟩, ⟨hashStr w "or", .str "or" t2_TURNED, .str "and" u2_TURNED⟩, ⟨hashStr w "all", .str "all" t3_TURNED, .str "some" u3_TURNED⟩, ⟨hashStr w "some", .str "some" t4_TURNED, .str "all" u4_TURNED⟩] nc_TURNED, #[]⟩)
    (a_WORDS : PySem.W.nsIn K mainGlobals "WORDS" = some (some (.ref p_WORDS))) (l_WORDS : K.lookup p_WORDS = some ⟨.type "tuple", oc_WORDS, .seq #[.str "not" t1_WORDS, .str "and" t2_WORDS, .str "or" t3_WORDS, .str "all" t4_WORDS, .str "some" t5_WORDS] nc_WORDS, sc_WORDS⟩)
    (a_LETTERS : PySem.W.nsIn K mainGlobals "LETTERS" = some (some (.str "abcdefghijklmnopqrstuvwxyz" tc_LETTERS)))
    (z_len : PySem.W.nsIn K mainGlobals "len" = some none)
    (z_range : PySem.W.nsIn K mainGlobals "range" = some none)
    (z_enumerate : PySem.W.nsIn K mainGlobals "enumerate" = some none)
    (z_tuple : PySem.W.nsIn K mainGlobals "tuple" = some none)
    (z_reversed : PySem.W.nsIn K mainGlobals "reversed" = some none)
    (z_isinstance : PySem.W.nsIn K mainGlobals "isinstance" = some none)
    (z_str : PySem.W.nsIn K mainGlobals "str" = some none)
    (z_all : PySem.W.nsIn K mainGlobals "all" = some none)
    (z_bool : PySem.W.nsIn K mainGlobals "bool" = some none)
    (z_int : PySem.W.nsIn K mainGlobals "int" = some none)
    (z_max : PySem.W.nsIn K mainGlobals "max" = some none)
    : ∃ fd : FuncData, (∀ (s : Shared) (v : Value), BindsTo s fd ⟨[v], []⟩ [("_law_script", v)]) ∧ ∀ base : Heap, K.In base → base.Ns mainGlobals mg → FnOk l.prog w K mg base (CX1 l.prog w) 8 fa fd ["_law_script"] (spL K M_law) := by
  have e := hfa.symm.trans (PySem.W.mg_of X G a_law)
  cases e
  have m_len := PySem.W.mg_none_of X G z_len
  have m_range := PySem.W.mg_none_of X G z_range
  have m_enumerate := PySem.W.mg_none_of X G z_enumerate
  have m_tuple := PySem.W.mg_none_of X G z_tuple
  have m_reversed := PySem.W.mg_none_of X G z_reversed
  have m_isinstance := PySem.W.mg_none_of X G z_isinstance
  have m_str := PySem.W.mg_none_of X G z_str
  have m_all := PySem.W.mg_none_of X G z_all
  have m_bool := PySem.W.mg_none_of X G z_bool
  have m_int := PySem.W.mg_none_of X G z_int
  have m_max := PySem.W.mg_none_of X G z_max
  obtain ⟨fd__law_cell, D__law_cell⟩ := def_mk (st := s__law_cell) (ps := ps__law_cell) X G a__law_cell l__law_cell c__law_cell k__law_cell fun _ _ _ _ _ _ us hl => match us, hl with | [_, _], _ => rfl
  obtain ⟨fd__law_mix, D__law_mix⟩ := def_mk (st := s__law_mix) (ps := ps__law_mix) X G a__law_mix l__law_mix c__law_mix k__law_mix fun _ _ _ _ _ _ us hl => match us, hl with | [_, _, _], _ => rfl
  obtain ⟨fd__law_yard, D__law_yard⟩ := def_mk (st := s__law_yard) (ps := ps__law_yard) X G a__law_yard l__law_yard c__law_yard k__law_yard fun _ _ _ _ _ _ us hl => match us, hl with | [_, _, _], _ => rfl
  obtain ⟨fd__law_saying, D__law_saying⟩ := def_mk (st := s__law_saying) (ps := ps__law_saying) X G a__law_saying l__law_saying c__law_saying k__law_saying fun _ _ _ _ _ _ us hl => match us, hl with | [_, _], _ => rfl
  obtain ⟨fd_parts, D_parts⟩ := def_mk (st := s_parts) (ps := ps_parts) X G a_parts l_parts c_parts k_parts fun _ _ _ _ _ _ us hl => match us, hl with | [_], _ => rfl
  obtain ⟨fd_walked, D_walked⟩ := def_mk (st := s_walked) (ps := ps_walked) X G a_walked l_walked c_walked k_walked fun _ _ _ _ _ _ us hl => match us, hl with | [_], _ => rfl
  obtain ⟨fd_gathered, D_gathered⟩ := def_mk (st := s_gathered) (ps := ps_gathered) X G a_gathered l_gathered c_gathered k_gathered fun _ _ _ _ _ _ us hl => match us, hl with | [_, _], _ => rfl
  obtain ⟨fd_plain_pair, D_plain_pair⟩ := def_mk (st := s_plain_pair) (ps := ps_plain_pair) X G a_plain_pair l_plain_pair c_plain_pair k_plain_pair fun _ _ _ _ _ _ us hl => match us, hl with | [_, _], _ => rfl
  obtain ⟨fd_plain, D_plain⟩ := def_mk (st := s_plain) (ps := ps_plain) X G a_plain l_plain c_plain k_plain fun _ _ _ _ _ _ us hl => match us, hl with | [_], _ => rfl
  obtain ⟨fd_denied, D_denied⟩ := def_mk (st := s_denied) (ps := ps_denied) X G a_denied l_denied c_denied k_denied fun _ _ _ _ _ _ us hl => match us, hl with | [_], _ => rfl
  obtain ⟨fd__law_holds, D__law_holds⟩ := def_mk (st := s__law_holds) (ps := ps__law_holds) X G a__law_holds l__law_holds c__law_holds k__law_holds fun _ _ _ _ _ _ us hl => match us, hl with | [_, _, _], _ => rfl
  obtain ⟨fd_is_name, D_is_name⟩ := def_mk (st := s_is_name) (ps := ps_is_name) X G a_is_name l_is_name c_is_name k_is_name fun _ _ _ _ _ _ us hl => match us, hl with | [_], _ => rfl
  obtain ⟨fd_is_whole, D_is_whole⟩ := def_mk (st := s_is_whole) (ps := ps_is_whole) X G a_is_whole l_is_whole c_is_whole k_is_whole fun _ _ _ _ _ _ us hl => match us, hl with | [_], _ => rfl
  obtain ⟨fd_is_below, D_is_below⟩ := def_mk (st := s_is_below) (ps := ps_is_below) X G a_is_below l_is_below c_is_below k_is_below fun _ _ _ _ _ _ us hl => match us, hl with | [_, _], _ => rfl
  obtain ⟨fd_is_kind, D_is_kind⟩ := def_mk (st := s_is_kind) (ps := ps_is_kind) X G a_is_kind l_is_kind c_is_kind k_is_kind fun _ _ _ _ _ _ us hl => match us, hl with | [_], _ => rfl
  obtain ⟨fd_is_formed, D_is_formed⟩ := def_mk (st := s_is_formed) (ps := ps_is_formed) X G a_is_formed l_is_formed c_is_formed k_is_formed fun _ _ _ _ _ _ us hl => match us, hl with | [_], _ => rfl
  obtain ⟨fd_is_saying, D_is_saying⟩ := def_mk (st := s_is_saying) (ps := ps_is_saying) X G a_is_saying l_is_saying c_is_saying k_is_saying fun _ _ _ _ _ _ us hl => match us, hl with | [_], _ => rfl
  obtain ⟨fd__law_is_plain, D__law_is_plain⟩ := def_mk (st := s__law_is_plain) (ps := ps__law_is_plain) X G a__law_is_plain l__law_is_plain c__law_is_plain k__law_is_plain fun _ _ _ _ _ _ us hl => match us, hl with | [_], _ => rfl
  obtain ⟨fd__law_whole, D__law_whole⟩ := def_mk (st := s__law_whole) (ps := ps__law_whole) X G a__law_whole l__law_whole c__law_whole k__law_whole fun _ _ _ _ _ _ us hl => match us, hl with | [_], _ => rfl
  obtain ⟨fd_depth_over, D_depth_over⟩ := def_mk (st := s_depth_over) (ps := ps_depth_over) X G a_depth_over l_depth_over c_depth_over k_depth_over fun _ _ _ _ _ _ us hl => match us, hl with | [_, _], _ => rfl
  obtain ⟨fd_deep, D_deep⟩ := def_mk (st := s_deep) (ps := ps_deep) X G a_deep l_deep c_deep k_deep fun _ _ _ _ _ _ us hl => match us, hl with | [_], _ => rfl
  obtain ⟨fd__law_deep, D__law_deep⟩ := def_mk (st := s__law_deep) (ps := ps__law_deep) X G a__law_deep l__law_deep c__law_deep k__law_deep fun _ _ _ _ _ _ us hl => match us, hl with | [_], _ => rfl
  have D_law : Def K mg "law" s_law ps_law fa (PySem.W.fnOf "law" "law" (defArgs s_law) (defBody s_law) (defScope s_law) .none kV_law dc_law pm_law an_law cd_law ct_law) := ⟨fun_mk l_law c_law k_law, (fun_mk (st := s_law) l_law c_law k_law).binds fun _ _ _ _ _ _ us hl => match us, hl with | [_], _ => rfl, PySem.W.mg_of X G a_law⟩
  have g_TURNED : GlobD w K mg "TURNED" d_TURNED := globD X G a_TURNED l_TURNED (.cons ⟨_, _, rfl⟩ (.cons ⟨_, _, rfl⟩ (.cons ⟨_, _, rfl⟩ (.cons ⟨_, _, rfl⟩ (.nil)))))
  have g_WORDS : GlobC K mg "WORDS" c_WORDS := globT (vs := [.str "not", .str "and", .str "or", .str "all", .str "some"]) X G a_WORDS l_WORDS (by show 5 ≤ sizeLine; decide) (.cons ⟨_, rfl⟩ (.cons ⟨_, rfl⟩ (.cons ⟨_, rfl⟩ (.cons ⟨_, rfl⟩ (.cons ⟨_, rfl⟩ (.nil)))))) (denL_cons.mpr ⟨_, _, rfl, den_str, denL_cons.mpr ⟨_, _, rfl, den_str, denL_cons.mpr ⟨_, _, rfl, den_str, denL_cons.mpr ⟨_, _, rfl, den_str, denL_cons.mpr ⟨_, _, rfl, den_str, denL_nil.mpr rfl⟩⟩⟩⟩⟩)
  have g_LETTERS : GlobC K mg "LETTERS" c_LETTERS := globS X G a_LETTERS
  refine ⟨PySem.W.fnOf "law" "law" (defArgs s_law) (defBody s_law) (defScope s_law) .none kV_law dc_law pm_law an_law cd_law ct_law, fun s v => .of_eq rfl, fun base KB _ => ?_⟩
  have F__law_cell := ok__law_cell (P := l.prog) (w := w) (base := base) (k := 0) D__law_cell m_len
  have F__law_mix := ok__law_mix (P := l.prog) (w := w) (base := base) (k := 0) D__law_mix 
  have F__law_yard := ok__law_yard (P := l.prog) (w := w) (base := base) (k := 1) D__law_yard D__law_cell (F__law_cell.mono (by omega)) D__law_mix (F__law_mix.mono (by omega)) m_range m_enumerate m_tuple
  have R__law_saying : ∀ n, FnOk l.prog w K mg base (CX1 l.prog w) (1 + n) f__law_saying fd__law_saying ps__law_saying (spF K mg ps__law_saying.length (M__law_saying n)) := fun n => by
    induction n with
    | zero => exact fn_none
    | succ n IH => exact ok__law_saying (k := 1 + n) D__law_saying D__law_mix (F__law_mix.mono (by omega)) IH 
  have F__law_saying := R__law_saying 6
  have F_parts := ok_parts (P := l.prog) (w := w) (base := base) (k := 0) D_parts 
  have F_walked := ok_walked (P := l.prog) (w := w) (base := base) (k := 1) D_walked D_parts (F_parts.mono (by omega)) m_len
  have F_plain_pair := ok_plain_pair (P := l.prog) (w := w) (base := base) (k := 0) D_plain_pair g_TURNED
  have F_gathered_plain_pair : FnOk l.prog w K mg base (CX1 l.prog w) 3 f_gathered fd_gathered ps_gathered (spN K ps_gathered.length 1 f_plain_pair M_gathered_plain_pair) := (ok_gathered (P := l.prog) (w := w) (base := base) (k := 2) D_gathered D_walked (F_walked.mono (by omega)) D_parts (F_parts.mono (by omega)) (F_plain_pair.mono (by omega)) ⟨_, _, _, _, KB _ _ l_plain_pair⟩ D_plain_pair.bd rfl m_reversed).imp fun vs H Q E h => spN_par0 (F := fun a ds => callN N_gathered 1 (B_gathered a M_plain_pair M_walked M_parts) a ds) h
  have F_plain := ok_plain (P := l.prog) (w := w) (base := base) (k := 3) D_plain D_gathered D_plain_pair (F_gathered_plain_pair.mono (by omega)) 
  have F_denied := ok_denied (P := l.prog) (w := w) (base := base) (k := 3) D_denied D_gathered D_plain_pair (F_gathered_plain_pair.mono (by omega)) 
  have R__law_holds : ∀ n, FnOk l.prog w K mg base (CX1 l.prog w) (0 + n) f__law_holds fd__law_holds ps__law_holds (spF K mg ps__law_holds.length (M__law_holds n)) := fun n => by
    induction n with
    | zero => exact fn_none
    | succ n IH => exact ok__law_holds (k := 0 + n) D__law_holds IH 
  have F__law_holds := R__law_holds 6
  have F_is_name := ok_is_name (P := l.prog) (w := w) (base := base) (k := 0) D_is_name m_isinstance m_str m_all m_len g_WORDS g_LETTERS
  have F_is_whole := ok_is_whole (P := l.prog) (w := w) (base := base) (k := 0) D_is_whole m_isinstance m_bool m_int
  have F_is_below := ok_is_below (P := l.prog) (w := w) (base := base) (k := 1) D_is_below D_is_whole (F_is_whole.mono (by omega)) 
  have F_is_kind := ok_is_kind (P := l.prog) (w := w) (base := base) (k := 2) D_is_kind D_is_below (F_is_below.mono (by omega)) 
  have F_is_formed := ok_is_formed (P := l.prog) (w := w) (base := base) (k := 3) D_is_formed D_is_name (F_is_name.mono (by omega)) D_is_kind (F_is_kind.mono (by omega)) m_len m_isinstance m_tuple
  have F_is_saying := ok_is_saying (P := l.prog) (w := w) (base := base) (k := 4) D_is_saying D_is_formed (F_is_formed.mono (by omega)) D_parts (F_parts.mono (by omega)) m_len
  have R__law_is_plain : ∀ n, FnOk l.prog w K mg base (CX1 l.prog w) (0 + n) f__law_is_plain fd__law_is_plain ps__law_is_plain (spF K mg ps__law_is_plain.length (M__law_is_plain n)) := fun n => by
    induction n with
    | zero => exact fn_none
    | succ n IH => exact ok__law_is_plain (k := 0 + n) D__law_is_plain IH 
  have F__law_is_plain := R__law_is_plain 6
  have F__law_whole := ok__law_whole (P := l.prog) (w := w) (base := base) (k := 0) D__law_whole m_isinstance m_bool m_int
  have F_depth_over := ok_depth_over (P := l.prog) (w := w) (base := base) (k := 0) D_depth_over m_max
  have F_gathered_depth_over : FnOk l.prog w K mg base (CX1 l.prog w) 3 f_gathered fd_gathered ps_gathered (spN K ps_gathered.length 1 f_depth_over M_gathered_depth_over) := (ok_gathered (P := l.prog) (w := w) (base := base) (k := 2) D_gathered D_walked (F_walked.mono (by omega)) D_parts (F_parts.mono (by omega)) (F_depth_over.mono (by omega)) ⟨_, _, _, _, KB _ _ l_depth_over⟩ D_depth_over.bd rfl m_reversed).imp fun vs H Q E h => spN_par0 (F := fun a ds => callN N_gathered 1 (B_gathered a M_depth_over M_walked M_parts) a ds) h
  have F_deep := ok_deep (P := l.prog) (w := w) (base := base) (k := 3) D_deep D_gathered D_depth_over (F_gathered_depth_over.mono (by omega)) 
  have R__law_deep : ∀ n, FnOk l.prog w K mg base (CX1 l.prog w) (0 + n) f__law_deep fd__law_deep ps__law_deep (spF K mg ps__law_deep.length (M__law_deep n)) := fun n => by
    induction n with
    | zero => exact fn_none
    | succ n IH => exact ok__law_deep (k := 0 + n) D__law_deep IH m_max
  have F__law_deep := R__law_deep 6
  have F_law := ok_law (P := l.prog) (w := w) (base := base) (k := 7) D_law D__law_yard (F__law_yard.mono (by omega)) D__law_cell (F__law_cell.mono (by omega)) D__law_saying (F__law_saying.mono (by omega)) D_plain (F_plain.mono (by omega)) D_denied (F_denied.mono (by omega)) D_is_saying (F_is_saying.mono (by omega)) D__law_is_plain (F__law_is_plain.mono (by omega)) D_deep (F_deep.mono (by omega)) D__law_deep (F__law_deep.mono (by omega)) D__law_whole (F__law_whole.mono (by omega)) D__law_holds (F__law_holds.mono (by omega)) m_range m_len
  exact FnOk.toL F_law
end K06

namespace K06
open PySem PySem.Spec PyProof.Rows L2 Wy Wl Lw Pg L06
theorem small {s : Say} (ho : okS s = true) (hd : depS s ≤ 5) : sizeS s ≤ 100000 := by
  have h0 := size_txt s
  have h1 := txt_len s ho
  have h2 : 2 ^ depS s ≤ 2 ^ 5 := Nat.pow_le_pow_right (by decide) hd
  omega
theorem spec : L06.Spec M_plain M_denied M_is_saying M_deep where
  plain := fun s ho hd => m_plain s (small ho hd)
  denied := fun s ho hd => m_denied s (small ho hd)
  saying := fun s ho hd => m_saying (okS_okG s ho) (small ho hd)
  deep := fun s ho hd => m_deep s (small ho hd)
theorem law_true (ns : List Int) (hn : ns.length ≤ 63) : M_law [.lst (ns.map D.int)] = .ok (.bl true) := L06.law_ok spec ns hn
end K06

open PySem PySem.W PyProof.Rows
set_option maxRecDepth 100000 in
set_option maxHeartbeats 0 in
theorem PySem.Challenge.cw_worldyard_k06_whole_plain_forms_holds : PySem.Challenge.rw_worldyard_k06_whole_plain_forms.Holds := by
  w_on; o_law; k_head; (case hw => w_witness2)
  k_fill
  refine Wy.walk (l := PySem.Challenge.rw_worldyard_k06_whole_plain_forms) (CX := fun w => Wy.CX1 PySem.Challenge.rw_worldyard_k06_whole_plain_forms.prog w) (k := 8) (x := "_law_script") (F := K06.M_law) rfl rfl ⟨rfl, by decide, by decide⟩ (fun w h Y => PySem.W.kIn_of Y) K06.law_true ?F (fun _ _ _ _ _ z => Wy.cx1_E0 z)
  case F =>
    intro w mg fa h KX G hmg
    refine' K06.all_mk KX G hmg ?a__law_cell ?l__law_cell ?c__law_cell ?k__law_cell ?a__law_mix ?l__law_mix ?c__law_mix ?k__law_mix ?a__law_yard ?l__law_yard ?c__law_yard ?k__law_yard ?a__law_saying ?l__law_saying ?c__law_saying ?k__law_saying ?a_parts ?l_parts ?c_parts ?k_parts ?a_walked ?l_walked ?c_walked ?k_walked ?a_gathered ?l_gathered ?c_gathered ?k_gathered ?a_plain_pair ?l_plain_pair ?c_plain_pair ?k_plain_pair ?a_plain ?l_plain ?c_plain ?k_plain ?a_denied ?l_denied ?c_denied ?k_denied ?a__law_holds ?l__law_holds ?c__law_holds ?k__law_holds ?a_is_name ?l_is_name ?c_is_name ?k_is_name ?a_is_whole ?l_is_whole ?c_is_whole ?k_is_whole ?a_is_below ?l_is_below ?c_is_below ?k_is_below ?a_is_kind ?l_is_kind ?c_is_kind ?k_is_kind ?a_is_formed ?l_is_formed ?c_is_formed ?k_is_formed ?a_is_saying ?l_is_saying ?c_is_saying ?k_is_saying ?a__law_is_plain ?l__law_is_plain ?c__law_is_plain ?k__law_is_plain ?a__law_whole ?l__law_whole ?c__law_whole ?k__law_whole ?a_depth_over ?l_depth_over ?c_depth_over ?k_depth_over ?a_deep ?l_deep ?c_deep ?k_deep ?a__law_deep ?l__law_deep ?c__law_deep ?k__law_deep ?a_law ?l_law ?c_law ?k_law ?a_TURNED ?l_TURNED ?a_WORDS ?l_WORDS ?a_LETTERS ?z_len ?z_range ?z_enumerate ?z_tuple ?z_reversed ?z_isinstance ?z_str ?z_all ?z_bool ?z_int ?z_max
    (case a__law_cell => k_is)
    (case l__law_cell => k_is)
    (case c__law_cell => k_is)
    (case k__law_cell => k_is)
    (case a__law_mix => k_is)
    (case l__law_mix => k_is)
    (case c__law_mix => k_is)
    (case k__law_mix => k_is)
    (case a__law_yard => k_is)
    (case l__law_yard => k_is)
    (case c__law_yard => k_is)
    (case k__law_yard => k_is)
    (case a__law_saying => k_is)
    (case l__law_saying => k_is)
    (case c__law_saying => k_is)
    (case k__law_saying => k_is)
    (case a_parts => k_is)
    (case l_parts => k_is)
    (case c_parts => k_is)
    (case k_parts => k_is)
    (case a_walked => k_is)
    (case l_walked => k_is)
    (case c_walked => k_is)
    (case k_walked => k_is)
    (case a_gathered => k_is)
    (case l_gathered => k_is)
    (case c_gathered => k_is)
    (case k_gathered => k_is)
    (case a_plain_pair => k_is)
    (case l_plain_pair => k_is)
    (case c_plain_pair => k_is)
    (case k_plain_pair => k_is)
    (case a_plain => k_is)
    (case l_plain => k_is)
    (case c_plain => k_is)
    (case k_plain => k_is)
    (case a_denied => k_is)
    (case l_denied => k_is)
    (case c_denied => k_is)
    (case k_denied => k_is)
    (case a__law_holds => k_is)
    (case l__law_holds => k_is)
    (case c__law_holds => k_is)
    (case k__law_holds => k_is)
    (case a_is_name => k_is)
    (case l_is_name => k_is)
    (case c_is_name => k_is)
    (case k_is_name => k_is)
    (case a_is_whole => k_is)
    (case l_is_whole => k_is)
    (case c_is_whole => k_is)
    (case k_is_whole => k_is)
    (case a_is_below => k_is)
    (case l_is_below => k_is)
    (case c_is_below => k_is)
    (case k_is_below => k_is)
    (case a_is_kind => k_is)
    (case l_is_kind => k_is)
    (case c_is_kind => k_is)
    (case k_is_kind => k_is)
    (case a_is_formed => k_is)
    (case l_is_formed => k_is)
    (case c_is_formed => k_is)
    (case k_is_formed => k_is)
    (case a_is_saying => k_is)
    (case l_is_saying => k_is)
    (case c_is_saying => k_is)
    (case k_is_saying => k_is)
    (case a__law_is_plain => k_is)
    (case l__law_is_plain => k_is)
    (case c__law_is_plain => k_is)
    (case k__law_is_plain => k_is)
    (case a__law_whole => k_is)
    (case l__law_whole => k_is)
    (case c__law_whole => k_is)
    (case k__law_whole => k_is)
    (case a_depth_over => k_is)
    (case l_depth_over => k_is)
    (case c_depth_over => k_is)
    (case k_depth_over => k_is)
    (case a_deep => k_is)
    (case l_deep => k_is)
    (case c_deep => k_is)
    (case k_deep => k_is)
    (case a__law_deep => k_is)
    (case l__law_deep => k_is)
    (case c__law_deep => k_is)
    (case k__law_deep => k_is)
    (case a_law => k_is)
    (case l_law => k_is)
    (case c_law => k_is)
    (case k_law => k_is)
    (case a_TURNED => k_is)
    (case l_TURNED => k_is)
    (case a_WORDS => k_is)
    (case l_WORDS => k_is)
    (case a_LETTERS => k_is)
    (case z_len => k_is)
    (case z_range => k_is)
    (case z_enumerate => k_is)
    (case z_tuple => k_is)
    (case z_reversed => k_is)
    (case z_isinstance => k_is)
    (case z_str => k_is)
    (case z_all => k_is)
    (case z_bool => k_is)
    (case z_int => k_is)
    (case z_max => k_is)

